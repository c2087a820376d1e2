/-
  WaitersOwn: the walk.
-/
import Derived.Test.YtnbifmfocdejpaaVAwake
import Derived.BigQuiet
namespace Go.Proofs.Ytnbifmfocdejpaa
open Go.RowKit
set_option linter.unusedVariables false

theorem below_drewO {B : Nat} {a w : World} (h : Below B a w) (n : Nat) : Below B a (w.drewN n) := ⟨h.os, h.tape, h.output, h.size, h.block⟩
def eqW (a x : Wt) : Bool := x.p == a.p && (x.r == a.r && x.v == a.v)
/-- How many are just this one. -/
def cntW (L : List Wt) (a : Wt) : Nat := L.countP (eqW a)
theorem cnt_add (l : List Wt) (a : Wt) (q : Bool) : cntW (addP l a q) a = cntW l a + 1 := by
  have h : eqW a a = true := by simp [eqW]
  have h2 : cntW l a = cntW (l.take (putP l a q)) a + cntW (l.drop (putP l a q)) a := by
    unfold cntW; rw [← List.countP_append, List.take_append_drop]
  rw [h2]
  unfold cntW addP
  rw [List.countP_append, List.countP_append, List.countP_cons, h]
  simp
  omega
theorem cnt_next (L : List Wt) (a : Wt) (i : Nat) (hi : i < L.length) : cntW (L.take (i + 1)) a = cntW (L.take i) a + (if eqW a (L.getD i Wt.zero) then 1 else 0) := by
  have h2 : L.take (i + 1) = L.take i ++ [L.getD i Wt.zero] := by rw [List.take_add_one, List.getElem?_eq_getElem hi]; simp [List.getD, List.getElem?_eq_getElem hi]
  unfold cntW
  rw [h2, List.countP_append, List.countP_cons]
  simp
theorem cnt_le (L : List Wt) (a : Wt) (i : Nat) : cntW (L.take i) a ≤ i := by
  unfold cntW
  exact Nat.le_trans List.countP_le_length (by simp; omega)

set_option maxRecDepth 100000 in
set_option maxHeartbeats 3200000 in
theorem walk_WaitersOwn (w : World) (v : Value) (l : List Wt) (hv : SeesWt w v l) (hf : ∀ r ∈ l, r.fit) (a : Wt) (ha : a.fit) (b : Wt) (hb : b.fit) (q : Bool) :
    Calls Try.prog 7 #[v, a.val, b.val, .bool q] w fun e w' => e = .returned (.bool true) ∧ Below w.heap.size w w' := by
  clear hf ha hb
  have HV := hid hv
  obtain ⟨al, cl, rfl, hl1, hl2, hlc⟩ := hv.form
  unfold maxLen at hl2
  have HC := hid hlc
  have HCA := hid (cnt_add l a q)
  have HAL := hid (addP_len l a q)
  clear hv hlc
  obtain ⟨X, hX⟩ : ∃ X, addP l a q = X := ⟨_, rfl⟩
  rw [hX] at HCA HAL
  have HX := hid hX
  clear hX
  obtain ⟨ap, ar, av⟩ := a
  obtain ⟨bp, br, bv⟩ := b
  have BA0 := hid ((BoxAt.new w 24 #[.int .i64 ap, .int .i64 ar, .int .i64 av]).alloc (.cells #[.int .i64 bp, .int .i64 br, .int .i64 bv] 24))
  have bb0 := BoxAt.new (w.alloc (.cells #[.int .i64 ap, .int .i64 ar, .int .i64 av] 24)) 24 #[.int .i64 bp, .int .i64 br, .int .i64 bv]
  rw [show (w.alloc (.cells #[.int .i64 ap, .int .i64 ar, .int .i64 av] 24)).heap.size = w.heap.size + 1 by simp] at bb0
  have BB0 := hid bb0
  have HB0 := hid (show Below w.heap.size w ((w.alloc (.cells #[.int .i64 ap, .int .i64 ar, .int .i64 av] 24)).alloc (.cells #[.int .i64 bp, .int .i64 br, .int .i64 bv] 24)) from ((Below.refl _ _).alloc (Nat.le_refl _) _).alloc (by simp) _)
  clear bb0
  unfold Wt.val
  simp only
  go_enter Try.func7, Try.ntmps7
  go_wp2_with fail
  refine (vawake_any _).mono ?_
  rintro e w1 ⟨rfl, hb1⟩
  have BA1 := hid (BA0.out.belowAll hb1)
  have BB1 := hid (BB0.out.belowAll hb1)
  have HB1 := hid (HB0.out.trans (hb1.mono HB0.out.size))
  clear hb1 BA0 BB0 HB0
  by_cases h60 : 60 < l.length
  · have h60' : (60 : Int) < l.length := by omega
    go_wp2
    go_ret
    exact ⟨rfl, HB1.out⟩
  have h60' : ¬ (60 : Int) < l.length := by omega
  have HLEN := hid (show 0 + (l.map Wt.cells).length ≤ 1000000 by simp; omega)
  have HVC := hid (HV.out.below HB1.out)
  have hmk : ∀ v2 w2, w2.ownsRow w1.heap.size 24 3 v2 (0 + (l.map Wt.cells).length) ([] ++ (l.map Wt.cells).flatten) → Below w1.heap.size w1 w2 → OWt w2 w1.heap.size v2 l ∧ BoxAt w2 w.heap.size 24 #[.int .i64 ap, .int .i64 ar, .int .i64 av] ∧ BoxAt w2 (w.heap.size + 1) 24 #[.int .i64 bp, .int .i64 br, .int .i64 bv] ∧ Below w.heap.size w w2 := fun v2 w2 h1 h2 =>
    ⟨by unfold OWt; simpa using h1, BA1.out.belowAll h2, BB1.out.belowAll h2, HB1.out.trans (h2.mono HB1.out.size)⟩
  have MK := hid hmk
  have hmk2 : ∀ w2, BoxAt w2 w.heap.size 24 #[.int .i64 ap, .int .i64 ar, .int .i64 av] → w2.cell? ⟨w.heap.size, 0, none⟩ = some (.int .i64 ap) ∧ w2.cell? ⟨w.heap.size, 1, none⟩ = some (.int .i64 ar) ∧ w2.cell? ⟨w.heap.size, 2, none⟩ = some (.int .i64 av) := fun w2 h => ⟨h.cell 0, h.cell 1, h.cell 2⟩
  have MA := hid hmk2
  clear hmk hmk2
  go_wp2_with (first
    | (at_builtin
       refine app_row 24 22 3 24 _ Try.underlying22 Try.infoOWt rfl (by decide) (by decide) rfl _ _ rfl w1.heap.size _ 0 [] rfl (World.ownsRow_nil _ _ _ _) _ (l.map Wt.cells) rfl HVC.out (lensWt l) (oneWt l) HLEN.out (Nat.le_refl _) ?_
       intro v2 w2 hown hgrow hb
       obtain ⟨hO2, hA2, hBB2, hB2⟩ := MK.out v2 w2 hown hb
       have HO2 := hid hO2
       have BA2 := hid hA2
       have BB2 := hid hBB2
       have HB2 := hid hB2
       obtain ⟨ca0, ca1, ca2⟩ := MA.out w2 hA2
       clear hown hgrow hb hO2 hA2 hBB2 hB2 MK HVC))
  refine (add_any ⟨ap, ar, av⟩ q (HV.out.below HB2.out) (by omega)).mono ?_
  rintro e w3 ⟨u3, rfl, hu3, hb3⟩
  rw [HX.out] at hu3
  have BA3 := hid (BA2.out.belowAll hb3)
  have BB3 := hid (BB2.out.belowAll hb3)
  have HB3 := hid (HB2.out.trans (hb3.mono HB2.out.size))
  have HS3 := hid hu3.sees
  have HW3 := hid (HO2.out.sees.below hb3)
  have cb0 := BB3.out.cell 0
  have cb1 := BB3.out.cell 1
  have cb2 := BB3.out.cell 2
  simp at cb0 cb1 cb2
  clear hb3 hu3 BA2 BB2 HB2 HO2 ca0 ca1 ca2
  go_wp2_with fail
  refine (add_any ⟨bp, br, bv⟩ q (HV.out.below HB3.out) (by omega)).mono ?_
  rintro e w4 ⟨u4, rfl, hu4, hb4⟩
  have BA4 := hid (BA3.out.belowAll hb4)
  have HB4 := hid (HB3.out.trans (hb4.mono HB3.out.size))
  have hs4 := HS3.out.below hb4
  have hw4 := HW3.out.below hb4
  obtain ⟨ax, cx, rfl, hx1, hx2, hxc⟩ := hs4.form
  obtain ⟨aw, cw, rfl, hw1, hw2, hwc⟩ := hw4.form
  have HXC := hid hxc
  have HWC := hid hwc
  have hx3 : cx ≤ 9223372036854775807 := hx2
  have hw3 : cw ≤ 9223372036854775807 := hw2
  rw [HAL.out] at hx1 ⊢
  clear hb4 hu4 BA3 BB3 HB3 HS3 HW3 cb0 cb1 cb2 hs4 hw4 hxc hwc hx2 hw2 HV HX
  go_wp2
  go_loopw [12, 13] (fun n t wc => ∃ i : Nat, i ≤ l.length + 1 ∧ t = .int .i64 i ∧ n = .int .i64 (cntW (X.take i) ⟨ap, ar, av⟩ : Nat) ∧ Below w4.heap.size w4 wc) (fun _ t _ => l.length + 1 - (intOf t).toNat)
  case atStart => exact ⟨0, by omega, rfl, by simp [cntW], Below.refl _ _⟩
  case round =>
    obtain ⟨i, hi, rfl, rfl, hbel⟩ := hrel
    have HBE := hid hbel
    by_cases hlt : i < l.length + 1
    · obtain ⟨bx, ox, rfl, hbx, hcell⟩ := HXC.out (by rw [HAL.out]; omega)
      have hiX : i < X.length := by rw [HAL.out]; exact hlt
      have c0 := (hbel.cell (by exact hbx)).trans (hcell i hiX 0 (by decide))
      have c1 := (hbel.cell (by exact hbx)).trans (hcell i hiX 1 (by decide))
      have c2 := (hbel.cell (by exact hbx)).trans (hcell i hiX 2 (by decide))
      have HN := hid (cnt_next X ⟨ap, ar, av⟩ i hiX)
      obtain ⟨a0, a1, a2⟩ := MA.out wr (BA4.out.belowAll hbel)
      have hcl := cnt_le X ⟨ap, ar, av⟩ i
      clear hcell HXC HWC HC hbel MA HCA
      obtain ⟨r, hr⟩ : ∃ r, X.getD i Wt.zero = r := ⟨_, rfl⟩
      rw [hr] at c0 c1 c2 HN
      clear hr
      obtain ⟨x0, x1, x2⟩ := r
      simp only [Wt.cells, List.getD_cons_zero, List.getD_cons_succ, Nat.add_zero] at c0 c1 c2
      unfold eqW at HN
      simp only at HN
      obtain ⟨n, hn⟩ : ∃ n, cntW (X.take i) ⟨ap, ar, av⟩ = n := ⟨_, rfl⟩
      rw [hn] at hcl HN ⊢
      clear hn
      have hn9 : n ≤ 61 := by omega
      by_cases h0 : x0 = ap
      · have e0 : (x0 == ap) = true := by simp [h0]
        by_cases h1 : x1 = ar
        · have e1 : (x1 == ar) = true := by simp [h1]
          by_cases h2 : x2 = av
          · have e2 : (x2 == av) = true := by simp [h2]
            clear h0 h1 h2
            have HE := hid (show cntW (X.take (i + 1)) ⟨ap, ar, av⟩ = n + 1 by rw [HN.out]; simp [e0, e1, e2])
            clear HN
            go_wp2
            go_quiet (fail)
            go_wp2
            go_roundw
            case rel => exact ⟨i + 1, by omega, by go_num, by rw [HE.out]; go_num, below_drewO HBE.out nq⟩
            case measure => simp [intOf]; omega
          · have e2 : (x2 == av) = false := by simp [h2]
            clear h0 h1 h2
            have HE := hid (show cntW (X.take (i + 1)) ⟨ap, ar, av⟩ = n by rw [HN.out]; simp [e0, e1, e2])
            clear HN
            go_wp2
            go_quiet (fail)
            go_wp2
            go_roundw
            case rel => exact ⟨i + 1, by omega, by go_num, by rw [HE.out], below_drewO HBE.out nq⟩
            case measure => simp [intOf]; omega
        · have e1 : (x1 == ar) = false := by simp [h1]
          clear h0 h1
          have HE := hid (show cntW (X.take (i + 1)) ⟨ap, ar, av⟩ = n by rw [HN.out]; simp [e0, e1])
          clear HN
          go_wp2
          go_quiet (fail)
          go_wp2
          go_roundw
          case rel => exact ⟨i + 1, by omega, by go_num, by rw [HE.out], below_drewO HBE.out nq⟩
          case measure => simp [intOf]; omega
      · have e0 : (x0 == ap) = false := by simp [h0]
        clear h0
        have HE := hid (show cntW (X.take (i + 1)) ⟨ap, ar, av⟩ = n by rw [HN.out]; simp [e0])
        clear HN
        go_wp2
        go_quiet (fail)
        go_wp2
        go_roundw
        case rel => exact ⟨i + 1, by omega, by go_num, by rw [HE.out], below_drewO HBE.out nq⟩
        case measure => simp [intOf]; omega
    · have hin : i = l.length + 1 := by omega
      subst hin
      have hall : cntW (X.take (l.length + 1)) ⟨ap, ar, av⟩ = cntW l ⟨ap, ar, av⟩ + 1 := by rw [← HAL.out, List.take_length]; exact HCA.out
      rw [hall]
      have hB5 := HB4.out.trans (hbel.mono HB4.out.size)
      have HB5 := hid hB5
      have hall2 := cnt_le l ⟨ap, ar, av⟩ l.length
      rw [List.take_length] at hall2
      obtain ⟨N, hN⟩ : ∃ N, cntW l ⟨ap, ar, av⟩ = N := ⟨_, rfl⟩
      have HN := hid hN
      rw [hN] at hall2 ⊢
      rename World => w5
      have BA5 := hid (BA4.out.belowAll hbel)
      have hWC5 : 0 < l.length → ∃ b off, aw = some ⟨b, off, none⟩ ∧ b < w5.heap.size ∧ ∀ i, i < l.length → ∀ j, j < 3 → w5.cell? ⟨b, off + i * 3 + j, none⟩ = some ((l.getD i Wt.zero).cells.getD j .nilIface) := fun h => by
        obtain ⟨b, off, h1, h2, h3⟩ := HWC.out h
        exact ⟨b, off, h1, Nat.lt_of_lt_of_le h2 hbel.size, fun i hi j hj => (hbel.cell (by exact h2)).trans (h3 i hi j hj)⟩
      have HW5 := hid hWC5
      clear hall hN hB5 hWC5 HWC HXC HCA hbel HBE BA4 HB4 hlt hi
      go_wp2
      go_loopw [14, 15] (fun m t wc => ∃ i : Nat, i ≤ l.length ∧ t = .int .i64 i ∧ m = .int .i64 (cntW (l.take i) ⟨ap, ar, av⟩ : Nat) ∧ Below w5.heap.size w5 wc) (fun _ t _ => l.length - (intOf t).toNat)
      case atStart => exact ⟨0, by omega, rfl, by simp [cntW], Below.refl _ _⟩
      case round =>
        obtain ⟨i, hi, rfl, rfl, hbel⟩ := hrel
        have HBE := hid hbel
        have HB6 := hid (HB5.out.trans (hbel.mono HB5.out.size))
        by_cases hlt : i < l.length
        · obtain ⟨b1, o1, rfl, hbw1, hcell1⟩ := HC.out (by omega)
          obtain ⟨b2, o2, rfl, hbw2, hcell2⟩ := HW5.out (by omega)
          have c0 := (HB6.out.cell (by exact hbw1)).trans (hcell1 i hlt 0 (by decide))
          have c1 := (HB6.out.cell (by exact hbw1)).trans (hcell1 i hlt 1 (by decide))
          have c2 := (HB6.out.cell (by exact hbw1)).trans (hcell1 i hlt 2 (by decide))
          have d0 := (hbel.cell (by exact hbw2)).trans (hcell2 i hlt 0 (by decide))
          have d1 := (hbel.cell (by exact hbw2)).trans (hcell2 i hlt 1 (by decide))
          have d2 := (hbel.cell (by exact hbw2)).trans (hcell2 i hlt 2 (by decide))
          have HNX := hid (cnt_next l ⟨ap, ar, av⟩ i hlt)
          obtain ⟨a0, a1, a2⟩ := MA.out wr (BA5.out.belowAll hbel)
          have hcl := cnt_le l ⟨ap, ar, av⟩ i
          clear hcell1 hcell2 HC HW5 hbel MA HN HB6
          obtain ⟨r, hr⟩ : ∃ r, l.getD i Wt.zero = r := ⟨_, rfl⟩
          rw [hr] at c0 c1 c2 d0 d1 d2 HNX
          clear hr
          obtain ⟨x0, x1, x2⟩ := r
          simp only [Wt.cells, List.getD_cons_zero, List.getD_cons_succ, Nat.add_zero] at c0 c1 c2 d0 d1 d2
          unfold eqW at HNX
          simp only at HNX
          obtain ⟨n, hn⟩ : ∃ n, cntW (l.take i) ⟨ap, ar, av⟩ = n := ⟨_, rfl⟩
          rw [hn] at hcl HNX ⊢
          clear hn
          have hn9 : n ≤ 61 := by omega
          have z0 : (x0 != x0) = false := by simp
          have z1 : (x1 != x1) = false := by simp
          have z2 : (x2 != x2) = false := by simp
          go_wp2
          go_quiet (fail)
          go_wp2
          by_cases h0 : x0 = ap
          · have e0 : (x0 == ap) = true := by simp [h0]
            by_cases h1 : x1 = ar
            · have e1 : (x1 == ar) = true := by simp [h1]
              by_cases h2 : x2 = av
              · have e2 : (x2 == av) = true := by simp [h2]
                clear h0 h1 h2
                have HE := hid (show cntW (l.take (i + 1)) ⟨ap, ar, av⟩ = n + 1 by rw [HNX.out]; simp [e0, e1, e2])
                clear HNX
                go_wp2
                go_quiet (fail)
                go_wp2
                go_roundw
                case rel => exact ⟨i + 1, by omega, by go_num, by rw [HE.out]; go_num, below_drewO HBE.out _⟩
                case measure => simp [intOf]; omega
              · have e2 : (x2 == av) = false := by simp [h2]
                clear h0 h1 h2
                have HE := hid (show cntW (l.take (i + 1)) ⟨ap, ar, av⟩ = n by rw [HNX.out]; simp [e0, e1, e2])
                clear HNX
                go_wp2
                go_quiet (fail)
                go_wp2
                go_roundw
                case rel => exact ⟨i + 1, by omega, by go_num, by rw [HE.out], below_drewO HBE.out _⟩
                case measure => simp [intOf]; omega
            · have e1 : (x1 == ar) = false := by simp [h1]
              clear h0 h1
              have HE := hid (show cntW (l.take (i + 1)) ⟨ap, ar, av⟩ = n by rw [HNX.out]; simp [e0, e1])
              clear HNX
              go_wp2
              go_quiet (fail)
              go_wp2
              go_roundw
              case rel => exact ⟨i + 1, by omega, by go_num, by rw [HE.out], below_drewO HBE.out _⟩
              case measure => simp [intOf]; omega
          · have e0 : (x0 == ap) = false := by simp [h0]
            clear h0
            have HE := hid (show cntW (l.take (i + 1)) ⟨ap, ar, av⟩ = n by rw [HNX.out]; simp [e0])
            clear HNX
            go_wp2
            go_quiet (fail)
            go_wp2
            go_roundw
            case rel => exact ⟨i + 1, by omega, by go_num, by rw [HE.out], below_drewO HBE.out _⟩
            case measure => simp [intOf]; omega
        · have hin : i = l.length := by omega
          subst hin
          rw [List.take_length, HN.out]
          have hq1 : ((l.length : Int) + 1 == (l.length : Int) + 1) = true := by simp
          have hq2 : ((N : Int) + 1 == (N : Int) + 1) = true := by simp
          have hq3 : wrap64 ((l.length : Int) + 1) = (l.length : Int) + 1 := by unfold wrap64; omega
          have hq4 : wrap64 ((N : Int) + 1) = (N : Int) + 1 := by unfold wrap64; omega
          have hN9 : N ≤ 60 := by omega
          clear HC HW5 MA HN
          go_wp2
          go_ret
          exact ⟨rfl, HB6.out⟩
end Go.Proofs.Ytnbifmfocdejpaa
