/-
  What the walk through a list of partitions returns over any machine that is given numbers one by one.
-/
import Derived.Test.YtfdoejdnhogepaaTWPt
namespace Go.Proofs.Ytfdoejdnhogepaa
open Go.RowKit
set_option linter.unusedVariables false

/-- Partitions that are made one behind the other, from block lo on, beside the slice u. -/
def PS (G lo : Nat) (w : World) (u : Value) (qs : List Pv) (acc : List Pt) : Prop := qs.length = acc.length ∧ ∀ j, j < acc.length → PtAt w (qs.getD j Pv.zero) (acc.getD j Pt.zero) ∧ PtBlk (fun b => lo ≤ b ∧ b < w.heap.size ∧ ¬ own G w b ∧ u.ownBlock ≠ some b) (qs.getD j Pv.zero)
theorem PS.kept {G lo : Nat} {w w' : World} {u : Value} {qs : List Pv} {acc : List Pt} (h : PS G lo w u qs acc) (hk : KB G w.heap.size w w') : PS G lo w' u qs acc :=
  ⟨h.1, fun j hj => ⟨(h.2 j hj).1.turn ((h.2 j hj).2.imp fun b hb => hk.block b hb.2.1 hb.2.1 hb.2.2.1), (h.2 j hj).2.imp fun b hb => ⟨hb.1, Nat.lt_of_lt_of_le hb.2.1 hk.size, hk.own b hb.2.1 hb.2.2.1, hb.2.2.2⟩⟩⟩
theorem PS.grown {G lo : Nat} {w w' : World} {u : Value} {qs : List Pv} {acc : List Pt} (h : PS G lo w u qs acc) (hL : Live G w) (hg : w.grownBy w' u.ownBlock) (hr : ∀ k, u.ownBlock = some k → ¬ own G w k) {gg cap n' : Nat} (hl : u.ownBlock = some gg ∨ gg = w.heap.size) : PS G lo w' (.slice (some ⟨gg, 0, none⟩) n' cap) qs acc := by
  refine ⟨h.1, fun j hj => ⟨(h.2 j hj).1.turn ((h.2 j hj).2.imp fun b hb => hg.block b hb.2.1 (fun e => hb.2.2.2 e.symm)), (h.2 j hj).2.imp fun b hb => ⟨hb.1, Nat.lt_of_lt_of_le hb.2.1 hg.size, fun ho => hb.2.2.1 ((own_grown hL hg hr b).1 ho), fun e => ?_⟩⟩⟩
  simp [Value.ownBlock] at e
  subst e
  rcases hl with hl | hl
  · exact hb.2.2.2 hl
  · have := hb.2.1; omega
theorem PS.snoc {G lo : Nat} {w : World} {u : Value} {qs : List Pv} {acc : List Pt} (h : PS G lo w u qs acc) {q : Pv} {p : Pt} (hp : PtAt w q p) (hb : PtBlk (fun b => lo ≤ b ∧ b < w.heap.size ∧ ¬ own G w b ∧ u.ownBlock ≠ some b) q) : PS G lo w u (qs ++ [q]) (acc ++ [p]) := by
  refine ⟨by simp [h.1], fun j hj => ?_⟩
  by_cases hlt : j < acc.length
  · have h1 : (qs ++ [q]).getD j Pv.zero = qs.getD j Pv.zero := by simp [List.getD, List.getElem?_append_left (show j < qs.length by rw [h.1]; exact hlt)]
    have h2 : (acc ++ [p]).getD j Pt.zero = acc.getD j Pt.zero := by simp [List.getD, List.getElem?_append_left hlt]
    rw [h1, h2]
    exact h.2 j hlt
  · have he : j = acc.length := by simp at hj; omega
    subst he
    have h1 : (qs ++ [q]).getD acc.length Pv.zero = q := by rw [← h.1]; simp [List.getD]
    have h2 : (acc ++ [p]).getD acc.length Pt.zero = p := by simp [List.getD]
    rw [h1, h2]
    exact ⟨hp, hb⟩
theorem PS.nil (G lo : Nat) (w : World) (u : Value) : PS G lo w u [] [] := ⟨rfl, fun j hj => by simp at hj⟩

theorem PtAt.zero (w : World) : PtAt w Pv.zero Pt.zero := ⟨rfl, SeesC.nil _ _, SeesC.nil _ _, rfl, SeesC.nil _ _, SeesC.nil _ _, rfl, Sees.nil _ _, Sees.nil _ _, rfl, Sees.nil _ _⟩
theorem PtBlk.zero (S : Nat → Prop) : PtBlk S Pv.zero := by
  have h : Blk S (.slice none 0 0) := fun x n c hv => by simp at hv
  exact ⟨h, h, h, h, h, h, h⟩
theorem Pt.few_zero : Pt.zero.few := by simp [Pt.few, Pt.zero]

/-- A slice of partitions, of which each lies in blocks of S. -/
def SeesPsB (S : Nat → Prop) (w : World) (v : Value) (l : List Pt) : Prop := ∃ qs : List Pv, SeesPv w v qs ∧ Blk S v ∧ qs.length = l.length ∧ ∀ i, i < l.length → PtAt w (qs.getD i Pv.zero) (l.getD i Pt.zero) ∧ PtBlk S (qs.getD i Pv.zero)

theorem Try.infoLPt : (Try.prog.info? 49).map (fun i => (i.zero, i.size)) = some (some (.agg #[.int .i64 0, .slice none 0 0, .slice none 0 0, .int .i64 0, .slice none 0 0, .slice none 0 0, .int .i64 0, .slice none 0 0, .slice none 0 0, .int .i64 0, .slice none 0 0]), 11) := by kernel_rfl
theorem Try.infoMPt : (Try.prog.info? 49).map (fun i => decide (i.bytes ≤ 1000)) = some true := by kernel_rfl

set_option maxRecDepth 100000 in
set_option maxHeartbeats 8000000 in
theorem lPt_any {g G : Nat} {σ : Type} {nx : Int → Int → σ → Int × σ} {At : World → σ → Prop} {room : σ → Nat} (M : Mach g G σ nx At room) (l : List Pt) (v : Value) (s : σ) (w : World) (hA : At w s) (hv : SeesPsB (fun b => b < w.heap.size ∧ ¬ own G w b) w v l) (hlen : l.length ≤ 1000) (hfe : ∀ p ∈ l, p.few)
    (hr : room (listW nx (wPt nx) Pt.zero l s).2 ≤ 1000000) :
    Calls Try.prog 62 #[walkV g G, v, .func (.func 63) #[walkV g G] #[]] w fun e w' => ∃ u qs, e = .returned u ∧
      Row G w' w.heap.size 49 11 u qs.length (qs.map Pv.cells).flatten ∧ PS G w.heap.size w' u qs (listW nx (wPt nx) Pt.zero l s).1 ∧ At w' (listW nx (wPt nx) Pt.zero l s).2 ∧ KB G w.heap.size w w' := by
  obtain ⟨i0, iB, hi, hz0, hz1, hz2, hz3⟩ : ∃ i0 iB, Try.prog.info? 49 = some i0 ∧ i0.zero = some (.agg #[.int .i64 0, .slice none 0 0, .slice none 0 0, .int .i64 0, .slice none 0 0, .slice none 0 0, .int .i64 0, .slice none 0 0, .slice none 0 0, .int .i64 0, .slice none 0 0]) ∧ i0.size = 11 ∧ i0.bytes = iB ∧ iB ≤ 1000 := by
    have h1 := Try.infoLPt
    have h2 := Try.infoMPt
    cases h : Try.prog.info? 49 with
    | none => rw [h] at h1; simp at h1
    | some i0 => rw [h] at h1 h2; simp at h1 h2; exact ⟨i0, i0.bytes, rfl, h1.1, h1.2, rfl, h2⟩
  obtain ⟨q0, hv, hh, hq0, hpt⟩ := hv
  have eg := M.enters
  have HV := hid hv
  have HH := hid hh
  have HPT := hid hpt
  have HFew := hid hfe
  have HM := hid M
  obtain ⟨al, cl, rfl, hl1, hl2, _⟩ := hv.form
  rw [hq0] at hl1
  have HQ0 := hid hq0
  unfold maxLen at hl2
  have hL := M.live w s hA
  have HA := hid (M.alloc hA (.cells #[.func (.func g) #[.pointer (some ⟨G, 0, none⟩)] #[]] 63))
  have hK : KB G w.heap.size w (w.alloc (.cells #[.func (.func g) #[.pointer (some ⟨G, 0, none⟩)] #[]] 63)) := (KB.refl _ _ _).alloc hL (Nat.le_refl _) _
  have HK := hid hK
  unfold listW at hr ⊢
  have hfew := M.few l.length s
  have hroom1 : room (nx l.length 64 s).2 ≤ 1000000 := Nat.le_trans (mapW_mono (wPt_mono M) _ _) hr
  obtain ⟨⟨K0, s1⟩, hN⟩ : ∃ x, nx l.length 64 s = x := ⟨_, rfl⟩
  rw [hN] at hr hfew hroom1 ⊢
  simp only at hr hfew hroom1 ⊢
  have HN := hid hN
  have HR1 := hid hroom1
  obtain ⟨R, hR⟩ : ∃ R, mapW (wPt nx) (pad l Pt.zero K0.toNat) s1 = R := ⟨_, rfl⟩
  rw [hR] at hr ⊢
  have HRe := hid hr
  have HR := hid hR
  rw [hq0]
  clear hr hv hh hA hK hL M hN hroom1 hR hpt hfe hq0
  unfold walkV
  go_enter Try.func62, Try.ntmps62
  go_wp2_with fail
  refine (HM.out.step _ s l.length 64 HA.out (by rw [HN.out]; exact HR1.out)).mono ?_
  rintro e w1 ⟨rfl, hA1, hK1⟩
  rw [HN.out] at hA1 ⊢
  simp only at hA1 ⊢
  have hkb1 := HK.out.trans (hK1.mono (by simp))
  have HB := hid (And.intro hA1 hkb1)
  clear hA1 hK1 hkb1 HA HK HN HR1
  go_wp2
  go_loopw [7, 15] (fun u t wc => ∃ (i : Nat) (acc : List Pt) (qs : List Pv) (si : σ), (i : Int) ≤ max K0 0 ∧ t = .int .i64 i ∧ acc.length = i ∧ Row G wc w.heap.size 49 11 u i (qs.map Pv.cells).flatten ∧ PS G w.heap.size wc u qs acc ∧
      (acc ++ (mapW (wPt nx) ((pad l Pt.zero K0.toNat).drop i) si).1, (mapW (wPt nx) ((pad l Pt.zero K0.toNat).drop i) si).2) = R ∧ At wc si ∧ KB G w.heap.size w wc) (fun _ t _ => (K0 - intOf t).toNat)
  case atStart => exact ⟨0, [], [], s1, by omega, rfl, rfl, Row.nil _ _ _ _ _, PS.nil _ _ _ _, by simpa using HR.out, HB.out.1, HB.out.2⟩
  case round =>
    clear HB HR
    obtain ⟨i, acc, qs, si, hik, rfl, hacc, hrow, hps, hfin, hAt, hkb⟩ := hrel
    have HAc := hid hacc
    have HF := hid hfin
    clear hacc hfin
    by_cases hlt : (i : Int) < K0
    · have hlt' : i < K0.toNat := by omega
      rw [pad_drop l Pt.zero K0.toNat i hlt', mapW] at HF
      simp only at HF
      have hLv := HM.out.live _ _ hAt
      have HRo := hid (show room (wPt nx (l.getD i Pt.zero) si).2 ≤ room R.2 by
        rw [← HF.out]; exact mapW_mono (wPt_mono HM.out) _ _)
      by_cases hil : i < l.length
      · obtain ⟨a', c', he', _, _, hc'⟩ := SeesPv.form (show SeesPv wr _ q0 from SeesC.kept (show SeesC w 11 _ (q0.map Pv.cells) from HV.out) HH.out hkb)
        rw [HQ0.out] at he' hc'
        simp only [Value.slice.injEq, true_and] at he'
        obtain ⟨rfl, rfl⟩ := he'
        obtain ⟨b, off, rfl, hbw, hcell⟩ := hc' (by omega)
        have c0 := hcell i hil 0 (by decide)
        have c1 := hcell i hil 1 (by decide)
        have c2 := hcell i hil 2 (by decide)
        have c3 := hcell i hil 3 (by decide)
        have c4 := hcell i hil 4 (by decide)
        have c5 := hcell i hil 5 (by decide)
        have c6 := hcell i hil 6 (by decide)
        have c7 := hcell i hil 7 (by decide)
        have c8 := hcell i hil 8 (by decide)
        have c9 := hcell i hil 9 (by decide)
        have c10 := hcell i hil 10 (by decide)
        have HFe := hid (HFew.out _ (getD_mem (d := Pt.zero) hil))
        have hPi := HPT.out i hil
        have hblk0 := (hPi.2.imp (fun b hb => (⟨Nat.lt_of_lt_of_le hb.1 hkb.size, hkb.own b hb.1 hb.2⟩ : b < wr.heap.size ∧ ¬ own G wr b)))
        have hpt0 := hPi.1.turn (hPi.2.imp (fun b hb => hkb.block b hb.1 hb.1 hb.2))
        clear hcell hc' hPi
        generalize q0.getD i Pv.zero = r at *
        generalize l.getD i Pt.zero = pp at *
        obtain ⟨x0, x1, x2, x3, x4, x5, x6, x7, x8, x9, x10⟩ := r
        simp only [Pv.cells, List.getD_cons_zero, List.getD_cons_succ, Nat.add_zero] at c0 c1 c2 c3 c4 c5 c6 c7 c8 c9 c10
        have HP0 := hid hpt0
        have HB0 := hid hblk0
        clear hpt0 hblk0
        go_wp2_with fail
        refine (wPt_any HM.out ⟨x0, x1, x2, x3, x4, x5, x6, x7, x8, x9, x10⟩ pp si _ (HM.out.alloc hAt _) (HP0.out.turn (HB0.out.imp (fun b hb => Below.heap_alloc _ _ b hb.1))) (HB0.out.imp (fun b hb => ⟨by have := hb.1; simp; omega, fun ho => hb.2 ((own_alloc hLv _ b).1 ho)⟩)) HFe.out (Nat.le_trans HRo.out HRe.out)).mono ?_
        rintro e w2 ⟨q', rfl, hP2, hB2, hA2, hK2⟩
        have hkA := ((KB.refl G wr.heap.size wr).alloc hLv (Nat.le_refl _) _).trans (hK2.mono (by simp))
        have hkb2 := (hkb.alloc hLv hkb.size _).trans (hK2.mono (by have := hkb.size; simp; omega))
        have hrow2 := Row.kept (B := 0) (hrow.alloc hLv _) hK2
        have hps2 := (hps.kept hkA).snoc hP2 (hB2.imp (fun b hb => ⟨by have := hkb.size; have := hb.1; simp at this; omega, hb.2.1, hb.2.2, fun he => by
          have h1 := (hrow.1.lt b he).2
          have h2 := hb.1
          simp at h2
          omega⟩))
        obtain ⟨y, hy⟩ : ∃ y, wPt nx pp si = y := ⟨_, rfl⟩
        rw [hy] at hA2 HF hps2
        clear hK2 hrow hAt hLv hkb HRo hy hkA hps hP2 hB2 c0 c1 c2 c3 c4 c5 c6 c7 c8 c9 c10 HP0 HB0
        obtain ⟨y1, s2⟩ := y
        obtain ⟨z0, z1, z2, z3, z4, z5, z6, z7, z8, z9, z10⟩ := q'
        simp only [Pv.val] at hA2 HF hps2 ⊢
        have hLv2 := HM.out.live _ _ hA2
        have hkC := (KB.refl G w2.heap.size w2).alloc hLv2 (Nat.le_refl _) (.cells #[.int .i64 z0, .slice z1.a z1.n z1.c, .slice z2.a z2.n z2.c, .int .i64 z3, .slice z4.a z4.n z4.c, .slice z5.a z5.n z5.c, .int .i64 z6, .slice z7.a z7.n z7.c, .slice z8.a z8.n z8.c, .int .i64 z9, .slice z10.a z10.n z10.c] 49)
        have hps3 := hps2.kept hkC
        have hrow3 := hrow2.alloc hLv2 (.cells #[.int .i64 z0, .slice z1.a z1.n z1.c, .slice z2.a z2.n z2.c, .int .i64 z3, .slice z4.a z4.n z4.c, .slice z5.a z5.n z5.c, .int .i64 z6, .slice z7.a z7.n z7.c, .slice z8.a z8.n z8.c, .int .i64 z9, .slice z10.a z10.n z10.c] 49)
        have hkb3 := hkb2.alloc hLv2 hkb2.size (.cells #[.int .i64 z0, .slice z1.a z1.n z1.c, .slice z2.a z2.n z2.c, .int .i64 z3, .slice z4.a z4.n z4.c, .slice z5.a z5.n z5.c, .int .i64 z6, .slice z7.a z7.n z7.c, .slice z8.a z8.n z8.c, .int .i64 z9, .slice z10.a z10.n z10.c] 49)
        have hA3 := HM.out.alloc hA2 (.cells #[.int .i64 z0, .slice z1.a z1.n z1.c, .slice z2.a z2.n z2.c, .int .i64 z3, .slice z4.a z4.n z4.c, .slice z5.a z5.n z5.c, .int .i64 z6, .slice z7.a z7.n z7.c, .slice z8.a z8.n z8.c, .int .i64 z9, .slice z10.a z10.n z10.c] 49)
        have hLv3 := HM.out.live _ _ hA3
        have HW3 := hid hrow3
        have HK3 := hid hkb3
        have HA3 := hid hA3
        have HL3 := hid hLv3
        have HS3 := hid hps3
        have hs2 := hkb2.size
        clear hrow2 hrow3 hkb2 hkb3 hA2 hA3 hLv2 hLv3 hkC hps2 hps3
        go_wp2_with (at_builtin; refine wpList_append_lies _ rfl _ _ 23 rfl w.heap.size 49 i0 (.agg #[.int .i64 0, .slice none 0 0, .slice none 0 0, .int .i64 0, .slice none 0 0, .slice none 0 0, .int .i64 0, .slice none 0 0, .slice none 0 0, .int .i64 0, .slice none 0 0]) 11 iB Try.underlying23 hi hz0 hz1 hz2 rfl (by decide) _ _ _ rfl HW3.out.1 ⟨w2.heap.size, 0, none⟩ 1 1 [.int .i64 z0, .slice z1.a z1.n z1.c, .slice z2.a z2.n z2.c, .int .i64 z3, .slice z4.a z4.n z4.c, .slice z5.a z5.n z5.c, .int .i64 z6, .slice z7.a z7.n z7.c, .slice z8.a z8.n z8.c, .int .i64 z9, .slice z10.a z10.n z10.c] rfl rfl ?k1 ?k2 ?k0 ?k3 ?k4 ?k5 _ rfl ?_)
        case k1 =>
          intro j u hj
          rw [add_none, Nat.zero_add, (BoxAt.new w2 _ _).cell j]
          simpa using hj
        case k2 => intro u hu; simp at hu; rcases hu with rfl | rfl | rfl | rfl | rfl | rfl | rfl | rfl | rfl | rfl | rfl <;> rfl
        case k0 => decide
        case k3 => unfold maxLen; omega
        case k4 => exact Nat.le_trans (Nat.mul_le_mul (show i + 1 ≤ 1001 by omega) hz3) (by decide)
        case k5 => simp; omega
        intro gg cap w4 ho4 hg4 hl4 hlt4
        have hrow4 := Row.grown (e' := 0) HW3.out HL3.out ho4 hg4 (by simpa using hl4)
        have hkb4 := HK3.out.grown HL3.out hg4 (by simp; omega) (fun k hk => ⟨(HW3.out.1.lt k hk).1, HW3.out.2 k hk⟩)
        have hA4 := HM.out.grown HA3.out hg4 HW3.out.2
        have hps4 := HS3.out.grown (n' := i + 1) (cap := cap) HL3.out hg4 HW3.out.2 (show _ ∨ gg = _ by simpa using hl4)
        have HE := hid (And.intro hrow4 (And.intro hkb4 (And.intro hA4 hps4)))
        clear hrow4 hkb4 hA4 hps4 ho4 hg4 hl4 hlt4 HW3 HK3 HA3 HL3 HS3
        go_wp2
        go_roundw
        case rel =>
          refine ⟨i + 1, acc ++ [y1], qs ++ [⟨z0, z1, z2, z3, z4, z5, z6, z7, z8, z9, z10⟩], s2, by omega, by go_num, by simp [HAc.out], ?_, HE.out.2.2.2, ?_, HE.out.2.2.1, HE.out.2.1⟩
          · rw [List.map_append, List.flatten_append]
            exact HE.out.1
          · rw [← HF.out]; simp
        case measure => simp [intOf]; omega
      · have hz : l.getD i Pt.zero = Pt.zero := by simp [List.getD, List.getElem?_eq_none (show l.length ≤ i by omega)]
        rw [hz] at HF HRo
        have HFe := hid Pt.few_zero
        clear hz
        go_wp2_with fail
        refine (wPt_any HM.out Pv.zero Pt.zero si _ (HM.out.alloc hAt _) (PtAt.zero _) (PtBlk.zero _) HFe.out (Nat.le_trans HRo.out HRe.out)).mono ?_
        rintro e w2 ⟨q', rfl, hP2, hB2, hA2, hK2⟩
        have hkA := ((KB.refl G wr.heap.size wr).alloc hLv (Nat.le_refl _) _).trans (hK2.mono (by simp))
        have hkb2 := (hkb.alloc hLv hkb.size _).trans (hK2.mono (by have := hkb.size; simp; omega))
        have hrow2 := Row.kept (B := 0) (hrow.alloc hLv _) hK2
        have hps2 := (hps.kept hkA).snoc hP2 (hB2.imp (fun b hb => ⟨by have := hkb.size; have := hb.1; simp at this; omega, hb.2.1, hb.2.2, fun he => by
          have h1 := (hrow.1.lt b he).2
          have h2 := hb.1
          simp at h2
          omega⟩))
        obtain ⟨y, hy⟩ : ∃ y, wPt nx Pt.zero si = y := ⟨_, rfl⟩
        rw [hy] at hA2 HF hps2
        clear hK2 hrow hAt hLv hkb HRo hy hkA hps hP2 hB2 
        obtain ⟨y1, s2⟩ := y
        obtain ⟨z0, z1, z2, z3, z4, z5, z6, z7, z8, z9, z10⟩ := q'
        simp only [Pv.val] at hA2 HF hps2 ⊢
        have hLv2 := HM.out.live _ _ hA2
        have hkC := (KB.refl G w2.heap.size w2).alloc hLv2 (Nat.le_refl _) (.cells #[.int .i64 z0, .slice z1.a z1.n z1.c, .slice z2.a z2.n z2.c, .int .i64 z3, .slice z4.a z4.n z4.c, .slice z5.a z5.n z5.c, .int .i64 z6, .slice z7.a z7.n z7.c, .slice z8.a z8.n z8.c, .int .i64 z9, .slice z10.a z10.n z10.c] 49)
        have hps3 := hps2.kept hkC
        have hrow3 := hrow2.alloc hLv2 (.cells #[.int .i64 z0, .slice z1.a z1.n z1.c, .slice z2.a z2.n z2.c, .int .i64 z3, .slice z4.a z4.n z4.c, .slice z5.a z5.n z5.c, .int .i64 z6, .slice z7.a z7.n z7.c, .slice z8.a z8.n z8.c, .int .i64 z9, .slice z10.a z10.n z10.c] 49)
        have hkb3 := hkb2.alloc hLv2 hkb2.size (.cells #[.int .i64 z0, .slice z1.a z1.n z1.c, .slice z2.a z2.n z2.c, .int .i64 z3, .slice z4.a z4.n z4.c, .slice z5.a z5.n z5.c, .int .i64 z6, .slice z7.a z7.n z7.c, .slice z8.a z8.n z8.c, .int .i64 z9, .slice z10.a z10.n z10.c] 49)
        have hA3 := HM.out.alloc hA2 (.cells #[.int .i64 z0, .slice z1.a z1.n z1.c, .slice z2.a z2.n z2.c, .int .i64 z3, .slice z4.a z4.n z4.c, .slice z5.a z5.n z5.c, .int .i64 z6, .slice z7.a z7.n z7.c, .slice z8.a z8.n z8.c, .int .i64 z9, .slice z10.a z10.n z10.c] 49)
        have hLv3 := HM.out.live _ _ hA3
        have HW3 := hid hrow3
        have HK3 := hid hkb3
        have HA3 := hid hA3
        have HL3 := hid hLv3
        have HS3 := hid hps3
        have hs2 := hkb2.size
        clear hrow2 hrow3 hkb2 hkb3 hA2 hA3 hLv2 hLv3 hkC hps2 hps3
        go_wp2_with (at_builtin; refine wpList_append_lies _ rfl _ _ 23 rfl w.heap.size 49 i0 (.agg #[.int .i64 0, .slice none 0 0, .slice none 0 0, .int .i64 0, .slice none 0 0, .slice none 0 0, .int .i64 0, .slice none 0 0, .slice none 0 0, .int .i64 0, .slice none 0 0]) 11 iB Try.underlying23 hi hz0 hz1 hz2 rfl (by decide) _ _ _ rfl HW3.out.1 ⟨w2.heap.size, 0, none⟩ 1 1 [.int .i64 z0, .slice z1.a z1.n z1.c, .slice z2.a z2.n z2.c, .int .i64 z3, .slice z4.a z4.n z4.c, .slice z5.a z5.n z5.c, .int .i64 z6, .slice z7.a z7.n z7.c, .slice z8.a z8.n z8.c, .int .i64 z9, .slice z10.a z10.n z10.c] rfl rfl ?k1 ?k2 ?k0 ?k3 ?k4 ?k5 _ rfl ?_)
        case k1 =>
          intro j u hj
          rw [add_none, Nat.zero_add, (BoxAt.new w2 _ _).cell j]
          simpa using hj
        case k2 => intro u hu; simp at hu; rcases hu with rfl | rfl | rfl | rfl | rfl | rfl | rfl | rfl | rfl | rfl | rfl <;> rfl
        case k0 => decide
        case k3 => unfold maxLen; omega
        case k4 => exact Nat.le_trans (Nat.mul_le_mul (show i + 1 ≤ 1001 by omega) hz3) (by decide)
        case k5 => simp; omega
        intro gg cap w4 ho4 hg4 hl4 hlt4
        have hrow4 := Row.grown (e' := 0) HW3.out HL3.out ho4 hg4 (by simpa using hl4)
        have hkb4 := HK3.out.grown HL3.out hg4 (by simp; omega) (fun k hk => ⟨(HW3.out.1.lt k hk).1, HW3.out.2 k hk⟩)
        have hA4 := HM.out.grown HA3.out hg4 HW3.out.2
        have hps4 := HS3.out.grown (n' := i + 1) (cap := cap) HL3.out hg4 HW3.out.2 (show _ ∨ gg = _ by simpa using hl4)
        have HE := hid (And.intro hrow4 (And.intro hkb4 (And.intro hA4 hps4)))
        clear hrow4 hkb4 hA4 hps4 ho4 hg4 hl4 hlt4 HW3 HK3 HA3 HL3 HS3
        go_wp2
        go_roundw
        case rel =>
          refine ⟨i + 1, acc ++ [y1], qs ++ [⟨z0, z1, z2, z3, z4, z5, z6, z7, z8, z9, z10⟩], s2, by omega, by go_num, by simp [HAc.out], ?_, HE.out.2.2.2, ?_, HE.out.2.2.1, HE.out.2.1⟩
          · rw [List.map_append, List.flatten_append]
            exact HE.out.1
          · rw [← HF.out]; simp
        case measure => simp [intOf]; omega
    · have HE := hid (show R = (acc, si) by
        rw [← HF.out, List.drop_of_length_le (by rw [pad_length]; omega)]; simp [mapW])
      have HW := hid (And.intro hrow (And.intro hps (And.intro hAt hkb)))
      clear HF hrow hps hAt hkb
      go_wp2
      go_ret
      refine ⟨_, rfl, qs, ?_, ?_, ?_, HW.out.2.2.2⟩
      · rw [HW.out.2.1.1, HAc.out]; exact HW.out.1
      · rw [HE.out]; exact HW.out.2.1
      · rw [HE.out]; exact HW.out.2.2.1
end Go.Proofs.Ytfdoejdnhogepaa
