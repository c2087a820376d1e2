/-
  ReadyLess: the walk.
-/
import Derived.Test.YtdhkchbmddacmaaYLaws5
import Derived.Deep.RegionHeld3
import Derived.Deep.Cut
namespace Go.Proofs.Ytdhkchbmddacmaa
open Go.RowKit
set_option linter.unusedVariables false

def Px.waits (r : Px) : Px := ⟨2, r.pr, r.su, r.pc, r.r0, r.r1, r.r2, r.r3, r.si, r.un, r.ki, r.ob, r.du, r.ne, r.pe, r.co, r.va, r.ca⟩
theorem waits_cells (r : Px) : r.waits.cells = r.cells.set 0 (.int .i64 2) := rfl
def Px.sleeps (r : Px) : Px := ⟨0, r.pr, r.su, r.pc, r.r0, r.r1, r.r2, r.r3, r.si, r.un, r.ki, r.ob, r.du, r.ne, r.pe, r.co, r.va, r.ca⟩

theorem less_tail (l : List Px) (m : Nat) (t : List Nat) (h : orderS l 2 = m :: t) : orderS (l.set m (l.getD m Px.zero).waits) 2 = t := by
  have hm : m ∈ orderS l 2 := by rw [h]; simp
  have hml := order_lt l 2 m hm
  have hs := order_sorted l 2
  have hnd := order_nodup l 2
  rw [h] at hs hnd
  rw [List.pairwise_cons] at hs
  have hnm : m ∉ t := (List.nodup_cons.1 hnd).1
  have hsame : ∀ k, ((l.set m (l.getD m Px.zero).waits).getD k Px.zero).pr = (l.getD k Px.zero).pr ∧ ((l.set m (l.getD m Px.zero).waits).getD k Px.zero).si = (l.getD k Px.zero).si := by
    intro k
    by_cases e : m = k
    · subst e; rw [getD_set_same l m _ hml]; exact ⟨rfl, rfl⟩
    · rw [getD_set_other l m k _ e]; exact ⟨rfl, rfl⟩
  refine (order_eq _ 2 t (hs.2.imp fun {a b} hab => ?_) fun i => ?_).symm
  · rw [ahead_iff] at hab ⊢
    rw [(hsame a).1, (hsame a).2, (hsame b).1, (hsame b).2]
    exact hab
  · have hi := mem_order l 2 i
    rw [h] at hi
    unfold modeN at hi ⊢
    rw [if_neg (by decide), if_pos rfl] at hi ⊢
    rw [List.length_set]
    by_cases e : m = i
    · subst e
      constructor
      · intro h'; exact absurd h' hnm
      · rintro ⟨_, h'⟩
        unfold canAt at h'
        rw [getD_set_same l m _ hml] at h'
        simp [canP, Px.waits] at h'
    · have hc : canAt (l.set m (l.getD m Px.zero).waits) i = canAt l i := by unfold canAt; rw [getD_set_other l m i _ e]
      rw [hc, ← hi]
      constructor
      · intro h'; exact List.mem_cons_of_mem _ h'
      · intro h'
        rcases List.mem_cons.1 h' with h'' | h''
        · exact absurd h''.symm e
        · exact h''

theorem getD_app_left (l : List Px) (r : Px) (i : Nat) (hi : i < l.length) : (l ++ [r]).getD i Px.zero = l.getD i Px.zero := by simp [List.getD, List.getElem?_append_left hi]
theorem more_same (l : List Px) (r : Px) (hr : r.st = 0) : orderS (l ++ [r]) 2 = orderS l 2 := by
  refine (order_eq (l ++ [r]) 2 (orderS l 2) ?_ fun i => ?_).symm
  · refine List.Pairwise.imp_of_mem (fun {a b} ha hb hab => ?_) (order_sorted l 2)
    rw [ahead_iff] at hab ⊢
    rw [getD_app_left l r a (order_lt l 2 a ha), getD_app_left l r b (order_lt l 2 b hb)]
    exact hab
  · rw [mem_order]
    unfold modeN
    rw [if_neg (by decide), if_pos rfl, if_neg (by decide), if_pos rfl, List.length_append]
    by_cases e : i < l.length
    · have hc : canAt (l ++ [r]) i = canAt l i := by unfold canAt; rw [getD_app_left l r i e]
      rw [hc]
      constructor
      · rintro ⟨_, h⟩; exact ⟨by simp; omega, h⟩
      · rintro ⟨_, h⟩; exact ⟨e, h⟩
    · constructor
      · rintro ⟨h, _⟩; exact absurd h e
      · rintro ⟨h, h'⟩
        have hie : i = l.length := by simp at h; omega
        subst hie
        unfold canAt at h'
        simp [List.getD, canP, hr] at h'

set_option maxRecDepth 100000 in
set_option maxHeartbeats 3200000 in
theorem walk_ReadyLess (w : World) (v : Value) (l : List Px) (hv : SeesPx w v l) (hf : ∀ r ∈ l, r.fit) (p : Px) (hp : p.fit) :
    Calls Try.prog 5 #[v, p.val] w fun e w' => e = .returned (.bool true) ∧ Below w.heap.size w w' := by
  clear hf hp
  have HV := hid hv
  obtain ⟨al, cl, rfl, hl1, hl2, _⟩ := hv.form
  have hl3 : cl ≤ 9223372036854775807 := hl2
  clear hv hl2
  have hb0 : Below w.heap.size w (w.alloc (.cells p.cells.toArray 33)) := (Below.refl _ _).alloc (Nat.le_refl _) _
  have HB0 := hid hb0
  have BX0 := hid (BoxAt.new w 33 p.cells.toArray)
  clear hb0
  unfold Px.val
  go_enter Try.func5, Try.ntmps5
  go_wp2_with fail
  refine (yawake_any _).mono ?_
  rintro e w1 ⟨rfl, hb1⟩
  have BX1 := hid (show BoxAt w1 w.heap.size 33 p.cells.toArray from BX0.out.belowAll hb1)
  have HB1 := hid (show Below w.heap.size w w1 from HB0.out.trans (hb1.mono (by simp)))
  have hz1 : w.heap.size < w1.heap.size := BX1.out.lt
  clear hb1 BX0 HB0
  by_cases h40 : 40 < l.length
  · have h40' : (40 : Int) < l.length := by omega
    go_wp2
    go_ret
    exact ⟨rfl, HB1.out⟩
  have hl : l.length ≤ 900000 := by omega
  have h40' : ¬ (40 : Int) < l.length := by omega
  have HO := hid (fun W (hW : Below w.heap.size w W) => order_any _ l 2 W (HV.out.below hW) hl)
  have HPk := hid (fun W (hW : Below w.heap.size w W) => pick_any _ l 2 W (HV.out.below hW) hl)
  cases ho : orderS l 2 with
  | nil =>
    have hoi : orderI l 2 = [] := by unfold orderI; rw [ho]; rfl
    have hpk : pickS l 2 = -1 := by unfold pickS; rw [ho]
    rw [hoi] at HO
    rw [hpk] at HPk
    clear ho hoi hpk
    go_wp2_with fail
    refine (HO.out _ HB1.out).mono ?_
    rintro e w2 ⟨u2, rfl, ho2, hb2⟩
    have HB2 := hid (HB1.out.trans (hb2.mono HB1.out.size))
    obtain ⟨po, co, rfl, _⟩ := ho2.sees.form
    clear ho2 hb2 HO
    go_wp2_with fail
    refine (HPk.out _ HB2.out).mono ?_
    rintro e w3 ⟨rfl, hb3⟩
    have HB3 := hid (HB2.out.trans (hb3.mono HB2.out.size))
    clear hb3 HPk
    go_wp2
    go_ret
    exact ⟨rfl, HB3.out⟩
  | cons m T =>
    clear HPk
    have hml : m < l.length := order_lt l 2 m (by rw [ho]; simp)
    have HLT := hid (show orderI (l.set m (l.getD m Px.zero).waits) 2 = (orderI l 2).drop 1 by unfold orderI; rw [less_tail l m T ho, ho]; rfl)
    have HLM := hid (fun (r : Px) (hr : r.st = 0) => show orderI (l ++ [r]) 2 = orderI l 2 by unfold orderI; rw [more_same l r hr])
    have hO0 : (orderI l 2).getD 0 0 = (m : Int) := by unfold orderI; rw [ho]; rfl
    have hO1 : 0 < (orderI l 2).length := by unfold orderI; rw [ho]; simp
    have hO2 : (orderI l 2).length ≤ 40 := by unfold orderI; rw [List.length_map]; have := order_le l 2; omega
    clear ho
    generalize orderI l 2 = O at *
    go_wp2_with fail
    refine (HO.out _ HB1.out).mono ?_
    rintro e w2 ⟨u2, rfl, ho2, hb2⟩
    have HB2 := hid (HB1.out.trans (hb2.mono HB1.out.size))
    have BX2 := hid (BX1.out.belowAll hb2)
    have HSO2 := hid ho2.sees
    obtain ⟨po, co, hvo, hs1, hs2, hsc⟩ := ho2.sees.form
    subst hvo
    obtain ⟨bo, oo, rfl, hbo, hcc⟩ := hsc hO1
    have c0 : w2.cell? ⟨bo, oo, none⟩ = some (.int .i64 m) := by have := hcc 0 hO1; rw [hO0] at this; exact this
    have hz2 : w.heap.size < w2.heap.size := BX2.out.lt
    have hm0 : ¬ ((m : Int) < 0) := by omega
    have hm1 : ¬ ((l.length : Int) ≤ (m : Int)) := by omega
    have hOne : (((O.length : Nat) : Int) == 0) = false := by simp; intro h; rw [h] at hO1; simp at hO1
    have hOl : (0 : Int) < (O.length : Int) := by omega
    clear hb2 HO hsc BX1
    have hbo1 : w1.heap.size ≤ bo := (ho2.lt bo rfl).1
    unfold maxLen at hs2
    have hs3 : co ≤ 9223372036854775807 := hs2
    have HCC := hid hcc
    clear ho2 hcc hs2 hO0
    have HS2 := hid (HV.out.below HB2.out)
    have HON := hid (OP.nil w2 w2.heap.size)
    have HLe := hid (show ([] : List Px).length + l.length ≤ 1000000 by simp; omega)
    have hsf := hid (show ∀ W, OP W w2.heap.size (.slice none 0 0) [] from fun W => OP.nil W _)
    go_upto_region 10 with (at_builtin
                            refine app_px rfl _ _ rfl w2.heap.size _ [] rfl HON.out _ l rfl HS2.out HLe.out (Nat.le_refl _) ?_
                            intro v' w3 ho3 hg3 hb3
                            rw [List.nil_append] at ho3
                            have HO3 := hid ho3
                            have HB3 := hid hb3
                            obtain ⟨g, cap, hv', hg1, hg2, hcap1, hcap2⟩ := ho3.form (by omega)
                            subst hv'
                            clear ho3 hg3 hb3 HON HS2)
    have d0 := (HB3.out.cell (by exact hbo)).trans c0
    have hA := (HO3.out.at m hml).st
    have hF := HO3.out.free (m * 18)
    have HO4 := hid (show OP (w3.setCell ⟨g, m * 18, none⟩ (.int .i64 2)) w2.heap.size (.slice (some ⟨g, 0, none⟩) l.length cap) (l.set m (l.getD m Px.zero).waits) from HO3.out.set m 0 hml (by decide) (l.getD m Px.zero).waits (.int .i64 2) (waits_cells _))
    have HB4 := hid (show Below w2.heap.size w2 (w3.setCell ⟨g, m * 18, none⟩ (.int .i64 2)) from HB3.out.setCell (show w2.heap.size ≤ (⟨g, m * 18, none⟩ : Addr).block from hg1) _)
    have hml2 : (m : Int) < l.length := by omega
    have BX3 := hid (BX2.out.below HB3.out hz2)
    have e0 : w3.cell? ⟨w.heap.size, 0, none⟩ = some (.int .i64 p.st) := (PxAt.box BX3.out).st
    have f0 := BX3.out.free 0
    have hgw : ¬ (g = w.heap.size) := by omega
    have hgw2 : ¬ (w.heap.size = g) := by omega
    have BX4 := hid (BX2.out.below HB4.out hz2)
    have BX5 := hid (show BoxAt ((w3.setCell ⟨g, m * 18, none⟩ (.int .i64 2)).setCell ⟨w.heap.size, 0, none⟩ (.int .i64 0)) w.heap.size 33 p.sleeps.cells.toArray from BX4.out.set 0 (.int .i64 0))
    have HB5 := hid (show Below w.heap.size w ((w3.setCell ⟨g, m * 18, none⟩ (.int .i64 2)).setCell ⟨w.heap.size, 0, none⟩ (.int .i64 0)) from (HB2.out.trans (HB4.out.mono (by omega))).setCell (show w.heap.size ≤ (⟨w.heap.size, 0, none⟩ : Addr).block from Nat.le_refl _) _)
    have HLE5 := hid (show ∀ b, b ≠ w.heap.size → b < w2.heap.size → ((w3.setCell ⟨g, m * 18, none⟩ (.int .i64 2)).setCell ⟨w.heap.size, 0, none⟩ (.int .i64 0)).heap[b]? = w2.heap[b]? from fun b h1 h2 => by rw [Below.heap_setCell _ _ _ _ (by exact h1)]; exact HB4.out.block b h2)
    have HO5 := hid (show OP ((w3.setCell ⟨g, m * 18, none⟩ (.int .i64 2)).setCell ⟨w.heap.size, 0, none⟩ (.int .i64 0)) w2.heap.size (.slice (some ⟨g, 0, none⟩) l.length cap) (l.set m (l.getD m Px.zero).waits) from
      World.ownsRow.kept (row := some w.heap.size) HO4.out ⟨rfl, rfl, rfl, by simp, fun k _ hk => Below.heap_setCell _ _ _ _ (fun e => hk (by rw [e]))⟩ (.inr (by intro e; simp [Value.ownBlock] at e; omega)))
    clear c0 BX2 BX3 BX4 HO4 HB4 HO3
    go_upto_region 12 with fail
    obtain ⟨W5, hW5⟩ : ∃ W, W = (w3.setCell ⟨g, m * 18, none⟩ (.int .i64 2)).setCell ⟨w.heap.size, 0, none⟩ (.int .i64 0) := ⟨_, rfl⟩
    rw [← hW5] at BX5 HB5 HLE5 HO5 ⊢
    clear hW5 d0 hA hF e0 f0
    have hlw : (l.set m (l.getD m Px.zero).waits).length ≤ 900000 := by rw [List.length_set]; exact hl
    have HLW := hid (show (l.set m (l.getD m Px.zero).waits).length = l.length from List.length_set)
    generalize l.set m (l.getD m Px.zero).waits = LW at *
    have hbne : bo ≠ w.heap.size := by omega
    have hcell5 : ∀ i, i < O.length → W5.cell? ⟨bo, oo + i, none⟩ = some (.int .i64 (O.getD i 0)) := fun i hi => by
      rw [← HCC.out i hi]
      unfold World.cell?
      rw [HLE5.out bo hbne hbo]
    have HSO5 := hid (show Sees W5 .i64 (.slice (some ⟨bo, oo, none⟩) O.length co) O from .inr ⟨_, co, rfl, hs1, hs3, fun i hi => by rw [add_none]; exact hcell5 i hi⟩)
    have hsd := Sees.dropped (k := .i64) (w := W5) 1 (show 1 ≤ O.length from hO1) hs1 hs3 hcell5
    have HOW := hid (fun W (hW : Below W5.heap.size W5 W) => by
      have := order_any _ LW 2 W ((HO5.out.below hW).sees) hlw
      rw [HLT.out] at this
      exact this)
    have HL5 := hid (HV.out.below HB5.out)
    clear hcell5 HLE5 HO5 HSO2 HCC
    have HSm := hid (fun (X : List Int) W va vb (ha : Sees W .i64 va X) (hb : Sees W .i64 vb X) => by
      have := same_any va vb X X W ha hb
      rw [decide_eq_true rfl] at this
      exact this)
    have hO3 : (1 : Int) ≤ (O.length : Int) := by omega
    clear HLT
    by_cases hco : co = 1
    · subst hco
      have hL1 : O.length = 1 := by omega
      rw [if_pos rfl, hL1] at hsd
      clear hL1
      refine wp_region_held_drew (S := (fun W' => Below W5.heap.size W5 W')) (by kernel_rfl) ((Below.refl _ _).drew) (fun hHeld => ?_)
      refine wpAnyH_take (i := 0) (oi := { dst := some 48, op := Op.move (Operand.tmp 7), type := 22, pos := "law.go:63", after := #[], guard := none }) (v := ?_) rfl (by kernel_rfl) (by kernel_rfl) (by kernel_rfl) (fun _ _ _ h => h) (Or.inl ⟨by rfl, ?_⟩) (by assumption) ?_
      rotate_left
      · (intro w hSw; (try dsimp only at hSw); go_simp; try with_reducible rfl)
      simp only [Act.put, List.setIfInBounds_toArray, List.set_cons_zero, List.set_cons_succ]
      refine wpAnyH_take (i := 2) (oi := { dst := some 50, op := Op.move (Operand.tmp 6), type := 25, pos := "law.go:63", after := #[], guard := none }) (v := ?_) rfl (by kernel_rfl) (by kernel_rfl) (by kernel_rfl) (fun _ _ _ h => h) (Or.inl ⟨by rfl, ?_⟩) (by assumption) ?_
      rotate_left
      · (intro w hSw; (try dsimp only at hSw); go_simp; try with_reducible rfl)
      simp only [Act.put, List.setIfInBounds_toArray, List.set_cons_zero, List.set_cons_succ]
      refine wpAnyH_take (i := 3) (oi := { dst := some 51, op := Op.slice 25 (Operand.tmp 50) (some (Operand.const (Value.int IntKind.i64 1))) none none, type := 25, pos := "law.go:63", after := #[{ on := 2, ground := Ground.data }], guard := none }) (v := ?_) rfl (by kernel_rfl) (by kernel_rfl) (by kernel_rfl) (fun _ _ _ h => h) (Or.inl ⟨by rfl, ?_⟩) (by assumption) ?_
      rotate_left
      · (intro w hSw; (try dsimp only at hSw); go_simp; try with_reducible rfl)
      simp only [Act.put, List.setIfInBounds_toArray, List.set_cons_zero, List.set_cons_succ]
      refine wpAnyH_ready (rs := [1]) (by kernel_rfl) (by simp) (AllReadyH.cons (o := { dst := some 49, op := Op.call { callee := Callee.value (Operand.func 11), args := #[Operand.tmp 48, Operand.const (Value.int IntKind.i64 2)], argTypes := #[22, 3] }, type := 25, pos := "law.go:63", after := #[{ on := 0, ground := Ground.data }], guard := none }) rfl (fun K1204 hK1204 => ?_) AllReadyH.nil)
      go_simp
      refine (HOW.out _ hHeld).mono ?_
      rintro e v7 ⟨u7, rfl, ho7, hb7⟩
      refine hK1204.out _ _ (Below.trans hHeld (Below.mono hb7 (Below.size hHeld))) (fun hHeld1204 => ?_)
      clear hK1204 K1204
      try simp only [Act.put, List.setIfInBounds_toArray, List.set_cons_zero, List.set_cons_succ]
      refine wpAnyH_ready (rs := [4]) (by kernel_rfl) (by simp) (AllReadyH.cons (o := { dst := some 52, op := Op.call { callee := Callee.value (Operand.func 10), args := #[Operand.tmp 49, Operand.tmp 51], argTypes := #[25, 25] }, type := 4, pos := "law.go:63", after := #[{ on := 1, ground := Ground.data }, { on := 3, ground := Ground.data }, { on := 1, ground := Ground.chain }], guard := none }) rfl (fun K1205 hK1205 => ?_) AllReadyH.nil)
      go_simp
      refine (HSm.out _ _ _ _ ho7.sees (hsd.below hHeld1204)).mono ?_
      rintro e W6 ⟨rfl, hb8⟩
      refine hK1205.out _ _ (Below.trans hHeld1204 (Below.mono hb8 (Below.size hHeld1204))) (fun hHeld1205 => ?_)
      clear hK1205 K1205
      try simp only [Act.put, List.setIfInBounds_toArray, List.set_cons_zero, List.set_cons_succ]
      refine wpAnyH_take (i := 5) (oi := { dst := some 8, op := Op.assign (Operand.tmp 52), type := 4, pos := "law.go:63", after := #[{ on := 4, ground := Ground.data }, { on := 4, ground := Ground.chain }, { on := 0, ground := Ground.phase }, { on := 1, ground := Ground.phase }, { on := 2, ground := Ground.phase }, { on := 3, ground := Ground.phase }, { on := 4, ground := Ground.phase }], guard := none }) (v := ?_) rfl (by kernel_rfl) (by kernel_rfl) (by kernel_rfl) (fun _ _ _ h => h) (Or.inl ⟨by rfl, ?_⟩) (by assumption) ?_
      rotate_left
      · (intro w hSw; (try dsimp only at hSw); go_simp; try with_reducible rfl)
      simp only [Act.put, List.setIfInBounds_toArray, List.set_cons_zero, List.set_cons_succ]
      refine wpAnyH_done (by kernel_rfl) ?_ _
      have HB6 := hid hHeld1205
      clear hHeld hHeld1204 hHeld1205
      skip
      have HSO6 := hid (HSO5.out.below HB6.out)
      have BX6 := hid (BX5.out.belowAll HB6.out)
      have HL6 := hid (HL5.out.below HB6.out)
      have HB7 := hid (HB5.out.trans (HB6.out.mono HB5.out.size))
      obtain ⟨r, hr⟩ : ∃ r, r = p.sleeps := ⟨_, rfl⟩
      rw [← hr] at BX6
      have hr0 : r.st = 0 := by rw [hr]; rfl
      have HOM := hid (fun W v (ho : OP W W6.heap.size v (l ++ [r])) => by
        have := order_any v (l ++ [r]) 2 W ho.sees (by simp; omega)
        rw [HLM.out r hr0] at this
        exact this)
      have HPX := hid (fun W' (h : Below W6.heap.size W6 W') => (PxAt.box BX6.out).below h BX6.out.lt)
      have HLf := hid (show l.length + [r].length ≤ 1000000 by simp; omega)
      have hq9 : (true && true) = true := rfl
      clear hq9 hr hr0 HSO5 BX5 HL5 HB6 HLM HOW hsd BX6
      go_wp2_with fail
      refine wp_region_held_drew (S := (fun W' => Below W6.heap.size W6 W')) (by kernel_rfl) ((Below.refl _ _).drew) (fun hHeld => ?_)
      refine wpAnyH_take (i := 0) (oi := { dst := some 53, op := Op.move (Operand.tmp 0), type := 22, pos := "law.go:64", after := #[], guard := none }) (v := ?_) rfl (by kernel_rfl) (by kernel_rfl) (by kernel_rfl) (fun _ _ _ h => h) (Or.inl ⟨by rfl, ?_⟩) (by assumption) ?_
      rotate_left
      · (intro w hSw; (try dsimp only at hSw); go_simp; try with_reducible rfl)
      simp only [Act.put, List.setIfInBounds_toArray, List.set_cons_zero, List.set_cons_succ]
      refine wpAnyH_take (i := 2) (oi := { dst := some 55, op := Op.load 33 (Operand.tmp 3), type := 33, pos := "law.go:64", after := #[], guard := none }) (v := ?_) rfl (by kernel_rfl) (by kernel_rfl) (by kernel_rfl) (fun _ _ _ h => h) (Or.inl ⟨by rfl, ?_⟩) (by assumption) ?_
      rotate_left
      · (intro W' hSw; refine px_yields (.tmp 3) ?_ w.heap.size 0 ?_ r (HPX.out W' hSw) <;> rfl)
      simp only [Act.put, List.setIfInBounds_toArray, List.set_cons_zero, List.set_cons_succ]
      refine wpAnyH_take (i := 6) (oi := { dst := some 59, op := Op.move (Operand.tmp 6), type := 25, pos := "law.go:64", after := #[], guard := none }) (v := ?_) rfl (by kernel_rfl) (by kernel_rfl) (by kernel_rfl) (fun _ _ _ h => h) (Or.inl ⟨by rfl, ?_⟩) (by assumption) ?_
      rotate_left
      · (intro w hSw; (try dsimp only at hSw); go_simp; try with_reducible rfl)
      simp only [Act.put, List.setIfInBounds_toArray, List.set_cons_zero, List.set_cons_succ]
      refine wpAnyH_ready (rs := [1, 3]) (by kernel_rfl) (by simp) (AllReadyH.cons (o := { dst := some 54, op := Op.call { callee := Callee.builtin Builtin.append, args := #[Operand.const (Value.slice none 0 0), Operand.tmp 53], argTypes := #[22, 22] }, type := 22, pos := "law.go:64", after := #[{ on := 0, ground := Ground.data }], guard := none }) rfl (fun K1404 hK1404 => ?b1404_1) (AllReadyH.cons (o := { dst := some 56, op := Op.buildSlice 22 1 #[(0, Operand.tmp 55)], type := 22, pos := "law.go:64", after := #[{ on := 2, ground := Ground.data }], guard := none }) rfl (fun K1404 hK1404 => ?b1404_3) AllReadyH.nil))
      case' b1404_1 =>
        refine step_app_px rfl (.const (.slice none 0 0)) (.tmp 53) rfl W6.heap.size (.slice none 0 0) [] rfl (OP.nil _ _) _ l rfl (HL6.out.below hHeld) HLe.out (Below.size hHeld) ?_
        intro v7 w7 ho7 hg7 hb7
        rw [List.nil_append] at ho7
        have HOx := hid ho7
        refine hK1404.out _ _ (Below.trans hHeld hb7) (fun hHeld1404 => ?_)
        clear hK1404 K1404
        try simp only [Act.put, List.setIfInBounds_toArray, List.set_cons_zero, List.set_cons_succ]
        refine wpAnyH_ready (rs := [3]) (by kernel_rfl) (by simp) (AllReadyH.cons (o := { dst := some 56, op := Op.buildSlice 22 1 #[(0, Operand.tmp 55)], type := 22, pos := "law.go:64", after := #[{ on := 2, ground := Ground.data }], guard := none }) rfl (fun K1405 hK1405 => ?_) AllReadyH.nil)
        simp only [Px.val]
        go_simp
        have HSx := hid (SeesPx.box (BoxAt.new w7 33 r.cells.toArray))
        replace HOx := hid (HOx.out.below ((Below.refl _ _).alloc (Nat.le_refl _) (.cells r.cells.toArray 33)))
        refine hK1405.out _ _ (Below.alloc hHeld1404 (Below.size hHeld1404) _) (fun hHeld1405 => ?_)
        clear hK1405 K1405
        try simp only [Act.put, List.setIfInBounds_toArray, List.set_cons_zero, List.set_cons_succ]
        refine wpAnyH_ready (rs := [4]) (by kernel_rfl) (by simp) (AllReadyH.cons (o := { dst := some 57, op := Op.call { callee := Callee.builtin Builtin.append, args := #[Operand.tmp 54, Operand.tmp 56], argTypes := #[22, 22] }, type := 22, pos := "law.go:64", after := #[{ on := 1, ground := Ground.data }, { on := 3, ground := Ground.data }, { on := 1, ground := Ground.chain }], guard := none }) rfl (fun K1406 hK1406 => ?_) AllReadyH.nil)
        refine step_app_px rfl (.tmp 54) (.tmp 56) rfl W6.heap.size _ l rfl HOx.out _ [r] rfl HSx.out HLf.out (Below.size hHeld1405) ?_
        intro v8 w8 ho8 hg8 hb8
        refine hK1406.out _ _ (Below.trans hHeld1405 hb8) (fun hHeld1406 => ?_)
        clear hK1406 K1406
        try simp only [Act.put, List.setIfInBounds_toArray, List.set_cons_zero, List.set_cons_succ]
        refine wpAnyH_ready (rs := [5]) (by kernel_rfl) (by simp) (AllReadyH.cons (o := { dst := some 58, op := Op.call { callee := Callee.value (Operand.func 11), args := #[Operand.tmp 57, Operand.const (Value.int IntKind.i64 2)], argTypes := #[22, 3] }, type := 25, pos := "law.go:64", after := #[{ on := 4, ground := Ground.data }, { on := 4, ground := Ground.chain }], guard := none }) rfl (fun K1407 hK1407 => ?_) AllReadyH.nil)
        go_simp
        refine (HOM.out _ _ ho8).mono ?_
        rintro e w9 ⟨u9, rfl, ho9, hb9⟩
        refine hK1407.out _ _ (Below.trans hHeld1406 (Below.mono hb9 (Below.size hHeld1406))) (fun hHeld1407 => ?_)
        clear hK1407 K1407
        try simp only [Act.put, List.setIfInBounds_toArray, List.set_cons_zero, List.set_cons_succ]
        refine wpAnyH_ready (rs := [7]) (by kernel_rfl) (by simp) (AllReadyH.cons (o := { dst := some 60, op := Op.call { callee := Callee.value (Operand.func 10), args := #[Operand.tmp 58, Operand.tmp 59], argTypes := #[25, 25] }, type := 4, pos := "law.go:64", after := #[{ on := 5, ground := Ground.data }, { on := 6, ground := Ground.data }, { on := 5, ground := Ground.chain }], guard := none }) rfl (fun K1408 hK1408 => ?_) AllReadyH.nil)
        go_simp
        refine (HSm.out _ _ _ _ ho9.sees (HSO6.out.below hHeld1407)).mono ?_
        rintro e w10 ⟨rfl, hb10⟩
        refine hK1408.out _ _ (Below.trans hHeld1407 (Below.mono hb10 (Below.size hHeld1407))) (fun hHeld1408 => ?_)
        clear hK1408 K1408
        try simp only [Act.put, List.setIfInBounds_toArray, List.set_cons_zero, List.set_cons_succ]
        refine wpAnyH_take (i := 8) (oi := { dst := some 9, op := Op.assign (Operand.tmp 60), type := 4, pos := "law.go:64", after := #[{ on := 7, ground := Ground.data }, { on := 7, ground := Ground.chain }, { on := 0, ground := Ground.phase }, { on := 1, ground := Ground.phase }, { on := 2, ground := Ground.phase }, { on := 3, ground := Ground.phase }, { on := 4, ground := Ground.phase }, { on := 5, ground := Ground.phase }, { on := 6, ground := Ground.phase }, { on := 7, ground := Ground.phase }], guard := none }) (v := ?_) rfl (by kernel_rfl) (by kernel_rfl) (by kernel_rfl) (fun _ _ _ h => h) (Or.inl ⟨by rfl, ?_⟩) (by assumption) ?_
        rotate_left
        · (intro w hSw; (try dsimp only at hSw); go_simp; try with_reducible rfl)
        simp only [Act.put, List.setIfInBounds_toArray, List.set_cons_zero, List.set_cons_succ]
        refine wpAnyH_done (by kernel_rfl) ?_ _
        have HB8 := hid (HB7.out.trans (Below.mono hHeld1408 HB7.out.size))
        clear hHeld hHeld1404 hHeld1405 hHeld1406 hHeld1407 hHeld1408
        go_wp2
        go_ret
        exact ⟨rfl, HB8.out⟩
      case' b1404_3 =>
        simp only [Px.val]
        go_simp
        have BXx := hid (BoxAt.new W6.drew 33 r.cells.toArray)
        refine hK1404.out _ _ (Below.alloc hHeld (Below.size hHeld) _) (fun hHeld1404 => ?_)
        clear hK1404 K1404
        try simp only [Act.put, List.setIfInBounds_toArray, List.set_cons_zero, List.set_cons_succ]
        refine wpAnyH_ready (rs := [1]) (by kernel_rfl) (by simp) (AllReadyH.cons (o := { dst := some 54, op := Op.call { callee := Callee.builtin Builtin.append, args := #[Operand.const (Value.slice none 0 0), Operand.tmp 53], argTypes := #[22, 22] }, type := 22, pos := "law.go:64", after := #[{ on := 0, ground := Ground.data }], guard := none }) rfl (fun K1410 hK1410 => ?_) AllReadyH.nil)
        refine step_app_px rfl (.const (.slice none 0 0)) (.tmp 53) rfl W6.heap.size (.slice none 0 0) [] rfl (OP.nil _ _) _ l rfl (HL6.out.below hHeld1404) HLe.out (Below.size hHeld1404) ?_
        intro v7 w7 ho7 hg7 hb7
        rw [List.nil_append] at ho7
        have HSx := hid (SeesPx.box (BXx.out.grown hg7 (by simp [Value.ownBlock])))
        have HOx := hid ho7
        refine hK1410.out _ _ (Below.trans hHeld1404 hb7) (fun hHeld1410 => ?_)
        clear hK1410 K1410
        try simp only [Act.put, List.setIfInBounds_toArray, List.set_cons_zero, List.set_cons_succ]
        refine wpAnyH_ready (rs := [4]) (by kernel_rfl) (by simp) (AllReadyH.cons (o := { dst := some 57, op := Op.call { callee := Callee.builtin Builtin.append, args := #[Operand.tmp 54, Operand.tmp 56], argTypes := #[22, 22] }, type := 22, pos := "law.go:64", after := #[{ on := 1, ground := Ground.data }, { on := 3, ground := Ground.data }, { on := 1, ground := Ground.chain }], guard := none }) rfl (fun K1411 hK1411 => ?_) AllReadyH.nil)
        refine step_app_px rfl (.tmp 54) (.tmp 56) rfl W6.heap.size _ l rfl HOx.out _ [r] rfl HSx.out HLf.out (Below.size hHeld1410) ?_
        intro v8 w8 ho8 hg8 hb8
        refine hK1411.out _ _ (Below.trans hHeld1410 hb8) (fun hHeld1411 => ?_)
        clear hK1411 K1411
        try simp only [Act.put, List.setIfInBounds_toArray, List.set_cons_zero, List.set_cons_succ]
        refine wpAnyH_ready (rs := [5]) (by kernel_rfl) (by simp) (AllReadyH.cons (o := { dst := some 58, op := Op.call { callee := Callee.value (Operand.func 11), args := #[Operand.tmp 57, Operand.const (Value.int IntKind.i64 2)], argTypes := #[22, 3] }, type := 25, pos := "law.go:64", after := #[{ on := 4, ground := Ground.data }, { on := 4, ground := Ground.chain }], guard := none }) rfl (fun K1412 hK1412 => ?_) AllReadyH.nil)
        go_simp
        refine (HOM.out _ _ ho8).mono ?_
        rintro e w9 ⟨u9, rfl, ho9, hb9⟩
        refine hK1412.out _ _ (Below.trans hHeld1411 (Below.mono hb9 (Below.size hHeld1411))) (fun hHeld1412 => ?_)
        clear hK1412 K1412
        try simp only [Act.put, List.setIfInBounds_toArray, List.set_cons_zero, List.set_cons_succ]
        refine wpAnyH_ready (rs := [7]) (by kernel_rfl) (by simp) (AllReadyH.cons (o := { dst := some 60, op := Op.call { callee := Callee.value (Operand.func 10), args := #[Operand.tmp 58, Operand.tmp 59], argTypes := #[25, 25] }, type := 4, pos := "law.go:64", after := #[{ on := 5, ground := Ground.data }, { on := 6, ground := Ground.data }, { on := 5, ground := Ground.chain }], guard := none }) rfl (fun K1413 hK1413 => ?_) AllReadyH.nil)
        go_simp
        refine (HSm.out _ _ _ _ ho9.sees (HSO6.out.below hHeld1412)).mono ?_
        rintro e w10 ⟨rfl, hb10⟩
        refine hK1413.out _ _ (Below.trans hHeld1412 (Below.mono hb10 (Below.size hHeld1412))) (fun hHeld1413 => ?_)
        clear hK1413 K1413
        try simp only [Act.put, List.setIfInBounds_toArray, List.set_cons_zero, List.set_cons_succ]
        refine wpAnyH_take (i := 8) (oi := { dst := some 9, op := Op.assign (Operand.tmp 60), type := 4, pos := "law.go:64", after := #[{ on := 7, ground := Ground.data }, { on := 7, ground := Ground.chain }, { on := 0, ground := Ground.phase }, { on := 1, ground := Ground.phase }, { on := 2, ground := Ground.phase }, { on := 3, ground := Ground.phase }, { on := 4, ground := Ground.phase }, { on := 5, ground := Ground.phase }, { on := 6, ground := Ground.phase }, { on := 7, ground := Ground.phase }], guard := none }) (v := ?_) rfl (by kernel_rfl) (by kernel_rfl) (by kernel_rfl) (fun _ _ _ h => h) (Or.inl ⟨by rfl, ?_⟩) (by assumption) ?_
        rotate_left
        · (intro w hSw; (try dsimp only at hSw); go_simp; try with_reducible rfl)
        simp only [Act.put, List.setIfInBounds_toArray, List.set_cons_zero, List.set_cons_succ]
        refine wpAnyH_done (by kernel_rfl) ?_ _
        have HB8 := hid (HB7.out.trans (Below.mono hHeld1413 HB7.out.size))
        clear hHeld hHeld1404 hHeld1410 hHeld1411 hHeld1412 hHeld1413
        go_wp2
        go_ret
        exact ⟨rfl, HB8.out⟩
    · rw [if_neg hco] at hsd
      refine wp_region_held_drew (S := (fun W' => Below W5.heap.size W5 W')) (by kernel_rfl) ((Below.refl _ _).drew) (fun hHeld => ?_)
      refine wpAnyH_take (i := 0) (oi := { dst := some 48, op := Op.move (Operand.tmp 7), type := 22, pos := "law.go:63", after := #[], guard := none }) (v := ?_) rfl (by kernel_rfl) (by kernel_rfl) (by kernel_rfl) (fun _ _ _ h => h) (Or.inl ⟨by rfl, ?_⟩) (by assumption) ?_
      rotate_left
      · (intro w hSw; (try dsimp only at hSw); go_simp; try with_reducible rfl)
      simp only [Act.put, List.setIfInBounds_toArray, List.set_cons_zero, List.set_cons_succ]
      refine wpAnyH_take (i := 2) (oi := { dst := some 50, op := Op.move (Operand.tmp 6), type := 25, pos := "law.go:63", after := #[], guard := none }) (v := ?_) rfl (by kernel_rfl) (by kernel_rfl) (by kernel_rfl) (fun _ _ _ h => h) (Or.inl ⟨by rfl, ?_⟩) (by assumption) ?_
      rotate_left
      · (intro w hSw; (try dsimp only at hSw); go_simp; try with_reducible rfl)
      simp only [Act.put, List.setIfInBounds_toArray, List.set_cons_zero, List.set_cons_succ]
      refine wpAnyH_take (i := 3) (oi := { dst := some 51, op := Op.slice 25 (Operand.tmp 50) (some (Operand.const (Value.int IntKind.i64 1))) none none, type := 25, pos := "law.go:63", after := #[{ on := 2, ground := Ground.data }], guard := none }) (v := ?_) rfl (by kernel_rfl) (by kernel_rfl) (by kernel_rfl) (fun _ _ _ h => h) (Or.inl ⟨by rfl, ?_⟩) (by assumption) ?_
      rotate_left
      · (intro w hSw; (try dsimp only at hSw); go_simp; try with_reducible rfl)
      simp only [Act.put, List.setIfInBounds_toArray, List.set_cons_zero, List.set_cons_succ]
      refine wpAnyH_ready (rs := [1]) (by kernel_rfl) (by simp) (AllReadyH.cons (o := { dst := some 49, op := Op.call { callee := Callee.value (Operand.func 11), args := #[Operand.tmp 48, Operand.const (Value.int IntKind.i64 2)], argTypes := #[22, 3] }, type := 25, pos := "law.go:63", after := #[{ on := 0, ground := Ground.data }], guard := none }) rfl (fun K1304 hK1304 => ?_) AllReadyH.nil)
      go_simp
      refine (HOW.out _ hHeld).mono ?_
      rintro e v7 ⟨u7, rfl, ho7, hb7⟩
      refine hK1304.out _ _ (Below.trans hHeld (Below.mono hb7 (Below.size hHeld))) (fun hHeld1304 => ?_)
      clear hK1304 K1304
      try simp only [Act.put, List.setIfInBounds_toArray, List.set_cons_zero, List.set_cons_succ]
      refine wpAnyH_ready (rs := [4]) (by kernel_rfl) (by simp) (AllReadyH.cons (o := { dst := some 52, op := Op.call { callee := Callee.value (Operand.func 10), args := #[Operand.tmp 49, Operand.tmp 51], argTypes := #[25, 25] }, type := 4, pos := "law.go:63", after := #[{ on := 1, ground := Ground.data }, { on := 3, ground := Ground.data }, { on := 1, ground := Ground.chain }], guard := none }) rfl (fun K1305 hK1305 => ?_) AllReadyH.nil)
      go_simp
      refine (HSm.out _ _ _ _ ho7.sees (hsd.below hHeld1304)).mono ?_
      rintro e W6 ⟨rfl, hb8⟩
      refine hK1305.out _ _ (Below.trans hHeld1304 (Below.mono hb8 (Below.size hHeld1304))) (fun hHeld1305 => ?_)
      clear hK1305 K1305
      try simp only [Act.put, List.setIfInBounds_toArray, List.set_cons_zero, List.set_cons_succ]
      refine wpAnyH_take (i := 5) (oi := { dst := some 8, op := Op.assign (Operand.tmp 52), type := 4, pos := "law.go:63", after := #[{ on := 4, ground := Ground.data }, { on := 4, ground := Ground.chain }, { on := 0, ground := Ground.phase }, { on := 1, ground := Ground.phase }, { on := 2, ground := Ground.phase }, { on := 3, ground := Ground.phase }, { on := 4, ground := Ground.phase }], guard := none }) (v := ?_) rfl (by kernel_rfl) (by kernel_rfl) (by kernel_rfl) (fun _ _ _ h => h) (Or.inl ⟨by rfl, ?_⟩) (by assumption) ?_
      rotate_left
      · (intro w hSw; (try dsimp only at hSw); go_simp; try with_reducible rfl)
      simp only [Act.put, List.setIfInBounds_toArray, List.set_cons_zero, List.set_cons_succ]
      refine wpAnyH_done (by kernel_rfl) ?_ _
      have HB6 := hid hHeld1305
      clear hHeld hHeld1304 hHeld1305
      skip
      have HSO6 := hid (HSO5.out.below HB6.out)
      have BX6 := hid (BX5.out.belowAll HB6.out)
      have HL6 := hid (HL5.out.below HB6.out)
      have HB7 := hid (HB5.out.trans (HB6.out.mono HB5.out.size))
      obtain ⟨r, hr⟩ : ∃ r, r = p.sleeps := ⟨_, rfl⟩
      rw [← hr] at BX6
      have hr0 : r.st = 0 := by rw [hr]; rfl
      have HOM := hid (fun W v (ho : OP W W6.heap.size v (l ++ [r])) => by
        have := order_any v (l ++ [r]) 2 W ho.sees (by simp; omega)
        rw [HLM.out r hr0] at this
        exact this)
      have HPX := hid (fun W' (h : Below W6.heap.size W6 W') => (PxAt.box BX6.out).below h BX6.out.lt)
      have HLf := hid (show l.length + [r].length ≤ 1000000 by simp; omega)
      have hq9 : (true && true) = true := rfl
      clear hq9 hr hr0 HSO5 BX5 HL5 HB6 HLM HOW hsd BX6
      go_wp2_with fail
      refine wp_region_held_drew (S := (fun W' => Below W6.heap.size W6 W')) (by kernel_rfl) ((Below.refl _ _).drew) (fun hHeld => ?_)
      refine wpAnyH_take (i := 0) (oi := { dst := some 53, op := Op.move (Operand.tmp 0), type := 22, pos := "law.go:64", after := #[], guard := none }) (v := ?_) rfl (by kernel_rfl) (by kernel_rfl) (by kernel_rfl) (fun _ _ _ h => h) (Or.inl ⟨by rfl, ?_⟩) (by assumption) ?_
      rotate_left
      · (intro w hSw; (try dsimp only at hSw); go_simp; try with_reducible rfl)
      simp only [Act.put, List.setIfInBounds_toArray, List.set_cons_zero, List.set_cons_succ]
      refine wpAnyH_take (i := 2) (oi := { dst := some 55, op := Op.load 33 (Operand.tmp 3), type := 33, pos := "law.go:64", after := #[], guard := none }) (v := ?_) rfl (by kernel_rfl) (by kernel_rfl) (by kernel_rfl) (fun _ _ _ h => h) (Or.inl ⟨by rfl, ?_⟩) (by assumption) ?_
      rotate_left
      · (intro W' hSw; refine px_yields (.tmp 3) ?_ w.heap.size 0 ?_ r (HPX.out W' hSw) <;> rfl)
      simp only [Act.put, List.setIfInBounds_toArray, List.set_cons_zero, List.set_cons_succ]
      refine wpAnyH_take (i := 6) (oi := { dst := some 59, op := Op.move (Operand.tmp 6), type := 25, pos := "law.go:64", after := #[], guard := none }) (v := ?_) rfl (by kernel_rfl) (by kernel_rfl) (by kernel_rfl) (fun _ _ _ h => h) (Or.inl ⟨by rfl, ?_⟩) (by assumption) ?_
      rotate_left
      · (intro w hSw; (try dsimp only at hSw); go_simp; try with_reducible rfl)
      simp only [Act.put, List.setIfInBounds_toArray, List.set_cons_zero, List.set_cons_succ]
      refine wpAnyH_ready (rs := [1, 3]) (by kernel_rfl) (by simp) (AllReadyH.cons (o := { dst := some 54, op := Op.call { callee := Callee.builtin Builtin.append, args := #[Operand.const (Value.slice none 0 0), Operand.tmp 53], argTypes := #[22, 22] }, type := 22, pos := "law.go:64", after := #[{ on := 0, ground := Ground.data }], guard := none }) rfl (fun K1604 hK1604 => ?b1604_1) (AllReadyH.cons (o := { dst := some 56, op := Op.buildSlice 22 1 #[(0, Operand.tmp 55)], type := 22, pos := "law.go:64", after := #[{ on := 2, ground := Ground.data }], guard := none }) rfl (fun K1604 hK1604 => ?b1604_3) AllReadyH.nil))
      case' b1604_1 =>
        refine step_app_px rfl (.const (.slice none 0 0)) (.tmp 53) rfl W6.heap.size (.slice none 0 0) [] rfl (OP.nil _ _) _ l rfl (HL6.out.below hHeld) HLe.out (Below.size hHeld) ?_
        intro v7 w7 ho7 hg7 hb7
        rw [List.nil_append] at ho7
        have HOx := hid ho7
        refine hK1604.out _ _ (Below.trans hHeld hb7) (fun hHeld1604 => ?_)
        clear hK1604 K1604
        try simp only [Act.put, List.setIfInBounds_toArray, List.set_cons_zero, List.set_cons_succ]
        refine wpAnyH_ready (rs := [3]) (by kernel_rfl) (by simp) (AllReadyH.cons (o := { dst := some 56, op := Op.buildSlice 22 1 #[(0, Operand.tmp 55)], type := 22, pos := "law.go:64", after := #[{ on := 2, ground := Ground.data }], guard := none }) rfl (fun K1605 hK1605 => ?_) AllReadyH.nil)
        simp only [Px.val]
        go_simp
        have HSx := hid (SeesPx.box (BoxAt.new w7 33 r.cells.toArray))
        replace HOx := hid (HOx.out.below ((Below.refl _ _).alloc (Nat.le_refl _) (.cells r.cells.toArray 33)))
        refine hK1605.out _ _ (Below.alloc hHeld1604 (Below.size hHeld1604) _) (fun hHeld1605 => ?_)
        clear hK1605 K1605
        try simp only [Act.put, List.setIfInBounds_toArray, List.set_cons_zero, List.set_cons_succ]
        refine wpAnyH_ready (rs := [4]) (by kernel_rfl) (by simp) (AllReadyH.cons (o := { dst := some 57, op := Op.call { callee := Callee.builtin Builtin.append, args := #[Operand.tmp 54, Operand.tmp 56], argTypes := #[22, 22] }, type := 22, pos := "law.go:64", after := #[{ on := 1, ground := Ground.data }, { on := 3, ground := Ground.data }, { on := 1, ground := Ground.chain }], guard := none }) rfl (fun K1606 hK1606 => ?_) AllReadyH.nil)
        refine step_app_px rfl (.tmp 54) (.tmp 56) rfl W6.heap.size _ l rfl HOx.out _ [r] rfl HSx.out HLf.out (Below.size hHeld1605) ?_
        intro v8 w8 ho8 hg8 hb8
        refine hK1606.out _ _ (Below.trans hHeld1605 hb8) (fun hHeld1606 => ?_)
        clear hK1606 K1606
        try simp only [Act.put, List.setIfInBounds_toArray, List.set_cons_zero, List.set_cons_succ]
        refine wpAnyH_ready (rs := [5]) (by kernel_rfl) (by simp) (AllReadyH.cons (o := { dst := some 58, op := Op.call { callee := Callee.value (Operand.func 11), args := #[Operand.tmp 57, Operand.const (Value.int IntKind.i64 2)], argTypes := #[22, 3] }, type := 25, pos := "law.go:64", after := #[{ on := 4, ground := Ground.data }, { on := 4, ground := Ground.chain }], guard := none }) rfl (fun K1607 hK1607 => ?_) AllReadyH.nil)
        go_simp
        refine (HOM.out _ _ ho8).mono ?_
        rintro e w9 ⟨u9, rfl, ho9, hb9⟩
        refine hK1607.out _ _ (Below.trans hHeld1606 (Below.mono hb9 (Below.size hHeld1606))) (fun hHeld1607 => ?_)
        clear hK1607 K1607
        try simp only [Act.put, List.setIfInBounds_toArray, List.set_cons_zero, List.set_cons_succ]
        refine wpAnyH_ready (rs := [7]) (by kernel_rfl) (by simp) (AllReadyH.cons (o := { dst := some 60, op := Op.call { callee := Callee.value (Operand.func 10), args := #[Operand.tmp 58, Operand.tmp 59], argTypes := #[25, 25] }, type := 4, pos := "law.go:64", after := #[{ on := 5, ground := Ground.data }, { on := 6, ground := Ground.data }, { on := 5, ground := Ground.chain }], guard := none }) rfl (fun K1608 hK1608 => ?_) AllReadyH.nil)
        go_simp
        refine (HSm.out _ _ _ _ ho9.sees (HSO6.out.below hHeld1607)).mono ?_
        rintro e w10 ⟨rfl, hb10⟩
        refine hK1608.out _ _ (Below.trans hHeld1607 (Below.mono hb10 (Below.size hHeld1607))) (fun hHeld1608 => ?_)
        clear hK1608 K1608
        try simp only [Act.put, List.setIfInBounds_toArray, List.set_cons_zero, List.set_cons_succ]
        refine wpAnyH_take (i := 8) (oi := { dst := some 9, op := Op.assign (Operand.tmp 60), type := 4, pos := "law.go:64", after := #[{ on := 7, ground := Ground.data }, { on := 7, ground := Ground.chain }, { on := 0, ground := Ground.phase }, { on := 1, ground := Ground.phase }, { on := 2, ground := Ground.phase }, { on := 3, ground := Ground.phase }, { on := 4, ground := Ground.phase }, { on := 5, ground := Ground.phase }, { on := 6, ground := Ground.phase }, { on := 7, ground := Ground.phase }], guard := none }) (v := ?_) rfl (by kernel_rfl) (by kernel_rfl) (by kernel_rfl) (fun _ _ _ h => h) (Or.inl ⟨by rfl, ?_⟩) (by assumption) ?_
        rotate_left
        · (intro w hSw; (try dsimp only at hSw); go_simp; try with_reducible rfl)
        simp only [Act.put, List.setIfInBounds_toArray, List.set_cons_zero, List.set_cons_succ]
        refine wpAnyH_done (by kernel_rfl) ?_ _
        have HB8 := hid (HB7.out.trans (Below.mono hHeld1608 HB7.out.size))
        clear hHeld hHeld1604 hHeld1605 hHeld1606 hHeld1607 hHeld1608
        go_wp2
        go_ret
        exact ⟨rfl, HB8.out⟩
      case' b1604_3 =>
        simp only [Px.val]
        go_simp
        have BXx := hid (BoxAt.new W6.drew 33 r.cells.toArray)
        refine hK1604.out _ _ (Below.alloc hHeld (Below.size hHeld) _) (fun hHeld1604 => ?_)
        clear hK1604 K1604
        try simp only [Act.put, List.setIfInBounds_toArray, List.set_cons_zero, List.set_cons_succ]
        refine wpAnyH_ready (rs := [1]) (by kernel_rfl) (by simp) (AllReadyH.cons (o := { dst := some 54, op := Op.call { callee := Callee.builtin Builtin.append, args := #[Operand.const (Value.slice none 0 0), Operand.tmp 53], argTypes := #[22, 22] }, type := 22, pos := "law.go:64", after := #[{ on := 0, ground := Ground.data }], guard := none }) rfl (fun K1610 hK1610 => ?_) AllReadyH.nil)
        refine step_app_px rfl (.const (.slice none 0 0)) (.tmp 53) rfl W6.heap.size (.slice none 0 0) [] rfl (OP.nil _ _) _ l rfl (HL6.out.below hHeld1604) HLe.out (Below.size hHeld1604) ?_
        intro v7 w7 ho7 hg7 hb7
        rw [List.nil_append] at ho7
        have HSx := hid (SeesPx.box (BXx.out.grown hg7 (by simp [Value.ownBlock])))
        have HOx := hid ho7
        refine hK1610.out _ _ (Below.trans hHeld1604 hb7) (fun hHeld1610 => ?_)
        clear hK1610 K1610
        try simp only [Act.put, List.setIfInBounds_toArray, List.set_cons_zero, List.set_cons_succ]
        refine wpAnyH_ready (rs := [4]) (by kernel_rfl) (by simp) (AllReadyH.cons (o := { dst := some 57, op := Op.call { callee := Callee.builtin Builtin.append, args := #[Operand.tmp 54, Operand.tmp 56], argTypes := #[22, 22] }, type := 22, pos := "law.go:64", after := #[{ on := 1, ground := Ground.data }, { on := 3, ground := Ground.data }, { on := 1, ground := Ground.chain }], guard := none }) rfl (fun K1611 hK1611 => ?_) AllReadyH.nil)
        refine step_app_px rfl (.tmp 54) (.tmp 56) rfl W6.heap.size _ l rfl HOx.out _ [r] rfl HSx.out HLf.out (Below.size hHeld1610) ?_
        intro v8 w8 ho8 hg8 hb8
        refine hK1611.out _ _ (Below.trans hHeld1610 hb8) (fun hHeld1611 => ?_)
        clear hK1611 K1611
        try simp only [Act.put, List.setIfInBounds_toArray, List.set_cons_zero, List.set_cons_succ]
        refine wpAnyH_ready (rs := [5]) (by kernel_rfl) (by simp) (AllReadyH.cons (o := { dst := some 58, op := Op.call { callee := Callee.value (Operand.func 11), args := #[Operand.tmp 57, Operand.const (Value.int IntKind.i64 2)], argTypes := #[22, 3] }, type := 25, pos := "law.go:64", after := #[{ on := 4, ground := Ground.data }, { on := 4, ground := Ground.chain }], guard := none }) rfl (fun K1612 hK1612 => ?_) AllReadyH.nil)
        go_simp
        refine (HOM.out _ _ ho8).mono ?_
        rintro e w9 ⟨u9, rfl, ho9, hb9⟩
        refine hK1612.out _ _ (Below.trans hHeld1611 (Below.mono hb9 (Below.size hHeld1611))) (fun hHeld1612 => ?_)
        clear hK1612 K1612
        try simp only [Act.put, List.setIfInBounds_toArray, List.set_cons_zero, List.set_cons_succ]
        refine wpAnyH_ready (rs := [7]) (by kernel_rfl) (by simp) (AllReadyH.cons (o := { dst := some 60, op := Op.call { callee := Callee.value (Operand.func 10), args := #[Operand.tmp 58, Operand.tmp 59], argTypes := #[25, 25] }, type := 4, pos := "law.go:64", after := #[{ on := 5, ground := Ground.data }, { on := 6, ground := Ground.data }, { on := 5, ground := Ground.chain }], guard := none }) rfl (fun K1613 hK1613 => ?_) AllReadyH.nil)
        go_simp
        refine (HSm.out _ _ _ _ ho9.sees (HSO6.out.below hHeld1612)).mono ?_
        rintro e w10 ⟨rfl, hb10⟩
        refine hK1613.out _ _ (Below.trans hHeld1612 (Below.mono hb10 (Below.size hHeld1612))) (fun hHeld1613 => ?_)
        clear hK1613 K1613
        try simp only [Act.put, List.setIfInBounds_toArray, List.set_cons_zero, List.set_cons_succ]
        refine wpAnyH_take (i := 8) (oi := { dst := some 9, op := Op.assign (Operand.tmp 60), type := 4, pos := "law.go:64", after := #[{ on := 7, ground := Ground.data }, { on := 7, ground := Ground.chain }, { on := 0, ground := Ground.phase }, { on := 1, ground := Ground.phase }, { on := 2, ground := Ground.phase }, { on := 3, ground := Ground.phase }, { on := 4, ground := Ground.phase }, { on := 5, ground := Ground.phase }, { on := 6, ground := Ground.phase }, { on := 7, ground := Ground.phase }], guard := none }) (v := ?_) rfl (by kernel_rfl) (by kernel_rfl) (by kernel_rfl) (fun _ _ _ h => h) (Or.inl ⟨by rfl, ?_⟩) (by assumption) ?_
        rotate_left
        · (intro w hSw; (try dsimp only at hSw); go_simp; try with_reducible rfl)
        simp only [Act.put, List.setIfInBounds_toArray, List.set_cons_zero, List.set_cons_succ]
        refine wpAnyH_done (by kernel_rfl) ?_ _
        have HB8 := hid (HB7.out.trans (Below.mono hHeld1613 HB7.out.size))
        clear hHeld hHeld1604 hHeld1610 hHeld1611 hHeld1612 hHeld1613
        go_wp2
        go_ret
        exact ⟨rfl, HB8.out⟩
end Go.Proofs.Ytdhkchbmddacmaa
