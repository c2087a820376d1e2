/-
  What instr.Get returns, whatever bytes it is given, and that nothing that was there is written.
-/
import Derived.Test.YtfhjlpkejmjigaaDoorIMay
import Derived.Test.YtfhjlpkejmjigaaDoorIPut
import Derived.Test.YtfhjlpkejmjigaaDoorWGet
namespace Go.Proofs.YtfhjlpkejmjigaaDoor
open Go.RowKit
set_option linter.unusedVariables false

/-- A new block with the result's three cells, and one behind it with three numbers. -/
def Parts (N : Nat) (w : World) (x y z : Int) : Prop := N + 1 < w.heap.size ∧
  (∀ j, j < 3 → w.cell? ⟨N, j, none⟩ = some (.int .i64 0)) ∧ (∀ j, w.frozen? ⟨N, j, none⟩ = false) ∧ (∀ j, w.frozen? ⟨N + 1, j, none⟩ = false) ∧
  w.cell? ⟨N + 1, 0, none⟩ = some (.int .i64 x) ∧ w.cell? ⟨N + 1, 1, none⟩ = some (.int .i64 y) ∧ w.cell? ⟨N + 1, 2, none⟩ = some (.int .i64 z)
theorem Parts.below {N : Nat} {w w' : World} {x y z : Int} (h : Parts N w x y z) (hb : Below w.heap.size w w') : Parts N w' x y z := by
  obtain ⟨h0, h1, h2, h3, h4, h5, h6⟩ := h
  have hs := hb.size
  refine ⟨by omega, fun j hj => ?_, fun j => ?_, fun j => ?_, ?_, ?_, ?_⟩
  · rw [hb.cell (by show N < _; omega)]; exact h1 j hj
  · rw [hb.frozen (by show N < _; omega)]; exact h2 j
  · rw [hb.frozen (by exact h0)]; exact h3 j
  · rw [hb.cell (by exact h0)]; exact h4
  · rw [hb.cell (by exact h0)]; exact h5
  · rw [hb.cell (by exact h0)]; exact h6
theorem addr_ne {b b' o o' : Nat} (h : b ≠ b' ∨ o ≠ o') : (⟨b, o, none⟩ : Addr) ≠ ⟨b', o', none⟩ := by
  intro e; simp at e; omega
theorem Parts.set0 {N : Nat} {w : World} {x y z : Int} (h : Parts N w x y z) (v : Int) : Parts N (w.setCell ⟨N + 1, 0, none⟩ (.int .i64 v)) v y z := by
  obtain ⟨h0, h1, h2, h3, h4, h5, h6⟩ := h
  refine ⟨by simpa using h0, fun j hj => ?_, fun j => ?_, fun j => ?_, ?_, ?_, ?_⟩
  · rw [World.cell?_setCell_other _ _ _ _ (addr_ne (by omega))]; exact h1 j hj
  · simpa using h2 j
  · simpa using h3 j
  · exact World.cell?_setCell_same _ _ _ h4
  · rw [World.cell?_setCell_other _ _ _ _ (addr_ne (by omega))]; exact h5
  · rw [World.cell?_setCell_other _ _ _ _ (addr_ne (by omega))]; exact h6
theorem Parts.set1 {N : Nat} {w : World} {x y z : Int} (h : Parts N w x y z) (v : Int) : Parts N (w.setCell ⟨N + 1, 1, none⟩ (.int .i64 v)) x v z := by
  obtain ⟨h0, h1, h2, h3, h4, h5, h6⟩ := h
  refine ⟨by simpa using h0, fun j hj => ?_, fun j => ?_, fun j => ?_, ?_, ?_, ?_⟩
  · rw [World.cell?_setCell_other _ _ _ _ (addr_ne (by omega))]; exact h1 j hj
  · simpa using h2 j
  · simpa using h3 j
  · rw [World.cell?_setCell_other _ _ _ _ (addr_ne (by omega))]; exact h4
  · exact World.cell?_setCell_same _ _ _ h5
  · rw [World.cell?_setCell_other _ _ _ _ (addr_ne (by omega))]; exact h6
theorem Parts.set2 {N : Nat} {w : World} {x y z : Int} (h : Parts N w x y z) (v : Int) : Parts N (w.setCell ⟨N + 1, 2, none⟩ (.int .i64 v)) x y v := by
  obtain ⟨h0, h1, h2, h3, h4, h5, h6⟩ := h
  refine ⟨by simpa using h0, fun j hj => ?_, fun j => ?_, fun j => ?_, ?_, ?_, ?_⟩
  · rw [World.cell?_setCell_other _ _ _ _ (addr_ne (by omega))]; exact h1 j hj
  · simpa using h2 j
  · simpa using h3 j
  · rw [World.cell?_setCell_other _ _ _ _ (addr_ne (by omega))]; exact h4
  · rw [World.cell?_setCell_other _ _ _ _ (addr_ne (by omega))]; exact h5
  · exact World.cell?_setCell_same _ _ _ h6

theorem load_in (w : World) (g : Nat) (x y z : Int) (h0 : w.cell? ⟨g, 0, none⟩ = some (.int .i64 x)) (h1 : w.cell? ⟨g, 1, none⟩ = some (.int .i64 y)) (h2 : w.cell? ⟨g, 2, none⟩ = some (.int .i64 z)) :
    (loadVar 23 ⟨g, 0, none⟩).run Tryd.prog w = .ok (.agg #[.int .i64 x, .int .i64 y, .int .i64 z]) w := by
  obtain ⟨i0, hi, hz0, hz1, hz2⟩ := info_parts Tryd.infoI
  have hl := run_loadCells_list (P := Tryd.prog) w ⟨g, 0, none⟩ [.int .i64 x, .int .i64 y, .int .i64 z] (fun j v hv => by
    rw [add_none, Nat.zero_add]
    match j, hv with
    | 0, hv => simp at hv; subst hv; exact h0
    | 1, hv => simp at hv; subst hv; exact h1
    | 2, hv => simp at hv; subst hv; exact h2
    | j + 3, hv => simp at hv)
  have hagg : (isAgg 23).run Tryd.prog w = .ok true w := by
    unfold isAgg
    rw [Sem.run_bind, run_underlying Tryd.underlying23 w]
    simp
  simp only [List.length_cons, List.length_nil] at hl
  simp [loadVar, Sem.run_bind, hagg, sizeOf, typeInfo, hi, hz1, hl]

theorem results_cell3 {fn : Func} {p u v : Tmp} {ty : TypeId} (h : fn.results = #[.cell p ty, .tmp u, .tmp v]) (tmps : Array Value) (P : Program) (w : World) (a : Addr) (x : Value)
    (hp : tmps.getD p undef = .pointer (some a)) (hx : (loadVar ty a).run P w = .ok x w) : (results fn tmps).run P w = .ok (.tuple #[x, tmps.getD u undef, tmps.getD v undef]) w := by
  have hp' : tmps[p]?.getD undef = .pointer (some a) := by simpa using hp
  simp [results, h, hp', asAddr, hx]

/-- Three cells stored, one behind the other. -/
theorem load_set3 (w : World) (g : Nat) (a b c x y z : Int) (h0 : w.cell? ⟨g, 0, none⟩ = some (.int .i64 a)) (h1 : w.cell? ⟨g, 1, none⟩ = some (.int .i64 b)) (h2 : w.cell? ⟨g, 2, none⟩ = some (.int .i64 c)) :
    (loadVar 23 ⟨g, 0, none⟩).run Tryd.prog (((w.setCell ⟨g, 0, none⟩ (.int .i64 x)).setCell ⟨g, 1, none⟩ (.int .i64 y)).setCell ⟨g, 2, none⟩ (.int .i64 z)) =
      .ok (.agg #[.int .i64 x, .int .i64 y, .int .i64 z]) (((w.setCell ⟨g, 0, none⟩ (.int .i64 x)).setCell ⟨g, 1, none⟩ (.int .i64 y)).setCell ⟨g, 2, none⟩ (.int .i64 z)) := by
  refine load_in _ g x y z ?_ ?_ ?_
  · rw [World.cell?_setCell_other _ _ _ _ (addr_ne (by omega)), World.cell?_setCell_other _ _ _ _ (addr_ne (by omega))]
    exact World.cell?_setCell_same _ _ _ h0
  · rw [World.cell?_setCell_other _ _ _ _ (addr_ne (by omega))]
    refine World.cell?_setCell_same _ _ _ (u := .int .i64 b) ?_
    rw [World.cell?_setCell_other _ _ _ _ (addr_ne (by omega))]; exact h1
  · refine World.cell?_setCell_same _ _ _ (u := .int .i64 c) ?_
    rw [World.cell?_setCell_other _ _ _ _ (addr_ne (by omega)), World.cell?_setCell_other _ _ _ _ (addr_ne (by omega))]; exact h2

set_option maxRecDepth 100000 in
set_option maxHeartbeats 1600000 in
theorem iget_any (v : Value) (l : List Int) (w : World) (hL : Laid w) (hv : Sees w .u8 v l) (hby : ∀ c ∈ l, 0 ≤ c ∧ c ≤ 255) :
    Calls Tryd.prog 16 #[v] w fun e w' => e = .returned (.tuple #[(iget l).1.val, .int .i64 (iget l).2.1, .int .i64 (iget l).2.2]) ∧ Below w.heap.size w w' := by
  have hnot := Tryd.hnot
  obtain ⟨G, hG⟩ : ∃ g, getsF l 3 [] 0 = g := ⟨_, rfl⟩
  rw [show iget l = igetR G by rw [iget, hG]]
  obtain ⟨R, hR⟩ : ∃ r, igetR G = r := ⟨_, rfl⟩
  rw [hR]
  have HG := hid hG
  have HR := hid hR
  clear hG hR
  obtain ⟨a, cap, rfl, hc1, hc2, hcells⟩ := hv.form
  have HV := hid hv
  have HY := hid hby
  have HLa := hid hL
  have hc2' := hc2
  unfold maxLen at hc2'
  have HC := hid hcells
  clear hv hby hL hcells
  go_enter Tryd.func16, Tryd.ntmps16
  go_wp2
  go_loopw [6, 12] (fun s i wr => ∃ (k m : Nat) (acc : List Int), k ≤ 3 ∧ acc.length = k ∧ i = .int .i64 k ∧ s = .int .i64 m ∧ m ≤ l.length ∧ getsF l (3 - k) acc m = G ∧ (∀ x ∈ acc, 0 ≤ x ∧ x ≤ 1099511627776) ∧
      Parts w.heap.size wr (acc.getD 0 0) (acc.getD 1 0) (acc.getD 2 0) ∧ Below w.heap.size w wr) (fun _ i _ => 3 - (intOf i).toNat)
  case atStart =>
    refine ⟨0, 0, [], by omega, rfl, rfl, rfl, by omega, HG.out, by simp, ⟨by simp, ?_, ?_, ?_, by simp, by simp, by simp⟩, (alloc_belowI _ _).alloc (by simp) _⟩
    · intro j hj
      rw [World.cell?_alloc_lt _ _ _ (by simp)]
      match j, hj with
      | 0, _ => simp
      | 1, _ => simp
      | 2, _ => simp
    · intro j; simp
    · intro j; simp
  case round =>
    obtain ⟨k, m, acc, hk, hlen, rfl, rfl, hm, hgets, hfit, hparts, hbel⟩ := hrel
    have HGS := hid hgets
    have HF := hid hfit
    clear hgets hfit
    by_cases hlt : k < 3
    · obtain ⟨f, hf⟩ : ∃ f, 3 - k = f + 1 := ⟨2 - k, by omega⟩
      rw [hf] at HGS
      have HYd := hid (show ∀ c ∈ l.drop m, 0 ≤ c ∧ c ≤ 255 from fun c hc => HY.out c (List.mem_of_mem_drop hc))
      have hfin : ∀ w1, Below wr.heap.size wr w1 → Parts w.heap.size w1 (acc.getD 0 0) (acc.getD 1 0) (acc.getD 2 0) ∧ Below w.heap.size w w1 :=
        fun w1 h1 => ⟨hparts.below h1, hbel.trans (h1.mono hbel.size)⟩
      have HFI := hid hfin
      clear hfin
      by_cases he : (get (l.drop m)).2.2 = 0
      · obtain ⟨j, hj, hj1, hj2⟩ := get_ok _ he
        rw [List.length_drop] at hj2
        have hst := HGS.out
        rw [getsF_more l f acc m j he hj] at hst
        have HST := hid hst
        have HGF := hid (get_fit _ HYd.out he)
        have hl0 : 0 < l.length := by omega
        obtain ⟨b, off, rfl, hbw, hcell⟩ := HC.out hl0
        have HS1 := hid (show cap = m → Sees w .u8 (.slice (some ⟨b, off, none⟩) (l.length - m) 0) (l.drop m) by
          intro h; have := Sees.dropped m hm hc1 hc2 hcell; rw [if_pos h, show cap - m = 0 by omega] at this; exact this)
        have HS2 := hid (show ¬ cap = m → Sees w .u8 (.slice (some ⟨b, off + m, none⟩) (l.length - m) (cap - m)) (l.drop m) by
          intro h; have := Sees.dropped m hm hc1 hc2 hcell; rw [if_neg h] at this; exact this)
        clear hcell hst HGS
        go_wp2_with fail
        all_goals
          refine (get_any _ (l.drop m) _ (Sees.below (by first | exact HS1.out (by omega) | exact HS2.out (by omega) | exact HS1.out rfl) hbel) HYd.out).mono ?_
          rintro e w1 ⟨rfl, hb1⟩
          rw [hj, he]
          obtain ⟨hpa, hbel1⟩ := HFI.out w1 hb1
          clear hb1 HS1 HS2
          generalize (get (l.drop m)).1 = x at *
          have HPA := hid hpa
          obtain ⟨p0, _, _, p3, p4, p5, p6⟩ := hpa
          have q0 := p3 0
          have q1 := p3 1
          have q2 := p3 2
          have hk' : k = 0 ∨ k = 1 ∨ k = 2 := by omega
          clear p3 hparts
          rcases hk' with rfl | rfl | rfl
          · obtain rfl : acc = [] := List.eq_nil_of_length_eq_zero hlen
            go_wp2
            go_roundw
            case rel => exact ⟨1, m + j, [x], by omega, rfl, rfl, by go_num, by omega, by have := HST.out; rw [show f = 2 by omega] at this; exact this, by simpa using HGF.out, HPA.out.set0 x, hbel1.setCell (by simp) _⟩
            case measure => simp [intOf]
          · match acc, hlen with
            | [y], _ =>
              go_wp2
              go_roundw
              case rel => exact ⟨2, m + j, [y, x], by omega, rfl, rfl, by go_num, by omega, by have := HST.out; rw [show f = 1 by omega] at this; exact this, by have h1 := HF.out; have h2 := HGF.out; simp at h1 ⊢; exact ⟨h1, h2⟩, HPA.out.set1 x, hbel1.setCell (by simp) _⟩
              case measure => simp [intOf]
          · match acc, hlen with
            | [y, z], _ =>
              go_wp2
              go_roundw
              case rel => exact ⟨3, m + j, [y, z, x], by omega, rfl, rfl, by go_num, by omega, by have := HST.out; rw [show f = 0 by omega] at this; exact this, by have h1 := HF.out; have h2 := HGF.out; simp at h1 ⊢; exact ⟨h1.1, h1.2, h2⟩, HPA.out.set2 x, hbel1.setCell (by simp) _⟩
              case measure => simp [intOf]
      · have hst := HGS.out
        rw [getsF_err l f acc m he] at hst
        have hRr := HR.out
        rw [← hst, igetR, if_neg he] at hRr
        have hne : ((get (l.drop m)).2.2 != 0) = true := by simpa using he
        have HRR := hid hRr
        clear hst hRr HGS
        by_cases hl0 : 0 < l.length
        · obtain ⟨b, off, rfl, hbw, hcell⟩ := HC.out hl0
          have HS1 := hid (show cap = m → Sees w .u8 (.slice (some ⟨b, off, none⟩) (l.length - m) 0) (l.drop m) by
            intro h; have := Sees.dropped m hm hc1 hc2 hcell; rw [if_pos h, show cap - m = 0 by omega] at this; exact this)
          have HS2 := hid (show ¬ cap = m → Sees w .u8 (.slice (some ⟨b, off + m, none⟩) (l.length - m) (cap - m)) (l.drop m) by
            intro h; have := Sees.dropped m hm hc1 hc2 hcell; rw [if_neg h] at this; exact this)
          clear hcell
          go_wp2_with fail
          all_goals
            refine (get_any _ (l.drop m) _ (Sees.below (by first | exact HS1.out (by omega) | exact HS2.out (by omega) | exact HS1.out rfl) hbel) HYd.out).mono ?_
            rintro e w1 ⟨rfl, hb1⟩
            obtain ⟨hpa, hbel1⟩ := HFI.out w1 hb1
            clear hb1 HS1 HS2
            generalize (get (l.drop m)).1 = x at *
            generalize (get (l.drop m)).2.1 = x' at *
            generalize (get (l.drop m)).2.2 = y at *
            obtain ⟨p0, p1, p2, _, _, _, _⟩ := hpa
            have q0 := p2 0
            have q1 := p2 1
            have q2 := p2 2
            have r0 := p1 0 (by omega)
            have r1 := p1 1 (by omega)
            have r2 := p1 2 (by omega)
            clear p1 p2 hparts
            go_wp2
            try simp only [Exit.inBlock, Exit.then]
            refine bodyPost_ret (results_cell3 rfl _ _ _ ⟨w.heap.size, 0, none⟩ _ rfl (load_set3 _ _ _ _ _ _ _ _ r0 r1 r2)) rfl ?_
            exact ⟨by rw [← HRR.out]; rfl, by repeat (first | exact hbel1 | refine Below.setCell ?_ (by simp) _)⟩
        · have hl00 : l = [] := List.eq_nil_of_length_eq_zero (by omega)
          subst hl00
          have hm0 : m = 0 := by simpa using hm
          subst hm0
          rcases HV.out with ⟨hv, _⟩ | ⟨x, cap', hv, _, _, _⟩
          · simp only [Value.slice.injEq] at hv
            obtain ⟨rfl, _, rfl⟩ := hv
            clear HC
            go_wp2_with fail
            refine (get_any _ (List.drop 0 ([] : List Int)) _ (HV.out.below hbel) HYd.out).mono ?_
            rintro e w1 ⟨rfl, hb1⟩
            obtain ⟨hpa, hbel1⟩ := HFI.out w1 hb1
            clear hb1
            generalize (get (List.drop 0 ([] : List Int))).1 = x at *
            generalize (get (List.drop 0 ([] : List Int))).2.1 = x' at *
            generalize (get (List.drop 0 ([] : List Int))).2.2 = y at *
            obtain ⟨p0, p1, p2, _, _, _, _⟩ := hpa
            have q0 := p2 0
            have q1 := p2 1
            have q2 := p2 2
            have r0 := p1 0 (by omega)
            have r1 := p1 1 (by omega)
            have r2 := p1 2 (by omega)
            clear p1 p2 hparts
            go_wp2
            try simp only [Exit.inBlock, Exit.then]
            refine bodyPost_ret (results_cell3 rfl _ _ _ ⟨w.heap.size, 0, none⟩ _ rfl (load_set3 _ _ _ _ _ _ _ _ r0 r1 r2)) rfl ?_
            exact ⟨by rw [← HRR.out]; rfl, by repeat (first | exact hbel1 | refine Below.setCell ?_ (by simp) _)⟩
          · simp only [Value.slice.injEq] at hv
            obtain ⟨rfl, _, rfl⟩ := hv
            clear HC
            go_wp2_with fail
            refine (get_any _ (List.drop 0 ([] : List Int)) _ (HV.out.below hbel) HYd.out).mono ?_
            rintro e w1 ⟨rfl, hb1⟩
            obtain ⟨hpa, hbel1⟩ := HFI.out w1 hb1
            clear hb1
            generalize (get (List.drop 0 ([] : List Int))).1 = x at *
            generalize (get (List.drop 0 ([] : List Int))).2.1 = x' at *
            generalize (get (List.drop 0 ([] : List Int))).2.2 = y at *
            obtain ⟨p0, p1, p2, _, _, _, _⟩ := hpa
            have q0 := p2 0
            have q1 := p2 1
            have q2 := p2 2
            have r0 := p1 0 (by omega)
            have r1 := p1 1 (by omega)
            have r2 := p1 2 (by omega)
            clear p1 p2 hparts
            go_wp2
            try simp only [Exit.inBlock, Exit.then]
            refine bodyPost_ret (results_cell3 rfl _ _ _ ⟨w.heap.size, 0, none⟩ _ rfl (load_set3 _ _ _ _ _ _ _ _ r0 r1 r2)) rfl ?_
            exact ⟨by rw [← HRR.out]; rfl, by repeat (first | exact hbel1 | refine Below.setCell ?_ (by simp) _)⟩
    · have hk3 : k = 3 := by omega
      subst hk3
      match acc, hlen with
      | [x, y, z], _ =>
        have hG := HGS.out
        simp only [Nat.sub_self, getsF] at hG
        have hRR := HR.out
        rw [← hG, igetR, if_pos rfl, show ofThree [x, y, z] = ⟨x, y, sgn z⟩ from rfl] at hRR
        have hz : 0 ≤ z ∧ z ≤ 1099511627776 := HF.out z (by simp)
        have HRY := hid (show mayI ⟨x, y, sgn z⟩ = true → R = (⟨x, y, sgn z⟩, (m : Int), 0) by intro h; rw [← hRR]; simp only [h]; rfl)
        have HRN := hid (show mayI ⟨x, y, sgn z⟩ = false → R = (In.zero, 0, 2) by intro h; rw [← hRR]; simp only [h]; rfl)
        have HPA := hid hparts
        have hz0 := hbel.size
        obtain ⟨p0, _, _, _, c0, c1, c2⟩ := hparts
        simp only [List.getD_cons_zero, List.getD_cons_succ] at c0 c1 c2
        clear hG hRR
        have hm0 : ∀ w', Below wr.heap.size wr w' → Below wr.heap.size wr w' ∧ w'.cell? ⟨w.heap.size + 1, 0, none⟩ = some (.int .i64 x) ∧ w'.cell? ⟨w.heap.size + 1, 1, none⟩ = some (.int .i64 y) ∧ w'.cell? ⟨w.heap.size + 1, 2, none⟩ = some (.int .i64 z) :=
          fun w' hb => ⟨hb, (hb.cell (by exact p0)).trans c0, (hb.cell (by exact p0)).trans c1, (hb.cell (by exact p0)).trans c2⟩
        have MK := hid hm0
        clear hm0
        go_wp2_with fail
        go_region_held3 (fun w' => Below wr.heap.size wr w' ∧ w'.cell? ⟨w.heap.size + 1, 0, none⟩ = some (.int .i64 x) ∧ w'.cell? ⟨w.heap.size + 1, 1, none⟩ = some (.int .i64 y) ∧ w'.cell? ⟨w.heap.size + 1, 2, none⟩ = some (.int .i64 z))
          ((go_split_ands; refine MK.out _ ?_; first
            | exact (Below.refl _ _).drew
            | assumption
            | exact Below.alloc (by assumption) (Below.size (by assumption)) _
            | exact (alloc_belowI _ _).drew))
          ((go_split_ands; first
            | (go_at_call 27
               refine (signed_any z _ ⟨by omega, by omega⟩).mono ?_
               rintro e w6 ⟨rfl, rfl⟩)))
        all_goals
          go_split_ands
          rename_i hbk _ _ _
          have hbel2 := hbel.trans (hbk.mono hbel.size)
          have HPA2 := hid (HPA.out.below hbk)
          go_wp2_with fail
          refine (imay_any ⟨x, y, sgn z⟩ _ (HLa.out.below hbel2)).mono ?_
          rintro e w1 ⟨rfl, hb1⟩
          have hpa := HPA2.out.below hb1
          have d0 : w1.cell? ⟨wr.heap.size, 0, none⟩ = some (.int .i64 x) := (hb1.cell (by simp)).trans (by simp)
          have d1 : w1.cell? ⟨wr.heap.size, 1, none⟩ = some (.int .i64 y) := (hb1.cell (by simp)).trans (by simp)
          have d2 : w1.cell? ⟨wr.heap.size, 2, none⟩ = some (.int .i64 (sgn z)) := (hb1.cell (by simp)).trans (by simp)
          have hbel3 := hbel2.trans (hb1.mono hbel2.size)
          obtain ⟨p0, p1, p2, _, _, _, _⟩ := hpa
          have q0 := p2 0
          have q1 := p2 1
          have q2 := p2 2
          have r0 := p1 0 (by omega)
          have r1 := p1 1 (by omega)
          have r2 := p1 2 (by omega)
          clear p1 p2 hbk hb1 c0 c1 c2
          by_cases hmay : mayI ⟨x, y, sgn z⟩ = true
          · have HRR := hid (HRY.out hmay)
            rw [hmay]
            go_wp2
            try simp only [Exit.inBlock, Exit.then]
            refine bodyPost_ret (results_cell3 rfl _ _ _ ⟨w.heap.size, 0, none⟩ _ rfl (load_set3 _ _ _ _ _ _ _ _ r0 r1 r2)) rfl ?_
            exact ⟨by rw [HRR.out]; rfl, by repeat (first | exact hbel3 | refine Below.setCell ?_ (by simp) _)⟩
          · have hmay' : mayI ⟨x, y, sgn z⟩ = false := by simpa using hmay
            have HRR := hid (HRN.out hmay')
            rw [hmay']
            go_wp2
            try simp only [Exit.inBlock, Exit.then]
            refine bodyPost_ret (results_cell3 rfl _ _ _ ⟨w.heap.size, 0, none⟩ _ rfl (load_set3 _ _ _ _ _ _ _ _ r0 r1 r2)) rfl ?_
            exact ⟨by rw [HRR.out]; rfl, by repeat (first | exact hbel3 | refine Below.setCell ?_ (by simp) _)⟩
end Go.Proofs.YtfhjlpkejmjigaaDoor
