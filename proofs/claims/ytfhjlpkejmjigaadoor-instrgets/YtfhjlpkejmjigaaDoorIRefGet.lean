/-
  What the document's own Get returns, whatever bytes it is given, and that nothing that was there is written.
-/
import Derived.Test.YtfhjlpkejmjigaaDoorIGet
import Derived.Test.YtfhjlpkejmjigaaDoorIRefD
import Derived.Test.YtfhjlpkejmjigaaDoorWGetAll
namespace Go.Proofs.YtfhjlpkejmjigaaDoor
open Go.RowKit
set_option linter.unusedVariables false

theorem Parts.below' {N B : Nat} {w w' : World} {x y z : Int} (h : Parts N w x y z) (hB : N + 2 ≤ B) (hb : Below B w w') : Parts N w' x y z := by
  obtain ⟨h0, h1, h2, h3, h4, h5, h6⟩ := h
  have hs := hb.size
  refine ⟨by omega, fun j hj => ?_, fun j => ?_, fun j => ?_, ?_, ?_, ?_⟩
  · rw [hb.cell (by show N < _; omega)]; exact h1 j hj
  · rw [hb.frozen (by show N < _; omega)]; exact h2 j
  · rw [hb.frozen (by show N + 1 < _; omega)]; exact h3 j
  · rw [hb.cell (by show N + 1 < _; omega)]; exact h4
  · rw [hb.cell (by show N + 1 < _; omega)]; exact h5
  · rw [hb.cell (by show N + 1 < _; omega)]; exact h6

theorem owned3 {w : World} {base : Nat} {e : TypeId} {v : Value} {x y z : Int} (h : w.ownsRow base e 1 v 3 ([x, y, z].map (Value.int .i64))) : ∃ g cap, v = .slice (some ⟨g, 0, none⟩) 3 cap ∧ 3 ≤ cap ∧ cap ≤ maxLen ∧ base ≤ g ∧ g < w.heap.size ∧
    w.cell? ⟨g, 0, none⟩ = some (.int .i64 x) ∧ w.cell? ⟨g, 1, none⟩ = some (.int .i64 y) ∧ w.cell? ⟨g, 2, none⟩ = some (.int .i64 z) := by
  have h' := h
  obtain ⟨_, h⟩ := h
  rcases h with ⟨_, h⟩ | ⟨g, cap, cur, rfl, hg, hh, hc, hm, hs, ht⟩
  · simp at h
  · have hlt : g < w.heap.size := (h'.lt g rfl).2
    refine ⟨g, cap, rfl, hc, hm, hg, hlt, ?_, ?_, ?_⟩
    · exact h'.cellAt 0 (by omega)
    · exact h'.cellAt 1 (by omega)
    · exact h'.cellAt 2 (by omega)

set_option maxRecDepth 100000 in
set_option maxHeartbeats 1600000 in
theorem riget_any (v : Value) (l : List Int) (w : World) (hv : Sees w .u8 v l) (hby : ∀ c ∈ l, 0 ≤ c ∧ c ≤ 255) :
    Calls Tryd.prog 17 #[v] w fun e w' => e = .returned (.tuple #[(iget l).1.val, .int .i64 (iget l).2.1, .int .i64 (iget l).2.2]) ∧ Below w.heap.size w w' := by
  have hnot := Tryd.hnot
  obtain ⟨i0, hi, hz0, hz1, hz2⟩ := info_parts Tryd.infoInt
  obtain ⟨G, hG⟩ : ∃ g, getsF l 3 [] 0 = g := ⟨_, rfl⟩
  rw [show iget l = igetR G by rw [iget, hG]]
  obtain ⟨R, hR⟩ : ∃ r, igetR G = r := ⟨_, rfl⟩
  rw [hR]
  have HG := hid hG
  have HR := hid hR
  clear hG hR
  obtain ⟨a, cap, rfl, hc1, hc2, hcells⟩ := hv.form
  have HV := hid hv
  have HY := hid hby
  have hc2' := hc2
  unfold maxLen at hc2'
  have HC := hid hcells
  clear hv hby hcells
  go_enter Tryd.func17, Tryd.ntmps17
  go_wp2
  go_loopw [6, 7] (fun s t wr => ∃ (m : Nat) (acc : List Int), acc.length ≤ 3 ∧ t = .int .i64 m ∧ m ≤ l.length ∧ getsF l (3 - acc.length) acc m = G ∧ (∀ x ∈ acc, 0 ≤ x ∧ x ≤ 1099511627776) ∧
      Parts w.heap.size wr 0 0 0 ∧ wr.ownsRow (w.heap.size + 2) 3 1 s acc.length (acc.map (Value.int .i64)) ∧ Below w.heap.size w wr) (fun s _ _ => 3 - lenOf s)
  case atStart =>
    refine ⟨0, [], by simp, rfl, by omega, HG.out, by simp, ⟨by simp, ?_, ?_, ?_, by simp, by simp, by simp⟩, World.ownsRow_nil _ _ _ _, (alloc_belowI _ _).alloc (by simp) _⟩
    · intro j hj
      rw [World.cell?_alloc_lt _ _ _ (by simp)]
      match j, hj with
      | 0, _ => simp
      | 1, _ => simp
      | 2, _ => simp
    · intro j; simp
    · intro j; simp
  case round =>
    obtain ⟨m, acc, hk, rfl, hm, hgets, hfit, hparts, hown, hbel⟩ := hrel
    have HGS := hid hgets
    have HF := hid hfit
    clear hgets hfit
    have hsz := hbel.size
    obtain ⟨sa, sc, hsv, hsc1, hsc2⟩ := owns_slice hown
    subst hsv
    unfold maxLen at hsc2
    by_cases hlt : acc.length < 3
    · obtain ⟨f, hf⟩ : ∃ f, 3 - acc.length = f + 1 := ⟨2 - acc.length, by omega⟩
      rw [hf] at HGS
      have HYd := hid (show ∀ c ∈ l.drop m, 0 ≤ c ∧ c ≤ 255 from fun c hc => HY.out c (List.mem_of_mem_drop hc))
      by_cases he : (get (l.drop m)).2.2 = 0
      · obtain ⟨j, hj, hj1, hj2⟩ := get_ok _ he
        rw [List.length_drop] at hj2
        have hst := HGS.out
        rw [getsF_more l f acc m j he hj] at hst
        have HST := hid hst
        have HGF := hid (get_fit _ HYd.out he)
        have hl0 : 0 < l.length := by omega
        obtain ⟨b, off, rfl, hbw, hcell⟩ := HC.out hl0
        have HS1 := hid (show cap = m → Sees w .u8 (.slice (some ⟨b, off, none⟩) (l.length - m) 0) (l.drop m) by
          intro h; have := Sees.dropped m hm hc1 hc2 hcell; rw [if_pos h, show cap - m = 0 by omega] at this; exact this)
        have HS2 := hid (show ¬ cap = m → Sees w .u8 (.slice (some ⟨b, off + m, none⟩) (l.length - m) (cap - m)) (l.drop m) by
          intro h; have := Sees.dropped m hm hc1 hc2 hcell; rw [if_neg h] at this; exact this)
        have HPA := hid hparts
        have hpz := hparts.1
        clear hcell hst HGS hparts
        go_wp2_with fail
        all_goals
          refine (rget_any _ (l.drop m) _ (Sees.below (by first | exact HS1.out (by omega) | exact HS2.out (by omega) | exact HS1.out rfl) hbel) HYd.out).mono ?_
          rintro e w1 ⟨rfl, rfl⟩
          rw [hj, he]
          clear HS1 HS2
          generalize (get (l.drop m)).1 = x at *
          go_wp2_with (at_builtin; refine wpList_append_own _ rfl _ _ 42 rfl (w.heap.size + 2) 3 i0 (.int .i64 0) 1 8 Tryd.underlying42 hi hz0 hz1 hz2 rfl (by decide) _ _ _ rfl (hown.alloc _) ⟨w1.heap.size, 0, none⟩ 1 1 [.int .i64 x] rfl rfl (one_new _ _ _) (one_cell _ _) ?c3 ?c4 ?c5 ?_)
          case c3 => unfold maxLen; omega
          case c4 => omega
          case c5 => simp; omega
          intro v' w2 hown2 hgrow _
          have hown3 : w2.ownsRow (w.heap.size + 2) 3 1 v' (acc ++ [x]).length ((acc ++ [x]).map (Value.int .i64)) := by simpa using hown2
          have hbp : Below (w.heap.size + 2) w1 w2 := ((Below.refl (w.heap.size + 2) w1).alloc (by omega) _).grown hgrow (by simp; omega) (fun k hk => (hown.lt k hk).1)
          have HBW := hid (hbel.trans (hbp.mono (by omega)))
          have HPA2 := hid (HPA.out.below' (by omega) hbp)
          have HO := hid hown3
          obtain ⟨sa', sc', hsv', _, _⟩ := owns_slice hown3
          subst hsv'
          clear hown2 hown3 hgrow hown hbel hbp
          have hl1 : (acc ++ [x]).length = acc.length + 1 := by simp
          go_wp2
          go_roundw
          case rel => exact ⟨m + j, acc ++ [x], by omega, by go_num, by omega, by have := HST.out; rw [show f = 3 - (acc ++ [x]).length by omega] at this; exact this, by have h1 := HF.out; have h2 := HGF.out; intro q hq; rcases List.mem_append.1 hq with h | h; exact h1 q h; simp at h; subst h; exact h2, HPA2.out, HO.out, HBW.out⟩
          case measure => simp [lenOf]; omega
      · have hst := HGS.out
        rw [getsF_err l f acc m he] at hst
        have hRr := HR.out
        rw [← hst, igetR, if_neg he] at hRr
        have hne : ((get (l.drop m)).2.2 != 0) = true := by simpa using he
        have HRR := hid hRr
        clear hst hRr HGS
        by_cases hl0 : 0 < l.length
        · obtain ⟨b, off, rfl, hbw, hcell⟩ := HC.out hl0
          have HS1 := hid (show cap = m → Sees w .u8 (.slice (some ⟨b, off, none⟩) (l.length - m) 0) (l.drop m) by
            intro h; have := Sees.dropped m hm hc1 hc2 hcell; rw [if_pos h, show cap - m = 0 by omega] at this; exact this)
          have HS2 := hid (show ¬ cap = m → Sees w .u8 (.slice (some ⟨b, off + m, none⟩) (l.length - m) (cap - m)) (l.drop m) by
            intro h; have := Sees.dropped m hm hc1 hc2 hcell; rw [if_neg h] at this; exact this)
          clear hcell
          go_wp2_with fail
          all_goals
            refine (rget_any _ (l.drop m) _ (Sees.below (by first | exact HS1.out (by omega) | exact HS2.out (by omega) | exact HS1.out rfl) hbel) HYd.out).mono ?_
            rintro e w1 ⟨rfl, rfl⟩
            generalize (get (l.drop m)).1 = x at *
            generalize (get (l.drop m)).2.1 = x' at *
            generalize (get (l.drop m)).2.2 = y at *
            obtain ⟨p0, p1, p2, p3, p4, p5, p6⟩ := hparts
            have q0 := p2 0
            have q1 := p2 1
            have q2 := p2 2
            have r0 := p1 0 (by omega)
            have r1 := p1 1 (by omega)
            have r2 := p1 2 (by omega)
            clear p1 p2 hown
            go_wp2
            try simp only [Exit.inBlock, Exit.then]
            refine bodyPost_ret (results_cell3 rfl _ _ _ ⟨w.heap.size, 0, none⟩ _ rfl (load_set3 _ _ _ _ _ _ _ _ r0 r1 r2)) rfl ?_
            exact ⟨by rw [← HRR.out]; rfl, by repeat (first | exact hbel | refine Below.setCell ?_ (by simp) _)⟩
        · have hl00 : l = [] := List.eq_nil_of_length_eq_zero (by omega)
          subst hl00
          have hm0 : m = 0 := by simpa using hm
          subst hm0
          rcases HV.out with ⟨hv, _⟩ | ⟨x, cap', hv, _, _, _⟩
          all_goals
            simp only [Value.slice.injEq] at hv
            obtain ⟨rfl, _, rfl⟩ := hv
            clear HC
            go_wp2_with fail
            refine (rget_any _ (List.drop 0 ([] : List Int)) _ (HV.out.below hbel) HYd.out).mono ?_
            rintro e w1 ⟨rfl, rfl⟩
            generalize (get (List.drop 0 ([] : List Int))).1 = x at *
            generalize (get (List.drop 0 ([] : List Int))).2.1 = x' at *
            generalize (get (List.drop 0 ([] : List Int))).2.2 = y at *
            obtain ⟨p0, p1, p2, p3, p4, p5, p6⟩ := hparts
            have q0 := p2 0
            have q1 := p2 1
            have q2 := p2 2
            have r0 := p1 0 (by omega)
            have r1 := p1 1 (by omega)
            have r2 := p1 2 (by omega)
            clear p1 p2 hown
            go_wp2
            try simp only [Exit.inBlock, Exit.then]
            refine bodyPost_ret (results_cell3 rfl _ _ _ ⟨w.heap.size, 0, none⟩ _ rfl (load_set3 _ _ _ _ _ _ _ _ r0 r1 r2)) rfl ?_
            exact ⟨by rw [← HRR.out]; rfl, by repeat (first | exact hbel | refine Below.setCell ?_ (by simp) _)⟩
    · have hk3 : acc.length = 3 := by omega
      match acc, hk3 with
      | [x, y, z], _ =>
        have hG := HGS.out
        simp only [List.length_cons, List.length_nil, Nat.zero_add, Nat.reduceAdd, Nat.sub_self, getsF] at hG
        have hRR := HR.out
        rw [← hG, igetR, if_pos rfl, show ofThree [x, y, z] = ⟨x, y, sgn z⟩ from rfl] at hRR
        have hz : 0 ≤ z ∧ z ≤ 1099511627776 := HF.out z (by simp)
        have HRY := hid (show mayI ⟨x, y, sgn z⟩ = true → R = (⟨x, y, sgn z⟩, (m : Int), 0) by intro h; rw [← hRR]; simp only [h]; rfl)
        have HRN := hid (show mayI ⟨x, y, sgn z⟩ = false → R = (In.zero, 0, 2) by intro h; rw [← hRR]; simp only [h]; rfl)
        have HPA := hid hparts
        obtain ⟨g, gc, hgv, hg1, hg2, hg3, hg4, c0, c1, c2⟩ := owned3 hown
        unfold maxLen at hg2
        simp only [Value.slice.injEq] at hgv
        obtain ⟨rfl, _, rfl⟩ := hgv
        clear hG hRR hown hparts HGS
        have hm0 : ∀ w', Below wr.heap.size wr w' → Below wr.heap.size wr w' ∧ w'.cell? ⟨g, 0, none⟩ = some (.int .i64 x) ∧ w'.cell? ⟨g, 1, none⟩ = some (.int .i64 y) ∧ w'.cell? ⟨g, 2, none⟩ = some (.int .i64 z) :=
          fun w' hb => ⟨hb, (hb.cell (by exact hg4)).trans c0, (hb.cell (by exact hg4)).trans c1, (hb.cell (by exact hg4)).trans c2⟩
        have MK := hid hm0
        clear hm0
        obtain ⟨hza, hzb⟩ := hz
        by_cases hodd : z % 2 = 1
        · have HSG := hid (show sgn z = wrap64 (-((z + 1).tdiv 2)) by
            unfold sgn; rw [if_pos hodd, Int.tdiv_eq_ediv_of_nonneg (show 0 ≤ z + 1 by omega)]; unfold wrap64; omega)
          have hodd' : (z % 2 == 1) = true := by simp [hodd]
          go_wp2_with fail
          go_region_held3 (fun w' => Below wr.heap.size wr w' ∧ w'.cell? ⟨g, 0, none⟩ = some (.int .i64 x) ∧ w'.cell? ⟨g, 1, none⟩ = some (.int .i64 y) ∧ w'.cell? ⟨g, 2, none⟩ = some (.int .i64 z))
            ((go_split_ands; refine MK.out _ ?_; first
              | exact (Below.refl _ _).drew
              | assumption
              | exact Below.alloc (by assumption) (Below.size (by assumption)) _
              | exact (alloc_belowI _ _).drew))
            (fail)
          all_goals
            go_split_ands
            rename_i hbk _ _ _
            clear hbk
            generalize IntKind.i64.wrap (z.tdiv 2) = q at *
            go_wp2_with fail
            rw [← HSG.out]
            have hbk : Below wr.heap.size wr (wr.alloc (.cells #[.int .i64 x, .int .i64 y, .int .i64 (sgn z)] 23)).drew := (alloc_belowI _ _).drew
            have hbel2 := hbel.trans (hbk.mono hbel.size)
            have HPA2 := hid (HPA.out.below hbk)
            clear hbk
            refine (rimay_any ⟨x, y, sgn z⟩ _).mono ?_
            rintro e w1 ⟨rfl, hb1⟩
            clear c0 c1 c2
            have hpa := HPA2.out.below hb1
            have d0 : w1.cell? ⟨wr.heap.size, 0, none⟩ = some (.int .i64 x) := (hb1.cell (by simp)).trans (by simp)
            have d1 : w1.cell? ⟨wr.heap.size, 1, none⟩ = some (.int .i64 y) := (hb1.cell (by simp)).trans (by simp)
            have d2 : w1.cell? ⟨wr.heap.size, 2, none⟩ = some (.int .i64 (sgn z)) := (hb1.cell (by simp)).trans (by simp)
            have hbel3 := hbel2.trans (hb1.mono hbel2.size)
            obtain ⟨p0, p1, p2, _, p4, p5, p6⟩ := hpa
            have q0 := p2 0
            have q1 := p2 1
            have q2 := p2 2
            have r0 := p1 0 (by omega)
            have r1 := p1 1 (by omega)
            have r2 := p1 2 (by omega)
            clear p1 p2 hb1
            by_cases hmay : mayI ⟨x, y, sgn z⟩ = true
            · have HRR := hid (HRY.out hmay)
              rw [hmay]
              go_wp2
              try simp only [Exit.inBlock, Exit.then]
              refine bodyPost_ret (results_cell3 rfl _ _ _ ⟨w.heap.size, 0, none⟩ _ rfl (load_set3 _ _ _ _ _ _ _ _ r0 r1 r2)) rfl ?_
              exact ⟨by rw [HRR.out]; rfl, by repeat (first | exact hbel3 | refine Below.setCell ?_ (by simp) _)⟩
            · have hmay' : mayI ⟨x, y, sgn z⟩ = false := by simpa using hmay
              have HRR := hid (HRN.out hmay')
              rw [hmay']
              go_wp2
              try simp only [Exit.inBlock, Exit.then]
              refine bodyPost_ret (results_cell3 rfl _ _ _ ⟨w.heap.size, 0, none⟩ _ rfl (load_set3 _ _ _ _ _ _ _ _ r0 r1 r2)) rfl ?_
              exact ⟨by rw [HRR.out]; rfl, by repeat (first | exact hbel3 | refine Below.setCell ?_ (by simp) _)⟩
        · have HSG := hid (show sgn z = IntKind.i64.wrap (z.tdiv 2) by
            unfold sgn; rw [if_neg hodd, IntKind.wrap_i64, Int.tdiv_eq_ediv_of_nonneg hza]; omega)
          have hodd' : (z % 2 == 1) = false := by simp [hodd]
          go_wp2_with fail
          go_region_held3 (fun w' => Below wr.heap.size wr w' ∧ w'.cell? ⟨g, 0, none⟩ = some (.int .i64 x) ∧ w'.cell? ⟨g, 1, none⟩ = some (.int .i64 y) ∧ w'.cell? ⟨g, 2, none⟩ = some (.int .i64 z))
            ((go_split_ands; refine MK.out _ ?_; first
              | exact (Below.refl _ _).drew
              | assumption
              | exact Below.alloc (by assumption) (Below.size (by assumption)) _
              | exact (alloc_belowI _ _).drew))
            (fail)
          all_goals
            go_split_ands
            rename_i hbk _ _ _
            have hbel2 := hbel.trans (hbk.mono hbel.size)
            have HPA2 := hid (HPA.out.below hbk)
            rw [← HSG.out] at hbk hbel2 HPA2 ⊢
            go_wp2_with fail
            refine (rimay_any ⟨x, y, sgn z⟩ _).mono ?_
            rintro e w1 ⟨rfl, hb1⟩
            clear hbk c0 c1 c2
            have hpa := HPA2.out.below hb1
            have d0 : w1.cell? ⟨wr.heap.size, 0, none⟩ = some (.int .i64 x) := (hb1.cell (by simp)).trans (by simp)
            have d1 : w1.cell? ⟨wr.heap.size, 1, none⟩ = some (.int .i64 y) := (hb1.cell (by simp)).trans (by simp)
            have d2 : w1.cell? ⟨wr.heap.size, 2, none⟩ = some (.int .i64 (sgn z)) := (hb1.cell (by simp)).trans (by simp)
            have hbel3 := hbel2.trans (hb1.mono hbel2.size)
            obtain ⟨p0, p1, p2, _, p4, p5, p6⟩ := hpa
            have q0 := p2 0
            have q1 := p2 1
            have q2 := p2 2
            have r0 := p1 0 (by omega)
            have r1 := p1 1 (by omega)
            have r2 := p1 2 (by omega)
            clear p1 p2 hb1
            by_cases hmay : mayI ⟨x, y, sgn z⟩ = true
            · have HRR := hid (HRY.out hmay)
              rw [hmay]
              go_wp2
              try simp only [Exit.inBlock, Exit.then]
              refine bodyPost_ret (results_cell3 rfl _ _ _ ⟨w.heap.size, 0, none⟩ _ rfl (load_set3 _ _ _ _ _ _ _ _ r0 r1 r2)) rfl ?_
              exact ⟨by rw [HRR.out]; rfl, by repeat (first | exact hbel3 | refine Below.setCell ?_ (by simp) _)⟩
            · have hmay' : mayI ⟨x, y, sgn z⟩ = false := by simpa using hmay
              have HRR := hid (HRN.out hmay')
              rw [hmay']
              go_wp2
              try simp only [Exit.inBlock, Exit.then]
              refine bodyPost_ret (results_cell3 rfl _ _ _ ⟨w.heap.size, 0, none⟩ _ rfl (load_set3 _ _ _ _ _ _ _ _ r0 r1 r2)) rfl ?_
              exact ⟨by rw [HRR.out]; rfl, by repeat (first | exact hbel3 | refine Below.setCell ?_ (by simp) _)⟩
end Go.Proofs.YtfhjlpkejmjigaaDoor
