/-
  What frame.At and frame.Starts return, whatever configuration and tick they are given, and that nothing that was there is written.
-/
import Derived.Test.YtfdoejdnhogepaaTPlanA
import Derived.WalkMore
namespace Go.Proofs.Ytfdoejdnhogepaa
open Go.RowKit
set_option linter.unusedVariables false

/-- What a tick is. -/
structure Slt where
  wi : Int
  into : Int
  ru : Bool
def Slt.val (s : Slt) : Value := .agg #[.int .i64 s.wi, .int .i64 s.into, .bool s.ru]
def Slt.no : Slt := ⟨-1, 0, false⟩

/-- The first window, from number k on, that has a place. -/
def findW (sw pl : Int) : Nat → List Wn → Slt
  | _, [] => Slt.no
  | k, v :: l => if v.st < 0 ∨ pl - v.st < 0 then findW sw pl (k + 1) l else if pl - v.st < v.ln then ⟨k, pl - v.st, decide (sw ≤ pl - v.st)⟩ else findW sw pl (k + 1) l

def atS (fr sw : Int) (l : List Wn) (t : Int) : Slt := if t < 0 ∨ fr < 1 then Slt.no else findW sw (t % fr) 0 l

/-- A window's numbers are those of a machine. -/
def Wn.fit (v : Wn) : Prop := v.st ≤ 9223372036854775807
def fitI (x : Int) : Prop := -9223372036854775808 ≤ x ∧ x ≤ 9223372036854775807

theorem Try.infoSl : (Try.prog.info? 51).map (·.size) = some 3 := by kernel_rfl

set_option maxRecDepth 100000 in
set_option maxHeartbeats 1600000 in
theorem at_any (q : Cv) (l : List Wn) (t : Int) (w : World) (hv : SeesWn w q.w.val l) (ht : fitI t) (hfr : fitI q.fr) (hf : ∀ x ∈ l, x.fit) :
    Calls Try.prog 25 #[q.val, .int .i64 t] w fun e w' => e = .returned (atS q.fr q.sw l t).val ∧ Below w.heap.size w w' := by
  obtain ⟨fr, sw, ⟨a1, n1, k1⟩, ⟨a2, n2, k2⟩, ⟨a3, n3, k3⟩, ⟨a4, n4, k4⟩⟩ := q
  obtain ⟨al, cl, hvl, hl1, hl2, hlc⟩ := hv.form
  simp only [Sl.val, Value.slice.injEq] at hvl
  obtain ⟨rfl, rfl, rfl⟩ := hvl
  unfold maxLen at hl2
  simp only [fitI] at ht hfr
  have HC := hid hlc
  have HF := hid hf
  clear hlc hv hf
  obtain ⟨R, hR⟩ : ∃ r, atS fr sw l t = r := ⟨_, rfl⟩
  rw [hR]
  have HR := hid hR
  clear hR
  unfold Cv.val
  have B0 := hid (show BoxAt (((w.alloc (.cells #[.int .i64 fr, .int .i64 sw, .slice a1 n1 k1, .slice a2 n2 k2, .slice a3 l.length k3, .slice a4 n4 k4] 27)).alloc (.cells #[.int .i64 0, .int .i64 0, .bool false] 51)).alloc (.cells #[.int .i64 (-1), .int .i64 0, .bool false] 51)) w.heap.size 27 #[.int .i64 fr, .int .i64 sw, .slice a1 n1 k1, .slice a2 n2 k2, .slice a3 l.length k3, .slice a4 n4 k4] from ((BoxAt.new w _ _).alloc _).alloc _)
  have B1 := hid (show BoxAt (((w.alloc (.cells #[.int .i64 fr, .int .i64 sw, .slice a1 n1 k1, .slice a2 n2 k2, .slice a3 l.length k3, .slice a4 n4 k4] 27)).alloc (.cells #[.int .i64 0, .int .i64 0, .bool false] 51)).alloc (.cells #[.int .i64 (-1), .int .i64 0, .bool false] 51)) (w.heap.size + 1) 51 #[.int .i64 0, .int .i64 0, .bool false] from (BoxAt.new1 w _ _ _).alloc _)
  have B2 := hid (show BoxAt (((w.alloc (.cells #[.int .i64 fr, .int .i64 sw, .slice a1 n1 k1, .slice a2 n2 k2, .slice a3 l.length k3, .slice a4 n4 k4] 27)).alloc (.cells #[.int .i64 0, .int .i64 0, .bool false] 51)).alloc (.cells #[.int .i64 (-1), .int .i64 0, .bool false] 51)) (w.heap.size + 1 + 1) 51 #[.int .i64 (-1), .int .i64 0, .bool false] from BoxAt.new2 w _ _ _ _)
  have hB : Below w.heap.size w (((w.alloc (.cells #[.int .i64 fr, .int .i64 sw, .slice a1 n1 k1, .slice a2 n2 k2, .slice a3 l.length k3, .slice a4 n4 k4] 27)).alloc (.cells #[.int .i64 0, .int .i64 0, .bool false] 51)).alloc (.cells #[.int .i64 (-1), .int .i64 0, .bool false] 51)) :=
    (((Below.refl _ _).alloc (Nat.le_refl _) _).alloc (by simp) _).alloc (by simp; omega) _
  have HB := hid hB
  clear hB
  have c0 := (B0.out.cell 0).trans rfl
  have d0 := (B2.out.cell 0).trans rfl
  have d1 := (B2.out.cell 1).trans rfl
  have d2 := (B2.out.cell 2).trans rfl
  have e0 := (B1.out.cell 0).trans rfl
  have e1 := (B1.out.cell 1).trans rfl
  have e2 := (B1.out.cell 2).trans rfl
  go_enter Try.func25, Try.ntmps25
  go_wp2
  go_step3
  by_cases h1 : t < 0
  · have HE := hid (show Slt.no = R by have := HR.out; rw [atS, if_pos (.inl h1)] at this; exact this)
    go_wp2
    try rw [Exit.noGoto_ret]
    refine bodyPost_ret (results_cell_row rfl _ _ (w.heap.size + 1) 51 _ (0, 0) _ rfl ((BoxAt.new1 w _ _ _).alloc _) Try.underlying51 rfl Try.infoSl) rfl ?_
    exact ⟨by rw [← HE.out]; rfl, (((Below.refl _ _).alloc (Nat.le_refl _) _).alloc (by simp) _).alloc (by simp; omega) _⟩
  by_cases h2 : fr < 1
  · have HE := hid (show Slt.no = R by have := HR.out; rw [atS, if_pos (.inr h2)] at this; exact this)
    go_wp2
    try rw [Exit.noGoto_ret]
    refine bodyPost_ret (results_cell_row rfl _ _ (w.heap.size + 1) 51 _ (0, 0) _ rfl ((BoxAt.new1 w _ _ _).alloc _) Try.underlying51 rfl Try.infoSl) rfl ?_
    exact ⟨by rw [← HE.out]; rfl, (((Below.refl _ _).alloc (Nat.le_refl _) _).alloc (by simp) _).alloc (by simp; omega) _⟩
  have HN := hid (show findW sw (t % fr) 0 l = R by have := HR.out; rw [atS, if_neg (by omega)] at this; exact this)
  have c4 := (B0.out.cell 4).trans rfl
  clear HR
  go_wp2
  go_step3
  go_wp2
  have hp0 : 0 ≤ t % fr := Int.emod_nonneg _ (by omega)
  have hp1 : t % fr ≤ 9223372036854775807 := by have := Int.emod_lt_of_pos t (show 0 < fr by omega); omega
  generalize t % fr = pl at *
  clear c0 c4 d0 d1 d2 e0 e1 e2
  go_loopw [26] (fun s wc => ∃ i : Nat, i ≤ l.length ∧ s = .int .i64 i ∧ findW sw pl i (l.drop i) = R ∧
      BoxAt wc w.heap.size 27 #[.int .i64 fr, .int .i64 sw, .slice a1 n1 k1, .slice a2 n2 k2, .slice a3 l.length k3, .slice a4 n4 k4] ∧
      BoxAt wc (w.heap.size + 1) 51 #[.int .i64 0, .int .i64 0, .bool false] ∧ BoxAt wc (w.heap.size + 1 + 1) 51 #[.int .i64 (-1), .int .i64 0, .bool false] ∧ Below w.heap.size w wc) (fun s _ => l.length - (intOf s).toNat)
  case atStart => exact ⟨0, by omega, rfl, by simpa using HN.out, B0.out, B1.out, B2.out, HB.out⟩
  case round =>
    clear B0 B1 B2 HB HN
    obtain ⟨i, hi, rfl, ho, b0, b1, b2, hbel⟩ := hrel
    have HO := hid ho
    have B0 := hid b0
    have B1 := hid b1
    have B2 := hid b2
    have HB := hid hbel
    have hsz := b2.lt
    clear ho b0 b1 b2 hbel
    by_cases hlt : i < l.length
    · obtain ⟨b, off, rfl, hbw, hcell⟩ := HC.out (by omega)
      have c0 := (HB.out.cell (by exact hbw)).trans (hcell i hlt 0 (by decide))
      have c1 := (HB.out.cell (by exact hbw)).trans (hcell i hlt 1 (by decide))
      have c2 := (HB.out.cell (by exact hbw)).trans (hcell i hlt 2 (by decide))
      have hmem : l.getD i Wn.zero ∈ l := by simp [List.getD, List.getElem?_eq_getElem hlt]
      have hfx := HF.out _ hmem
      have hdrop : l.drop i = l.getD i Wn.zero :: l.drop (i + 1) := by
        rw [List.drop_eq_getElem_cons hlt]; simp [List.getD, List.getElem?_eq_getElem hlt]
      rw [hdrop, findW] at HO
      clear hcell HC HF hmem hdrop
      generalize l.getD i Wn.zero = r at *
      obtain ⟨x0, x1, x2⟩ := r
      simp only [Wn.fit] at hfx
      simp only [Wn.cells, List.getD_cons_zero, List.getD_cons_succ, Nat.add_zero] at c0 c1 c2 HO
      by_cases hs : x1 < 0
      · have HX := hid (show findW sw pl (i + 1) (l.drop (i + 1)) = R by have := HO.out; rw [if_pos (.inl hs)] at this; exact this)
        clear HO
        go_wp2
        go_roundw
        case rel => exact ⟨i + 1, by omega, by go_num, HX.out, B0.out.alloc _, B1.out.alloc _, B2.out.alloc _, HB.out.alloc HB.out.size _⟩
        case measure => simp [intOf]; omega
      by_cases hs2 : pl - x1 < 0
      · have HX := hid (show findW sw pl (i + 1) (l.drop (i + 1)) = R by have := HO.out; rw [if_pos (.inr hs2)] at this; exact this)
        clear HO
        go_wp2
        go_roundw
        case rel => exact ⟨i + 1, by omega, by go_num, HX.out, B0.out.alloc _, B1.out.alloc _, B2.out.alloc _, HB.out.alloc HB.out.size _⟩
        case measure => simp [intOf]; omega
      by_cases hs3 : pl - x1 < x2
      · have HX := hid (show (⟨i, pl - x1, decide (sw ≤ pl - x1)⟩ : Slt) = R by have := HO.out; rw [if_neg (by omega), if_pos hs3] at this; exact this)
        clear HO
        have q1 : wr.cell? ⟨w.heap.size, 1, none⟩ = some (.int .i64 sw) := (B0.out.cell 1).trans rfl
        have r0 := (B2.out.cell 0).trans rfl
        have r1 := (B2.out.cell 1).trans rfl
        have r2 := (B2.out.cell 2).trans rfl
        have f2 := B2.out.free
        have s0 := (B1.out.cell 0).trans rfl
        have s1 := (B1.out.cell 1).trans rfl
        have s2 := (B1.out.cell 2).trans rfl
        have f1 := B1.out.free
        have hsz1 : w.heap.size + 1 < wr.heap.size := by omega
        have hsz2 : w.heap.size < wr.heap.size := by omega
        by_cases hs4 : sw ≤ pl - x1
        all_goals
          go_wp2
          try rw [Exit.noGoto_ret]
          refine bodyPost_ret (results_cell_row rfl _ _ (w.heap.size + 1) 51 _ (0, 0) _ rfl (((((B1.out.other (by omega) _).other (by omega) _).other (by omega) _).set3 _ _ _).alloc _) Try.underlying51 rfl Try.infoSl) rfl ?_
          refine ⟨by rw [← HX.out]; simp [Slt.val]; omega, ?_⟩
          exact ((((((HB.out.setCell (by simp; omega) _).setCell (by simp; omega) _).setCell (by simp; omega) _).setCell (by simp) _).setCell (by simp) _).setCell (by simp) _).alloc (by simp; omega) _
      · have HX := hid (show findW sw pl (i + 1) (l.drop (i + 1)) = R by have := HO.out; rw [if_neg (by omega), if_neg hs3] at this; exact this)
        clear HO
        go_wp2
        go_roundw
        case rel => exact ⟨i + 1, by omega, by go_num, HX.out, B0.out.alloc _, B1.out.alloc _, B2.out.alloc _, HB.out.alloc HB.out.size _⟩
        case measure => simp [intOf]; omega
    · have HX := hid (show Slt.no = R by have := HO.out; rw [List.drop_of_length_le (by omega)] at this; exact this)
      have r0 := (B2.out.cell 0).trans rfl
      have r1 := (B2.out.cell 1).trans rfl
      have r2 := (B2.out.cell 2).trans rfl
      have s0 := (B1.out.cell 0).trans rfl
      have s1 := (B1.out.cell 1).trans rfl
      have s2 := (B1.out.cell 2).trans rfl
      have f1 := B1.out.free
      clear HO
      go_wp2
      try rw [Exit.noGoto_ret]
      refine bodyPost_ret (results_cell_row rfl _ _ (w.heap.size + 1) 51 _ (0, 0) _ rfl (B1.out.set3 _ _ _) Try.underlying51 rfl Try.infoSl) rfl ?_
      exact ⟨by rw [← HX.out]; rfl, ((HB.out.setCell (by simp) _).setCell (by simp) _).setCell (by simp) _⟩

def startS (fr sw : Int) (l : List Wn) (t : Int) : Int := if (atS fr sw l t).into ≠ 0 then -1 else (atS fr sw l t).wi

set_option maxRecDepth 100000 in
set_option maxHeartbeats 400000 in
theorem starts_any (q : Cv) (l : List Wn) (t : Int) (w : World) (hv : SeesWn w q.w.val l) (ht : fitI t) (hfr : fitI q.fr) (hf : ∀ x ∈ l, x.fit) :
    Calls Try.prog 26 #[q.val, .int .i64 t] w fun e w' => e = .returned (.int .i64 (startS q.fr q.sw l t)) ∧ Below w.heap.size w w' := by
  have HA := hid (at_any q l t (w.alloc (.cells #[.int .i64 q.fr, .int .i64 q.sw, .slice q.l.a q.l.n q.l.c, .slice q.p.a q.p.n q.p.c, .slice q.w.a q.w.n q.w.c, .slice q.c.a q.c.n q.c.c] 27)) (hv.below ((Below.refl _ _).alloc (Nat.le_refl _) _)) ht hfr hf)
  clear hv ht hfr hf
  obtain ⟨R, hR⟩ : ∃ r, startS q.fr q.sw l t = r := ⟨_, rfl⟩
  rw [hR]
  unfold startS at hR
  obtain ⟨fr, sw, ⟨a1, n1, k1⟩, ⟨a2, n2, k2⟩, ⟨a3, n3, k3⟩, ⟨a4, n4, k4⟩⟩ := q
  simp only at hR HA
  generalize atS fr sw l t = x at *
  obtain ⟨wi, into, ru⟩ := x
  simp only [Slt.val] at hR HA
  unfold Cv.val at HA ⊢
  have HR := hid hR
  clear hR
  go_enter Try.func26, Try.ntmps26
  go_wp2_with fail
  refine HA.out.mono ?_
  rintro e w1 ⟨rfl, hb⟩
  have hB : Below w.heap.size w w1 := ((Below.refl _ _).alloc (Nat.le_refl _) _).trans (hb.mono (by simp))
  clear hb HA
  by_cases h : into = 0
  · subst h
    go_wp2
    go_ret
    exact ⟨by rw [← HR.out]; rfl, hB.alloc hB.size _⟩
  · have hne : (into != 0) = true := by simpa using h
    have HX := hid (show (-1 : Int) = R by have := HR.out; rw [if_pos h] at this; exact this)
    clear HR
    go_wp2
    go_ret
    exact ⟨by rw [← HX.out]; rfl, hB.alloc hB.size _⟩

/-- Is a window of a part? -/
def ofB (l : List Wn) (k p : Int) : Bool := decide (k ≠ -1) && decide ((l.getD k.toNat Wn.zero).p = p)

set_option maxRecDepth 100000 in
set_option maxHeartbeats 400000 in
theorem isOf_any (q : Cv) (l : List Wn) (k p : Int) (w : World) (hv : SeesWn w q.w.val l) (hk : k = -1 ∨ 0 ≤ k ∧ k < l.length) :
    Calls Try.prog 58 #[q.val, .int .i64 k, .int .i64 p] w fun e w' => e = .returned (.bool (ofB l k p)) ∧ Below w.heap.size w w' := by
  obtain ⟨fr, sw, ⟨a1, n1, k1⟩, ⟨a2, n2, k2⟩, ⟨a3, n3, k3⟩, ⟨a4, n4, k4⟩⟩ := q
  obtain ⟨al, cl, hvl, hl1, hl2, hlc⟩ := hv.form
  simp only [Sl.val, Value.slice.injEq] at hvl
  obtain ⟨rfl, rfl, rfl⟩ := hvl
  unfold maxLen at hl2
  unfold Cv.val
  clear hv
  rcases hk with rfl | ⟨hk1, hk2⟩
  · have HE := hid (show ofB l (-1) p = false by simp [ofB])
    clear hlc
    go_enter Try.func58, Try.ntmps58
    go_wp2
    go_ret
    exact ⟨by rw [HE.out]; rfl, (Below.refl _ _).alloc (Nat.le_refl _) _⟩
  · clear hl2
    obtain ⟨j, rfl⟩ : ∃ j : Nat, k = j := ⟨k.toNat, (Int.toNat_of_nonneg hk1).symm⟩
    have h : ¬ (j : Int) = -1 := by omega
    have hj : j < l.length := by omega
    have hne : ((j : Int) != -1) = true := by simp
    obtain ⟨b, off, rfl, hbw, hcell⟩ := hlc (by omega)
    have c0 := hcell j hj 0 (by decide)
    have HE := hid (show ofB l (j : Int) p = decide ((l.getD j Wn.zero).p = p) by simp only [ofB, Int.toNat_natCast]; rw [decide_eq_true h]; rfl)
    clear hcell hlc hk1 hk2
    generalize l.getD j Wn.zero = r at *
    obtain ⟨x0, x1, x2⟩ := r
    simp only [Wn.cells, List.getD_cons_zero, Nat.add_zero] at c0 HE
    go_enter Try.func58, Try.ntmps58
    go_wp2
    go_ret
    exact ⟨by rw [HE.out]; simp [BEq.beq], (Below.refl _ _).alloc (Nat.le_refl _) _⟩
end Go.Proofs.Ytfdoejdnhogepaa
