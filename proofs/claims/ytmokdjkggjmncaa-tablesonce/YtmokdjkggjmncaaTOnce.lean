/-
  What is decoded is encoded as just the same bytes; the law TablesOnce returns true, whatever it is given, and nothing that was there is written.
-/
import Derived.Test.YtmokdjkggjmncaaTAwake
import Derived.WalkSmall
namespace Go.Proofs.Ytmokdjkggjmncaa
open Go.RowKit
set_option linter.unusedVariables false

theorem ones_u8 {l : List Int} (h : ∀ n ∈ l, (Lit.int .u8 n).wf = true) : ∀ c ∈ l, 0 ≤ c ∧ c ≤ 255 := fun c hc => bounds_u8 (h c hc)

/-- What bytes hold, they hold so. -/
theorem gaF_back : ∀ (f : Nat) (acc r : List Int), (∀ c ∈ r, 0 ≤ c ∧ c ≤ 255) → r.length ≤ f → (gaF f acc r).2 = 0 → ∃ m, gaF f acc r = (acc ++ m, 0) ∧ allT m = true ∧ encAll m = r := by
  intro f
  induction f with
  | zero =>
    intro acc r _ hf _
    obtain rfl : r = [] := List.eq_nil_of_length_eq_zero (by omega)
    exact ⟨[], by simp [gaF], rfl, rfl⟩
  | succ f ih =>
    intro acc r hr hf he
    rw [gaF] at he ⊢
    by_cases h0 : r = []
    · rw [if_pos h0]
      exact ⟨[], by simp, rfl, by rw [h0]; rfl⟩
    · rw [if_neg h0] at he ⊢
      by_cases h1 : (get r).2.2 = 0
      · rw [if_pos h1] at he ⊢
        obtain ⟨q, j, hj1, hj2, hg, henc, hq, _⟩ := get_inv r hr h1
        rw [hg] at he ⊢
        simp only [Int.toNat_natCast] at he ⊢
        obtain ⟨m, hm1, hm2, hm3⟩ := ih (acc ++ [(q : Int)]) (r.drop j) (fun c hc => hr c (List.mem_of_mem_drop hc)) (by rw [List.length_drop]; omega) he
        refine ⟨(q : Int) :: m, ?_, ?_, ?_⟩
        · rw [hm1]; simp
        · simp only [allT, List.all_cons] at hm2 ⊢
          rw [hm2]
          simp [isT]
          omega
        · have : encAll ((q : Int) :: m) = enc q ++ encAll m := by simp [encAll]
          rw [this, hm3, henc, List.take_append_drop]
      · rw [if_neg h1] at he
        exact absurd he h1
theorem ga_back (b : List Int) (hb : ∀ c ∈ b, 0 ≤ c ∧ c ≤ 255) (h : (ga b).2 = 0) : allT (ga b).1 = true ∧ encAll (ga b).1 = b := by
  obtain ⟨m, h1, h2, h3⟩ := gaF_back b.length [] b hb (Nat.le_refl _) h
  unfold ga
  rw [h1]
  simpa using ⟨h2, h3⟩

/-- What was read is what was there ahead of what is left. -/
def Inv {α : Type} (f : α → List Int) (one : α → (List Int × Int) → α × (List Int × Int)) : Prop := ∀ x s, okS s → (one x s).2.2 = 0 → s.2 = 0 ∧ s.1 = f (one x s).1 ++ (one x s).2.1
theorem take_inv (n m : Int) (s : List Int × Int) (h : (takeN n m s).2.2 = 0) : s.2 = 0 ∧ s.1 = (takeN n m s).1 :: (takeN n m s).2.1 ∧ (takeN n m s).1 ≤ m := by
  unfold takeN at h ⊢
  by_cases h0 : s.2 = 0
  · rw [if_neg (by simpa using h0)] at h ⊢
    cases hs : s.1 with
    | nil => rw [hs] at h; simp at h
    | cons x r =>
      rw [hs] at h
      simp only at h ⊢
      by_cases hm : m < x
      · rw [if_pos hm] at h; simp at h
      · rw [if_neg hm]
        exact ⟨h0, rfl, by simp only; omega⟩
  · rw [if_pos h0] at h
    exact absurd h h0
theorem num_inv : Inv one1 (numW takeN) := fun n s _ h => ⟨(take_inv _ _ _ h).1, (take_inv _ _ _ h).2.1⟩
theorem flag_inv (b : Bool) (s : List Int × Int) (ho : okS s) (h : (flagW takeN b s).2.2 = 0) : s.2 = 0 ∧ s.1 = bitI (flagW takeN b s).1 :: (flagW takeN b s).2.1 := by
  obtain ⟨h1, h2, h3⟩ := take_inv (bitI b) 1 s h
  have h4 := (take_ok (bitI b) 1 s ho).1
  refine ⟨h1, ?_⟩
  rw [h2]
  unfold flagW
  simp only
  unfold okN at h4
  have : (takeN (bitI b) 1 s).1 = 0 ∨ (takeN (bitI b) 1 s).1 = 1 := by omega
  rcases this with h | h <;> rw [h] <;> rfl
theorem map_inv {α : Type} {f : α → List Int} {one : α → (List Int × Int) → α × (List Int × Int)} (hi : Inv f one) (ho : ∀ x s, okS s → okS (one x s).2) (l : List α) : ∀ s, okS s → (mapW one l s).2.2 = 0 → s.2 = 0 ∧ s.1 = (mapW one l s).1.flatMap f ++ (mapW one l s).2.1 := by
  induction l with
  | nil => intro s _ h; exact ⟨h, by simp [mapW]⟩
  | cons x l ih =>
    intro s hs h
    obtain ⟨h1, h2⟩ := ih (one x s).2 (ho x s hs) h
    obtain ⟨h3, h4⟩ := hi x s hs h1
    refine ⟨h3, ?_⟩
    simp only [mapW, List.flatMap_cons, List.append_assoc]
    rw [← h2]
    exact h4
theorem list_inv {α : Type} {f : α → List Int} {one : α → (List Int × Int) → α × (List Int × Int)} (hi : Inv f one) (ho : ∀ x s, okS s → okS (one x s).2) (z : α) (l : List α) (s : List Int × Int) (hs : okS s) (h : (listW takeN one z l s).2.2 = 0) :
    s.2 = 0 ∧ s.1 = cntF f (listW takeN one z l s).1 ++ (listW takeN one z l s).2.1 := by
  obtain ⟨h1, h2⟩ := map_inv hi ho _ _ (take_ok _ _ _ hs).2 h
  obtain ⟨h3, h4, _⟩ := take_inv _ _ _ h1
  have h5 := (take_ok (l.length : Int) 64 s hs).1
  refine ⟨h3, ?_⟩
  unfold cntF
  have hk : ((listW takeN one z l s).1.length : Int) = (takeN (l.length : Int) 64 s).1 := by
    unfold listW
    rw [mapW_length, pad_length]
    unfold okN at h5
    omega
  rw [hk, h4, h2]
  rfl
theorem rg_inv : Inv flRg (wRg takeN) := fun r s hs h => by
  have o0 := (num_ok r.f s hs).2
  have o1 := (num_ok r.n _ o0).2
  obtain ⟨e2, t2⟩ := flag_inv r.wr _ o1 h
  obtain ⟨e1, t1⟩ := num_inv r.n _ o0 e2
  obtain ⟨e0, t0⟩ := num_inv r.f s hs e1
  exact ⟨e0, by rw [t0, t1, t2]; rfl⟩
theorem pc_inv : Inv flPc (wPc takeN) := fun r s hs h => by
  have o0 := (num_ok r.pr s hs).2
  have o1 := (num_ok r.pe _ o0).2
  have o2 := (num_ok r.li _ o1).2
  have o3 := (num_ok r.en _ o2).2
  obtain ⟨e4, t4⟩ := flag_inv r.au _ o3 h
  obtain ⟨e3, t3⟩ := num_inv r.en _ o2 e4
  obtain ⟨e2, t2⟩ := num_inv r.li _ o1 e3
  obtain ⟨e1, t1⟩ := num_inv r.pe _ o0 e2
  obtain ⟨e0, t0⟩ := num_inv r.pr s hs e1
  exact ⟨e0, by rw [t0, t1, t2, t3, t4]; rfl⟩
theorem bc_inv : Inv flBc (wBc takeN) := fun r s hs h => by
  have o0 := (num_ok r.d s hs).2
  obtain ⟨e1, t1⟩ := flag_inv r.ra _ o0 h
  obtain ⟨e0, t0⟩ := num_inv r.d s hs e1
  exact ⟨e0, by rw [t0, t1]; rfl⟩
theorem sc_inv : Inv flSc (wSc takeN) := fun r s hs h => by
  have o0 := (num_ok r.co s hs).2
  have o1 := (num_ok r.mo _ o0).2
  obtain ⟨e2, t2⟩ := flag_inv r.ra _ o1 h
  obtain ⟨e1, t1⟩ := num_inv r.mo _ o0 e2
  obtain ⟨e0, t0⟩ := num_inv r.co s hs e1
  exact ⟨e0, by rw [t0, t1, t2]; rfl⟩
theorem wn_inv : Inv flWn (wWn takeN) := fun r s hs h => by
  have o0 := (num_ok r.p s hs).2
  have o1 := (num_ok r.st _ o0).2
  obtain ⟨e2, t2⟩ := num_inv r.ln _ o1 h
  obtain ⟨e1, t1⟩ := num_inv r.st _ o0 e2
  obtain ⟨e0, t0⟩ := num_inv r.p s hs e1
  exact ⟨e0, by rw [t0, t1, t2]; rfl⟩
theorem wn_ok (r : Wn) (s : List Int × Int) (h : okS s) : okS (wWn takeN r s).2 := (num_ok _ _ (num_ok _ _ (num_ok _ _ h).2).2).2
theorem ch_ok (r : Ch) (s : List Int × Int) (h : okS s) : okS (wCh takeN r s).2 := (num_ok _ _ (num_ok _ _ (num_ok _ _ (num_ok _ _ (flag_ok _ _ h)).2).2).2).2
theorem ch_inv : Inv flCh (wCh takeN) := fun r s hs h => by
  have o0 := flag_ok r.qu s hs
  have o1 := (num_ok r.f _ o0).2
  have o2 := (num_ok r.a _ o1).2
  have o3 := (num_ok r.t _ o2).2
  obtain ⟨e4, t4⟩ := num_inv r.b _ o3 h
  obtain ⟨e3, t3⟩ := num_inv r.t _ o2 e4
  obtain ⟨e2, t2⟩ := num_inv r.a _ o1 e3
  obtain ⟨e1, t1⟩ := num_inv r.f _ o0 e2
  obtain ⟨e0, t0⟩ := flag_inv r.qu s hs e1
  exact ⟨e0, by rw [t0, t1, t2, t3, t4]; rfl⟩
theorem pt_inv : Inv flPt (wPt takeN) := fun p s hs h => by
  have o0 := (num_ok p.wo s hs).2
  have o1 := (list_ok (E := Rg.fit) rg_ok Rg.zero p.rg _ o0).2
  have o2 := (list_ok (E := fun _ => True) pc_ok Pc.zero p.pc _ o1).2
  have o3 := (num_ok p.bo _ o2).2
  have o4 := (list_ok (E := fun _ => True) bc_ok Bc.zero p.bc _ o3).2
  have o5 := (list_ok (E := fun _ => True) sc_ok Sc.zero p.sc _ o4).2
  have o6 := (num_ok p.ev _ o5).2
  have o7 := (list_ok num_ok 0 p.sa _ o6).2
  have o8 := (list_ok num_ok 0 p.qu _ o7).2
  have o9 := (num_ok p.la _ o8).2
  dsimp only [wPt] at h ⊢
  obtain ⟨e10, t10⟩ := list_inv num_inv (fun x s h => (num_ok x s h).2) 0 p.tb _ o9 h
  obtain ⟨e9, t9⟩ := num_inv p.la _ o8 e10
  obtain ⟨e8, t8⟩ := list_inv num_inv (fun x s h => (num_ok x s h).2) 0 p.qu _ o7 e9
  obtain ⟨e7, t7⟩ := list_inv num_inv (fun x s h => (num_ok x s h).2) 0 p.sa _ o6 e8
  obtain ⟨e6, t6⟩ := num_inv p.ev _ o5 e7
  obtain ⟨e5, t5⟩ := list_inv sc_inv (fun x s h => (sc_ok x s h).2) Sc.zero p.sc _ o4 e6
  obtain ⟨e4, t4⟩ := list_inv bc_inv (fun x s h => (bc_ok x s h).2) Bc.zero p.bc _ o3 e5
  obtain ⟨e3, t3⟩ := num_inv p.bo _ o2 e4
  obtain ⟨e2, t2⟩ := list_inv pc_inv (fun x s h => (pc_ok x s h).2) Pc.zero p.pc _ o1 e3
  obtain ⟨e1, t1⟩ := list_inv rg_inv (fun x s h => (rg_ok x s h).2) Rg.zero p.rg _ o0 e2
  obtain ⟨e0, t0⟩ := num_inv p.wo s hs e1
  refine ⟨e0, ?_⟩
  rw [t0, t1, t2, t3, t4, t5, t6, t7, t8, t9, t10]
  simp only [flPt, one1, List.append_assoc]
theorem cf_inv (c : Cf) (s : List Int × Int) (hs : okS s) (h : (wCf takeN c s).2.2 = 0) : s.1 = flCf (wCf takeN c s).1 ++ (wCf takeN c s).2.1 := by
  have o0 := (num_ok c.fr s hs).2
  have o1 := (num_ok c.sw _ o0).2
  have o2 := (list_ok num_ok 0 c.li _ o1).2
  have o3 := (list_ok (E := fun p => ∀ r ∈ p.rg, r.fit) pt_ok Pt.zero c.pa _ o2).2
  have o4 := (list_ok (E := fun _ => True) (fun x s h => ⟨trivial, wn_ok x s h⟩) Wn.zero c.wi _ o3).2
  dsimp only [wCf] at h ⊢
  obtain ⟨e5, t5⟩ := list_inv ch_inv ch_ok Ch.zero c.ch _ o4 h
  obtain ⟨e4, t4⟩ := list_inv wn_inv wn_ok Wn.zero c.wi _ o3 e5
  obtain ⟨e3, t3⟩ := list_inv pt_inv (fun x s h => (pt_ok x s h).2) Pt.zero c.pa _ o2 e4
  obtain ⟨e2, t2⟩ := list_inv num_inv (fun x s h => (num_ok x s h).2) 0 c.li _ o1 e3
  obtain ⟨e1, t1⟩ := num_inv c.sw _ o0 e2
  obtain ⟨e0, t0⟩ := num_inv c.fr s hs e1
  rw [t0, t1, t2, t3, t4, t5]
  simp only [flCf, one1, List.append_assoc, List.cons_append, List.nil_append]

/-- What is decoded is encoded as the same bytes. -/
theorem dec_back (b : List Int) (hb : ∀ c ∈ b, 0 ≤ c ∧ c ≤ 255) (h : (decT b).2 = 0) : mayC (decT b).1 = true ∧ encB (decT b).1 = b ∧ encE (decT b).1 = 0 ∧ (decT b).1.fit := by
  have hok := gaF_ok b.length [] b hb (by simp)
  change ∀ x ∈ (ga b).1, okN x at hok
  unfold decT at h ⊢
  by_cases h0 : (ga b).2 = 0
  · rw [if_neg (by simpa using h0)] at h ⊢
    by_cases h1 : (decS (ga b).1).2.2 = 0
    · rw [if_neg (by simpa using h1)] at h ⊢
      by_cases h2 : (decS (ga b).1).2.1 = []
      · rw [if_neg (by simpa using h2)] at h ⊢
        by_cases h3 : mayC (decS (ga b).1).1 = true
        · rw [if_pos h3]
          have h4 := cf_inv zeroC ((ga b).1, 0) hok h1
          rw [show (wCf takeN zeroC ((ga b).1, 0)).2.1 = [] from h2, List.append_nil] at h4
          simp only at h4
          obtain ⟨h5, h6⟩ := ga_back b hb h0
          have h7 : flCf (decS (ga b).1).1 = (ga b).1 := h4.symm
          simp only
          refine ⟨h3, ?_, ?_, cf_ok zeroC ((ga b).1, 0) hok⟩
          · rw [encB, if_pos h3, h7, paB, if_pos h5, h6]
          · rw [encE, if_pos h3, h7, paE, if_pos h5]
        · rw [if_neg h3] at h
          simp at h
      · rw [if_pos h2] at h
        simp at h
    · rw [if_pos h1] at h
      exact absurd h h1
  · rw [if_pos h0] at h
    exact absurd h h0
theorem dec_err (b : List Int) (h : (decT b).2 ≠ 0) : (decT b).1 = zeroC := by
  unfold decT at h ⊢
  split
  · rfl
  · split
    · rfl
    · split
      · rfl
      · split
        · rename_i h0 h1 h2 h3
          rw [if_neg h0, if_neg h1, if_neg h2, if_pos h3] at h
          exact absurd rfl h
        · rfl

set_option maxRecDepth 100000 in
set_option maxHeartbeats 1600000 in
theorem walk_TablesOnce (w : World) (v : Value) (l : List Int) (hv : Sees w .u8 v l) (hw : ∀ n ∈ l, (Lit.int .u8 n).wf = true) :
    Calls Try.prog 5 #[v] w fun e w' => e = .returned (.bool true) ∧ Below w.heap.size w w' := by
  have hnot := Try.hnot
  have HY := hid (ones_u8 hw)
  have HV := hid hv
  obtain ⟨a, cap, rfl, hc1, hc2, _⟩ := hv.form
  unfold maxLen at hc2
  clear hw hv
  go_enter Try.func5, Try.ntmps5
  go_wp2_with fail
  refine (awake_any _).mono ?_
  rintro e w1 ⟨rfl, hb1⟩
  by_cases hl : 3000 < l.length
  · clear HY HV
    go_wp2
    go_ret
    exact ⟨rfl, hb1⟩
  go_wp2_with fail
  refine (dec_any _ l _ (HV.out.below hb1) HY.out (by omega)).mono ?_
  rintro e w2 ⟨⟨fr, sw, ⟨a1, n1, k1⟩, ⟨a2, n2, k2⟩, ⟨a3, n3, k3⟩, ⟨a4, n4, k4⟩⟩, rfl, hc, hb2⟩
  have hB2 := hb1.trans (hb2.mono hb1.size)
  clear hb1 hb2
  simp only [Cv.val]
  by_cases he : (decT l).2 = 0
  case neg =>
    have hz := dec_err l he
    rw [hz] at hc
    obtain ⟨_, _, hqv, _, _, _⟩ := hc.wi.form
    simp only [Sl.val, Value.slice.injEq] at hqv
    obtain rfl : n3 = 0 := by rw [hqv.2.1]; rfl
    have hne : ((decT l).2 != 0) = true := by simpa using he
    clear hz hc hqv HY HV he
    generalize (decT l).2 = y at *
    go_wp2
    go_ret
    exact ⟨rfl, hB2.alloc hB2.size _⟩
  obtain ⟨g1, g2, g3, g4⟩ := dec_back l HY.out he
  rw [he]
  have HG1 := hid g1
  have HG2 := hid g2
  have HG3 := hid g3
  have HG4 := hid g4
  have HC := hid hc
  generalize hdt : (decT l).1 = c at *
  clear he g1 g2 g3 g4 hc hdt
  go_wp2_with fail
  have hB3 := hB2.alloc hB2.size (.cells #[.int .i64 fr, .int .i64 sw, .slice a1 n1 k1, .slice a2 n2 k2, .slice a3 n3 k3, .slice a4 n4 k4] 27)
  have hbx := (Below.refl w2.heap.size w2).alloc (Nat.le_refl _) (.cells #[.int .i64 fr, .int .i64 sw, .slice a1 n1 k1, .slice a2 n2 k2, .slice a3 n3 k3, .slice a4 n4 k4] 27)
  refine (enc_any ⟨fr, sw, ⟨a1, n1, k1⟩, ⟨a2, n2, k2⟩, ⟨a3, n3, k3⟩, ⟨a4, n4, k4⟩⟩ c _ (HC.out.below hbx) HG4.out).mono ?_
  rintro e w4 ⟨u, rfl, ho4, hb4⟩
  rw [HG2.out] at ho4
  rw [HG3.out]
  have hB4 := hB3.trans (hb4.mono hB3.size)
  have B4 : BoxAt w4 w2.heap.size 27 #[.int .i64 fr, .int .i64 sw, .slice a1 n1 k1, .slice a2 n2 k2, .slice a3 n3 k3, .slice a4 n4 k4] := (BoxAt.new w2 _ _).belowAll hb4
  have c0 := (B4.cell 0).trans rfl
  have c1 := (B4.cell 1).trans rfl
  have c2 := (B4.cell 2).trans rfl
  have c3 := (B4.cell 3).trans rfl
  have c4 := (B4.cell 4).trans rfl
  have c5 := (B4.cell 5).trans rfl
  have HC4 := hid ((HC.out.below hbx).below hb4)
  have s1 : (convert 30 9 u).run Try.prog w4 = .ok (.string (strOfNums l)) w4 := (Sees.of_owns ho4).str _ _ _ Try.underlying30 Try.underlying5 Try.underlying9
  have s2 : (convert 30 9 (.slice a l.length cap)).run Try.prog w4 = .ok (.string (strOfNums l)) w4 := (HV.out.below hB4).str _ _ _ Try.underlying30 Try.underlying5 Try.underlying9
  clear ho4 hb4 hbx hB3 hB2 HC B4
  go_wp2_with fail
  refine (tmay_any ⟨fr, sw, ⟨a1, n1, k1⟩, ⟨a2, n2, k2⟩, ⟨a3, n3, k3⟩, ⟨a4, n4, k4⟩⟩ c _ HC4.out HG4.out).mono ?_
  rintro e w5 ⟨rfl, hb5⟩
  rw [HG1.out]
  have hB5 := hB4.trans (hb5.mono hB4.size)
  clear hb5 s1 s2 c0 c1 c2 c3 c4 c5 HC4
  go_wp2
  go_ret
  exact ⟨rfl, hB5⟩
end Go.Proofs.Ytmokdjkggjmncaa
