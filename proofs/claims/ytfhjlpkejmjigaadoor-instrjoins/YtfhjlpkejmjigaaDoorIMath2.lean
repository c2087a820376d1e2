/-
  What was packed is unpacked as it was, and the other way round: of lists and numbers alone.
-/
import Derived.Test.YtfhjlpkejmjigaaDoorIPut
namespace Go.Proofs.YtfhjlpkejmjigaaDoor
open Go.RowKit
set_option linter.unusedVariables false

theorem encAll_cons (n : Int) (ns : List Int) : encAll (n :: ns) = enc n.toNat ++ encAll ns := by simp [encAll]
theorem allT_cons (n : Int) (ns : List Int) : allT (n :: ns) = (isT n && allT ns) := by simp [allT]
theorem iencAll_cons (i : In) (l : List In) : iencAll (i :: l) = ienc i ++ iencAll l := by simp [iencAll]
theorem iencAll_append (a b : List In) : iencAll (a ++ b) = iencAll a ++ iencAll b := by simp [iencAll]
theorem allMay_append (a b : List In) : allMay (a ++ b) = (allMay a && allMay b) := by simp [allMay]

theorem enc_mem {n : Int} (h : isT n = true) : ∀ c ∈ enc n.toNat, 0 ≤ c ∧ c ≤ 255 := by
  intro c hc
  obtain ⟨i, hi, rfl⟩ := List.getElem_of_mem hc
  have := enc_bytes n.toNat (isT_nat h).2 i hi
  rw [show (enc n.toNat).getD i 0 = (enc n.toNat)[i] by simp [List.getD, List.getElem?_eq_getElem hi]] at this
  omega
theorem encAll_mem {ns : List Int} (h : allT ns = true) : ∀ c ∈ encAll ns, 0 ≤ c ∧ c ≤ 255 := by
  intro c hc
  simp only [encAll, List.mem_flatMap] at hc
  obtain ⟨n, hn, hc⟩ := hc
  exact enc_mem (by simp only [allT, List.all_eq_true] at h; exact h n hn) c hc
theorem iputB_mem (i : In) : ∀ c ∈ iputB i, 0 ≤ c ∧ c ≤ 255 := by
  unfold iputB
  split
  · rename_i h; exact encAll_mem (ienc_all h)
  · simp
theorem packB_mem (l : List In) : ∀ c ∈ packB l, 0 ≤ c ∧ c ≤ 255 := by
  unfold packB
  split
  · simp
  · split
    · rename_i h
      intro c hc
      simp only [iencAll, List.mem_flatMap] at hc
      obtain ⟨i, hi, hc⟩ := hc
      have : mayI i = true := by simp only [allMay, List.all_eq_true] at h; exact h i hi
      exact encAll_mem (ienc_all this) c hc
    · simp

theorem getsF_enc (ns : List Int) : ∀ (pre rest acc : List Int), allT ns = true → getsF (pre ++ (encAll ns ++ rest)) ns.length acc pre.length = (acc ++ ns, pre.length + (encAll ns).length, 0) := by
  induction ns with
  | nil => intro pre rest acc h; simp [getsF, encAll]
  | cons n ns ih =>
    intro pre rest acc h
    rw [allT_cons] at h
    simp only [Bool.and_eq_true] at h
    obtain ⟨h1, h2⟩ := isT_nat h.1
    have hg : get ((pre ++ (encAll (n :: ns) ++ rest)).drop pre.length) = (n, ((enc n.toNat).length : Int), 0) := by
      rw [List.drop_left, encAll_cons, List.append_assoc, get_enc _ _ h2, h1]
    rw [List.length_cons, getsF_more _ _ _ _ (enc n.toNat).length (by rw [hg]) (by rw [hg]), hg]
    have := ih (pre ++ enc n.toNat) rest (acc ++ [n]) h.2
    rw [encAll_cons]
    simp only [List.append_assoc, List.length_append, List.cons_append, List.nil_append] at this ⊢
    rw [this]
    simp [Nat.add_assoc]

theorem iget_enc (i : In) (rest : List Int) (h : mayI i = true) : iget (ienc i ++ rest) = (i, ((ienc i).length : Int), 0) := by
  have := getsF_enc [i.o, i.a, unsg i.b] [] rest [] (ienc_all h)
  simp only [List.nil_append, List.length_nil, Nat.zero_add, List.length_cons, Nat.reduceAdd] at this
  have e : ofThree [i.o, i.a, unsg i.b] = i := by
    show (⟨i.o, i.a, sgn (unsg i.b)⟩ : In) = i
    rw [sgn_unsg]
  unfold iget ienc
  rw [this]
  unfold igetR
  rw [if_pos rfl]
  simp only [e, h]
  rfl

theorem ienc_pos (i : In) : 1 ≤ (ienc i).length := by
  have : ienc i = enc i.o.toNat ++ encAll [i.a, unsg i.b] := by rw [ienc, encAll_cons]
  rw [this, List.length_append]
  have h := (encF_len 6 i.o.toNat).1
  change 1 ≤ (enc i.o.toNat).length at h
  omega

theorem iupF_enc (l : List In) : ∀ (acc : List In) (f : Nat), allMay l = true → (iencAll l).length ≤ f → iupF f acc (iencAll l) = (acc ++ l, 0) := by
  induction l with
  | nil => intro acc f h hf; rw [show iencAll [] = [] from rfl, iupF_nil]; simp
  | cons i l ih =>
    intro acc f h hf
    have hm : mayI i = true ∧ allMay l = true := by simpa [allMay] using h
    have hp := ienc_pos i
    rw [iencAll_cons] at hf ⊢
    rw [List.length_append] at hf
    obtain ⟨f, rfl⟩ : ∃ f', f = f' + 1 := ⟨f - 1, by omega⟩
    have hg := iget_enc i (iencAll l) hm.1
    rw [iupF_step f acc _ (by rw [List.length_append]; omega) (ienc i).length (by rw [hg]) (by rw [hg]), hg, List.drop_left, ih _ _ hm.2 (by omega)]
    simp

theorem up_enc (l : List In) (h : allMay l = true) (h64 : l.length ≤ 64) : up (iencAll l) = (l, 0) := by
  unfold up
  rw [iupF_enc l [] _ h (Nat.le_refl _)]
  unfold upR
  rw [if_pos rfl, if_neg (by simpa using h64)]
  simp

theorem getsF_inv (l : List Int) (hb : ∀ c ∈ l, 0 ≤ c ∧ c ≤ 255) : ∀ (f : Nat) (acc : List Int) (k : Nat), k ≤ l.length → (getsF l f acc k).2.2 = 0 →
    ∃ ns, ns.length = f ∧ allT ns = true ∧ getsF l f acc k = (acc ++ ns, k + (encAll ns).length, 0) ∧ l.drop k = encAll ns ++ l.drop (k + (encAll ns).length) := by
  intro f
  induction f with
  | zero => intro acc k hk h; exact ⟨[], rfl, rfl, by simp [getsF, encAll], by simp [encAll]⟩
  | succ f ih =>
    intro acc k hk h
    by_cases he : (get (l.drop k)).2.2 = 0
    · obtain ⟨q, j, h1, h2, h3, h4, h5, _⟩ := get_inv (l.drop k) (fun c hc => hb c (List.mem_of_mem_drop hc)) he
      rw [List.length_drop] at h2
      rw [getsF_more l f acc k j he (by rw [h3])] at h ⊢
      obtain ⟨ns, g1, g2, g3, g4⟩ := ih (acc ++ [(get (l.drop k)).1]) (k + j) (by omega) h
      have hlen : (enc q).length = j := by rw [h4, List.length_take, List.length_drop]; omega
      refine ⟨(q : Int) :: ns, by simp [g1], ?_, ?_, ?_⟩
      · rw [allT_cons, g2]; simp [isT]; omega
      · rw [g3, h3, encAll_cons]; simp [hlen, Nat.add_assoc]
      · rw [encAll_cons, List.length_append, show ((q : Int)).toNat = q by simp, hlen, ← Nat.add_assoc, List.append_assoc, ← g4, h4, ← List.drop_drop, List.take_append_drop]
    · rw [getsF_err l f acc k he] at h
      exact absurd h he

theorem iget_inv (l : List Int) (hb : ∀ c ∈ l, 0 ≤ c ∧ c ≤ 255) (h : (iget l).2.2 = 0) : ∃ i, mayI i = true ∧ iget l = (i, ((ienc i).length : Int), 0) ∧ l = ienc i ++ l.drop (ienc i).length := by
  have h0 := h
  unfold iget igetR at h
  split at h
  · rename_i h1
    obtain ⟨ns, g1, g2, g3, g4⟩ := getsF_inv l hb 3 [] 0 (by omega) h1
    split at h
    · rename_i hm
      match ns, g1 with
      | [x, y, z], _ =>
        rw [g3] at hm
        simp only [List.nil_append] at hm
        have hz : 0 ≤ z := by simp [allT, isT] at g2; omega
        have he : ienc (ofThree [x, y, z]) = encAll [x, y, z] := by
          show encAll [x, y, unsg (sgn z)] = _
          rw [unsg_sgn z hz]
        refine ⟨ofThree [x, y, z], hm, ?_, ?_⟩
        · unfold iget
          rw [g3]
          unfold igetR
          rw [if_pos rfl]
          simp only [List.nil_append, hm, he, Nat.zero_add]
          rfl
        · rw [he]; simpa using g4
    · simp at h
  · rename_i h1; exact absurd h h1

theorem iupF_inv : ∀ (f : Nat) (acc : List In) (r : List Int), (∀ c ∈ r, 0 ≤ c ∧ c ≤ 255) → r.length ≤ f → (iupF f acc r).2 = 0 → ∃ m, iupF f acc r = (acc ++ m, 0) ∧ allMay m = true ∧ iencAll m = r := by
  intro f
  induction f with
  | zero =>
    intro acc r hb hf h
    have : r = [] := List.eq_nil_of_length_eq_zero (by omega)
    subst this
    exact ⟨[], by simp [iupF], rfl, rfl⟩
  | succ f ih =>
    intro acc r hb hf h
    by_cases hr : 0 < r.length
    · by_cases he : (iget r).2.2 = 0
      · obtain ⟨i, g1, g2, g3⟩ := iget_inv r hb he
        have hp := ienc_pos i
        rw [iupF_step f acc r hr (ienc i).length he (by rw [g2])] at h ⊢
        obtain ⟨m, m1, m2, m3⟩ := ih _ (r.drop (ienc i).length) (fun c hc => hb c (List.mem_of_mem_drop hc)) (by rw [List.length_drop]; omega) h
        refine ⟨i :: m, by rw [m1, g2]; simp, by simpa [allMay, g1] using m2, by rw [iencAll_cons, m3]; exact g3.symm⟩
      · rw [iupF_err f acc r hr he] at h
        exact absurd h he
    · have : r = [] := List.eq_nil_of_length_eq_zero (by omega)
      subst this
      exact ⟨[], by rw [iupF_nil]; simp, rfl, rfl⟩

theorem up_err (l : List Int) (h : ¬ (up l).2 = 0) : (up l).1 = [] := by
  unfold up upR at h ⊢
  split
  · rename_i h1
    rw [if_pos h1] at h
    split
    · rfl
    · rename_i h2
      rw [if_neg h2] at h
      exact absurd h1 h
  · rfl

theorem up_inv (l : List Int) (hb : ∀ c ∈ l, 0 ≤ c ∧ c ≤ 255) (h : (up l).2 = 0) : allMay (up l).1 = true ∧ iencAll (up l).1 = l ∧ (up l).1.length ≤ 64 := by
  unfold up upR at h ⊢
  split at h
  · rename_i h1
    obtain ⟨m, m1, m2, m3⟩ := iupF_inv l.length [] l hb (Nat.le_refl _) h1
    rw [m1] at h ⊢
    simp only [List.nil_append, if_true] at h ⊢
    split at h
    · simp at h
    · rename_i h2
      rw [if_neg h2]
      exact ⟨m2, m3, by simpa using h2⟩
  · rename_i h1; exact absurd h h1
end Go.Proofs.YtfhjlpkejmjigaaDoor
