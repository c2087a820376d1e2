/-
  What word.PutAll and the document's own PutAll return, whatever numbers they are given (at most 100000), and that nothing that was there is written.
-/
import Derived.Test.YtedldckijblnhaaDoorWPut
namespace Go.Proofs.YtedldckijblnhaaDoor
open Go.RowKit
set_option linter.unusedVariables false

def paB (l : List Int) : List Int := if allT l then encAll l else []
def paE (l : List Int) : Int := if allT l then 0 else 1

theorem enc_len (n : Nat) : (enc n).length ≤ 7 := (encF_len 6 n).2
theorem encAll_len (l : List Int) : (encAll l).length ≤ 7 * l.length := by
  induction l with
  | nil => simp [encAll]
  | cons a l ih =>
    have : encAll (a :: l) = enc a.toNat ++ encAll l := by simp [encAll]
    rw [this, List.length_append, List.length_cons]
    have := enc_len a.toNat
    omega
theorem encAll_append (a b : List Int) : encAll (a ++ b) = encAll a ++ encAll b := by simp [encAll]
theorem allT_append (a b : List Int) : allT (a ++ b) = (allT a && allT b) := by simp [allT]
theorem take_snoc (l : List Int) (k : Nat) (h : k < l.length) : l.take (k + 1) = l.take k ++ [l.getD k 0] := by
  rw [List.take_succ_eq_append_getElem h]; simp [List.getD, List.getElem?_eq_getElem h]
theorem encAll_snoc (l : List Int) (k : Nat) (h : k < l.length) : encAll (l.take (k + 1)) = encAll (l.take k) ++ enc (l.getD k 0).toNat := by
  rw [take_snoc l k h, encAll_append]; simp [encAll]
theorem allT_snoc (l : List Int) (k : Nat) (h : k < l.length) : allT (l.take (k + 1)) = (allT (l.take k) && isT (l.getD k 0)) := by
  rw [take_snoc l k h]; simp [allT]
theorem allT_not (l : List Int) (k : Nat) (h : k < l.length) (hn : isT (l.getD k 0) = false) : allT l = false := by
  simp only [allT, List.all_eq_false]
  refine ⟨l[k], List.getElem_mem h, ?_⟩
  rw [show l[k] = l.getD k 0 by simp [List.getD, List.getElem?_eq_getElem h], hn]; simp

theorem ints_cell (k : IntKind) (xs : List Int) : ∀ u ∈ xs.map (Value.int k), u.oneCell' = true := ints_oneCell k xs

/-- The cells of a slice that is seen, as the law on append asks for them. -/
theorem seen_cells {w : World} {k : IntKind} {b off : Nat} {xs : List Int} (hc : ∀ i, i < xs.length → w.cell? ⟨b, off + i, none⟩ = some (.int k (xs.getD i 0))) :
    ∀ j u, (xs.map (Value.int k))[j]? = some u → w.cell? ((⟨b, off, none⟩ : Addr).add j) = some u := by
  intro j u hj
  rcases Nat.lt_or_ge j xs.length with h | h
  · simp [List.getElem?_map, List.getElem?_eq_getElem h] at hj
    subst hj
    rw [add_none, hc j h]; simp [List.getD, List.getElem?_eq_getElem h]
  · simp [List.getElem?_eq_none (show (xs.map (Value.int k)).length ≤ j by simpa using h)] at hj

end Go.Proofs.YtedldckijblnhaaDoor
