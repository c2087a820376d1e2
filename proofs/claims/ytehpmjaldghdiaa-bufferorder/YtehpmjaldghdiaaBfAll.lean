/-
  What Send and Take of a buffer return, the program's and the document's, as functions.
-/
import Derived.Test.YtehpmjaldghdiaaBf1
import Derived.Test.YtehpmjaldghdiaaBf1P
import Derived.Test.YtehpmjaldghdiaaBf2
namespace Go.Proofs.Ytehpmjaldghdiaa
open Go.RowKit
set_option linter.unusedVariables false

def sendV (d : Int) (xs : List Int) (l : List Wt) (v : Int) : List Int := if xs.length = 0 ∧ 0 < l.length then [] else if (xs.length : Int) < d then xs ++ [v] else xs
def sendC (d : Int) (xs : List Int) (l : List Wt) (may : Bool) : Int := if xs.length = 0 ∧ 0 < l.length then 0 else if (xs.length : Int) < d then 0 else waitC may
def sendL (d : Int) (k : Bool) (xs : List Int) (l : List Wt) (y : Wt) (may : Bool) : List Wt := if xs.length = 0 ∧ 0 < l.length then l.drop 1 else if (xs.length : Int) < d then l else waitL l y k may
def sendW (xs : List Int) (l : List Wt) (v : Int) : List Wk := if xs.length = 0 ∧ 0 < l.length then [⟨(l.getD 0 Wt.zero).p, 0, v⟩] else []
def takeV (xs : List Int) (l : List Wt) : List Int := if xs.length = 0 then xs else if l.length = 0 then xs.drop 1 else xs.drop 1 ++ [(l.getD 0 Wt.zero).v]
def takeC (xs : List Int) (may : Bool) : Int := if xs.length = 0 then waitC may else 0
def takeX (xs : List Int) : Int := if xs.length = 0 then 0 else xs.getD 0 0
def takeL (k : Bool) (xs : List Int) (l : List Wt) (y : Wt) (may : Bool) : List Wt := if xs.length = 0 then waitL l y k may else if l.length = 0 then [] else l.drop 1
def takeW (xs : List Int) (l : List Wt) : List Wk := if xs.length = 0 then [] else if l.length = 0 then [] else [⟨(l.getD 0 Wt.zero).p, 0, 0⟩]

theorem send_any (d : Int) (k : Bool) {vs s : Sl} {xs : List Int} {l : List Wt} (p r v : Int) (may : Bool) {w : World} (hv : Sees w .i64 vs.val xs) (hs : SeesWt w s.val l) (hx : xs.length ≤ 800000) (hl : l.length ≤ 800000) :
    Calls Try.prog 9 #[BfV.val ⟨d, k, vs, s⟩, .agg #[.int .i64 p, .int .i64 r, .int .i64 v], .bool may] w fun e w' => ∃ (x u q : Sl), e = .returned (.tuple #[BfV.val ⟨d, k, x, u⟩, .int .i64 (sendC d xs l may), q.val]) ∧ OI w' w.heap.size x.val (sendV d xs l v) ∧ OWt w' w.heap.size u.val (sendL d k xs l ⟨p, r, v⟩ may) ∧ OWk w' w.heap.size q.val (sendW xs l v) ∧ Below w.heap.size w w' := by
  by_cases h0 : xs.length = 0
  · by_cases h1 : 0 < l.length
    · obtain ⟨⟨fp, fr, fv⟩, hf⟩ : ∃ f, l.getD 0 Wt.zero = f := ⟨_, rfl⟩
      rw [show sendC d xs l may = 0 from by simp [sendC, h0, h1]]
      rw [show sendV d xs l v = [] from by simp [sendV, h0, h1]]
      rw [show sendL d k xs l ⟨p, r, v⟩ may = l.drop 1 from by simp [sendL, h0, h1]]
      rw [show sendW xs l v = [⟨fp, 0, v⟩] from by unfold sendW; rw [if_pos ⟨h0, h1⟩, hf]]
      exact send_wake d k p r v fp fr fv may hv hs hx hl h0 h1 hf
    · have h2 : l.length = 0 := by omega
      by_cases hd : (xs.length : Int) < d
      · have hn : ¬ (xs.length = 0 ∧ 0 < l.length) := not_and_of_not_right _ h1
        rw [show sendC d xs l may = 0 from by unfold sendC; rw [if_neg hn, if_pos hd]]
        rw [show sendV d xs l v = xs ++ [v] from by unfold sendV; rw [if_neg hn, if_pos hd]]
        rw [show sendL d k xs l ⟨p, r, v⟩ may = l from by unfold sendL; rw [if_neg hn, if_pos hd]]
        rw [show sendW xs l v = [] from by unfold sendW; rw [if_neg hn]]
        exact send_put0 d k p r v may hv hs hx hl h2 hd
      · have hn : ¬ (xs.length = 0 ∧ 0 < l.length) := not_and_of_not_right _ h1
        rw [show sendC d xs l may = waitC may from by unfold sendC; rw [if_neg hn, if_neg hd]]
        rw [show sendV d xs l v = xs from by unfold sendV; rw [if_neg hn, if_neg hd]]
        rw [show sendL d k xs l ⟨p, r, v⟩ may = waitL l ⟨p, r, v⟩ k may from by unfold sendL; rw [if_neg hn, if_neg hd]]
        rw [show sendW xs l v = [] from by unfold sendW; rw [if_neg hn]]
        exact send_wait0 d k p r v may hv hs hx hl h2 hd
  · by_cases hd : (xs.length : Int) < d
    · have hn : ¬ (xs.length = 0 ∧ 0 < l.length) := not_and_of_not_left _ h0
      rw [show sendC d xs l may = 0 from by unfold sendC; rw [if_neg hn, if_pos hd]]
      rw [show sendV d xs l v = xs ++ [v] from by unfold sendV; rw [if_neg hn, if_pos hd]]
      rw [show sendL d k xs l ⟨p, r, v⟩ may = l from by unfold sendL; rw [if_neg hn, if_pos hd]]
      rw [show sendW xs l v = [] from by unfold sendW; rw [if_neg hn]]
      by_cases h1 : 0 < l.length
      · obtain ⟨⟨fp, fr, fv⟩, hf⟩ : ∃ f, l.getD 0 Wt.zero = f := ⟨_, rfl⟩
        exact send_put1 d k p r v fp fr fv may hv hs hx hl (by omega) h1 hf hd
      · exact send_put0 d k p r v may hv hs hx hl (by omega) hd
    · have hn : ¬ (xs.length = 0 ∧ 0 < l.length) := not_and_of_not_left _ h0
      rw [show sendC d xs l may = waitC may from by unfold sendC; rw [if_neg hn, if_neg hd]]
      rw [show sendV d xs l v = xs from by unfold sendV; rw [if_neg hn, if_neg hd]]
      rw [show sendL d k xs l ⟨p, r, v⟩ may = waitL l ⟨p, r, v⟩ k may from by unfold sendL; rw [if_neg hn, if_neg hd]]
      rw [show sendW xs l v = [] from by unfold sendW; rw [if_neg hn]]
      by_cases h1 : 0 < l.length
      · obtain ⟨⟨fp, fr, fv⟩, hf⟩ : ∃ f, l.getD 0 Wt.zero = f := ⟨_, rfl⟩
        exact send_wait1 d k p r v fp fr fv may hv hs hx hl (by omega) h1 hf hd
      · exact send_wait0 d k p r v may hv hs hx hl (by omega) hd

theorem take_any (d : Int) (k : Bool) {vs s : Sl} {xs : List Int} {l : List Wt} (p r v : Int) (may : Bool) {w : World} (hv : Sees w .i64 vs.val xs) (hs : SeesWt w s.val l) (hx : xs.length ≤ 800000) (hl : l.length ≤ 800000) :
    Calls Try.prog 13 #[BfV.val ⟨d, k, vs, s⟩, .agg #[.int .i64 p, .int .i64 r, .int .i64 v], .bool may] w fun e w' => ∃ (x u q : Sl), e = .returned (.tuple #[BfV.val ⟨d, k, x, u⟩, .int .i64 (takeC xs may), .int .i64 (takeX xs), q.val]) ∧ OI w' w.heap.size x.val (takeV xs l) ∧ OWt w' w.heap.size u.val (takeL k xs l ⟨p, r, v⟩ may) ∧ OWk w' w.heap.size q.val (takeW xs l) ∧ Below w.heap.size w w' := by
  by_cases h0 : xs.length = 0
  · rw [show takeC xs may = waitC may from if_pos h0, show takeV xs l = xs from if_pos h0, show takeL k xs l ⟨p, r, v⟩ may = waitL l ⟨p, r, v⟩ k may from if_pos h0, show takeW xs l = [] from if_pos h0, show takeX xs = 0 from if_pos h0]
    exact take_wait d k p r v may hv hs hx hl h0
  · obtain ⟨e0, he⟩ : ∃ e, xs.getD 0 0 = e := ⟨_, rfl⟩
    rw [show takeC xs may = 0 from if_neg h0, show takeX xs = e0 from (if_neg h0).trans he]
    by_cases h1 : l.length = 0
    · rw [show takeV xs l = xs.drop 1 from (if_neg h0).trans (if_pos h1), show takeL k xs l ⟨p, r, v⟩ may = [] from (if_neg h0).trans (if_pos h1), show takeW xs l = [] from (if_neg h0).trans (if_pos h1)]
      exact take_none d k p r v e0 may hv hs hx hl (by omega) he h1
    · obtain ⟨⟨fp, fr, fv⟩, hf⟩ : ∃ f, l.getD 0 Wt.zero = f := ⟨_, rfl⟩
      rw [show takeV xs l = xs.drop 1 ++ [fv] from ((if_neg h0).trans (if_neg h1)).trans (by rw [hf]), show takeL k xs l ⟨p, r, v⟩ may = l.drop 1 from (if_neg h0).trans (if_neg h1), show takeW xs l = [⟨fp, 0, 0⟩] from ((if_neg h0).trans (if_neg h1)).trans (by rw [hf])]
      exact take_some d k p r v e0 fp fr fv may hv hs hx hl (by omega) he (by omega) hf

theorem rsend_any (d : Int) (k : Bool) {vs s : Sl} {xs : List Int} {l : List Wt} (p r v : Int) (may : Bool) {w : World} (hv : Sees w .i64 vs.val xs) (hs : SeesWt w s.val l) (hx : xs.length ≤ 800000) (hl : l.length ≤ 800000) :
    Calls Try.prog 10 #[BfV.val ⟨d, k, vs, s⟩, .agg #[.int .i64 p, .int .i64 r, .int .i64 v], .bool may] w fun e w' => ∃ (x u q : Sl), e = .returned (.tuple #[BfV.val ⟨d, k, x, u⟩, .int .i64 (sendC d xs l may), q.val]) ∧ OI w' w.heap.size x.val (sendV d xs l v) ∧ OWt w' w.heap.size u.val (sendL d k xs l ⟨p, r, v⟩ may) ∧ OWk w' w.heap.size q.val (sendW xs l v) ∧ Below w.heap.size w w' := by
  by_cases h0 : xs.length = 0
  · by_cases h1 : 0 < l.length
    · obtain ⟨⟨fp, fr, fv⟩, hf⟩ : ∃ f, l.getD 0 Wt.zero = f := ⟨_, rfl⟩
      rw [show sendC d xs l may = 0 from by simp [sendC, h0, h1]]
      rw [show sendV d xs l v = [] from by simp [sendV, h0, h1]]
      rw [show sendL d k xs l ⟨p, r, v⟩ may = l.drop 1 from by simp [sendL, h0, h1]]
      rw [show sendW xs l v = [⟨fp, 0, v⟩] from by unfold sendW; rw [if_pos ⟨h0, h1⟩, hf]]
      exact rsend_wake d k p r v fp fr fv may hv hs hx hl h0 h1 hf
    · have h2 : l.length = 0 := by omega
      by_cases hd : (xs.length : Int) < d
      · have hn : ¬ (xs.length = 0 ∧ 0 < l.length) := not_and_of_not_right _ h1
        rw [show sendC d xs l may = 0 from by unfold sendC; rw [if_neg hn, if_pos hd]]
        rw [show sendV d xs l v = xs ++ [v] from by unfold sendV; rw [if_neg hn, if_pos hd]]
        rw [show sendL d k xs l ⟨p, r, v⟩ may = l from by unfold sendL; rw [if_neg hn, if_pos hd]]
        rw [show sendW xs l v = [] from by unfold sendW; rw [if_neg hn]]
        exact rsend_put0 d k p r v may hv hs hx hl h0 h2 hd
      · have hn : ¬ (xs.length = 0 ∧ 0 < l.length) := not_and_of_not_right _ h1
        rw [show sendC d xs l may = waitC may from by unfold sendC; rw [if_neg hn, if_neg hd]]
        rw [show sendV d xs l v = xs from by unfold sendV; rw [if_neg hn, if_neg hd]]
        rw [show sendL d k xs l ⟨p, r, v⟩ may = waitL l ⟨p, r, v⟩ k may from by unfold sendL; rw [if_neg hn, if_neg hd]]
        rw [show sendW xs l v = [] from by unfold sendW; rw [if_neg hn]]
        cases may
        · exact rsend_no0 d k p r v hv hs hx hl h0 h2 hd
        · exact rsend_yes0 d k p r v hv hs hx hl h0 h2 hd
  · by_cases hd : (xs.length : Int) < d
    · have hn : ¬ (xs.length = 0 ∧ 0 < l.length) := not_and_of_not_left _ h0
      rw [show sendC d xs l may = 0 from by unfold sendC; rw [if_neg hn, if_pos hd]]
      rw [show sendV d xs l v = xs ++ [v] from by unfold sendV; rw [if_neg hn, if_pos hd]]
      rw [show sendL d k xs l ⟨p, r, v⟩ may = l from by unfold sendL; rw [if_neg hn, if_pos hd]]
      rw [show sendW xs l v = [] from by unfold sendW; rw [if_neg hn]]
      exact rsend_put1 d k p r v may hv hs hx hl (by omega) hd
    · have hn : ¬ (xs.length = 0 ∧ 0 < l.length) := not_and_of_not_left _ h0
      rw [show sendC d xs l may = waitC may from by unfold sendC; rw [if_neg hn, if_neg hd]]
      rw [show sendV d xs l v = xs from by unfold sendV; rw [if_neg hn, if_neg hd]]
      rw [show sendL d k xs l ⟨p, r, v⟩ may = waitL l ⟨p, r, v⟩ k may from by unfold sendL; rw [if_neg hn, if_neg hd]]
      rw [show sendW xs l v = [] from by unfold sendW; rw [if_neg hn]]
      cases may
      · exact rsend_no1 d k p r v hv hs hx hl (by omega) hd
      · exact rsend_yes1 d k p r v hv hs hx hl (by omega) hd

theorem rtake_any (d : Int) (k : Bool) {vs s : Sl} {xs : List Int} {l : List Wt} (p r v : Int) (may : Bool) {w : World} (hv : Sees w .i64 vs.val xs) (hs : SeesWt w s.val l) (hx : xs.length ≤ 800000) (hl : l.length ≤ 800000) :
    Calls Try.prog 14 #[BfV.val ⟨d, k, vs, s⟩, .agg #[.int .i64 p, .int .i64 r, .int .i64 v], .bool may] w fun e w' => ∃ (x u q : Sl), e = .returned (.tuple #[BfV.val ⟨d, k, x, u⟩, .int .i64 (takeC xs may), .int .i64 (takeX xs), q.val]) ∧ OI w' w.heap.size x.val (takeV xs l) ∧ OWt w' w.heap.size u.val (takeL k xs l ⟨p, r, v⟩ may) ∧ OWk w' w.heap.size q.val (takeW xs l) ∧ Below w.heap.size w w' := by
  by_cases h0 : xs.length = 0
  · rw [show takeC xs may = waitC may from if_pos h0, show takeV xs l = xs from if_pos h0, show takeL k xs l ⟨p, r, v⟩ may = waitL l ⟨p, r, v⟩ k may from if_pos h0, show takeW xs l = [] from if_pos h0, show takeX xs = 0 from if_pos h0]
    cases may
    · exact rtake_no d k p r v hv hs hx hl h0
    · exact rtake_yes d k p r v hv hs hx hl h0
  · obtain ⟨e0, he⟩ : ∃ e, xs.getD 0 0 = e := ⟨_, rfl⟩
    rw [show takeC xs may = 0 from if_neg h0, show takeX xs = e0 from (if_neg h0).trans he]
    by_cases h1 : l.length = 0
    · rw [show takeV xs l = xs.drop 1 from (if_neg h0).trans (if_pos h1), show takeL k xs l ⟨p, r, v⟩ may = [] from (if_neg h0).trans (if_pos h1), show takeW xs l = [] from (if_neg h0).trans (if_pos h1)]
      exact rtake_none d k p r v e0 may hv hs hx hl (by omega) he h1
    · obtain ⟨⟨fp, fr, fv⟩, hf⟩ : ∃ f, l.getD 0 Wt.zero = f := ⟨_, rfl⟩
      rw [show takeV xs l = xs.drop 1 ++ [fv] from ((if_neg h0).trans (if_neg h1)).trans (by rw [hf]), show takeL k xs l ⟨p, r, v⟩ may = l.drop 1 from (if_neg h0).trans (if_neg h1), show takeW xs l = [⟨fp, 0, 0⟩] from ((if_neg h0).trans (if_neg h1)).trans (by rw [hf])]
      exact rtake_some d k p r v e0 fp fr fv may hv hs hx hl (by omega) he (by omega) hf

end Go.Proofs.Ytehpmjaldghdiaa
