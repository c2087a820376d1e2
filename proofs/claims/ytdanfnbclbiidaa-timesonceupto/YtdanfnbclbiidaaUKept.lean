/-
  What a partition of the call's own reads as, where what cells there were lie as they lay.
-/
import Derived.Test.YtdanfnbclbiidaaQWith
import Derived.Test.YtdanfnbclbiidaaQDo
import Derived.Test.YtdanfnbclbiidaaURange
namespace Go.Proofs.Ytdanfnbclbiidaa
open Go.RowKit
set_option linter.unusedVariables false

theorem BoxAt.kept {w w' : World} {g : Nat} {t : TypeId} {cs : Array Value} (h : BoxAt w g t cs) (hk : KeptC w w') : BoxAt w' g t cs := hk.cells g _ _ _ h
theorem OI.kept {w w' : World} {base : Nat} {v : Value} {l : List Int} (h : OI w base v l) (hk : KeptC w w') : OI w' base v l := owns_kept h hk
theorem OP.kept {w w' : World} {base : Nat} {v : Value} {l : List Px} (h : OP w base v l) (hk : KeptC w w') : OP w' base v l := owns_kept h hk
theorem OWt.kept {w w' : World} {base : Nat} {v : Value} {l : List Wt} (h : OWt w base v l) (hk : KeptC w w') : OWt w' base v l := owns_kept h hk
theorem OSp.kept {w w' : World} {base : Nat} {v : Value} {l : List Sp} (h : OSp w base v l) (hk : KeptC w w') : OSp w' base v l := owns_kept h hk
theorem OBd.kept {w w' : World} {base : Nat} {v : Value} {l : List Bd} (h : OBd w base v l) (hk : KeptC w w') : OBd w' base v l := by
  obtain ⟨rs, a, b, c⟩ := h
  exact ⟨rs, owns_kept a hk, b, fun i hi => ⟨(c i hi).is, (c i hi).v, (c i hi).l.kept hk⟩⟩
theorem OBf.kept {w w' : World} {base : Nat} {v : Value} {l : List Bf} (h : OBf w base v l) (hk : KeptC w w') : OBf w' base v l := by
  obtain ⟨rs, a, b, c⟩ := h
  exact ⟨rs, owns_kept a hk, b, fun i hi => ⟨(c i hi).d, (c i hi).k, (c i hi).vs.kept hk, (c i hi).l.kept hk⟩⟩
theorem OSe.kept {w w' : World} {base : Nat} {v : Value} {l : List Se} (h : OSe w base v l) (hk : KeptC w w') : OSe w' base v l := by
  obtain ⟨rs, a, b, c⟩ := h
  exact ⟨rs, owns_kept a hk, b, fun i hi => ⟨(c i hi).c, (c i hi).m, (c i hi).k, (c i hi).l.kept hk⟩⟩
theorem OEv.kept {w w' : World} {base : Nat} {v : Value} {l : List Ev} (h : OEv w base v l) (hk : KeptC w w') : OEv w' base v l := by
  obtain ⟨rs, a, b, c⟩ := h
  exact ⟨rs, owns_kept a hk, b, fun i hi => ⟨(c i hi).u, (c i hi).l.kept hk⟩⟩
theorem OQu.kept {w w' : World} {base : Nat} {v : Value} {l : List Qu} (h : OQu w base v l) (hk : KeptC w w') : OQu w' base v l := by
  obtain ⟨rs, a, b, c⟩ := h
  exact ⟨rs, owns_kept a hk, b, fun i hi => ⟨(c i hi).d, (c i hi).vs.kept hk, (c i hi).x⟩⟩
theorem PaO.kept {w w' : World} {base : Nat} {q : PaV} {c : Pa} (h : PaO w base q c) (hk : KeptC w w') : PaO w' base q c :=
  ⟨h.md, h.bg, h.nx, h.me.kept hk, h.pr.kept hk, h.bo.kept hk, h.bu.kept hk, h.se.kept hk, h.ev.kept hk, h.sa.kept hk, h.qu.kept hk, h.ld, h.ll.kept hk, h.lx, h.gi.kept hk⟩
theorem Turns.others {S : TypeId → Prop} {w w' : World} (h : Turns S w w') (B : Nat) : Others B w w' :=
  ⟨h.size, fun k o _ hk ho => (h.block k (Array.getElem?_eq_some_iff.1 hk).1 (fun t ⟨cs, fr, e⟩ => by
    rw [hk] at e
    injection e with e
    subst e
    cases ho)).trans hk⟩
theorem below_put {B : Nat} {w0 w : World} {l : Nat} {o' : Obj} (h : Below B w0 w) (hl : B ≤ l) : Below B w0 (w.putObj l o') :=
  ⟨h.os, h.tape, h.output, by simpa using h.size, fun k hk => (World.putObj_heap_other (by omega)).trans (h.block k hk)⟩
end Go.Proofs.Ytdanfnbclbiidaa
