/-
  A partition's table, as it lies in a world, whatever the program.
-/
import Derived.Test.YtdanfnbclbiidaaTReg
namespace Go.Proofs.Ytdanfnbclbiidaa
open Go.RowKit
set_option linter.unusedVariables false

/-- A partition's table. -/
structure Pt where
  wo : Int
  rg : List Rg
  pc : List Pc
  bo : Int
  bc : List Bc
  sc : List Sc
  ev : Int
  sa : List Int
  qu : List Int
  la : Int
  tb : List Int
def Pt.zero : Pt := ⟨0, [], [], 0, [], [], 0, [], [], 0, []⟩

/-- A partition's value that reads, in w, as p. -/
structure PtAt (w : World) (q : Pv) (p : Pt) : Prop where
  wo : q.wo = p.wo
  rg : SeesR w q.v1.val p.rg
  pc : SeesPc w q.v2.val p.pc
  bo : q.bo = p.bo
  bc : SeesBc w q.v4.val p.bc
  sc : SeesSc w q.v5.val p.sc
  ev : q.ev = p.ev
  sa : Sees w .i64 q.v7.val p.sa
  qu : Sees w .i64 q.v8.val p.qu
  la : q.la = p.la
  tb : Sees w .i64 q.v10.val p.tb
theorem PtAt.below {w w' : World} {q : Pv} {p : Pt} (h : PtAt w q p) (hb : Below w.heap.size w w') : PtAt w' q p :=
  ⟨h.wo, SeesR.below h.rg hb, h.pc.below hb, h.bo, h.bc.below hb, h.sc.below hb, h.ev, h.sa.below hb, h.qu.below hb, h.la, h.tb.below hb⟩

end Go.Proofs.Ytdanfnbclbiidaa
