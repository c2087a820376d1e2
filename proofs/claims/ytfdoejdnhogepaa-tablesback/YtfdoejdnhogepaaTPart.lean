/-
  What the test of a partition's table returns, whatever it is given, and that nothing that was there is written.
-/
import Derived.Test.YtfdoejdnhogepaaTAllPc
import Derived.Test.YtfdoejdnhogepaaTAllSc
import Derived.Test.YtfdoejdnhogepaaTAllI
import Derived.Test.YtfdoejdnhogepaaMMay
import Derived.BigGuard
import Derived.BigCall
import Derived.Shelf.Abstract
namespace Go.Proofs.Ytfdoejdnhogepaa
open Go.RowKit
set_option linter.unusedVariables false

/-- A partition's table. -/
structure Pt where
  wo : Int
  rg : List Rg
  pc : List Pc
  bo : Int
  bc : List Bc
  sc : List Sc
  ev : Int
  sa : List Int
  qu : List Int
  la : Int
  tb : List Int
def Pt.zero : Pt := ⟨0, [], [], 0, [], [], 0, [], [], 0, []⟩

/-- A partition's value that reads, in w, as p. -/
structure PtAt (w : World) (q : Pv) (p : Pt) : Prop where
  wo : q.wo = p.wo
  rg : SeesR w q.v1.val p.rg
  pc : SeesPc w q.v2.val p.pc
  bo : q.bo = p.bo
  bc : SeesBc w q.v4.val p.bc
  sc : SeesSc w q.v5.val p.sc
  ev : q.ev = p.ev
  sa : Sees w .i64 q.v7.val p.sa
  qu : Sees w .i64 q.v8.val p.qu
  la : q.la = p.la
  tb : Sees w .i64 q.v10.val p.tb
theorem PtAt.below {w w' : World} {q : Pv} {p : Pt} (h : PtAt w q p) (hb : Below w.heap.size w w') : PtAt w' q p :=
  ⟨h.wo, SeesR.below h.rg hb, h.pc.below hb, h.bo, h.bc.below hb, h.sc.below hb, h.ev, h.sa.below hb, h.qu.below hb, h.la, h.tb.below hb⟩

def partB (p : Pt) : Bool :=
  mayB p.rg p.wo &&
  (inB 1 6 p.pc.length && allN (fun i => procB (p.pc.getD i Pc.zero)) p.pc.length) &&
  inB 0 4 p.bo &&
  (inB 0 4 p.bc.length && allN (fun i => bufB (p.bc.getD i Bc.zero)) p.bc.length) &&
  (inB 0 4 p.sc.length && allN (fun i => semB (p.sc.getD i Sc.zero)) p.sc.length) &&
  inB 0 4 p.ev &&
  (inB 0 4 p.sa.length && allN (fun i => inB 0 4096 (p.sa.getD i 0)) p.sa.length) &&
  (inB 0 4 p.qu.length && allN (fun i => inB 1 8 (p.qu.getD i 0)) p.qu.length) &&
  inB 0 8 p.la &&
  (inB 7 7 p.tb.length && allN (fun i => inB 0 4 (p.tb.getD i 0)) p.tb.length) &&
  decide (p.tb.getD 0 0 = 0)

set_option maxRecDepth 100000 in
set_option maxHeartbeats 4000000 in
theorem partMay_any (q : Pv) (p : Pt) (w : World) (hS : PtAt w q p) (hf : ∀ r ∈ p.rg, r.fit) :
    Calls Try.prog 44 #[q.val] w fun e w' => e = .returned (.bool (partB p)) ∧ Below w.heap.size w w' := by
  obtain ⟨wo, ⟨a1, n1, k1⟩, ⟨a2, n2, k2⟩, bo, ⟨a4, n4, k4⟩, ⟨a5, n5, k5⟩, ev, ⟨a7, n7, k7⟩, ⟨a8, n8, k8⟩, la, ⟨a10, n10, k10⟩⟩ := q
  obtain rfl : wo = p.wo := hS.wo
  obtain rfl : bo = p.bo := hS.bo
  obtain rfl : ev = p.ev := hS.ev
  obtain rfl : la = p.la := hS.la
  unfold Pv.val
  have hmf : ∀ (fn : Fn) (first cap : Array Value) (w : World), (Instr.makeFunc fn first cap).run Try.prog w = .ok (.func fn first cap) w := fun _ _ _ _ => rfl
  have HS := hid hS
  have HF := hid hf
  clear hS hf
  go_enter Try.func44, Try.ntmps44
  go_wp2_with fail
  refine (may_any _ p.rg p.wo _ ((HS.out.below (((Below.refl _ w).alloc (Nat.le_refl _) _).alloc (by simp) _)).rg) HF.out).mono ?_
  rintro e w1 ⟨rfl, hb⟩
  have B0 : BoxAt w1 w.heap.size 49 #[.int .i64 p.wo, .slice a1 n1 k1, .slice a2 n2 k2, .int .i64 p.bo, .slice a4 n4 k4, .slice a5 n5 k5, .int .i64 p.ev, .slice a7 n7 k7, .slice a8 n8 k8, .int .i64 p.la, .slice a10 n10 k10] := ((BoxAt.new w _ _).alloc _).belowAll hb
  have B1 : BoxAt w1 (w.heap.size + 1) 73 #[.int .i64 0, .int .i64 4] := (BoxAt.new1 w _ _ _).belowAll hb
  have hB : Below w.heap.size w w1 := (((Below.refl _ _).alloc (Nat.le_refl _) _).alloc (by simp) _).trans (hb.mono (by simp; omega))
  replace HS := hid (HS.out.below hB)
  replace B0 := hid B0
  replace B1 := hid B1
  clear hb
  rcases h1 : mayB p.rg p.wo
  · clear HS B0 B1
    go_wp2
    go_ret
    exact ⟨by simp only [partB, h1]; simp, hB⟩
  have c2 := (B0.out.cell 2).trans rfl
  go_wp2_with fail
  refine (all_Pc 78 #[] (enters_of Try.func78 (by kernel_rfl) rfl) 1 6 p.pc _ (fun i => procB (p.pc.getD i Pc.zero)) _ HS.out.pc (fun i hi W hW => procMay_any _ W)).mono ?_
  rintro e w2 ⟨rfl, hb⟩
  replace HS := hid (HS.out.below hb)
  replace B0 := hid (B0.out.belowAll hb)
  replace B1 := hid (B1.out.belowAll hb)
  replace hB := hB.trans (hb.mono hB.size)
  clear hb c2
  rcases h2 : (inB 1 6 p.pc.length && allN (fun i => procB (p.pc.getD i Pc.zero)) p.pc.length)
  · clear HS B0 B1
    go_wp2
    go_ret
    exact ⟨by simp only [partB, h1, h2]; simp, hB⟩
  have c3 := (B0.out.cell 3).trans rfl
  have d0 := (B1.out.cell 0).trans rfl
  have d1 := (B1.out.cell 1).trans rfl
  go_wp2_with fail
  refine (span_any 0 4 p.bo _).mono ?_
  rintro e w3 ⟨rfl, hb⟩
  replace HS := hid (HS.out.below hb)
  replace B0 := hid (B0.out.belowAll hb)
  replace B1 := hid (B1.out.belowAll hb)
  replace hB := hB.trans (hb.mono hB.size)
  clear hb c3 d0 d1
  rcases h3 : inB 0 4 p.bo
  · clear HS B0 B1
    go_wp2
    go_ret
    exact ⟨by simp only [partB, h1, h2, h3]; simp, hB⟩
  have c4 := (B0.out.cell 4).trans rfl
  have d0 := (B1.out.cell 0).trans rfl
  have d1 := (B1.out.cell 1).trans rfl
  go_wp2_with fail
  refine (all_Bc 80 #[] (enters_of Try.func80 (by kernel_rfl) rfl) 0 4 p.bc _ (fun i => bufB (p.bc.getD i Bc.zero)) _ HS.out.bc (fun i hi W hW => bufMay_any _ W)).mono ?_
  rintro e w4 ⟨rfl, hb⟩
  replace HS := hid (HS.out.below hb)
  replace B0 := hid (B0.out.belowAll hb)
  replace B1 := hid (B1.out.belowAll hb)
  replace hB := hB.trans (hb.mono hB.size)
  clear hb c4 d0 d1
  rcases h4 : (inB 0 4 p.bc.length && allN (fun i => bufB (p.bc.getD i Bc.zero)) p.bc.length)
  · clear HS B0 B1
    go_wp2
    go_ret
    exact ⟨by simp only [partB, h1, h2, h3, h4]; simp, hB⟩
  have c5 := (B0.out.cell 5).trans rfl
  have d0 := (B1.out.cell 0).trans rfl
  have d1 := (B1.out.cell 1).trans rfl
  go_wp2_with fail
  refine (all_Sc 82 #[] (enters_of Try.func82 (by kernel_rfl) rfl) 0 4 p.sc _ (fun i => semB (p.sc.getD i Sc.zero)) _ HS.out.sc (fun i hi W hW => semMay_any _ W)).mono ?_
  rintro e w5 ⟨rfl, hb⟩
  replace HS := hid (HS.out.below hb)
  replace B0 := hid (B0.out.belowAll hb)
  replace B1 := hid (B1.out.belowAll hb)
  replace hB := hB.trans (hb.mono hB.size)
  clear hb c5 d0 d1
  rcases h5 : (inB 0 4 p.sc.length && allN (fun i => semB (p.sc.getD i Sc.zero)) p.sc.length)
  · clear HS B0 B1
    go_wp2
    go_ret
    exact ⟨by simp only [partB, h1, h2, h3, h4, h5]; simp, hB⟩
  have c6 := (B0.out.cell 6).trans rfl
  have d0 := (B1.out.cell 0).trans rfl
  have d1 := (B1.out.cell 1).trans rfl
  go_wp2_with fail
  refine (span_any 0 4 p.ev _).mono ?_
  rintro e w6 ⟨rfl, hb⟩
  replace HS := hid (HS.out.below hb)
  replace B0 := hid (B0.out.belowAll hb)
  replace B1 := hid (B1.out.belowAll hb)
  replace hB := hB.trans (hb.mono hB.size)
  clear hb c6 d0 d1
  rcases h6 : inB 0 4 p.ev
  · clear HS B0 B1
    go_wp2
    go_ret
    exact ⟨by simp only [partB, h1, h2, h3, h4, h5, h6]; simp, hB⟩
  have c7 := (B0.out.cell 7).trans rfl
  have d0 := (B1.out.cell 0).trans rfl
  have d1 := (B1.out.cell 1).trans rfl
  go_wp2_with fail
  refine (all_I 42 #[spV 0 4096] (enters_of Try.func42 (by kernel_rfl) rfl) 0 4 p.sa _ (fun i => inB 0 4096 (p.sa.getD i 0)) _ HS.out.sa (fun i hi W hW => span_any 0 4096 _ W)).mono ?_
  rintro e w7 ⟨rfl, hb⟩
  replace HS := hid (HS.out.below hb)
  replace B0 := hid (B0.out.belowAll hb)
  replace B1 := hid (B1.out.belowAll hb)
  replace hB := hB.trans (hb.mono hB.size)
  clear hb c7 d0 d1
  rcases h7 : (inB 0 4 p.sa.length && allN (fun i => inB 0 4096 (p.sa.getD i 0)) p.sa.length)
  · clear HS B0 B1
    go_wp2
    go_ret
    exact ⟨by simp only [partB, h1, h2, h3, h4, h5, h6, h7]; simp, hB⟩
  have c8 := (B0.out.cell 8).trans rfl
  have d0 := (B1.out.cell 0).trans rfl
  have d1 := (B1.out.cell 1).trans rfl
  go_wp2_with fail
  refine (all_I 42 #[spV 1 8] (enters_of Try.func42 (by kernel_rfl) rfl) 0 4 p.qu _ (fun i => inB 1 8 (p.qu.getD i 0)) _ HS.out.qu (fun i hi W hW => span_any 1 8 _ W)).mono ?_
  rintro e w8 ⟨rfl, hb⟩
  replace HS := hid (HS.out.below hb)
  replace B0 := hid (B0.out.belowAll hb)
  replace B1 := hid (B1.out.belowAll hb)
  replace hB := hB.trans (hb.mono hB.size)
  clear hb c8 d0 d1
  rcases h8 : (inB 0 4 p.qu.length && allN (fun i => inB 1 8 (p.qu.getD i 0)) p.qu.length)
  · clear HS B0 B1
    go_wp2
    go_ret
    exact ⟨by simp only [partB, h1, h2, h3, h4, h5, h6, h7, h8]; simp, hB⟩
  have c9 := (B0.out.cell 9).trans rfl
  go_wp2_with fail
  refine (span_any 0 8 p.la _).mono ?_
  rintro e w9 ⟨rfl, hb⟩
  replace HS := hid (HS.out.below hb)
  replace B0 := hid (B0.out.belowAll hb)
  replace B1 := hid (B1.out.belowAll hb)
  replace hB := hB.trans (hb.mono hB.size)
  clear hb c9
  rcases h9 : inB 0 8 p.la
  · clear HS B0 B1
    go_wp2
    go_ret
    exact ⟨by simp only [partB, h1, h2, h3, h4, h5, h6, h7, h8, h9]; simp, hB⟩
  have c10 := (B0.out.cell 10).trans rfl
  go_wp2_with fail
  refine (all_I 42 #[spV 0 4] (enters_of Try.func42 (by kernel_rfl) rfl) 7 7 p.tb _ (fun i => inB 0 4 (p.tb.getD i 0)) _ HS.out.tb (fun i hi W hW => span_any 0 4 _ W)).mono ?_
  rintro e w10 ⟨rfl, hb⟩
  replace HS := hid (HS.out.below hb)
  replace B0 := hid (B0.out.belowAll hb)
  replace B1 := hid (B1.out.belowAll hb)
  replace hB := hB.trans (hb.mono hB.size)
  clear hb c10
  rcases h10 : (inB 7 7 p.tb.length && allN (fun i => inB 0 4 (p.tb.getD i 0)) p.tb.length)
  · clear HS B0 B1
    go_wp2
    go_ret
    exact ⟨by simp only [partB, h1, h2, h3, h4, h5, h6, h7, h8, h9, h10]; simp, hB⟩
  obtain ⟨at_, ct, et, ht1, ht2, htc⟩ := HS.out.tb.form
  have hlen : p.tb.length = 7 := by simp [inB] at h10; omega
  obtain ⟨b, off, rfl, hbw, hcell⟩ := htc (by omega)
  have e0 := hcell 0 (by omega)
  rw [Nat.add_zero] at e0
  have c10 := (B0.out.cell 10).trans rfl
  simp only [Sl.val, Value.slice.injEq] at et
  obtain ⟨rfl, rfl, rfl⟩ := et
  rw [hlen] at c10
  unfold maxLen at ht2
  clear htc hcell HS B0 B1
  by_cases hz : p.tb.getD 0 0 = 0
  all_goals
    generalize hg : p.tb.getD 0 0 = z at *
    go_wp2
    go_ret
    exact ⟨by simp only [partB, h1, h2, h3, h4, h5, h6, h7, h8, h9, h10, hg]; simp [hz], hB⟩
end Go.Proofs.Ytfdoejdnhogepaa
