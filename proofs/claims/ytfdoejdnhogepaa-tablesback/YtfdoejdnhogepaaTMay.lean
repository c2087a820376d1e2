/-
  What tables.May returns, whatever configuration it is given, and that nothing that was there is written.
-/
import Derived.Test.YtfdoejdnhogepaaTPlanF
import Derived.Test.YtfdoejdnhogepaaTPlanE
import Derived.Test.YtfdoejdnhogepaaTAllX
namespace Go.Proofs.Ytfdoejdnhogepaa
open Go.RowKit
set_option linter.unusedVariables false

def mayC (c : Cf) : Bool :=
  inB 1 4096 c.fr &&
  inB 0 c.fr c.sw &&
  (inB 1 4 c.pa.length && allN (fun i => partB (c.pa.getD i Pt.zero)) c.pa.length) &&
  (inB 0 8 c.li.length && allN (fun i => inB 0 ((c.pa.length : Int) - 1) (c.li.getD i 0)) c.li.length) &&
  (inB 1 12 c.wi.length && allN (fun i => winB c.fr c.pa.length (c.wi.getD i Wn.zero)) c.wi.length) &&
  orderF 0 c.wi &&
  (inB 0 8 c.ch.length && allN (fun i => chanC c.pa (c.ch.getD i Ch.zero)) c.ch.length) &&
  apartF [] c.ch

theorem allN_iff (p : Nat → Bool) (n : Nat) : allN p n = true ↔ ∀ i, i < n → p i = true := by
  unfold allN
  rw [List.all_eq_true]
  exact ⟨fun h i hi => h i (List.mem_range.2 hi), fun h i hi => h i (List.mem_range.1 hi)⟩

theorem win_fine {fr : Int} {n : Nat} {l : List Wn} (h1 : inB 1 4096 fr = true) (h : (inB 1 12 l.length && allN (fun i => winB fr n (l.getD i Wn.zero)) l.length) = true) :
    ∀ x ∈ l, 0 ≤ x.st ∧ x.st + x.ln ≤ 9223372036854775807 ∧ 1 ≤ x.ln := by
  intro x hx
  obtain ⟨i, hi, rfl⟩ := mem_getD (d := Wn.zero) hx
  rw [Bool.and_eq_true] at h
  have := (allN_iff _ _).1 h.2 i hi
  simp only [winB, inB, Bool.and_eq_true, decide_eq_true_eq] at this h1
  omega

set_option maxRecDepth 100000 in
set_option maxHeartbeats 4000000 in
theorem tmay_any (q : Cv) (c : Cf) (w : World) (hS : CfAt w q c) (hf : c.fit) :
    Calls Try.prog 20 #[q.val] w fun e w' => e = .returned (.bool (mayC c)) ∧ Below w.heap.size w w' := by
  obtain ⟨fr, sw, ⟨a1, n1, k1⟩, ⟨a2, n2, k2⟩, ⟨a3, n3, k3⟩, ⟨a4, n4, k4⟩⟩ := q
  obtain rfl : fr = c.fr := hS.fr
  obtain rfl : sw = c.sw := hS.sw
  obtain ⟨qs, hq, hln, hpt⟩ := hS.pa
  obtain ⟨_, _, hvq, _, hvm, _⟩ := hq.form
  simp only [Sl.val, Value.slice.injEq] at hvq
  have hn2 : n2 = qs.length := hvq.2.1
  unfold maxLen at hvm
  have hmx : ∀ x ∈ qs, x.v7.n ≤ 9223372036854775807 ∧ x.v8.n ≤ 9223372036854775807 := by
    intro x hx
    obtain ⟨i, hi, rfl⟩ := mem_getD (d := Pv.zero) hx
    have := hpt i (by omega)
    exact ⟨this.sa.n_eq.2, this.qu.n_eq.2⟩
  have HSP := hid (show mayC c = (inB 1 4096 c.fr && inB 0 c.fr c.sw && (inB 1 4 qs.length && allN (fun i => partB (c.pa.getD i Pt.zero)) qs.length) && (inB 0 8 c.li.length && allN (fun i => inB 0 ((n2 : Int) - 1) (c.li.getD i 0)) c.li.length) && (inB 1 12 c.wi.length && allN (fun i => winB c.fr n2 (c.wi.getD i Wn.zero)) c.wi.length) && orderF 0 c.wi && (inB 0 8 c.ch.length && allN (fun i => chanB qs (c.ch.getD i Ch.zero)) c.ch.length) && apartF [] c.ch) by
    unfold mayC
    rw [hn2, hln]
    simp only [chan_same hln hpt])
  have HN2 := hid (show n2 ≤ 9223372036854775807 by omega)
  have HQ := hid hq
  have HLn := hid hln
  have HPT := hid hpt
  have HMX := hid hmx
  have HS := hid hS
  have HF := hid hf
  clear hS hf hq hln hpt hmx hvq hvm hn2
  unfold Cv.val
  have hmf : ∀ (fn : Fn) (first cap : Array Value) (w : World), (Instr.makeFunc fn first cap).run Try.prog w = .ok (.func fn first cap) w := fun _ _ _ _ => rfl
  go_enter Try.func20, Try.ntmps20
  go_wp2_with fail
  refine (span_any 1 4096 c.fr _).mono ?_
  rintro e w1 ⟨rfl, hb⟩
  have B0 : BoxAt w1 w.heap.size 27 #[.int .i64 c.fr, .int .i64 c.sw, .slice a1 n1 k1, .slice a2 n2 k2, .slice a3 n3 k3, .slice a4 n4 k4] := (BoxAt.new w _ _).belowAll hb
  have hB : Below w.heap.size w w1 := ((Below.refl _ _).alloc (Nat.le_refl _) _).trans (hb.mono (by simp))
  replace HS := hid (HS.out.below hB)
  replace B0 := hid B0
  clear hb
  rcases h1 : inB 1 4096 c.fr
  · clear HS B0 HQ HLn HPT HMX HF HN2
    go_wp2
    go_ret
    exact ⟨by rw [HSP.out, h1]; simp, hB⟩
  have c0 := (B0.out.cell 0).trans rfl
  have c1 := (B0.out.cell 1).trans rfl
  go_wp2_with fail
  refine (span_any 0 c.fr c.sw _).mono ?_
  rintro e w2 ⟨rfl, hb⟩
  replace HS := hid (HS.out.below hb)
  replace B0 := hid (B0.out.belowAll hb)
  replace hB := hB.trans (hb.mono hB.size)
  clear hb c0 c1
  rcases h2 : inB 0 c.fr c.sw
  · clear HS B0 HQ HLn HPT HMX HF HN2
    go_wp2
    go_ret
    exact ⟨by rw [HSP.out, h1, h2]; simp, hB⟩
  have c3 := (B0.out.cell 3).trans rfl
  go_wp2_with fail
  refine (all_Pv 44 #[] (enters_of Try.func44 (by kernel_rfl) rfl) 1 4 qs _ (fun i => partB (c.pa.getD i Pt.zero)) _ (HQ.out.below hB) (fun i hi W hW => partMay_any _ _ W ((HPT.out i (by rw [← HLn.out]; exact hi)).below (hB.trans (hW.mono hB.size))) (HF.out.2 _ (getD_mem (by rw [← HLn.out]; exact hi))))).mono ?_
  rintro e w3 ⟨rfl, hb⟩
  replace HS := hid (HS.out.below hb)
  replace B0 := hid (B0.out.belowAll hb)
  replace hB := hB.trans (hb.mono hB.size)
  clear hb c3
  rcases h3 : (inB 1 4 qs.length && allN (fun i => partB (c.pa.getD i Pt.zero)) qs.length)
  · clear HS B0 HQ HLn HPT HMX HF HN2
    go_wp2
    go_ret
    exact ⟨by rw [HSP.out, h1, h2, h3]; simp, hB⟩
  have c2 := (B0.out.cell 2).trans rfl
  have c0 := (B0.out.cell 0).trans rfl
  have c1 := (B0.out.cell 1).trans rfl
  have c3 := (B0.out.cell 3).trans rfl
  have c4 := (B0.out.cell 4).trans rfl
  have c5 := (B0.out.cell 5).trans rfl
  go_wp2_with fail
  refine (all_I 46 #[Cv.val ⟨c.fr, c.sw, ⟨a1, n1, k1⟩, ⟨a2, n2, k2⟩, ⟨a3, n3, k3⟩, ⟨a4, n4, k4⟩⟩] (enters_of Try.func46 (by kernel_rfl) rfl) 0 8 c.li _ (fun i => inB 0 ((n2 : Int) - 1) (c.li.getD i 0)) _ HS.out.li (fun i hi W hW => hasPart_any ⟨c.fr, c.sw, ⟨a1, n1, k1⟩, ⟨a2, n2, k2⟩, ⟨a3, n3, k3⟩, ⟨a4, n4, k4⟩⟩ HN2.out _ W)).mono ?_
  rintro e w4 ⟨rfl, hb⟩
  replace HS := hid (HS.out.below hb)
  replace B0 := hid (B0.out.belowAll hb)
  replace hB := hB.trans (hb.mono hB.size)
  clear hb c2 c0 c1 c3 c4 c5
  rcases h4 : (inB 0 8 c.li.length && allN (fun i => inB 0 ((n2 : Int) - 1) (c.li.getD i 0)) c.li.length)
  · clear HS B0 HQ HLn HPT HMX HF HN2
    go_wp2
    go_ret
    exact ⟨by rw [HSP.out, h1, h2, h3, h4]; simp, hB⟩
  have c4 := (B0.out.cell 4).trans rfl
  have c0 := (B0.out.cell 0).trans rfl
  have c1 := (B0.out.cell 1).trans rfl
  have c2 := (B0.out.cell 2).trans rfl
  have c3 := (B0.out.cell 3).trans rfl
  have c5 := (B0.out.cell 5).trans rfl
  go_wp2_with fail
  refine (all_Wn 48 #[Cv.val ⟨c.fr, c.sw, ⟨a1, n1, k1⟩, ⟨a2, n2, k2⟩, ⟨a3, n3, k3⟩, ⟨a4, n4, k4⟩⟩] (enters_of Try.func48 (by kernel_rfl) rfl) 1 12 c.wi _ (fun i => winB c.fr n2 (c.wi.getD i Wn.zero)) _ HS.out.wi (fun i hi W hW => windowMay_any ⟨c.fr, c.sw, ⟨a1, n1, k1⟩, ⟨a2, n2, k2⟩, ⟨a3, n3, k3⟩, ⟨a4, n4, k4⟩⟩ HN2.out HF.out.1 _ W)).mono ?_
  rintro e w5 ⟨rfl, hb⟩
  replace HS := hid (HS.out.below hb)
  replace B0 := hid (B0.out.belowAll hb)
  replace hB := hB.trans (hb.mono hB.size)
  clear hb c4 c0 c1 c2 c3 c5
  rcases h5 : (inB 1 12 c.wi.length && allN (fun i => winB c.fr n2 (c.wi.getD i Wn.zero)) c.wi.length)
  · clear HS B0 HQ HLn HPT HMX HF HN2
    go_wp2
    go_ret
    exact ⟨by rw [HSP.out, h1, h2, h3, h4, h5]; simp, hB⟩
  have c4 := (B0.out.cell 4).trans rfl
  go_wp2_with fail
  refine (inOrder_any _ c.wi _ HS.out.wi (win_fine h1 h5)).mono ?_
  rintro e w6 ⟨rfl, hb⟩
  replace HS := hid (HS.out.below hb)
  replace B0 := hid (B0.out.belowAll hb)
  replace hB := hB.trans (hb.mono hB.size)
  clear hb c4
  rcases h6 : orderF 0 c.wi
  · clear HS B0 HQ HLn HPT HMX HF HN2
    go_wp2
    go_ret
    exact ⟨by rw [HSP.out, h1, h2, h3, h4, h5, h6]; simp, hB⟩
  have c5 := (B0.out.cell 5).trans rfl
  have c0 := (B0.out.cell 0).trans rfl
  have c1 := (B0.out.cell 1).trans rfl
  have c2 := (B0.out.cell 2).trans rfl
  have c3 := (B0.out.cell 3).trans rfl
  have c4 := (B0.out.cell 4).trans rfl
  go_wp2_with fail
  refine (all_Ch 51 #[Cv.val ⟨c.fr, c.sw, ⟨a1, n1, k1⟩, ⟨a2, n2, k2⟩, ⟨a3, n3, k3⟩, ⟨a4, n4, k4⟩⟩] (enters_of Try.func51 (by kernel_rfl) rfl) 0 8 c.ch _ (fun i => chanB qs (c.ch.getD i Ch.zero)) _ HS.out.ch (fun i hi W hW => channelMay_any ⟨c.fr, c.sw, ⟨a1, n1, k1⟩, ⟨a2, n2, k2⟩, ⟨a3, n3, k3⟩, ⟨a4, n4, k4⟩⟩ qs W (HQ.out.below (hB.trans (hW.mono hB.size))) HMX.out _)).mono ?_
  rintro e w7 ⟨rfl, hb⟩
  replace HS := hid (HS.out.below hb)
  replace B0 := hid (B0.out.belowAll hb)
  replace hB := hB.trans (hb.mono hB.size)
  clear hb c5 c0 c1 c2 c3 c4
  rcases h7 : (inB 0 8 c.ch.length && allN (fun i => chanB qs (c.ch.getD i Ch.zero)) c.ch.length)
  · clear HS B0 HQ HLn HPT HMX HF HN2
    go_wp2
    go_ret
    exact ⟨by rw [HSP.out, h1, h2, h3, h4, h5, h6, h7]; simp, hB⟩
  have c5 := (B0.out.cell 5).trans rfl
  go_wp2_with fail
  refine (apart_any _ c.ch _ HS.out.ch (by simp [inB] at h7; omega)).mono ?_
  rintro e w8 ⟨rfl, hb⟩
  replace HS := hid (HS.out.below hb)
  replace B0 := hid (B0.out.belowAll hb)
  replace hB := hB.trans (hb.mono hB.size)
  clear hb c5
  clear HS B0 HQ HLn HPT HMX HF HN2
  go_wp2
  go_ret
  exact ⟨by rw [HSP.out, h1, h2, h3, h4, h5, h6, h7]; simp, hB⟩
end Go.Proofs.Ytfdoejdnhogepaa
