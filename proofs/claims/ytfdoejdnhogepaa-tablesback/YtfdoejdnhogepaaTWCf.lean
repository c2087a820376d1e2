/-
  What the walk through a configuration returns over any machine that is given numbers one by one.
-/
import Derived.Test.YtfdoejdnhogepaaTLPt
import Derived.Test.YtfdoejdnhogepaaTLWn
import Derived.Test.YtfdoejdnhogepaaTLCh
namespace Go.Proofs.Ytfdoejdnhogepaa
open Go.RowKit
set_option linter.unusedVariables false

theorem Try.infoCf7 : (Try.prog.info? 27).map (·.size) = some 6 := by kernel_rfl

theorem SeesPsB.kept {G : Nat} {w w' : World} {v : Value} {l : List Pt} (h : SeesPsB (fun b => b < w.heap.size ∧ ¬ own G w b) w v l) (hk : KB G w.heap.size w w') : SeesPsB (fun b => b < w'.heap.size ∧ ¬ own G w' b) w' v l := by
  obtain ⟨qs, h1, h2, h3, h4⟩ := h
  have hi : ∀ b, (b < w.heap.size ∧ ¬ own G w b) → (b < w'.heap.size ∧ ¬ own G w' b) := fun b hb => ⟨Nat.lt_of_lt_of_le hb.1 hk.size, hk.own b hb.1 hb.2⟩
  exact ⟨qs, SeesC.kept h1 h2 hk, h2.imp hi, h3, fun i hi' => ⟨(h4 i hi').1.turn ((h4 i hi').2.imp fun b hb => hk.block b hb.1 hb.1 hb.2), (h4 i hi').2.imp hi⟩⟩
theorem PS.turn {G lo : Nat} {w w' : World} {u : Value} {qs : List Pv} {acc : List Pt} (h : PS G lo w u qs acc) (hs : ∀ k, lo ≤ k → w'.heap[k]? = w.heap[k]?) (ho : ∀ k, own G w' k ↔ own G w k) (hz : w'.heap.size = w.heap.size) : PS G lo w' u qs acc :=
  ⟨h.1, fun j hj => ⟨(h.2 j hj).1.turn ((h.2 j hj).2.imp fun b hb => hs b hb.1), (h.2 j hj).2.imp fun b hb => ⟨hb.1, by rw [hz]; exact hb.2.1, fun k => hb.2.2.1 ((ho b).1 k), hb.2.2.2⟩⟩⟩
theorem PS.set {G lo : Nat} {w : World} {u : Value} {qs : List Pv} {acc : List Pt} (h : PS G lo w u qs acc) {p : Addr} (hp : p.block < lo) (ho : ¬ own G w p.block) (x : Value) : PS G lo (w.setCell p x) u qs acc :=
  h.turn (fun k hk => Below.heap_setCell _ _ _ _ (by omega)) (own_set ho x) (by simp)
theorem PS.mono {G lo lo' : Nat} {w : World} {u : Value} {qs : List Pv} {acc : List Pt} (h : PS G lo w u qs acc) (hl : lo' ≤ lo) : PS G lo' w u qs acc :=
  ⟨h.1, fun j hj => ⟨(h.2 j hj).1, (h.2 j hj).2.imp fun b hb => ⟨Nat.le_trans hl hb.1, hb.2⟩⟩⟩

/-- A configuration's value that reads, in w, as c, and lies in blocks of S. -/
structure CfB (S : Nat → Prop) (w : World) (q : Cv) (c : Cf) : Prop where
  fr : q.fr = c.fr
  sw : q.sw = c.sw
  li : Sees w .i64 q.l.val c.li
  lib : Blk S q.l.val
  pa : SeesPsB S w q.p.val c.pa
  wi : SeesWn w q.w.val c.wi
  wib : Blk S q.w.val
  ch : SeesCh w q.c.val c.ch
  chb : Blk S q.c.val
def Cf.few (c : Cf) : Prop := c.li.length ≤ 1000 ∧ c.pa.length ≤ 1000 ∧ c.wi.length ≤ 1000 ∧ c.ch.length ≤ 1000 ∧ ∀ p ∈ c.pa, p.few

def wCf {σ : Type} (nx : Int → Int → σ → Int × σ) (c : Cf) (s : σ) : Cf × σ :=
  let x0 := numW nx c.fr s
  let x1 := numW nx c.sw x0.2
  let x2 := listW nx (numW nx) 0 c.li x1.2
  let x3 := listW nx (wPt nx) Pt.zero c.pa x2.2
  let x4 := listW nx (wWn nx) Wn.zero c.wi x3.2
  let x5 := listW nx (wCh nx) Ch.zero c.ch x4.2
  (⟨x0.1, x1.1, x2.1, x3.1, x4.1, x5.1⟩, x5.2)

set_option maxRecDepth 100000 in
set_option maxHeartbeats 8000000 in
theorem wCf_any {g G : Nat} {σ : Type} {nx : Int → Int → σ → Int × σ} {At : World → σ → Prop} {room : σ → Nat} (M : Mach g G σ nx At room) (q : Cv) (c : Cf) (s : σ) (w : World) (hA : At w s) (hP : CfB (fun b => b < w.heap.size ∧ ¬ own G w b) w q c) (hF : c.few) (hr : room (wCf nx c s).2 ≤ 1000000) :
    Calls Try.prog 31 #[walkV g G, q.val] w fun e w' => ∃ q' : Cv, e = .returned q'.val ∧ CfB (fun b => w.heap.size ≤ b ∧ b < w'.heap.size) w' q' (wCf nx c s).1 ∧ At w' (wCf nx c s).2 ∧ KB G w.heap.size w w' := by
  obtain ⟨fr, sw, ⟨a2, n2, k2⟩, ⟨a3, n3, k3⟩, ⟨a4, n4, k4⟩, ⟨a5, n5, k5⟩⟩ := q
  obtain rfl : fr = c.fr := hP.fr
  obtain rfl : sw = c.sw := hP.sw
  unfold wCf at hr ⊢
  simp only at hr ⊢
  obtain ⟨x0, hx0⟩ : ∃ x, numW nx c.fr s = x := ⟨_, rfl⟩
  rw [hx0] at hr ⊢
  have m0 : room s ≤ room x0.2 := by rw [← hx0]; exact M.mono _ _ _
  obtain ⟨x1, hx1⟩ : ∃ x, numW nx c.sw x0.2 = x := ⟨_, rfl⟩
  rw [hx1] at hr ⊢
  have m1 : room x0.2 ≤ room x1.2 := by rw [← hx1]; exact M.mono _ _ _
  obtain ⟨x2, hx2⟩ : ∃ x, listW nx (numW nx) 0 c.li x1.2 = x := ⟨_, rfl⟩
  rw [hx2] at hr ⊢
  have m2 : room x1.2 ≤ room x2.2 := by rw [← hx2]; exact listW_mono M (numW_mono M) _ _ _
  obtain ⟨x3, hx3⟩ : ∃ x, listW nx (wPt nx) Pt.zero c.pa x2.2 = x := ⟨_, rfl⟩
  rw [hx3] at hr ⊢
  have m3 : room x2.2 ≤ room x3.2 := by rw [← hx3]; exact listW_mono M (wPt_mono M) _ _ _
  obtain ⟨x4, hx4⟩ : ∃ x, listW nx (wWn nx) Wn.zero c.wi x3.2 = x := ⟨_, rfl⟩
  rw [hx4] at hr ⊢
  have m4 : room x3.2 ≤ room x4.2 := by rw [← hx4]; exact listW_mono M (wWn_mono M) _ _ _
  obtain ⟨x5, hx5⟩ : ∃ x, listW nx (wCh nx) Ch.zero c.ch x4.2 = x := ⟨_, rfl⟩
  rw [hx5] at hr ⊢
  have m5 : room x4.2 ≤ room x5.2 := by rw [← hx5]; exact listW_mono M (wCh_mono M) _ _ _
  have HR := hid (show room x0.2 ≤ 1000000 ∧ room x1.2 ≤ 1000000 ∧ room x2.2 ≤ 1000000 ∧ room x3.2 ≤ 1000000 ∧ room x4.2 ≤ 1000000 ∧ room x5.2 ≤ 1000000 by omega)
  have HX0 := hid hx0
  have HX1 := hid hx1
  have HX2 := hid hx2
  have HX3 := hid hx3
  have HX4 := hid hx4
  have HX5 := hid hx5
  clear hr hx0 m0 hx1 m1 hx2 m2 hx3 m3 hx4 m4 hx5 m5
  have hmf : ∀ (fn : Fn) (first cap : Array Value) (w : World), (Instr.makeFunc fn first cap).run Try.prog w = .ok (.func fn first cap) w := fun _ _ _ _ => rfl
  have HM := hid M
  have HP := hid hP
  have HF := hid hF
  have L := hid (Loc.start M hA 27 #[.int .i64 c.fr, .int .i64 c.sw, .slice a2 n2 k2, .slice a3 n3 k3, .slice a4 n4 k4, .slice a5 n5 k5] #[.int .i64 0, .int .i64 0, .slice none 0 0, .slice none 0 0, .slice none 0 0, .slice none 0 0])
  have RW := hid (Rws.nil G (w.heap.size + 3) (((w.alloc (.cells #[.func (.func g) #[.pointer (some ⟨G, 0, none⟩)] #[]] 63)).alloc (.cells #[.int .i64 c.fr, .int .i64 c.sw, .slice a2 n2 k2, .slice a3 n3 k3, .slice a4 n4 k4, .slice a5 n5 k5] 27)).alloc (.cells #[.int .i64 0, .int .i64 0, .slice none 0 0, .slice none 0 0, .slice none 0 0, .slice none 0 0] 27)))
  have hS := hid (show w.heap.size + 3 ≤ (((w.alloc (.cells #[.func (.func g) #[.pointer (some ⟨G, 0, none⟩)] #[]] 63)).alloc (.cells #[.int .i64 c.fr, .int .i64 c.sw, .slice a2 n2 k2, .slice a3 n3 k3, .slice a4 n4 k4, .slice a5 n5 k5] 27)).alloc (.cells #[.int .i64 0, .int .i64 0, .slice none 0 0, .slice none 0 0, .slice none 0 0, .slice none 0 0] 27)).heap.size by simp)
  clear M hA hP hF
  unfold walkV Cv.val
  go_enter Try.func31, Try.ntmps31
  go_wp2_with fail
  refine (numW_any HM.out c.fr s _ L.out.at_ (by have := HX0.out; rw [this]; exact HR.out.1)).mono ?_
  rintro e w1 ⟨rfl, hA0, hK0⟩
  rw [HX0.out] at hA0
  rw [HX0.out]
  have L1 := L.out.step hA0 hK0
  have RW1 := RW.out.kept hK0
  have hS1 := Nat.le_trans hS.out hK0.size
  clear hA0 hK0 L RW hS
  have d0 := (L1.b0.cell 0).trans rfl
  have f1 := L1.b1.free
  have c0 := (L1.b1.cell 0).trans rfl
  have c1 := (L1.b1.cell 1).trans rfl
  have c2 := (L1.b1.cell 2).trans rfl
  have c3 := (L1.b1.cell 3).trans rfl
  have c4 := (L1.b1.cell 4).trans rfl
  have c5 := (L1.b1.cell 5).trans rfl
  have RW := hid (RW1.set (p := ⟨w.heap.size + 1, 0, none⟩) (by show w.heap.size + 1 < w.heap.size + 3; omega) L1.o1 (.int .i64 x0.1))
  have hS := hid (show w.heap.size + 3 ≤ (w1.setCell ⟨w.heap.size + 1, 0, none⟩ (.int .i64 x0.1)).heap.size by simpa using hS1)
  have L := hid (L1.set HM.out 0 (.int .i64 x0.1))
  clear L1 RW1 hS1
  go_wp2_with fail
  refine (numW_any HM.out c.sw x0.2 _ L.out.at_ (by have := HX1.out; rw [this]; exact HR.out.2.1)).mono ?_
  rintro e w2 ⟨rfl, hA1, hK1⟩
  rw [HX1.out] at hA1
  rw [HX1.out]
  have L1 := L.out.step hA1 hK1
  have RW1 := RW.out.kept hK1
  have hS1 := Nat.le_trans hS.out hK1.size
  clear hA1 hK1 L RW hS c0 c1 c2 c3 c4 c5 d0 f1
  have d0 := (L1.b0.cell 0).trans rfl
  have f1 := L1.b1.free
  have c0 := (L1.b1.cell 0).trans rfl
  have c1 := (L1.b1.cell 1).trans rfl
  have c2 := (L1.b1.cell 2).trans rfl
  have c3 := (L1.b1.cell 3).trans rfl
  have c4 := (L1.b1.cell 4).trans rfl
  have c5 := (L1.b1.cell 5).trans rfl
  have RW := hid (RW1.set (p := ⟨w.heap.size + 1, 1, none⟩) (by show w.heap.size + 1 < w.heap.size + 3; omega) L1.o1 (.int .i64 x1.1))
  have hS := hid (show w.heap.size + 3 ≤ (w2.setCell ⟨w.heap.size + 1, 1, none⟩ (.int .i64 x1.1)).heap.size by simpa using hS1)
  have L := hid (L1.set HM.out 1 (.int .i64 x1.1))
  clear L1 RW1 hS1
  go_wp2_with fail
  refine (lI_any HM.out c.li _ x1.2 _ L.out.at_ (Sees.kept HP.out.li HP.out.lib L.out.kb) (Held.kept HP.out.lib L.out.kb) HF.out.1 (by have := HX2.out; rw [this]; exact HR.out.2.2.1)).mono ?_
  rintro e w3 ⟨u2, rfl, hrow2, hA2, hK2⟩
  rw [HX2.out] at hA2 hrow2
  obtain ⟨sl2, rfl⟩ := hrow2.slice
  have L1 := L.out.step hA2 hK2
  have RW1 := (RW.out.kept hK2).cons hS.out hrow2
  have hS1 := Nat.le_trans hS.out hK2.size
  clear hrow2
  clear hA2 hK2 L RW hS c0 c1 c2 c3 c4 c5 d0 f1
  have d0 := (L1.b0.cell 0).trans rfl
  have f1 := L1.b1.free
  have c0 := (L1.b1.cell 0).trans rfl
  have c1 := (L1.b1.cell 1).trans rfl
  have c2 := (L1.b1.cell 2).trans rfl
  have c3 := (L1.b1.cell 3).trans rfl
  have c4 := (L1.b1.cell 4).trans rfl
  have c5 := (L1.b1.cell 5).trans rfl
  have RW := hid (RW1.set (p := ⟨w.heap.size + 1, 2, none⟩) (by show w.heap.size + 1 < w.heap.size + 3; omega) L1.o1 (.slice sl2.a sl2.n sl2.c))
  have hS := hid (show w.heap.size + 3 ≤ (w3.setCell ⟨w.heap.size + 1, 2, none⟩ (.slice sl2.a sl2.n sl2.c)).heap.size by simpa using hS1)
  have L := hid (L1.set HM.out 2 (.slice sl2.a sl2.n sl2.c))
  clear L1 RW1 hS1
  go_wp2_with fail
  refine (lPt_any HM.out c.pa _ x2.2 _ L.out.at_ (HP.out.pa.kept L.out.kb) HF.out.2.1 HF.out.2.2.2.2 (by have := HX3.out; rw [this]; exact HR.out.2.2.2.1)).mono ?_
  rintro e w4 ⟨u3, qs, rfl, hrow3, hps, hA3, hK3⟩
  rw [HX3.out] at hA3 hps
  obtain ⟨sl3, rfl⟩ := hrow3.slice
  have L1 := L.out.step hA3 hK3
  have RW1 := (RW.out.kept hK3).cons hS.out hrow3
  have PS1 := hps.mono hS.out
  have hS1 := Nat.le_trans hS.out hK3.size
  clear hrow3 hps
  clear hA3 hK3 L RW hS c0 c1 c2 c3 c4 c5 d0 f1
  have d0 := (L1.b0.cell 0).trans rfl
  have f1 := L1.b1.free
  have c0 := (L1.b1.cell 0).trans rfl
  have c1 := (L1.b1.cell 1).trans rfl
  have c2 := (L1.b1.cell 2).trans rfl
  have c3 := (L1.b1.cell 3).trans rfl
  have c4 := (L1.b1.cell 4).trans rfl
  have c5 := (L1.b1.cell 5).trans rfl
  have RW := hid (RW1.set (p := ⟨w.heap.size + 1, 3, none⟩) (by show w.heap.size + 1 < w.heap.size + 3; omega) L1.o1 (.slice sl3.a sl3.n sl3.c))
  have PSh := hid (PS1.set (p := ⟨w.heap.size + 1, 3, none⟩) (by show w.heap.size + 1 < w.heap.size + 3; omega) L1.o1 (.slice sl3.a sl3.n sl3.c))
  clear PS1
  have hS := hid (show w.heap.size + 3 ≤ (w4.setCell ⟨w.heap.size + 1, 3, none⟩ (.slice sl3.a sl3.n sl3.c)).heap.size by simpa using hS1)
  have L := hid (L1.set HM.out 3 (.slice sl3.a sl3.n sl3.c))
  clear L1 RW1 hS1
  go_wp2_with fail
  refine (lWn_any HM.out c.wi _ x3.2 _ L.out.at_ (SeesC.kept HP.out.wi HP.out.wib L.out.kb) (Held.kept HP.out.wib L.out.kb) HF.out.2.2.1 (by have := HX4.out; rw [this]; exact HR.out.2.2.2.2.1)).mono ?_
  rintro e w5 ⟨u4, rfl, hrow4, hA4, hK4⟩
  rw [HX4.out] at hA4 hrow4
  obtain ⟨sl4, rfl⟩ := hrow4.slice
  have L1 := L.out.step hA4 hK4
  have RW1 := (RW.out.kept hK4).cons hS.out hrow4
  have hS1 := Nat.le_trans hS.out hK4.size
  clear hrow4
  have PS1 := PSh.out.kept hK4
  clear PSh
  clear hA4 hK4 L RW hS c0 c1 c2 c3 c4 c5 d0 f1
  have d0 := (L1.b0.cell 0).trans rfl
  have f1 := L1.b1.free
  have c0 := (L1.b1.cell 0).trans rfl
  have c1 := (L1.b1.cell 1).trans rfl
  have c2 := (L1.b1.cell 2).trans rfl
  have c3 := (L1.b1.cell 3).trans rfl
  have c4 := (L1.b1.cell 4).trans rfl
  have c5 := (L1.b1.cell 5).trans rfl
  have RW := hid (RW1.set (p := ⟨w.heap.size + 1, 4, none⟩) (by show w.heap.size + 1 < w.heap.size + 3; omega) L1.o1 (.slice sl4.a sl4.n sl4.c))
  have PSh := hid (PS1.set (p := ⟨w.heap.size + 1, 4, none⟩) (by show w.heap.size + 1 < w.heap.size + 3; omega) L1.o1 (.slice sl4.a sl4.n sl4.c))
  clear PS1
  have hS := hid (show w.heap.size + 3 ≤ (w5.setCell ⟨w.heap.size + 1, 4, none⟩ (.slice sl4.a sl4.n sl4.c)).heap.size by simpa using hS1)
  have L := hid (L1.set HM.out 4 (.slice sl4.a sl4.n sl4.c))
  clear L1 RW1 hS1
  go_wp2_with fail
  refine (lCh_any HM.out c.ch _ x4.2 _ L.out.at_ (SeesC.kept HP.out.ch HP.out.chb L.out.kb) (Held.kept HP.out.chb L.out.kb) HF.out.2.2.2.1 (by have := HX5.out; rw [this]; exact HR.out.2.2.2.2.2)).mono ?_
  rintro e w6 ⟨u5, rfl, hrow5, hA5, hK5⟩
  rw [HX5.out] at hA5 hrow5
  obtain ⟨sl5, rfl⟩ := hrow5.slice
  have L1 := L.out.step hA5 hK5
  have RW1 := (RW.out.kept hK5).cons hS.out hrow5
  have hS1 := Nat.le_trans hS.out hK5.size
  clear hrow5
  have PS1 := PSh.out.kept hK5
  clear PSh
  clear hA5 hK5 L RW hS c0 c1 c2 c3 c4 c5 d0 f1
  have d0 := (L1.b0.cell 0).trans rfl
  have f1 := L1.b1.free
  have c0 := (L1.b1.cell 0).trans rfl
  have c1 := (L1.b1.cell 1).trans rfl
  have c2 := (L1.b1.cell 2).trans rfl
  have c3 := (L1.b1.cell 3).trans rfl
  have c4 := (L1.b1.cell 4).trans rfl
  have c5 := (L1.b1.cell 5).trans rfl
  have e0 := (L1.b2.cell 0).trans rfl
  have e1 := (L1.b2.cell 1).trans rfl
  have e2 := (L1.b2.cell 2).trans rfl
  have e3 := (L1.b2.cell 3).trans rfl
  have e4 := (L1.b2.cell 4).trans rfl
  have e5 := (L1.b2.cell 5).trans rfl
  have f2 := L1.b2.free
  have RW := hid (RW1.set (p := ⟨w.heap.size + 1, 5, none⟩) (by show w.heap.size + 1 < w.heap.size + 3; omega) L1.o1 (.slice sl5.a sl5.n sl5.c))
  have PSh := hid (PS1.set (p := ⟨w.heap.size + 1, 5, none⟩) (by show w.heap.size + 1 < w.heap.size + 3; omega) L1.o1 (.slice sl5.a sl5.n sl5.c))
  clear PS1
  have hS := hid (show w.heap.size + 3 ≤ (w6.setCell ⟨w.heap.size + 1, 5, none⟩ (.slice sl5.a sl5.n sl5.c)).heap.size by simpa using hS1)
  have L := hid (L1.set HM.out 5 (.slice sl5.a sl5.n sl5.c))
  clear L1 RW1 hS1
  go_wp2
  have hres := L.out.res HM.out [.int .i64 x0.1, .int .i64 x1.1, .slice sl2.a sl2.n sl2.c, .slice sl3.a sl3.n sl3.c, .slice sl4.a sl4.n sl4.c, .slice sl5.a sl5.n sl5.c] 0
  have hall := RW.out.turn (fun k hk => hres.2.2.2.1 k (by omega)) hres.2.2.1
  have hpsx := PSh.out.turn (fun k hk => hres.2.2.2.1 k (by omega)) hres.2.2.1 hres.2.2.2.2
  refine bodyPost_ret (results_cell_row rfl _ _ (w.heap.size + 2) 27 _ (0, 0) _ rfl (BoxAt.sets6 L.out.b2 (.int .i64 x0.1) (.int .i64 x1.1) (.slice sl2.a sl2.n sl2.c) (.slice sl3.a sl3.n sl3.c) (.slice sl4.a sl4.n sl4.c) (.slice sl5.a sl5.n sl5.c)) Try.underlying27 rfl Try.infoCf7) rfl ?_
  refine ⟨⟨x0.1, x1.1, sl2, sl3, sl4, sl5⟩, rfl, ?_, hres.1, hres.2.1⟩
  have r5 := hall _ List.mem_cons_self
  have r4 := hall _ (List.mem_cons_of_mem _ List.mem_cons_self)
  have r3 := hall _ (List.mem_cons_of_mem _ (List.mem_cons_of_mem _ List.mem_cons_self))
  have r2 := hall _ (List.mem_cons_of_mem _ (List.mem_cons_of_mem _ (List.mem_cons_of_mem _ List.mem_cons_self)))
  exact ⟨rfl, rfl, Sees.of_owns r2.2.1, (Row.from r2.2).imp (fun b hb => ⟨Nat.le_trans (by omega) (Nat.le_trans r2.1 hb.1), hb.2.1⟩), ⟨qs, SeesPv.owned rfl r3.2.1, (Row.from r3.2).imp (fun b hb => ⟨Nat.le_trans (by omega) (Nat.le_trans r3.1 hb.1), hb.2.1⟩), hpsx.1, fun i hi => ⟨(hpsx.2 i hi).1, (hpsx.2 i hi).2.imp (fun b hb => ⟨Nat.le_trans (by omega) hb.1, hb.2.1⟩)⟩⟩,
    SeesWn.owned rfl r4.2.1, (Row.from r4.2).imp (fun b hb => ⟨Nat.le_trans (by omega) (Nat.le_trans r4.1 hb.1), hb.2.1⟩), SeesCh.owned rfl r5.2.1, (Row.from r5.2).imp (fun b hb => ⟨Nat.le_trans (by omega) (Nat.le_trans r5.1 hb.1), hb.2.1⟩)⟩
end Go.Proofs.Ytfdoejdnhogepaa
