/-
  What a walk with the writer keeps: the numbers of a configuration, in their order.
-/
import Derived.Test.YtfdoejdnhogepaaTWCf
import Derived.Test.YtfdoejdnhogepaaTPut
import Derived.Test.YtfdoejdnhogepaaTMay
import Derived.Test.YtfdoejdnhogepaaWPutAll
namespace Go.Proofs.Ytfdoejdnhogepaa
open Go.RowKit
set_option linter.unusedVariables false

def cntF {α : Type} (f : α → List Int) (l : List α) : List Int := (l.length : Int) :: l.flatMap f
theorem mapW_put {α : Type} {one : α → List Int → α × List Int} {f : α → List Int} (h : ∀ x s, one x s = (x, s ++ f x)) (l : List α) : ∀ s, mapW one l s = (l, s ++ l.flatMap f) := by
  induction l with
  | nil => intro s; simp [mapW]
  | cons x l ih => intro s; simp [mapW, h, ih]
theorem pad_self {α : Type} (l : List α) (z : α) : pad l z l.length = l := by
  apply List.ext_getElem
  · simp [pad]
  · intro i h1 h2
    simp [pad, List.getElem?_eq_getElem h2]
theorem listW_put {α : Type} {one : α → List Int → α × List Int} {f : α → List Int} (h : ∀ x s, one x s = (x, s ++ f x)) (z : α) (l : List α) (s : List Int) : listW putN one z l s = (l, s ++ cntF f l) := by
  unfold listW
  simp only [putN, Int.toNat_natCast, pad_self]
  rw [mapW_put h]
  simp [cntF]
theorem numW_put (n : Int) (s : List Int) : numW putN n s = (n, s ++ [n]) := rfl
theorem flagW_put (b : Bool) (s : List Int) : flagW putN b s = (b, s ++ [bitI b]) := by cases b <;> simp [flagW, putN, bitI]

def flRg (r : Rg) : List Int := [r.f, r.n, bitI r.wr]
def flPc (r : Pc) : List Int := [r.pr, r.pe, r.li, r.en, bitI r.au]
def flBc (r : Bc) : List Int := [r.d, bitI r.ra]
def flSc (r : Sc) : List Int := [r.co, r.mo, bitI r.ra]
def flWn (r : Wn) : List Int := [r.p, r.st, r.ln]
def flCh (r : Ch) : List Int := [bitI r.qu, r.f, r.a, r.t, r.b]
def one1 (n : Int) : List Int := [n]
theorem wRg_put (r : Rg) (s : List Int) : wRg putN r s = (r, s ++ flRg r) := by simp [wRg, numW_put, flagW_put, flRg]
theorem wPc_put (r : Pc) (s : List Int) : wPc putN r s = (r, s ++ flPc r) := by simp [wPc, numW_put, flagW_put, flPc]
theorem wBc_put (r : Bc) (s : List Int) : wBc putN r s = (r, s ++ flBc r) := by simp [wBc, numW_put, flagW_put, flBc]
theorem wSc_put (r : Sc) (s : List Int) : wSc putN r s = (r, s ++ flSc r) := by simp [wSc, numW_put, flagW_put, flSc]
theorem wWn_put (r : Wn) (s : List Int) : wWn putN r s = (r, s ++ flWn r) := by simp [wWn, numW_put, flWn]
theorem wCh_put (r : Ch) (s : List Int) : wCh putN r s = (r, s ++ flCh r) := by simp [wCh, numW_put, flagW_put, flCh]

def flPt (p : Pt) : List Int :=
  [p.wo] ++ cntF flRg p.rg ++ cntF flPc p.pc ++ [p.bo] ++ cntF flBc p.bc ++ cntF flSc p.sc ++ [p.ev] ++ cntF one1 p.sa ++ cntF one1 p.qu ++ [p.la] ++ cntF one1 p.tb
theorem wPt_put (p : Pt) (s : List Int) : wPt putN p s = (p, s ++ flPt p) := by
  simp only [wPt, numW_put, listW_put wRg_put, listW_put wPc_put, listW_put wBc_put, listW_put wSc_put, listW_put (f := one1) numW_put, flPt, List.append_assoc]
def flCf (c : Cf) : List Int := [c.fr, c.sw] ++ cntF one1 c.li ++ cntF flPt c.pa ++ cntF flWn c.wi ++ cntF flCh c.ch
theorem wCf_put (c : Cf) (s : List Int) : wCf putN c s = (c, s ++ flCf c) := by
  simp only [wCf, numW_put, listW_put wPt_put, listW_put wWn_put, listW_put wCh_put, listW_put (f := one1) numW_put, flCf, List.append_assoc, List.cons_append, List.nil_append]

theorem cntF_len {α : Type} (f : α → List Int) (k : Nat) (l : List α) (h : ∀ x ∈ l, (f x).length ≤ k) : (cntF f l).length ≤ 1 + l.length * k := by
  unfold cntF
  induction l with
  | nil => simp
  | cons x l ih =>
    have h1 := h x (by simp)
    have h2 := ih (fun y hy => h y (by simp [hy]))
    simp only [List.length_cons, List.flatMap_cons, List.length_append] at h2 ⊢
    rw [Nat.succ_mul]
    omega

theorem partB_few {p : Pt} (h : partB p = true) : p.few ∧ (flPt p).length ≤ 200 := by
  unfold partB at h
  simp only [Bool.and_eq_true, mayB, inB, decide_eq_true_eq] at h
  have hs : p.few := by unfold Pt.few; omega
  refine ⟨hs, ?_⟩
  have a1 := cntF_len flRg 3 p.rg (fun x _ => by simp [flRg])
  have a2 := cntF_len flPc 5 p.pc (fun x _ => by simp [flPc])
  have a3 := cntF_len flBc 2 p.bc (fun x _ => by simp [flBc])
  have a4 := cntF_len flSc 3 p.sc (fun x _ => by simp [flSc])
  have a5 := cntF_len one1 1 p.sa (fun x _ => by simp [one1])
  have a6 := cntF_len one1 1 p.qu (fun x _ => by simp [one1])
  have a7 := cntF_len one1 1 p.tb (fun x _ => by simp [one1])
  simp only [flPt, List.length_append, List.length_cons, List.length_nil]
  omega
theorem mayC_few {c : Cf} (h : mayC c = true) : c.few ∧ (flCf c).length ≤ 2000 := by
  unfold mayC at h
  simp only [Bool.and_eq_true, inB, decide_eq_true_eq] at h
  have hp : ∀ p ∈ c.pa, partB p = true := by
    intro p hp
    obtain ⟨i, hi, rfl⟩ := mem_getD (d := Pt.zero) hp
    exact (allN_iff _ _).1 h.1.1.1.1.1.2.2 i hi
  refine ⟨⟨by omega, by omega, by omega, by omega, fun p hp' => (partB_few (hp p hp')).1⟩, ?_⟩
  have a1 := cntF_len one1 1 c.li (fun x _ => by simp [one1])
  have a2 := cntF_len flPt 200 c.pa (fun x hx => (partB_few (hp x hx)).2)
  have a3 := cntF_len flWn 3 c.wi (fun x _ => by simp [flWn])
  have a4 := cntF_len flCh 5 c.ch (fun x _ => by simp [flCh])
  simp only [flCf, List.length_append, List.length_cons, List.length_nil]
  omega

theorem CfAt.cfb {w : World} {q : Cv} {c : Cf} (h : CfAt w q c) : CfB (· < w.heap.size) w q c := by
  obtain ⟨qs, h1, h2, h3⟩ := h.pa
  exact ⟨h.fr, h.sw, h.li, h.li.blk, ⟨qs, h1, SeesC.blk (by decide) h1, h2, fun i hi => ⟨h3 i hi, (h3 i hi).blk⟩⟩, h.wi, SeesC.blk (by decide) h.wi, h.ch, SeesC.blk (by decide) h.ch⟩
theorem CfB.turn {S S' : Nat → Prop} {w w' : World} {q : Cv} {c : Cf} (h : CfB S w q c) (hs : ∀ b, S b → w'.heap[b]? = w.heap[b]?) (hi : ∀ b, S b → S' b) : CfB S' w' q c := by
  obtain ⟨qs, h1, h2, h3, h4⟩ := h.pa
  exact ⟨h.fr, h.sw, h.li.turn (h.lib.imp hs), h.lib.imp hi, ⟨qs, SeesC.turn h1 (h2.imp hs), h2.imp hi, h3, fun i hi' => ⟨(h4 i hi').1.turn ((h4 i hi').2.imp hs), (h4 i hi').2.imp hi⟩⟩,
    SeesC.turn h.wi (h.wib.imp hs), h.wib.imp hi, SeesC.turn h.ch (h.chb.imp hs), h.chb.imp hi⟩

def encB (c : Cf) : List Int := if mayC c then paB (flCf c) else []
def encE (c : Cf) : Int := if mayC c then paE (flCf c) else 1

set_option maxRecDepth 100000 in
set_option maxHeartbeats 1600000 in
theorem enc_any (q : Cv) (c : Cf) (w : World) (hS : CfAt w q c) (hf : c.fit) :
    Calls Try.prog 17 #[q.val] w fun e w' => ∃ u, e = .returned (.tuple #[u, .int .i64 (encE c)]) ∧ w'.ownsRow w.heap.size 5 1 u (encB c).length ((encB c).map (Value.int .u8)) ∧ Below w.heap.size w w' := by
  have hnot := Try.hnot
  have hmf : ∀ (fn : Fn) (first cap : Array Value) (w : World), (Instr.makeFunc fn first cap).run Try.prog w = .ok (.func fn first cap) w := fun _ _ _ _ => rfl
  obtain ⟨fr, sw, ⟨a1, n1, k1⟩, ⟨a2, n2, k2⟩, ⟨a3, n3, k3⟩, ⟨a4, n4, k4⟩⟩ := q
  have HS := hid hS
  have HF := hid hf
  clear hS hf
  unfold Cv.val
  go_enter Try.func17, Try.ntmps17
  go_wp2_with fail
  refine (tmay_any ⟨fr, sw, ⟨a1, n1, k1⟩, ⟨a2, n2, k2⟩, ⟨a3, n3, k3⟩, ⟨a4, n4, k4⟩⟩ c _ (HS.out.below ((Below.refl _ _).alloc (Nat.le_refl _) _)) HF.out).mono ?_
  rintro e w1 ⟨rfl, hb⟩
  have B0 : BoxAt w1 w.heap.size 27 #[.int .i64 fr, .int .i64 sw, .slice a1 n1 k1, .slice a2 n2 k2, .slice a3 n3 k3, .slice a4 n4 k4] := (BoxAt.new w _ _).belowAll hb
  have hB : Below w.heap.size w w1 := ((Below.refl _ _).alloc (Nat.le_refl _) _).trans (hb.mono (by simp))
  clear hb
  rcases hm : mayC c
  · have HE := hid (And.intro (show encE c = 1 by simp [encE, hm]) (show encB c = [] by simp [encB, hm]))
    clear HS HF B0 hm
    go_wp2
    go_ret2
    exact ⟨_, by rw [HE.out.1]; rfl, by rw [HE.out.2]; exact World.ownsRow_nil _ _ _ _, hB⟩
  have HE := hid (And.intro (show encE c = paE (flCf c) by simp [encE, hm]) (show encB c = paB (flCf c) by simp [encB, hm]))
  obtain ⟨hfew, hlen⟩ := mayC_few hm
  have hA : PutAt w1.heap.size (w1.alloc (.cells #[.slice none 0 0] 60)) [] := ⟨_, BoxAt.new w1 _ _, World.ownsRow_nil _ _ _ _⟩
  have hown : ∀ k, own w1.heap.size (w1.alloc (.cells #[.slice none 0 0] 60)) k ↔ k = w1.heap.size := by
    intro k
    rw [PutAt.own (s := []) (BoxAt.new w1 _ _) k]
    simp [Value.ownBlock]
  have hcb := CfB.turn (w' := w1.alloc (.cells #[.slice none 0 0] 60)) (S' := fun b => b < (w1.alloc (.cells #[.slice none 0 0] 60)).heap.size ∧ ¬ own w1.heap.size (w1.alloc (.cells #[.slice none 0 0] 60)) b)
    (HS.out.below hB).cfb (fun b hb => Below.heap_alloc _ _ _ hb) (fun b hb => ⟨by simp; omega, by rw [hown]; omega⟩)
  have hwalk := wCf_any (putMach w1.heap.size) ⟨fr, sw, ⟨a1, n1, k1⟩, ⟨a2, n2, k2⟩, ⟨a3, n3, k3⟩, ⟨a4, n4, k4⟩⟩ c [] _ hA hcb hfew (by rw [wCf_put]; simp; omega)
  rw [wCf_put] at hwalk
  have HWk := hid hwalk
  have HOw := hid hown
  have HLn := hid hlen
  have hsz := hB.size
  have k0 : ∀ o, (w1.alloc o).cell? ⟨w.heap.size, 0, none⟩ = some (.int .i64 fr) := fun o => ((B0.alloc o).cell 0).trans rfl
  have k1' : ∀ o, (w1.alloc o).cell? ⟨w.heap.size, 1, none⟩ = some (.int .i64 sw) := fun o => ((B0.alloc o).cell 1).trans rfl
  have k2' : ∀ o, (w1.alloc o).cell? ⟨w.heap.size, 2, none⟩ = some (.slice a1 n1 k1) := fun o => ((B0.alloc o).cell 2).trans rfl
  have k3' : ∀ o, (w1.alloc o).cell? ⟨w.heap.size, 3, none⟩ = some (.slice a2 n2 k2) := fun o => ((B0.alloc o).cell 3).trans rfl
  have k4' : ∀ o, (w1.alloc o).cell? ⟨w.heap.size, 4, none⟩ = some (.slice a3 n3 k3) := fun o => ((B0.alloc o).cell 4).trans rfl
  have k5' : ∀ o, (w1.alloc o).cell? ⟨w.heap.size, 5, none⟩ = some (.slice a4 n4 k4) := fun o => ((B0.alloc o).cell 5).trans rfl
  clear hm hfew hlen hA hown hcb hwalk HS HF B0
  go_wp2_with fail
  refine HWk.out.mono ?_
  rintro e w2 ⟨q', rfl, _, hA2, hK2⟩
  have hB2 : Below w.heap.size w w2 := hB.trans ⟨hK2.os, hK2.tape, hK2.output, by have := hK2.size; simp at this; omega, fun k hk => by
    rw [hK2.block k (by simp; omega) (by simp; omega) (by rw [HOw.out]; omega)]
    exact Below.heap_alloc _ _ _ (by omega)⟩
  obtain ⟨v, hbox, hrow⟩ := hA2
  have e0 := (hbox.cell 0).trans rfl
  have HV := hid (Sees.of_owns hrow)
  simp only [List.nil_append] at HV
  clear hK2 hbox hrow hB HWk HOw k0 k1' k2' k3' k4' k5'
  go_wp2_with fail
  refine (putAll_any _ (flCf c) w2 HV.out (by have := HLn.out; omega)).mono ?_
  rintro e w3 ⟨u, rfl, hown3, hb3⟩
  have HO3 := hid hown3
  have hB3 := hB2.trans (hb3.mono hB2.size)
  clear hown3 hb3 e0
  go_wp2
  go_ret2
  exact ⟨_, by rw [HE.out.1]; rfl, by rw [HE.out.2]; exact owns_lower HO3.out hB2.size, hB3⟩
end Go.Proofs.Ytfdoejdnhogepaa
