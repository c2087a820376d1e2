/-
  What one instruction comes to, as a plain function: a core, an outcome, a step.
-/
import Derived.Test.YtedldckijblnhaaDoorIMay
import Derived.Test.YtedldckijblnhaaDoorMLoad
import Derived.Test.YtedldckijblnhaaDoorWDiv
import Derived.Test.YtedldckijblnhaaDoorRReal2
namespace Go.Proofs.YtedldckijblnhaaDoor
open Go.RowKit
set_option linter.unusedVariables false

/-- A number of a machine. -/
def fit64 (x : Int) : Prop := -9223372036854775808 ≤ x ∧ x ≤ 9223372036854775807

/-- A core: where it is, and its registers. -/
structure Co where
  p : Int
  r0 : Int
  r1 : Int
  r2 : Int
  r3 : Int
def Co.zero : Co := ⟨0, 0, 0, 0, 0⟩
def Co.val (c : Co) : Value := .agg #[.int .i64 c.p, .int .i64 c.r0, .int .i64 c.r1, .int .i64 c.r2, .int .i64 c.r3]
def Co.fit (c : Co) : Prop := fit64 c.p ∧ fit64 c.r0 ∧ fit64 c.r1 ∧ fit64 c.r2 ∧ fit64 c.r3
def Co.reg (c : Co) : Nat → Int
  | 0 => c.r0
  | 1 => c.r1
  | 2 => c.r2
  | _ => c.r3
def Co.set (c : Co) (k : Nat) (v : Int) : Co := match k with
  | 0 => ⟨c.p, v, c.r1, c.r2, c.r3⟩
  | 1 => ⟨c.p, c.r0, v, c.r2, c.r3⟩
  | 2 => ⟨c.p, c.r0, c.r1, v, c.r3⟩
  | _ => ⟨c.p, c.r0, c.r1, c.r2, v⟩
def Co.at (c : Co) (p : Int) : Co := ⟨p, c.r0, c.r1, c.r2, c.r3⟩

/-- An outcome: a fault, a call, whether it stops, whether something was read, what. -/
structure Ou where
  f : Int
  c : Int
  h : Bool
  r : Bool
  v : Int
def Ou.val (o : Ou) : Value := .agg #[.int .i64 o.f, .int .i64 o.c, .bool o.h, .bool o.r, .int .i64 o.v]
def faultO (f : Int) : Ou := ⟨f, -1, false, false, 0⟩
def quietO : Ou := ⟨0, -1, false, false, 0⟩
def readO (v : Int) : Ou := ⟨0, -1, false, true, v⟩

def bitZ (b : Bool) : Int := if b then 1 else 0

/-- What a register becomes by an operation that touches nothing else. -/
def opV (o : Nat) (x y : Int) : Int :=
  match o with
  | 2 => y
  | 3 => wrap64 (x + y)
  | 4 => wrap64 (x - y)
  | 5 => wrap64 (x * y)
  | 6 => dq x y
  | 7 => bitZ (decide (x < y))
  | 12 => halfX x
  | 13 => twiceX x
  | 14 => flipX x
  | 15 => bitZ (belowX x y)
  | 16 => ofX x
  | 17 => wholeX x
  | _ => x

/-- One instruction that may be. -/
def stepI (i : In) (c : Co) (m : List Int) (l : List Rg) (now : Int) : Co × List Int × Ou :=
  match i.o.toNat with
  | 0 => (c, m, ⟨0, -1, true, false, 0⟩)
  | 1 => ((c.set i.a.toNat i.b).at (c.p + 1), m, quietO)
  | 8 => if touchE m.length l (c.reg i.b.toNat) false = 0 then ((c.set i.a.toNat (loadV m l (c.reg i.b.toNat))).at (c.p + 1), m, readO (loadV m l (c.reg i.b.toNat))) else (c, m, faultO 5)
  | 9 => if touchE m.length l (c.reg i.b.toNat) true = 0 then (c.at (c.p + 1), storeL m l (c.reg i.b.toNat) (c.reg i.a.toNat), quietO) else (c, m, faultO 5)
  | 10 => (c.at i.b, m, quietO)
  | 11 => (c.at (if c.reg i.a.toNat = 0 then i.b else c.p + 1), m, quietO)
  | 18 => ((c.set i.a.toNat now).at (c.p + 1), m, readO now)
  | 19 => (c.at (c.p + 1), m, ⟨0, i.b, false, false, 0⟩)
  | 6 => if c.reg i.b.toNat = 0 then (c, m, faultO 3) else ((c.set i.a.toNat (dq (c.reg i.a.toNat) (c.reg i.b.toNat))).at (c.p + 1), m, quietO)
  | k => ((c.set i.a.toNat (opV k (c.reg i.a.toNat) (c.reg i.b.toNat))).at (c.p + 1), m, quietO)

/-- One step of a program. -/
def stepS (code : List In) (c : Co) (m : List Int) (l : List Rg) (now : Int) : Co × List Int × Ou :=
  if 0 ≤ c.p ∧ c.p < code.length ∧ mayI (code.getD c.p.toNat In.zero) = true then stepI (code.getD c.p.toNat In.zero) c m l now else (c, m, faultO 4)

theorem Co.set_reg (c : Co) (k j : Nat) (v : Int) (hk : k < 4) (hj : j < 4) : (c.set k v).reg j = if j = k then v else c.reg j := by
  match k, j, hk, hj with
  | 0, 0, _, _ => rfl
  | 0, 1, _, _ => rfl
  | 0, 2, _, _ => rfl
  | 0, 3, _, _ => rfl
  | 1, 0, _, _ => rfl
  | 1, 1, _, _ => rfl
  | 1, 2, _, _ => rfl
  | 1, 3, _, _ => rfl
  | 2, 0, _, _ => rfl
  | 2, 1, _, _ => rfl
  | 2, 2, _, _ => rfl
  | 2, 3, _, _ => rfl
  | 3, 0, _, _ => rfl
  | 3, 1, _, _ => rfl
  | 3, 2, _, _ => rfl
  | 3, 3, _, _ => rfl
theorem Co.set_p (c : Co) (k : Nat) (v : Int) : (c.set k v).p = c.p := by unfold Co.set; split <;> rfl
theorem Co.at_reg (c : Co) (p : Int) (j : Nat) : (c.at p).reg j = c.reg j := by unfold Co.at Co.reg; split <;> rfl
theorem Co.reg_fit {c : Co} (h : c.fit) (k : Nat) : fit64 (c.reg k) := by
  obtain ⟨_, h0, h1, h2, h3⟩ := h
  unfold Co.reg
  split <;> assumption
theorem Co.set_fit {c : Co} (h : c.fit) (k : Nat) {v : Int} (hv : fit64 v) : (c.set k v).fit := by
  obtain ⟨h4, h0, h1, h2, h3⟩ := h
  unfold Co.set
  split <;> (refine ⟨?_, ?_, ?_, ?_, ?_⟩ <;> assumption)
theorem Co.at_fit {c : Co} (h : c.fit) {p : Int} (hp : fit64 p) : (c.at p).fit := by
  obtain ⟨h4, h0, h1, h2, h3⟩ := h
  exact ⟨hp, h0, h1, h2, h3⟩

theorem wrap64_fit (x : Int) : fit64 (wrap64 x) := by unfold fit64 wrap64; omega
theorem dq_fit (x y : Int) : fit64 (dq x y) := by
  unfold dq; split
  · unfold fit64; omega
  · exact wrap64_fit _
theorem bitZ_fit (b : Bool) : fit64 (bitZ b) := by unfold fit64 bitZ; split <;> omega
theorem opV_fit (o : Nat) {x y : Int} (hx : fit64 x) (hy : fit64 y) : fit64 (opV o x y) := by
  unfold opV
  split
  · exact hy
  · exact wrap64_fit _
  · exact wrap64_fit _
  · exact wrap64_fit _
  · exact dq_fit _ _
  · exact bitZ_fit _
  · exact half_bd hx.1 hx.2
  · exact twice_bd hx.1 hx.2
  · exact flip_bd hx.1 hx.2
  · exact bitZ_fit _
  · exact of_bd _
  · have := whole_bd x; unfold fit64; omega
  · exact hx

theorem Co.infoC : (Tryd.prog.info? 25).map (fun i => (i.zero, i.size, i.bytes)) = some (some Co.zero.val, 5, 40) := by kernel_rfl
theorem Ou.infoO : (Tryd.prog.info? 31).map (fun i => (i.zero, i.size, i.bytes)) = some (some (Ou.val ⟨0, 0, false, false, 0⟩), 5, 32) := by kernel_rfl
theorem infoM : (Tryd.prog.info? 57).map (fun i => (i.size)) = some 14 := by kernel_rfl
end Go.Proofs.YtedldckijblnhaaDoor
