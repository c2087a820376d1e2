/-
  What waiters.Add returns, whatever list it is given: a list of the call's own.
-/
import Derived.Test.YtgnjnhfimagbpaaVPlace
import Derived.Test.YtgnjnhfimagbpaaVConcat
import Derived.Deep.RegionHeld3
namespace Go.Proofs.Ytgnjnhfimagbpaa
open Go.RowKit
set_option linter.unusedVariables false

def putP (l : List Wt) (x : Wt) (q : Bool) : Nat := if q then placeP l x else l.length
def addP (l : List Wt) (x : Wt) (q : Bool) : List Wt := l.take (putP l x q) ++ [x] ++ l.drop (putP l x q)
theorem putP_le (l : List Wt) (x : Wt) (q : Bool) : putP l x q ≤ l.length := by unfold putP; split; exact placeP_le l x; exact Nat.le_refl _
theorem addP_len (l : List Wt) (x : Wt) (q : Bool) : (addP l x q).length = l.length + 1 := by
  have := putP_le l x q
  unfold addP; simp; omega

theorem Try.infoLW : (Try.prog.info? 22).map (fun i => (i.zero, i.size, i.bytes)) = some (some (.slice none 0 0), 1, 24) := by kernel_rfl
theorem run_lit1 (x : Wt) (w : World) : (Instr.buildSlice 22 1 #[(0, x.val)]).run Try.prog w = .ok (.slice (some ⟨w.heap.size, 0, none⟩) 1 1) (w.alloc (.cells x.cells.toArray 26)) := by
  obtain ⟨i0, hi, hz0, hz1, hz2⟩ := info_parts Try.infoOWt
  have hs : (sizeOf 26).run Try.prog w = .ok 3 w := by unfold sizeOf; simp [typeInfo, hi, hz1]
  have hz : (zeroValue 26).run Try.prog w = .ok (.agg Wt.zero.cells.toArray) w := by unfold zeroValue; simp [typeInfo, hi, hz0]
  have hf : Instr.fill (fun i => some (i * 3, 3)) ((Array.range (1 * 3)).map (fun j => (Value.agg Wt.zero.cells.toArray).cells[j % (Value.agg Wt.zero.cells.toArray).cells.size]!)) [(0, x.val)] = some x.cells.toArray := by kernel_rfl
  unfold Instr.buildSlice
  simp only [Sem.run_bind, run_underlying Try.underlying22, Result.andThen_ok, hs]
  rw [if_neg (by decide), if_neg (by decide)]
  simp only [Sem.run_bind, hz, Sem.run_pure, Result.andThen_ok, hf, newRow, run_newObj_alloc]
theorem run_lit3 (aa ab ac : Option Addr) (na nb nc ca cb cc : Nat) (w : World) : (Instr.buildSlice 66 3 #[(0, .slice aa na ca), (1, .slice ab nb cb), (2, .slice ac nc cc)]).run Try.prog w = .ok (.slice (some ⟨w.heap.size, 0, none⟩) 3 3) (w.alloc (.cells #[.slice aa na ca, .slice ab nb cb, .slice ac nc cc] 22)) := by
  obtain ⟨i0, hi, hz0, hz1, hz2⟩ := info_parts Try.infoLW
  have hs : (sizeOf 22).run Try.prog w = .ok 1 w := by unfold sizeOf; simp [typeInfo, hi, hz1]
  have hz : (zeroValue 22).run Try.prog w = .ok (.slice none 0 0) w := by unfold zeroValue; simp [typeInfo, hi, hz0]
  have hf : Instr.fill (fun i => some (i * 1, 1)) ((Array.range (3 * 1)).map (fun j => (Value.slice none 0 0).cells[j % (Value.slice none 0 0).cells.size]!)) [(0, .slice aa na ca), (1, .slice ab nb cb), (2, .slice ac nc cc)] = some #[.slice aa na ca, .slice ab nb cb, .slice ac nc cc] := by kernel_rfl
  unfold Instr.buildSlice
  simp only [Sem.run_bind, run_underlying Try.underlying66, Result.andThen_ok, hs]
  rw [if_neg (by decide), if_neg (by decide)]
  simp only [Sem.run_bind, hz, Sem.run_pure, Result.andThen_ok, hf, newRow, run_newObj_alloc]

theorem step_lit1 {w : World} {ops : Array Oper} {o : Oper} {a : Act} {K : Act → World → Prop} {Q : Exit → Act → World → Prop} {E : Prop} (hgd : o.guard = none) (x : Operand) (ho : o.op = .buildSlice 22 1 #[(0, x)]) (r : Wt) (hx : a.eval x = r.val)
    (h : ∀ w', BoxAt w' w.heap.size 26 r.cells.toArray → Below w.heap.size w w' → K (a.put o.dst (.slice (some ⟨w.heap.size, 0, none⟩) 1 1)) w') :
    if Region.wanted o (yielded ops a.tmps) = true then Oper.wp Try.prog o a w K Q else E := by
  have hw : Region.wanted o (yielded ops a.tmps) = true := by simp [Region.wanted, hgd]
  rw [if_pos hw]
  unfold Oper.wp execOp
  simp only [ho, List.map_toArray, List.map_cons, List.map_nil, hx, Sem.run_bind, run_lit1, Result.andThen_ok, Sem.run_pure]
  exact h _ (BoxAt.new w _ _) ((Below.refl _ w).alloc (Nat.le_refl _) _)
theorem step_lit3 {w : World} {ops : Array Oper} {o : Oper} {a : Act} {K : Act → World → Prop} {Q : Exit → Act → World → Prop} {E : Prop} (hgd : o.guard = none) (x y z : Operand) (ho : o.op = .buildSlice 66 3 #[(0, x), (1, y), (2, z)]) (aa ab ac : Option Addr) (na nb nc ca cb cc : Nat)
    (hx : a.eval x = .slice aa na ca) (hy : a.eval y = .slice ab nb cb) (hz : a.eval z = .slice ac nc cc)
    (h : ∀ w', BoxAt w' w.heap.size 22 #[.slice aa na ca, .slice ab nb cb, .slice ac nc cc] → Below w.heap.size w w' → K (a.put o.dst (.slice (some ⟨w.heap.size, 0, none⟩) 3 3)) w') :
    if Region.wanted o (yielded ops a.tmps) = true then Oper.wp Try.prog o a w K Q else E := by
  have hw : Region.wanted o (yielded ops a.tmps) = true := by simp [Region.wanted, hgd]
  rw [if_pos hw]
  unfold Oper.wp execOp
  simp only [ho, List.map_toArray, List.map_cons, List.map_nil, hx, hy, hz, Sem.run_bind, run_lit3, Result.andThen_ok, Sem.run_pure]
  exact h _ (BoxAt.new w _ _) ((Below.refl _ w).alloc (Nat.le_refl _) _)

theorem Addr.add_addV (x : Addr) (a b : Nat) : (x.add a).add b = x.add (a + b) := by
  obtain ⟨k, off, spot⟩ := x
  by_cases h1 : a = 0 <;> by_cases h2 : b = 0 <;> simp [Addr.add, h1, h2, Nat.add_assoc]
theorem SeesWt.takenA {w : World} {x : Addr} {cap : Nat} {l : List Wt} (h : SeesWt w (.slice (some x) l.length cap) l) (k : Nat) (hk : k ≤ l.length) : SeesWt w (.slice (some x) k cap) (l.take k) := by
  rcases h with ⟨h, _⟩ | ⟨y, c, hv, h1, h2, hc⟩
  · simp at h
  simp only [Value.slice.injEq, Option.some.injEq, List.length_map, true_and] at hv
  obtain ⟨rfl, rfl⟩ := hv
  simp only [List.length_map] at h1 hc
  have hl : (l.take k).length = k := by simp; omega
  refine .inr ⟨x, cap, by simp [hk], by simp; omega, h2, fun i hi j hj => ?_⟩
  have hik : i < k := by rw [List.length_map, hl] at hi; exact hi
  rw [hc i (by omega) j hj]
  simp [List.getD, List.getElem?_take_of_lt hik, List.getElem?_eq_getElem (show i < l.length by omega)]
theorem SeesWt.droppedA {w : World} {x : Addr} {cap : Nat} {l : List Wt} (h : SeesWt w (.slice (some x) l.length cap) l) (k : Nat) (hk : k ≤ l.length) : SeesWt w (.slice (some (x.add (k * 3))) (l.length - k) (cap - k)) (l.drop k) := by
  rcases h with ⟨h, _⟩ | ⟨y, c, hv, h1, h2, hc⟩
  · simp at h
  simp only [Value.slice.injEq, Option.some.injEq, List.length_map, true_and] at hv
  obtain ⟨rfl, rfl⟩ := hv
  simp only [List.length_map] at h1 hc
  refine .inr ⟨x.add (k * 3), cap - k, by simp, by simp; omega, by omega, fun i hi j hj => ?_⟩
  have hik : k + i < l.length := by simp at hi; omega
  rw [Addr.add_addV, show k * 3 + (i * 3 + j) = (k + i) * 3 + j by omega, hc (k + i) (by omega) j hj]
  simp [List.getD, List.getElem?_drop, List.getElem?_eq_getElem hik]
theorem SeesWt.emptyA {w : World} {x : Addr} {l : List Wt} (k : Nat) (hk : l.length ≤ k) : SeesWt w (.slice (some x) (l.length - k) 0) (l.drop k) := by
  have h0 : l.drop k = [] := List.drop_eq_nil_of_le hk
  rw [h0]
  refine .inr ⟨x, 0, by simp; omega, by simp, by unfold maxLen; omega, fun i hi => by simp at hi⟩
theorem SeesWt.emptyB {w : World} {x : Addr} {l : List Wt} (k : Nat) (hk : l.length ≤ k) : SeesWt w (.slice (some x) 0 0) (l.drop k) := by
  have h := SeesWt.emptyA (w := w) (x := x) k hk
  rwa [show l.length - k = 0 by omega] at h
theorem Three.lists {w : World} {g : Nat} {va vb vc : Value} {a b c : List Wt} (hg : BoxAt w g 22 #[va, vb, vc]) (ha : SeesWt w va a) (hb : SeesWt w vb b) (hc : SeesWt w vc c) : Three w g a b c := Three.of hg ha hb hc

set_option maxRecDepth 100000 in
set_option maxHeartbeats 1600000 in
theorem add_nil (x : Wt) (q : Bool) (w : World) :
    Calls Try.prog 23 #[.slice none 0 0, x.val, .bool q] w fun e w' => ∃ u, e = .returned u ∧ OWt w' w.heap.size u (addP [] x q) ∧ Below w.heap.size w w' := by
  have hv := SeesWt.nil w
  have HE := hid (show addP [] x q = [] ++ [x] ++ [] by cases q <;> rfl)
  have hm1 : ∀ w, (method 185 64 (.agg #[]) "quarterdeck/waiters.place").run Try.prog w = .ok (46, .agg #[]) w := fun _ => by kernel_rfl
  have hm2 : ∀ w, (method 185 65 (.agg #[]) "quarterdeck/waiters.place").run Try.prog w = .ok (47, .agg #[]) w := fun _ => by kernel_rfl
  have HRA := hid (fun W (hW : Below w.heap.size w W) => rank_any x (hv.below hW) (by simp))
  have HCO := hid (fun W (hW : Below w.heap.size w W) => coming_any x (hv.below hW))
  have HV := hid hv
  have hq := putP_le ([] : List Wt) x q
  have HQ := hid (show putP ([] : List Wt) x q = (if q then placeP ([] : List Wt) x else ([] : List Wt).length) from rfl)
  have hk : putP [] x q = 0 := by cases q <;> rfl
  rw [hk] at HQ
  rw [HE.out]
  clear hk hv HE
  have b0 := BoxAt.new w 26 x.cells.toArray
  have hb0 : Below w.heap.size w (w.alloc (.cells x.cells.toArray 26)) := (Below.refl _ _).alloc (Nat.le_refl _) _
  have BX := hid b0
  have HB0 := hid hb0
  have hmk : ∀ w', BoxAt w' w.heap.size 26 x.cells.toArray → w'.cell? ⟨w.heap.size, 0, none⟩ = some (.int .i64 x.p) ∧ w'.cell? ⟨w.heap.size, 1, none⟩ = some (.int .i64 x.r) ∧ w'.cell? ⟨w.heap.size, 2, none⟩ = some (.int .i64 x.v) := fun w' h => ⟨h.cell 0, h.cell 1, h.cell 2⟩
  have MK := hid hmk
  clear hmk b0 hb0
  obtain ⟨p, pr, vl⟩ := x
  simp only [Wt.val, Wt.cells] at *
  go_enter Try.func23, Try.ntmps23
  go_wp2_with fail
  have HB1 := hid (show Below w.heap.size w (w.alloc (.cells #[.int .i64 p, .int .i64 pr, .int .i64 vl] 26)).drew from HB0.out.drew)
  rcases q with _ | _
  case' false =>
    simp only [Bool.false_eq_true, if_false] at HQ
    have HP : Hid (∀ W, Below w.heap.size w W → Calls Try.prog 47 #[.agg #[], .slice none 0 0, .agg #[.int .i64 p, .int .i64 pr, .int .i64 vl]] W fun e w' => e = .returned (.int .i64 0) ∧ Below W.heap.size W w') := hid (by exact HCO.out)
    clear HCO HRA hm1 HQ
    refine wp_region_held_drew (S := (fun w' => w'.cell? ⟨w.heap.size, 0, none⟩ = some (.int .i64 p) ∧ w'.cell? ⟨w.heap.size, 1, none⟩ = some (.int .i64 pr) ∧ w'.cell? ⟨w.heap.size, 2, none⟩ = some (.int .i64 vl))) (by kernel_rfl) (MK.out _ BX.out.drew) (fun hHeld => ?_)
    refine wpAnyH_take (i := 0) (oi := { dst := some 8, op := Op.move (Operand.tmp 2), type := 4, pos := "waiters.go:22", after := #[], guard := none }) (v := ?v11001) rfl (by kernel_rfl) (by kernel_rfl) (by kernel_rfl) (fun _ _ _ h => h) (Or.inl ⟨by rfl, ?hy11001⟩) (by assumption) ?rest11001
    case hy11001 => (intro w hSw; (try dsimp only at hSw); go_simp; try with_reducible rfl)
    simp only [Act.put, List.setIfInBounds_toArray, List.set_cons_zero, List.set_cons_succ]
    refine wpAnyH_take (i := 2) (oi := { dst := some 10, op := Op.move (Operand.tmp 0), type := 22, pos := "waiters.go:22", after := #[], guard := none }) (v := ?v11002) rfl (by kernel_rfl) (by kernel_rfl) (by kernel_rfl) (fun _ _ _ h => h) (Or.inl ⟨by rfl, ?hy11002⟩) (by assumption) ?rest11002
    case hy11002 => (intro w hSw; (try dsimp only at hSw); go_simp; try with_reducible rfl)
    simp only [Act.put, List.setIfInBounds_toArray, List.set_cons_zero, List.set_cons_succ]
    refine wpAnyH_take (i := 3) (oi := { dst := some 11, op := Op.load 26 (Operand.tmp 4), type := 26, pos := "waiters.go:22", after := #[], guard := none }) (v := ?v11003) rfl (by kernel_rfl) (by kernel_rfl) (by kernel_rfl) (fun _ _ _ h => h) (Or.inl ⟨by rfl, ?hy11003⟩) (by assumption) ?rest11003
    case hy11003 => (intro w hSw; (try dsimp only at hSw); go_simp; try with_reducible rfl)
    simp only [Act.put, List.setIfInBounds_toArray, List.set_cons_zero, List.set_cons_succ]
    refine wpAnyH_ready (rs := [1]) (by kernel_rfl) (by simp) (AllReadyH.cons (o := { dst := some 9, op := Op.call { callee := Callee.value (Operand.func 28), args := #[Operand.tmp 8], argTypes := #[4] }, type := 59, pos := "waiters.go:22", after := #[{ on := 0, ground := Ground.data }], guard := none }) rfl (fun K11004 hK11004 => ?_) AllReadyH.nil)
    go_simp
    refine (order_any false _).mono ?_
    rintro _ _ ⟨rfl, rfl⟩
    refine hK11004.out _ _ (hHeld) (fun hHeld11004 => ?_)
    clear hK11004 K11004
    try simp only [Act.put, List.setIfInBounds_toArray, List.set_cons_zero, List.set_cons_succ]
    refine wpAnyH_ready (rs := [4]) (by kernel_rfl) (by simp) (AllReadyH.cons (o := { dst := some 12, op := Op.call { callee := Callee.invoke (Operand.tmp 9) "quarterdeck/waiters.place", args := #[Operand.tmp 10, Operand.tmp 11], argTypes := #[22, 26] }, type := 3, pos := "waiters.go:22", after := #[{ on := 1, ground := Ground.data }, { on := 2, ground := Ground.data }, { on := 3, ground := Ground.data }, { on := 1, ground := Ground.chain }], guard := none }) rfl (fun K11005 hK11005 => ?_) AllReadyH.nil)
    go_simp
    refine (HP.out _ HB1.out).mono ?_
    rintro e w1 ⟨rfl, hb1⟩
    have BX1 := hid (BX.out.drew.belowAll hb1)
    have HB2 := hid (HB1.out.trans (hb1.mono HB1.out.size))
    clear hb1
    refine hK11005.out _ _ (MK.out _ BX1.out) (fun hHeld11005 => ?_)
    clear hK11005 K11005
    try simp only [Act.put, List.setIfInBounds_toArray, List.set_cons_zero, List.set_cons_succ]
    refine wpAnyH_take (i := 5) (oi := { dst := some 7, op := Op.assign (Operand.tmp 12), type := 3, pos := "waiters.go:22", after := #[{ on := 4, ground := Ground.data }, { on := 4, ground := Ground.chain }, { on := 0, ground := Ground.phase }, { on := 1, ground := Ground.phase }, { on := 2, ground := Ground.phase }, { on := 3, ground := Ground.phase }, { on := 4, ground := Ground.phase }], guard := none }) (v := ?v11006) rfl (by kernel_rfl) (by kernel_rfl) (by kernel_rfl) (fun _ _ _ h => h) (Or.inl ⟨by rfl, ?hy11006⟩) (by assumption) ?rest11006
    case hy11006 => (intro w hSw; (try dsimp only at hSw); go_simp; try with_reducible rfl)
    simp only [Act.put, List.setIfInBounds_toArray, List.set_cons_zero, List.set_cons_succ]
    refine wpAnyH_done (by kernel_rfl) ?_ _
    clear hHeld hHeld11004 hHeld11005
    go_wp2_with fail
    refine wp_region_held_drew (S := (fun w' => w'.cell? ⟨w.heap.size, 0, none⟩ = some (.int .i64 p) ∧ w'.cell? ⟨w.heap.size, 1, none⟩ = some (.int .i64 pr) ∧ w'.cell? ⟨w.heap.size, 2, none⟩ = some (.int .i64 vl))) (by kernel_rfl) (MK.out _ BX1.out.drew) (fun hHeld => ?_)
    refine wpAnyH_take (i := 0) (oi := { dst := some 13, op := Op.move (Operand.tmp 0), type := 22, pos := "waiters.go:24", after := #[], guard := none }) (v := ?v12001) rfl (by kernel_rfl) (by kernel_rfl) (by kernel_rfl) (fun _ _ _ h => h) (Or.inl ⟨by rfl, ?hy12001⟩) (by assumption) ?rest12001
    case hy12001 => (intro w hSw; (try dsimp only at hSw); go_simp; try with_reducible rfl)
    simp only [Act.put, List.setIfInBounds_toArray, List.set_cons_zero, List.set_cons_succ]
    refine wpAnyH_take (i := 1) (oi := { dst := some 14, op := Op.move (Operand.tmp 7), type := 3, pos := "waiters.go:24", after := #[], guard := none }) (v := ?v12002) rfl (by kernel_rfl) (by kernel_rfl) (by kernel_rfl) (fun _ _ _ h => h) (Or.inl ⟨by rfl, ?hy12002⟩) (by assumption) ?rest12002
    case hy12002 => (intro w hSw; (try dsimp only at hSw); go_simp; try with_reducible rfl)
    simp only [Act.put, List.setIfInBounds_toArray, List.set_cons_zero, List.set_cons_succ]
    refine wpAnyH_take (i := 2) (oi := { dst := some 15, op := Op.slice 22 (Operand.tmp 13) none (some (Operand.tmp 14)) none, type := 22, pos := "waiters.go:24", after := #[{ on := 0, ground := Ground.data }, { on := 1, ground := Ground.data }], guard := none }) (v := ?v12003) rfl (by kernel_rfl) (by kernel_rfl) (by kernel_rfl) (fun _ _ _ h => h) (Or.inl ⟨by rfl, ?hy12003⟩) (by assumption) ?rest12003
    case hy12003 => (intro w hSw; (try dsimp only at hSw); go_simp; try with_reducible rfl)
    simp only [Act.put, List.setIfInBounds_toArray, List.set_cons_zero, List.set_cons_succ]
    refine wpAnyH_take (i := 3) (oi := { dst := some 16, op := Op.load 26 (Operand.tmp 4), type := 26, pos := "waiters.go:24", after := #[], guard := none }) (v := ?v12004) rfl (by kernel_rfl) (by kernel_rfl) (by kernel_rfl) (fun _ _ _ h => h) (Or.inl ⟨by rfl, ?hy12004⟩) (by assumption) ?rest12004
    case hy12004 => (intro w hSw; (try dsimp only at hSw); go_simp; try with_reducible rfl)
    simp only [Act.put, List.setIfInBounds_toArray, List.set_cons_zero, List.set_cons_succ]
    refine wpAnyH_take (i := 5) (oi := { dst := some 18, op := Op.move (Operand.tmp 0), type := 22, pos := "waiters.go:24", after := #[], guard := none }) (v := ?v12005) rfl (by kernel_rfl) (by kernel_rfl) (by kernel_rfl) (fun _ _ _ h => h) (Or.inl ⟨by rfl, ?hy12005⟩) (by assumption) ?rest12005
    case hy12005 => (intro w hSw; (try dsimp only at hSw); go_simp; try with_reducible rfl)
    simp only [Act.put, List.setIfInBounds_toArray, List.set_cons_zero, List.set_cons_succ]
    refine wpAnyH_take (i := 6) (oi := { dst := some 19, op := Op.move (Operand.tmp 7), type := 3, pos := "waiters.go:24", after := #[], guard := none }) (v := ?v12006) rfl (by kernel_rfl) (by kernel_rfl) (by kernel_rfl) (fun _ _ _ h => h) (Or.inl ⟨by rfl, ?hy12006⟩) (by assumption) ?rest12006
    case hy12006 => (intro w hSw; (try dsimp only at hSw); go_simp; try with_reducible rfl)
    simp only [Act.put, List.setIfInBounds_toArray, List.set_cons_zero, List.set_cons_succ]
    refine wpAnyH_take (i := 7) (oi := { dst := some 20, op := Op.slice 22 (Operand.tmp 18) (some (Operand.tmp 19)) none none, type := 22, pos := "waiters.go:24", after := #[{ on := 5, ground := Ground.data }, { on := 6, ground := Ground.data }], guard := none }) (v := ?v12007) rfl (by kernel_rfl) (by kernel_rfl) (by kernel_rfl) (fun _ _ _ h => h) (Or.inl ⟨by rfl, ?hy12007⟩) (by assumption) ?rest12007
    case hy12007 => (intro w hSw; (try dsimp only at hSw); go_simp; try with_reducible rfl)
    simp only [Act.put, List.setIfInBounds_toArray, List.set_cons_zero, List.set_cons_succ]
    refine wpAnyH_ready (rs := [4]) (by kernel_rfl) (by simp) (AllReadyH.cons (o := { dst := some 17, op := Op.buildSlice 22 1 #[(0, Operand.tmp 16)], type := 22, pos := "waiters.go:24", after := #[{ on := 3, ground := Ground.data }], guard := none }) rfl (fun K12008 hK12008 => ?_) AllReadyH.nil)
    refine step_lit1 rfl (.tmp 16) rfl ⟨p, pr, vl⟩ rfl ?_
    intro w2 hbx2 hb2
    have BX2 := hid (BX1.out.drew.belowAll hb2)
    have HB4 := hid (HB2.out.drew.trans (hb2.mono HB2.out.size))
    have SX2 := hid (SeesWt.box hbx2)
    clear hb2 hbx2
    refine hK12008.out _ _ (MK.out _ BX2.out) (fun hHeld12008 => ?_)
    clear hK12008 K12008
    try simp only [Act.put, List.setIfInBounds_toArray, List.set_cons_zero, List.set_cons_succ]
    refine wpAnyH_ready (rs := [8]) (by kernel_rfl) (by simp) (AllReadyH.cons (o := { dst := some 21, op := Op.buildSlice 66 3 #[(0, Operand.tmp 15), (1, Operand.tmp 17), (2, Operand.tmp 20)], type := 66, pos := "waiters.go:24", after := #[{ on := 2, ground := Ground.data }, { on := 4, ground := Ground.data }, { on := 7, ground := Ground.data }], guard := none }) rfl (fun K12009 hK12009 => ?_) AllReadyH.nil)
    refine step_lit3 rfl (.tmp 15) (.tmp 17) (.tmp 20) rfl _ _ _ _ _ _ _ _ _ rfl rfl rfl ?_
    intro w3 hbx3 hb3
    have BX3 := hid (BX2.out.belowAll hb3)
    have HB5 := hid (HB4.out.trans (hb3.mono HB4.out.size))
    have HT := hid (Three.of hbx3 (SeesWt.nil _) (SX2.out.below hb3) (SeesWt.nil _))
    clear hb3 hbx3 SX2
    refine hK12009.out _ _ (MK.out _ BX3.out) (fun hHeld12009 => ?_)
    clear hK12009 K12009
    try simp only [Act.put, List.setIfInBounds_toArray, List.set_cons_zero, List.set_cons_succ]
    refine wpAnyH_ready (rs := [9]) (by kernel_rfl) (by simp) (AllReadyH.cons (o := { dst := some 22, op := Op.call { callee := Callee.value (Operand.func 29), args := #[Operand.tmp 21], argTypes := #[66] }, type := 22, pos := "waiters.go:24", after := #[{ on := 8, ground := Ground.data }], guard := none }) rfl (fun K12010 hK12010 => ?_) AllReadyH.nil)
    go_simp
    refine (concat_any HT.out (by simp)).mono ?_
    rintro e w4 ⟨u, rfl, hu, hb4⟩
    have BX4 := hid (BX3.out.belowAll hb4)
    have HB6 := hid (HB5.out.trans (hb4.mono HB5.out.size))
    have HO := hid (hu.mono HB5.out.size)
    clear hb4 hu
    refine hK12010.out _ _ (MK.out _ BX4.out) (fun hHeld12010 => ?_)
    clear hK12010 K12010
    try simp only [Act.put, List.setIfInBounds_toArray, List.set_cons_zero, List.set_cons_succ]
    refine wpAnyH_take (i := 10) (oi := { dst := some 6, op := Op.assign (Operand.tmp 22), type := 22, pos := "waiters.go:24", after := #[{ on := 9, ground := Ground.data }, { on := 9, ground := Ground.chain }, { on := 0, ground := Ground.phase }, { on := 1, ground := Ground.phase }, { on := 2, ground := Ground.phase }, { on := 3, ground := Ground.phase }, { on := 4, ground := Ground.phase }, { on := 5, ground := Ground.phase }, { on := 6, ground := Ground.phase }, { on := 7, ground := Ground.phase }, { on := 8, ground := Ground.phase }, { on := 9, ground := Ground.phase }], guard := none }) (v := ?v12011) rfl (by kernel_rfl) (by kernel_rfl) (by kernel_rfl) (fun _ _ _ h => h) (Or.inl ⟨by rfl, ?hy12011⟩) (by assumption) ?rest12011
    case hy12011 => (intro w hSw; (try dsimp only at hSw); go_simp; try with_reducible rfl)
    simp only [Act.put, List.setIfInBounds_toArray, List.set_cons_zero, List.set_cons_succ]
    refine wpAnyH_done (by kernel_rfl) ?_ _
    clear hHeld hHeld12008 hHeld12009 hHeld12010
    go_wp2_with fail
    go_ret
    exact ⟨_, rfl, HO.out, HB6.out⟩
  case' true =>
    simp only [if_true] at HQ
    have HP : Hid (∀ W, Below w.heap.size w W → Calls Try.prog 46 #[.agg #[], .slice none 0 0, .agg #[.int .i64 p, .int .i64 pr, .int .i64 vl]] W fun e w' => e = .returned (.int .i64 0) ∧ Below W.heap.size W w') := hid (by exact HRA.out)
    clear HCO HRA hm2 HQ
    refine wp_region_held_drew (S := (fun w' => w'.cell? ⟨w.heap.size, 0, none⟩ = some (.int .i64 p) ∧ w'.cell? ⟨w.heap.size, 1, none⟩ = some (.int .i64 pr) ∧ w'.cell? ⟨w.heap.size, 2, none⟩ = some (.int .i64 vl))) (by kernel_rfl) (MK.out _ BX.out.drew) (fun hHeld => ?_)
    refine wpAnyH_take (i := 0) (oi := { dst := some 8, op := Op.move (Operand.tmp 2), type := 4, pos := "waiters.go:22", after := #[], guard := none }) (v := ?v15001) rfl (by kernel_rfl) (by kernel_rfl) (by kernel_rfl) (fun _ _ _ h => h) (Or.inl ⟨by rfl, ?hy15001⟩) (by assumption) ?rest15001
    case hy15001 => (intro w hSw; (try dsimp only at hSw); go_simp; try with_reducible rfl)
    simp only [Act.put, List.setIfInBounds_toArray, List.set_cons_zero, List.set_cons_succ]
    refine wpAnyH_take (i := 2) (oi := { dst := some 10, op := Op.move (Operand.tmp 0), type := 22, pos := "waiters.go:22", after := #[], guard := none }) (v := ?v15002) rfl (by kernel_rfl) (by kernel_rfl) (by kernel_rfl) (fun _ _ _ h => h) (Or.inl ⟨by rfl, ?hy15002⟩) (by assumption) ?rest15002
    case hy15002 => (intro w hSw; (try dsimp only at hSw); go_simp; try with_reducible rfl)
    simp only [Act.put, List.setIfInBounds_toArray, List.set_cons_zero, List.set_cons_succ]
    refine wpAnyH_take (i := 3) (oi := { dst := some 11, op := Op.load 26 (Operand.tmp 4), type := 26, pos := "waiters.go:22", after := #[], guard := none }) (v := ?v15003) rfl (by kernel_rfl) (by kernel_rfl) (by kernel_rfl) (fun _ _ _ h => h) (Or.inl ⟨by rfl, ?hy15003⟩) (by assumption) ?rest15003
    case hy15003 => (intro w hSw; (try dsimp only at hSw); go_simp; try with_reducible rfl)
    simp only [Act.put, List.setIfInBounds_toArray, List.set_cons_zero, List.set_cons_succ]
    refine wpAnyH_ready (rs := [1]) (by kernel_rfl) (by simp) (AllReadyH.cons (o := { dst := some 9, op := Op.call { callee := Callee.value (Operand.func 28), args := #[Operand.tmp 8], argTypes := #[4] }, type := 59, pos := "waiters.go:22", after := #[{ on := 0, ground := Ground.data }], guard := none }) rfl (fun K15004 hK15004 => ?_) AllReadyH.nil)
    go_simp
    refine (order_any true _).mono ?_
    rintro _ _ ⟨rfl, rfl⟩
    refine hK15004.out _ _ (hHeld) (fun hHeld15004 => ?_)
    clear hK15004 K15004
    try simp only [Act.put, List.setIfInBounds_toArray, List.set_cons_zero, List.set_cons_succ]
    refine wpAnyH_ready (rs := [4]) (by kernel_rfl) (by simp) (AllReadyH.cons (o := { dst := some 12, op := Op.call { callee := Callee.invoke (Operand.tmp 9) "quarterdeck/waiters.place", args := #[Operand.tmp 10, Operand.tmp 11], argTypes := #[22, 26] }, type := 3, pos := "waiters.go:22", after := #[{ on := 1, ground := Ground.data }, { on := 2, ground := Ground.data }, { on := 3, ground := Ground.data }, { on := 1, ground := Ground.chain }], guard := none }) rfl (fun K15005 hK15005 => ?_) AllReadyH.nil)
    go_simp
    refine (HP.out _ HB1.out).mono ?_
    rintro e w1 ⟨rfl, hb1⟩
    have BX1 := hid (BX.out.drew.belowAll hb1)
    have HB2 := hid (HB1.out.trans (hb1.mono HB1.out.size))
    clear hb1
    refine hK15005.out _ _ (MK.out _ BX1.out) (fun hHeld15005 => ?_)
    clear hK15005 K15005
    try simp only [Act.put, List.setIfInBounds_toArray, List.set_cons_zero, List.set_cons_succ]
    refine wpAnyH_take (i := 5) (oi := { dst := some 7, op := Op.assign (Operand.tmp 12), type := 3, pos := "waiters.go:22", after := #[{ on := 4, ground := Ground.data }, { on := 4, ground := Ground.chain }, { on := 0, ground := Ground.phase }, { on := 1, ground := Ground.phase }, { on := 2, ground := Ground.phase }, { on := 3, ground := Ground.phase }, { on := 4, ground := Ground.phase }], guard := none }) (v := ?v15006) rfl (by kernel_rfl) (by kernel_rfl) (by kernel_rfl) (fun _ _ _ h => h) (Or.inl ⟨by rfl, ?hy15006⟩) (by assumption) ?rest15006
    case hy15006 => (intro w hSw; (try dsimp only at hSw); go_simp; try with_reducible rfl)
    simp only [Act.put, List.setIfInBounds_toArray, List.set_cons_zero, List.set_cons_succ]
    refine wpAnyH_done (by kernel_rfl) ?_ _
    clear hHeld hHeld15004 hHeld15005
    go_wp2_with fail
    refine wp_region_held_drew (S := (fun w' => w'.cell? ⟨w.heap.size, 0, none⟩ = some (.int .i64 p) ∧ w'.cell? ⟨w.heap.size, 1, none⟩ = some (.int .i64 pr) ∧ w'.cell? ⟨w.heap.size, 2, none⟩ = some (.int .i64 vl))) (by kernel_rfl) (MK.out _ BX1.out.drew) (fun hHeld => ?_)
    refine wpAnyH_take (i := 0) (oi := { dst := some 13, op := Op.move (Operand.tmp 0), type := 22, pos := "waiters.go:24", after := #[], guard := none }) (v := ?v16001) rfl (by kernel_rfl) (by kernel_rfl) (by kernel_rfl) (fun _ _ _ h => h) (Or.inl ⟨by rfl, ?hy16001⟩) (by assumption) ?rest16001
    case hy16001 => (intro w hSw; (try dsimp only at hSw); go_simp; try with_reducible rfl)
    simp only [Act.put, List.setIfInBounds_toArray, List.set_cons_zero, List.set_cons_succ]
    refine wpAnyH_take (i := 1) (oi := { dst := some 14, op := Op.move (Operand.tmp 7), type := 3, pos := "waiters.go:24", after := #[], guard := none }) (v := ?v16002) rfl (by kernel_rfl) (by kernel_rfl) (by kernel_rfl) (fun _ _ _ h => h) (Or.inl ⟨by rfl, ?hy16002⟩) (by assumption) ?rest16002
    case hy16002 => (intro w hSw; (try dsimp only at hSw); go_simp; try with_reducible rfl)
    simp only [Act.put, List.setIfInBounds_toArray, List.set_cons_zero, List.set_cons_succ]
    refine wpAnyH_take (i := 2) (oi := { dst := some 15, op := Op.slice 22 (Operand.tmp 13) none (some (Operand.tmp 14)) none, type := 22, pos := "waiters.go:24", after := #[{ on := 0, ground := Ground.data }, { on := 1, ground := Ground.data }], guard := none }) (v := ?v16003) rfl (by kernel_rfl) (by kernel_rfl) (by kernel_rfl) (fun _ _ _ h => h) (Or.inl ⟨by rfl, ?hy16003⟩) (by assumption) ?rest16003
    case hy16003 => (intro w hSw; (try dsimp only at hSw); go_simp; try with_reducible rfl)
    simp only [Act.put, List.setIfInBounds_toArray, List.set_cons_zero, List.set_cons_succ]
    refine wpAnyH_take (i := 3) (oi := { dst := some 16, op := Op.load 26 (Operand.tmp 4), type := 26, pos := "waiters.go:24", after := #[], guard := none }) (v := ?v16004) rfl (by kernel_rfl) (by kernel_rfl) (by kernel_rfl) (fun _ _ _ h => h) (Or.inl ⟨by rfl, ?hy16004⟩) (by assumption) ?rest16004
    case hy16004 => (intro w hSw; (try dsimp only at hSw); go_simp; try with_reducible rfl)
    simp only [Act.put, List.setIfInBounds_toArray, List.set_cons_zero, List.set_cons_succ]
    refine wpAnyH_take (i := 5) (oi := { dst := some 18, op := Op.move (Operand.tmp 0), type := 22, pos := "waiters.go:24", after := #[], guard := none }) (v := ?v16005) rfl (by kernel_rfl) (by kernel_rfl) (by kernel_rfl) (fun _ _ _ h => h) (Or.inl ⟨by rfl, ?hy16005⟩) (by assumption) ?rest16005
    case hy16005 => (intro w hSw; (try dsimp only at hSw); go_simp; try with_reducible rfl)
    simp only [Act.put, List.setIfInBounds_toArray, List.set_cons_zero, List.set_cons_succ]
    refine wpAnyH_take (i := 6) (oi := { dst := some 19, op := Op.move (Operand.tmp 7), type := 3, pos := "waiters.go:24", after := #[], guard := none }) (v := ?v16006) rfl (by kernel_rfl) (by kernel_rfl) (by kernel_rfl) (fun _ _ _ h => h) (Or.inl ⟨by rfl, ?hy16006⟩) (by assumption) ?rest16006
    case hy16006 => (intro w hSw; (try dsimp only at hSw); go_simp; try with_reducible rfl)
    simp only [Act.put, List.setIfInBounds_toArray, List.set_cons_zero, List.set_cons_succ]
    refine wpAnyH_take (i := 7) (oi := { dst := some 20, op := Op.slice 22 (Operand.tmp 18) (some (Operand.tmp 19)) none none, type := 22, pos := "waiters.go:24", after := #[{ on := 5, ground := Ground.data }, { on := 6, ground := Ground.data }], guard := none }) (v := ?v16007) rfl (by kernel_rfl) (by kernel_rfl) (by kernel_rfl) (fun _ _ _ h => h) (Or.inl ⟨by rfl, ?hy16007⟩) (by assumption) ?rest16007
    case hy16007 => (intro w hSw; (try dsimp only at hSw); go_simp; try with_reducible rfl)
    simp only [Act.put, List.setIfInBounds_toArray, List.set_cons_zero, List.set_cons_succ]
    refine wpAnyH_ready (rs := [4]) (by kernel_rfl) (by simp) (AllReadyH.cons (o := { dst := some 17, op := Op.buildSlice 22 1 #[(0, Operand.tmp 16)], type := 22, pos := "waiters.go:24", after := #[{ on := 3, ground := Ground.data }], guard := none }) rfl (fun K16008 hK16008 => ?_) AllReadyH.nil)
    refine step_lit1 rfl (.tmp 16) rfl ⟨p, pr, vl⟩ rfl ?_
    intro w2 hbx2 hb2
    have BX2 := hid (BX1.out.drew.belowAll hb2)
    have HB4 := hid (HB2.out.drew.trans (hb2.mono HB2.out.size))
    have SX2 := hid (SeesWt.box hbx2)
    clear hb2 hbx2
    refine hK16008.out _ _ (MK.out _ BX2.out) (fun hHeld16008 => ?_)
    clear hK16008 K16008
    try simp only [Act.put, List.setIfInBounds_toArray, List.set_cons_zero, List.set_cons_succ]
    refine wpAnyH_ready (rs := [8]) (by kernel_rfl) (by simp) (AllReadyH.cons (o := { dst := some 21, op := Op.buildSlice 66 3 #[(0, Operand.tmp 15), (1, Operand.tmp 17), (2, Operand.tmp 20)], type := 66, pos := "waiters.go:24", after := #[{ on := 2, ground := Ground.data }, { on := 4, ground := Ground.data }, { on := 7, ground := Ground.data }], guard := none }) rfl (fun K16009 hK16009 => ?_) AllReadyH.nil)
    refine step_lit3 rfl (.tmp 15) (.tmp 17) (.tmp 20) rfl _ _ _ _ _ _ _ _ _ rfl rfl rfl ?_
    intro w3 hbx3 hb3
    have BX3 := hid (BX2.out.belowAll hb3)
    have HB5 := hid (HB4.out.trans (hb3.mono HB4.out.size))
    have HT := hid (Three.of hbx3 (SeesWt.nil _) (SX2.out.below hb3) (SeesWt.nil _))
    clear hb3 hbx3 SX2
    refine hK16009.out _ _ (MK.out _ BX3.out) (fun hHeld16009 => ?_)
    clear hK16009 K16009
    try simp only [Act.put, List.setIfInBounds_toArray, List.set_cons_zero, List.set_cons_succ]
    refine wpAnyH_ready (rs := [9]) (by kernel_rfl) (by simp) (AllReadyH.cons (o := { dst := some 22, op := Op.call { callee := Callee.value (Operand.func 29), args := #[Operand.tmp 21], argTypes := #[66] }, type := 22, pos := "waiters.go:24", after := #[{ on := 8, ground := Ground.data }], guard := none }) rfl (fun K16010 hK16010 => ?_) AllReadyH.nil)
    go_simp
    refine (concat_any HT.out (by simp)).mono ?_
    rintro e w4 ⟨u, rfl, hu, hb4⟩
    have BX4 := hid (BX3.out.belowAll hb4)
    have HB6 := hid (HB5.out.trans (hb4.mono HB5.out.size))
    have HO := hid (hu.mono HB5.out.size)
    clear hb4 hu
    refine hK16010.out _ _ (MK.out _ BX4.out) (fun hHeld16010 => ?_)
    clear hK16010 K16010
    try simp only [Act.put, List.setIfInBounds_toArray, List.set_cons_zero, List.set_cons_succ]
    refine wpAnyH_take (i := 10) (oi := { dst := some 6, op := Op.assign (Operand.tmp 22), type := 22, pos := "waiters.go:24", after := #[{ on := 9, ground := Ground.data }, { on := 9, ground := Ground.chain }, { on := 0, ground := Ground.phase }, { on := 1, ground := Ground.phase }, { on := 2, ground := Ground.phase }, { on := 3, ground := Ground.phase }, { on := 4, ground := Ground.phase }, { on := 5, ground := Ground.phase }, { on := 6, ground := Ground.phase }, { on := 7, ground := Ground.phase }, { on := 8, ground := Ground.phase }, { on := 9, ground := Ground.phase }], guard := none }) (v := ?v16011) rfl (by kernel_rfl) (by kernel_rfl) (by kernel_rfl) (fun _ _ _ h => h) (Or.inl ⟨by rfl, ?hy16011⟩) (by assumption) ?rest16011
    case hy16011 => (intro w hSw; (try dsimp only at hSw); go_simp; try with_reducible rfl)
    simp only [Act.put, List.setIfInBounds_toArray, List.set_cons_zero, List.set_cons_succ]
    refine wpAnyH_done (by kernel_rfl) ?_ _
    clear hHeld hHeld16008 hHeld16009 hHeld16010
    go_wp2_with fail
    go_ret
    exact ⟨_, rfl, HO.out, HB6.out⟩

set_option maxRecDepth 100000 in
set_option maxHeartbeats 1600000 in
theorem add_some (x : Wt) (q : Bool) {xa : Addr} {cl : Nat} {l : List Wt} {w : World} (hv : SeesWt w (.slice (some xa) l.length cl) l) (hlen : l.length ≤ 800000) (hl1 : l.length ≤ cl) (hl2 : cl ≤ 9223372036854775807) :
    Calls Try.prog 23 #[.slice (some xa) l.length cl, x.val, .bool q] w fun e w' => ∃ u, e = .returned u ∧ OWt w' w.heap.size u (addP l x q) ∧ Below w.heap.size w w' := by
  have HE := hid (show addP l x q = l.take (putP l x q) ++ [x] ++ l.drop (putP l x q) from rfl)
  have hm1 : ∀ w, (method 185 64 (.agg #[]) "quarterdeck/waiters.place").run Try.prog w = .ok (46, .agg #[]) w := fun _ => by kernel_rfl
  have hm2 : ∀ w, (method 185 65 (.agg #[]) "quarterdeck/waiters.place").run Try.prog w = .ok (47, .agg #[]) w := fun _ => by kernel_rfl
  have HRA := hid (fun W (hW : Below w.heap.size w W) => rank_any x (hv.below hW) (by omega))
  have HCO := hid (fun W (hW : Below w.heap.size w W) => coming_any x (hv.below hW))
  have HV := hid hv
  have hq := putP_le l x q
  have HQ := hid (show putP l x q = (if q then placeP l x else l.length) from rfl)
  obtain ⟨k, hk⟩ : ∃ k, putP l x q = k := ⟨_, rfl⟩
  rw [hk] at hq HQ HE
  have hq2 : k ≤ cl := by omega
  rw [HE.out]
  clear hk hv HE
  have b0 := BoxAt.new w 26 x.cells.toArray
  have hb0 : Below w.heap.size w (w.alloc (.cells x.cells.toArray 26)) := (Below.refl _ _).alloc (Nat.le_refl _) _
  have BX := hid b0
  have HB0 := hid hb0
  have hmk : ∀ w', BoxAt w' w.heap.size 26 x.cells.toArray → w'.cell? ⟨w.heap.size, 0, none⟩ = some (.int .i64 x.p) ∧ w'.cell? ⟨w.heap.size, 1, none⟩ = some (.int .i64 x.r) ∧ w'.cell? ⟨w.heap.size, 2, none⟩ = some (.int .i64 x.v) := fun w' h => ⟨h.cell 0, h.cell 1, h.cell 2⟩
  have MK := hid hmk
  clear hmk b0 hb0
  obtain ⟨p, pr, vl⟩ := x
  simp only [Wt.val, Wt.cells] at *
  go_enter Try.func23, Try.ntmps23
  go_wp2_with fail
  have HB1 := hid (show Below w.heap.size w (w.alloc (.cells #[.int .i64 p, .int .i64 pr, .int .i64 vl] 26)).drew from HB0.out.drew)
  rcases q with _ | _
  case' false =>
    simp only [Bool.false_eq_true, if_false] at HQ
    have HP : Hid (∀ W, Below w.heap.size w W → Calls Try.prog 47 #[.agg #[], .slice (some xa) l.length cl, .agg #[.int .i64 p, .int .i64 pr, .int .i64 vl]] W fun e w' => e = .returned (.int .i64 k) ∧ Below W.heap.size W w') := hid (by rw [HQ.out]; exact HCO.out)
    clear HCO HRA hm1 HQ
    refine wp_region_held_drew (S := (fun w' => w'.cell? ⟨w.heap.size, 0, none⟩ = some (.int .i64 p) ∧ w'.cell? ⟨w.heap.size, 1, none⟩ = some (.int .i64 pr) ∧ w'.cell? ⟨w.heap.size, 2, none⟩ = some (.int .i64 vl))) (by kernel_rfl) (MK.out _ BX.out.drew) (fun hHeld => ?_)
    refine wpAnyH_take (i := 0) (oi := { dst := some 8, op := Op.move (Operand.tmp 2), type := 4, pos := "waiters.go:22", after := #[], guard := none }) (v := ?v1001) rfl (by kernel_rfl) (by kernel_rfl) (by kernel_rfl) (fun _ _ _ h => h) (Or.inl ⟨by rfl, ?hy1001⟩) (by assumption) ?rest1001
    case hy1001 => (intro w hSw; (try dsimp only at hSw); go_simp; try with_reducible rfl)
    simp only [Act.put, List.setIfInBounds_toArray, List.set_cons_zero, List.set_cons_succ]
    refine wpAnyH_take (i := 2) (oi := { dst := some 10, op := Op.move (Operand.tmp 0), type := 22, pos := "waiters.go:22", after := #[], guard := none }) (v := ?v1002) rfl (by kernel_rfl) (by kernel_rfl) (by kernel_rfl) (fun _ _ _ h => h) (Or.inl ⟨by rfl, ?hy1002⟩) (by assumption) ?rest1002
    case hy1002 => (intro w hSw; (try dsimp only at hSw); go_simp; try with_reducible rfl)
    simp only [Act.put, List.setIfInBounds_toArray, List.set_cons_zero, List.set_cons_succ]
    refine wpAnyH_take (i := 3) (oi := { dst := some 11, op := Op.load 26 (Operand.tmp 4), type := 26, pos := "waiters.go:22", after := #[], guard := none }) (v := ?v1003) rfl (by kernel_rfl) (by kernel_rfl) (by kernel_rfl) (fun _ _ _ h => h) (Or.inl ⟨by rfl, ?hy1003⟩) (by assumption) ?rest1003
    case hy1003 => (intro w hSw; (try dsimp only at hSw); go_simp; try with_reducible rfl)
    simp only [Act.put, List.setIfInBounds_toArray, List.set_cons_zero, List.set_cons_succ]
    refine wpAnyH_ready (rs := [1]) (by kernel_rfl) (by simp) (AllReadyH.cons (o := { dst := some 9, op := Op.call { callee := Callee.value (Operand.func 28), args := #[Operand.tmp 8], argTypes := #[4] }, type := 59, pos := "waiters.go:22", after := #[{ on := 0, ground := Ground.data }], guard := none }) rfl (fun K1004 hK1004 => ?_) AllReadyH.nil)
    go_simp
    refine (order_any false _).mono ?_
    rintro _ _ ⟨rfl, rfl⟩
    refine hK1004.out _ _ (hHeld) (fun hHeld1004 => ?_)
    clear hK1004 K1004
    try simp only [Act.put, List.setIfInBounds_toArray, List.set_cons_zero, List.set_cons_succ]
    refine wpAnyH_ready (rs := [4]) (by kernel_rfl) (by simp) (AllReadyH.cons (o := { dst := some 12, op := Op.call { callee := Callee.invoke (Operand.tmp 9) "quarterdeck/waiters.place", args := #[Operand.tmp 10, Operand.tmp 11], argTypes := #[22, 26] }, type := 3, pos := "waiters.go:22", after := #[{ on := 1, ground := Ground.data }, { on := 2, ground := Ground.data }, { on := 3, ground := Ground.data }, { on := 1, ground := Ground.chain }], guard := none }) rfl (fun K1005 hK1005 => ?_) AllReadyH.nil)
    go_simp
    refine (HP.out _ HB1.out).mono ?_
    rintro e w1 ⟨rfl, hb1⟩
    have BX1 := hid (BX.out.drew.belowAll hb1)
    have HB2 := hid (HB1.out.trans (hb1.mono HB1.out.size))
    clear hb1
    refine hK1005.out _ _ (MK.out _ BX1.out) (fun hHeld1005 => ?_)
    clear hK1005 K1005
    try simp only [Act.put, List.setIfInBounds_toArray, List.set_cons_zero, List.set_cons_succ]
    refine wpAnyH_take (i := 5) (oi := { dst := some 7, op := Op.assign (Operand.tmp 12), type := 3, pos := "waiters.go:22", after := #[{ on := 4, ground := Ground.data }, { on := 4, ground := Ground.chain }, { on := 0, ground := Ground.phase }, { on := 1, ground := Ground.phase }, { on := 2, ground := Ground.phase }, { on := 3, ground := Ground.phase }, { on := 4, ground := Ground.phase }], guard := none }) (v := ?v1006) rfl (by kernel_rfl) (by kernel_rfl) (by kernel_rfl) (fun _ _ _ h => h) (Or.inl ⟨by rfl, ?hy1006⟩) (by assumption) ?rest1006
    case hy1006 => (intro w hSw; (try dsimp only at hSw); go_simp; try with_reducible rfl)
    simp only [Act.put, List.setIfInBounds_toArray, List.set_cons_zero, List.set_cons_succ]
    refine wpAnyH_done (by kernel_rfl) ?_ _
    clear hHeld hHeld1004 hHeld1005
    go_wp2_with fail
    by_cases hck : cl = k
    case' pos =>
      replace hck := hck.symm
      subst hck
      refine wp_region_held_drew (S := (fun w' => w'.cell? ⟨w.heap.size, 0, none⟩ = some (.int .i64 p) ∧ w'.cell? ⟨w.heap.size, 1, none⟩ = some (.int .i64 pr) ∧ w'.cell? ⟨w.heap.size, 2, none⟩ = some (.int .i64 vl))) (by kernel_rfl) (MK.out _ BX1.out.drew) (fun hHeld => ?_)
      refine wpAnyH_take (i := 0) (oi := { dst := some 13, op := Op.move (Operand.tmp 0), type := 22, pos := "waiters.go:24", after := #[], guard := none }) (v := ?v2001) rfl (by kernel_rfl) (by kernel_rfl) (by kernel_rfl) (fun _ _ _ h => h) (Or.inl ⟨by rfl, ?hy2001⟩) (by assumption) ?rest2001
      case hy2001 => (intro w hSw; (try dsimp only at hSw); go_simp; try with_reducible rfl)
      simp only [Act.put, List.setIfInBounds_toArray, List.set_cons_zero, List.set_cons_succ]
      refine wpAnyH_take (i := 1) (oi := { dst := some 14, op := Op.move (Operand.tmp 7), type := 3, pos := "waiters.go:24", after := #[], guard := none }) (v := ?v2002) rfl (by kernel_rfl) (by kernel_rfl) (by kernel_rfl) (fun _ _ _ h => h) (Or.inl ⟨by rfl, ?hy2002⟩) (by assumption) ?rest2002
      case hy2002 => (intro w hSw; (try dsimp only at hSw); go_simp; try with_reducible rfl)
      simp only [Act.put, List.setIfInBounds_toArray, List.set_cons_zero, List.set_cons_succ]
      refine wpAnyH_take (i := 2) (oi := { dst := some 15, op := Op.slice 22 (Operand.tmp 13) none (some (Operand.tmp 14)) none, type := 22, pos := "waiters.go:24", after := #[{ on := 0, ground := Ground.data }, { on := 1, ground := Ground.data }], guard := none }) (v := ?v2003) rfl (by kernel_rfl) (by kernel_rfl) (by kernel_rfl) (fun _ _ _ h => h) (Or.inl ⟨by rfl, ?hy2003⟩) (by assumption) ?rest2003
      case hy2003 => (intro w hSw; (try dsimp only at hSw); go_simp; try with_reducible rfl)
      simp only [Act.put, List.setIfInBounds_toArray, List.set_cons_zero, List.set_cons_succ]
      refine wpAnyH_take (i := 3) (oi := { dst := some 16, op := Op.load 26 (Operand.tmp 4), type := 26, pos := "waiters.go:24", after := #[], guard := none }) (v := ?v2004) rfl (by kernel_rfl) (by kernel_rfl) (by kernel_rfl) (fun _ _ _ h => h) (Or.inl ⟨by rfl, ?hy2004⟩) (by assumption) ?rest2004
      case hy2004 => (intro w hSw; (try dsimp only at hSw); go_simp; try with_reducible rfl)
      simp only [Act.put, List.setIfInBounds_toArray, List.set_cons_zero, List.set_cons_succ]
      refine wpAnyH_take (i := 5) (oi := { dst := some 18, op := Op.move (Operand.tmp 0), type := 22, pos := "waiters.go:24", after := #[], guard := none }) (v := ?v2005) rfl (by kernel_rfl) (by kernel_rfl) (by kernel_rfl) (fun _ _ _ h => h) (Or.inl ⟨by rfl, ?hy2005⟩) (by assumption) ?rest2005
      case hy2005 => (intro w hSw; (try dsimp only at hSw); go_simp; try with_reducible rfl)
      simp only [Act.put, List.setIfInBounds_toArray, List.set_cons_zero, List.set_cons_succ]
      refine wpAnyH_take (i := 6) (oi := { dst := some 19, op := Op.move (Operand.tmp 7), type := 3, pos := "waiters.go:24", after := #[], guard := none }) (v := ?v2006) rfl (by kernel_rfl) (by kernel_rfl) (by kernel_rfl) (fun _ _ _ h => h) (Or.inl ⟨by rfl, ?hy2006⟩) (by assumption) ?rest2006
      case hy2006 => (intro w hSw; (try dsimp only at hSw); go_simp; try with_reducible rfl)
      simp only [Act.put, List.setIfInBounds_toArray, List.set_cons_zero, List.set_cons_succ]
      refine wpAnyH_take (i := 7) (oi := { dst := some 20, op := Op.slice 22 (Operand.tmp 18) (some (Operand.tmp 19)) none none, type := 22, pos := "waiters.go:24", after := #[{ on := 5, ground := Ground.data }, { on := 6, ground := Ground.data }], guard := none }) (v := ?v2007) rfl (by kernel_rfl) (by kernel_rfl) (by kernel_rfl) (fun _ _ _ h => h) (Or.inl ⟨by rfl, ?hy2007⟩) (by assumption) ?rest2007
      case hy2007 => (intro w hSw; (try dsimp only at hSw); go_simp; try with_reducible rfl)
      simp only [Act.put, List.setIfInBounds_toArray, List.set_cons_zero, List.set_cons_succ]
      refine wpAnyH_ready (rs := [4]) (by kernel_rfl) (by simp) (AllReadyH.cons (o := { dst := some 17, op := Op.buildSlice 22 1 #[(0, Operand.tmp 16)], type := 22, pos := "waiters.go:24", after := #[{ on := 3, ground := Ground.data }], guard := none }) rfl (fun K2008 hK2008 => ?_) AllReadyH.nil)
      refine step_lit1 rfl (.tmp 16) rfl ⟨p, pr, vl⟩ rfl ?_
      intro w2 hbx2 hb2
      have BX2 := hid (BX1.out.drew.belowAll hb2)
      have HB4 := hid (HB2.out.drew.trans (hb2.mono HB2.out.size))
      have SX2 := hid (SeesWt.box hbx2)
      clear hb2 hbx2
      refine hK2008.out _ _ (MK.out _ BX2.out) (fun hHeld2008 => ?_)
      clear hK2008 K2008
      try simp only [Act.put, List.setIfInBounds_toArray, List.set_cons_zero, List.set_cons_succ]
      refine wpAnyH_ready (rs := [8]) (by kernel_rfl) (by simp) (AllReadyH.cons (o := { dst := some 21, op := Op.buildSlice 66 3 #[(0, Operand.tmp 15), (1, Operand.tmp 17), (2, Operand.tmp 20)], type := 66, pos := "waiters.go:24", after := #[{ on := 2, ground := Ground.data }, { on := 4, ground := Ground.data }, { on := 7, ground := Ground.data }], guard := none }) rfl (fun K2009 hK2009 => ?_) AllReadyH.nil)
      refine step_lit3 rfl (.tmp 15) (.tmp 17) (.tmp 20) rfl _ _ _ _ _ _ _ _ _ rfl rfl rfl ?_
      intro w3 hbx3 hb3
      have BX3 := hid (BX2.out.belowAll hb3)
      have HB5 := hid (HB4.out.trans (hb3.mono HB4.out.size))
      have HT := hid (Three.of hbx3 ((HV.out.below HB5.out).takenA k hq) (SX2.out.below hb3) ((by first | exact SeesWt.emptyA k hl1 | exact SeesWt.emptyB k hl1)))
      clear hb3 hbx3 SX2
      refine hK2009.out _ _ (MK.out _ BX3.out) (fun hHeld2009 => ?_)
      clear hK2009 K2009
      try simp only [Act.put, List.setIfInBounds_toArray, List.set_cons_zero, List.set_cons_succ]
      refine wpAnyH_ready (rs := [9]) (by kernel_rfl) (by simp) (AllReadyH.cons (o := { dst := some 22, op := Op.call { callee := Callee.value (Operand.func 29), args := #[Operand.tmp 21], argTypes := #[66] }, type := 22, pos := "waiters.go:24", after := #[{ on := 8, ground := Ground.data }], guard := none }) rfl (fun K2010 hK2010 => ?_) AllReadyH.nil)
      go_simp
      refine (concat_any HT.out (by simp; omega)).mono ?_
      rintro e w4 ⟨u, rfl, hu, hb4⟩
      have BX4 := hid (BX3.out.belowAll hb4)
      have HB6 := hid (HB5.out.trans (hb4.mono HB5.out.size))
      have HO := hid (hu.mono HB5.out.size)
      clear hb4 hu
      refine hK2010.out _ _ (MK.out _ BX4.out) (fun hHeld2010 => ?_)
      clear hK2010 K2010
      try simp only [Act.put, List.setIfInBounds_toArray, List.set_cons_zero, List.set_cons_succ]
      refine wpAnyH_take (i := 10) (oi := { dst := some 6, op := Op.assign (Operand.tmp 22), type := 22, pos := "waiters.go:24", after := #[{ on := 9, ground := Ground.data }, { on := 9, ground := Ground.chain }, { on := 0, ground := Ground.phase }, { on := 1, ground := Ground.phase }, { on := 2, ground := Ground.phase }, { on := 3, ground := Ground.phase }, { on := 4, ground := Ground.phase }, { on := 5, ground := Ground.phase }, { on := 6, ground := Ground.phase }, { on := 7, ground := Ground.phase }, { on := 8, ground := Ground.phase }, { on := 9, ground := Ground.phase }], guard := none }) (v := ?v2011) rfl (by kernel_rfl) (by kernel_rfl) (by kernel_rfl) (fun _ _ _ h => h) (Or.inl ⟨by rfl, ?hy2011⟩) (by assumption) ?rest2011
      case hy2011 => (intro w hSw; (try dsimp only at hSw); go_simp; try with_reducible rfl)
      simp only [Act.put, List.setIfInBounds_toArray, List.set_cons_zero, List.set_cons_succ]
      refine wpAnyH_done (by kernel_rfl) ?_ _
      clear hHeld hHeld2008 hHeld2009 hHeld2010
      go_wp2_with fail
      go_ret
      exact ⟨_, rfl, HO.out, HB6.out⟩
    case' neg =>
      refine wp_region_held_drew (S := (fun w' => w'.cell? ⟨w.heap.size, 0, none⟩ = some (.int .i64 p) ∧ w'.cell? ⟨w.heap.size, 1, none⟩ = some (.int .i64 pr) ∧ w'.cell? ⟨w.heap.size, 2, none⟩ = some (.int .i64 vl))) (by kernel_rfl) (MK.out _ BX1.out.drew) (fun hHeld => ?_)
      refine wpAnyH_take (i := 0) (oi := { dst := some 13, op := Op.move (Operand.tmp 0), type := 22, pos := "waiters.go:24", after := #[], guard := none }) (v := ?v3001) rfl (by kernel_rfl) (by kernel_rfl) (by kernel_rfl) (fun _ _ _ h => h) (Or.inl ⟨by rfl, ?hy3001⟩) (by assumption) ?rest3001
      case hy3001 => (intro w hSw; (try dsimp only at hSw); go_simp; try with_reducible rfl)
      simp only [Act.put, List.setIfInBounds_toArray, List.set_cons_zero, List.set_cons_succ]
      refine wpAnyH_take (i := 1) (oi := { dst := some 14, op := Op.move (Operand.tmp 7), type := 3, pos := "waiters.go:24", after := #[], guard := none }) (v := ?v3002) rfl (by kernel_rfl) (by kernel_rfl) (by kernel_rfl) (fun _ _ _ h => h) (Or.inl ⟨by rfl, ?hy3002⟩) (by assumption) ?rest3002
      case hy3002 => (intro w hSw; (try dsimp only at hSw); go_simp; try with_reducible rfl)
      simp only [Act.put, List.setIfInBounds_toArray, List.set_cons_zero, List.set_cons_succ]
      refine wpAnyH_take (i := 2) (oi := { dst := some 15, op := Op.slice 22 (Operand.tmp 13) none (some (Operand.tmp 14)) none, type := 22, pos := "waiters.go:24", after := #[{ on := 0, ground := Ground.data }, { on := 1, ground := Ground.data }], guard := none }) (v := ?v3003) rfl (by kernel_rfl) (by kernel_rfl) (by kernel_rfl) (fun _ _ _ h => h) (Or.inl ⟨by rfl, ?hy3003⟩) (by assumption) ?rest3003
      case hy3003 => (intro w hSw; (try dsimp only at hSw); go_simp; try with_reducible rfl)
      simp only [Act.put, List.setIfInBounds_toArray, List.set_cons_zero, List.set_cons_succ]
      refine wpAnyH_take (i := 3) (oi := { dst := some 16, op := Op.load 26 (Operand.tmp 4), type := 26, pos := "waiters.go:24", after := #[], guard := none }) (v := ?v3004) rfl (by kernel_rfl) (by kernel_rfl) (by kernel_rfl) (fun _ _ _ h => h) (Or.inl ⟨by rfl, ?hy3004⟩) (by assumption) ?rest3004
      case hy3004 => (intro w hSw; (try dsimp only at hSw); go_simp; try with_reducible rfl)
      simp only [Act.put, List.setIfInBounds_toArray, List.set_cons_zero, List.set_cons_succ]
      refine wpAnyH_take (i := 5) (oi := { dst := some 18, op := Op.move (Operand.tmp 0), type := 22, pos := "waiters.go:24", after := #[], guard := none }) (v := ?v3005) rfl (by kernel_rfl) (by kernel_rfl) (by kernel_rfl) (fun _ _ _ h => h) (Or.inl ⟨by rfl, ?hy3005⟩) (by assumption) ?rest3005
      case hy3005 => (intro w hSw; (try dsimp only at hSw); go_simp; try with_reducible rfl)
      simp only [Act.put, List.setIfInBounds_toArray, List.set_cons_zero, List.set_cons_succ]
      refine wpAnyH_take (i := 6) (oi := { dst := some 19, op := Op.move (Operand.tmp 7), type := 3, pos := "waiters.go:24", after := #[], guard := none }) (v := ?v3006) rfl (by kernel_rfl) (by kernel_rfl) (by kernel_rfl) (fun _ _ _ h => h) (Or.inl ⟨by rfl, ?hy3006⟩) (by assumption) ?rest3006
      case hy3006 => (intro w hSw; (try dsimp only at hSw); go_simp; try with_reducible rfl)
      simp only [Act.put, List.setIfInBounds_toArray, List.set_cons_zero, List.set_cons_succ]
      refine wpAnyH_take (i := 7) (oi := { dst := some 20, op := Op.slice 22 (Operand.tmp 18) (some (Operand.tmp 19)) none none, type := 22, pos := "waiters.go:24", after := #[{ on := 5, ground := Ground.data }, { on := 6, ground := Ground.data }], guard := none }) (v := ?v3007) rfl (by kernel_rfl) (by kernel_rfl) (by kernel_rfl) (fun _ _ _ h => h) (Or.inl ⟨by rfl, ?hy3007⟩) (by assumption) ?rest3007
      case hy3007 => (intro w hSw; (try dsimp only at hSw); go_simp; try with_reducible rfl)
      simp only [Act.put, List.setIfInBounds_toArray, List.set_cons_zero, List.set_cons_succ]
      refine wpAnyH_ready (rs := [4]) (by kernel_rfl) (by simp) (AllReadyH.cons (o := { dst := some 17, op := Op.buildSlice 22 1 #[(0, Operand.tmp 16)], type := 22, pos := "waiters.go:24", after := #[{ on := 3, ground := Ground.data }], guard := none }) rfl (fun K3008 hK3008 => ?_) AllReadyH.nil)
      refine step_lit1 rfl (.tmp 16) rfl ⟨p, pr, vl⟩ rfl ?_
      intro w2 hbx2 hb2
      have BX2 := hid (BX1.out.drew.belowAll hb2)
      have HB4 := hid (HB2.out.drew.trans (hb2.mono HB2.out.size))
      have SX2 := hid (SeesWt.box hbx2)
      clear hb2 hbx2
      refine hK3008.out _ _ (MK.out _ BX2.out) (fun hHeld3008 => ?_)
      clear hK3008 K3008
      try simp only [Act.put, List.setIfInBounds_toArray, List.set_cons_zero, List.set_cons_succ]
      refine wpAnyH_ready (rs := [8]) (by kernel_rfl) (by simp) (AllReadyH.cons (o := { dst := some 21, op := Op.buildSlice 66 3 #[(0, Operand.tmp 15), (1, Operand.tmp 17), (2, Operand.tmp 20)], type := 66, pos := "waiters.go:24", after := #[{ on := 2, ground := Ground.data }, { on := 4, ground := Ground.data }, { on := 7, ground := Ground.data }], guard := none }) rfl (fun K3009 hK3009 => ?_) AllReadyH.nil)
      refine step_lit3 rfl (.tmp 15) (.tmp 17) (.tmp 20) rfl _ _ _ _ _ _ _ _ _ rfl rfl rfl ?_
      intro w3 hbx3 hb3
      have BX3 := hid (BX2.out.belowAll hb3)
      have HB5 := hid (HB4.out.trans (hb3.mono HB4.out.size))
      have HT := hid (Three.of hbx3 ((HV.out.below HB5.out).takenA k hq) (SX2.out.below hb3) ((HV.out.below HB5.out).droppedA k hq))
      clear hb3 hbx3 SX2
      refine hK3009.out _ _ (MK.out _ BX3.out) (fun hHeld3009 => ?_)
      clear hK3009 K3009
      try simp only [Act.put, List.setIfInBounds_toArray, List.set_cons_zero, List.set_cons_succ]
      refine wpAnyH_ready (rs := [9]) (by kernel_rfl) (by simp) (AllReadyH.cons (o := { dst := some 22, op := Op.call { callee := Callee.value (Operand.func 29), args := #[Operand.tmp 21], argTypes := #[66] }, type := 22, pos := "waiters.go:24", after := #[{ on := 8, ground := Ground.data }], guard := none }) rfl (fun K3010 hK3010 => ?_) AllReadyH.nil)
      go_simp
      refine (concat_any HT.out (by simp; omega)).mono ?_
      rintro e w4 ⟨u, rfl, hu, hb4⟩
      have BX4 := hid (BX3.out.belowAll hb4)
      have HB6 := hid (HB5.out.trans (hb4.mono HB5.out.size))
      have HO := hid (hu.mono HB5.out.size)
      clear hb4 hu
      refine hK3010.out _ _ (MK.out _ BX4.out) (fun hHeld3010 => ?_)
      clear hK3010 K3010
      try simp only [Act.put, List.setIfInBounds_toArray, List.set_cons_zero, List.set_cons_succ]
      refine wpAnyH_take (i := 10) (oi := { dst := some 6, op := Op.assign (Operand.tmp 22), type := 22, pos := "waiters.go:24", after := #[{ on := 9, ground := Ground.data }, { on := 9, ground := Ground.chain }, { on := 0, ground := Ground.phase }, { on := 1, ground := Ground.phase }, { on := 2, ground := Ground.phase }, { on := 3, ground := Ground.phase }, { on := 4, ground := Ground.phase }, { on := 5, ground := Ground.phase }, { on := 6, ground := Ground.phase }, { on := 7, ground := Ground.phase }, { on := 8, ground := Ground.phase }, { on := 9, ground := Ground.phase }], guard := none }) (v := ?v3011) rfl (by kernel_rfl) (by kernel_rfl) (by kernel_rfl) (fun _ _ _ h => h) (Or.inl ⟨by rfl, ?hy3011⟩) (by assumption) ?rest3011
      case hy3011 => (intro w hSw; (try dsimp only at hSw); go_simp; try with_reducible rfl)
      simp only [Act.put, List.setIfInBounds_toArray, List.set_cons_zero, List.set_cons_succ]
      refine wpAnyH_done (by kernel_rfl) ?_ _
      clear hHeld hHeld3008 hHeld3009 hHeld3010
      go_wp2_with fail
      go_ret
      exact ⟨_, rfl, HO.out, HB6.out⟩
  case' true =>
    simp only [if_true] at HQ
    have HP : Hid (∀ W, Below w.heap.size w W → Calls Try.prog 46 #[.agg #[], .slice (some xa) l.length cl, .agg #[.int .i64 p, .int .i64 pr, .int .i64 vl]] W fun e w' => e = .returned (.int .i64 k) ∧ Below W.heap.size W w') := hid (by rw [HQ.out]; exact HRA.out)
    clear HCO HRA hm2 HQ
    refine wp_region_held_drew (S := (fun w' => w'.cell? ⟨w.heap.size, 0, none⟩ = some (.int .i64 p) ∧ w'.cell? ⟨w.heap.size, 1, none⟩ = some (.int .i64 pr) ∧ w'.cell? ⟨w.heap.size, 2, none⟩ = some (.int .i64 vl))) (by kernel_rfl) (MK.out _ BX.out.drew) (fun hHeld => ?_)
    refine wpAnyH_take (i := 0) (oi := { dst := some 8, op := Op.move (Operand.tmp 2), type := 4, pos := "waiters.go:22", after := #[], guard := none }) (v := ?v5001) rfl (by kernel_rfl) (by kernel_rfl) (by kernel_rfl) (fun _ _ _ h => h) (Or.inl ⟨by rfl, ?hy5001⟩) (by assumption) ?rest5001
    case hy5001 => (intro w hSw; (try dsimp only at hSw); go_simp; try with_reducible rfl)
    simp only [Act.put, List.setIfInBounds_toArray, List.set_cons_zero, List.set_cons_succ]
    refine wpAnyH_take (i := 2) (oi := { dst := some 10, op := Op.move (Operand.tmp 0), type := 22, pos := "waiters.go:22", after := #[], guard := none }) (v := ?v5002) rfl (by kernel_rfl) (by kernel_rfl) (by kernel_rfl) (fun _ _ _ h => h) (Or.inl ⟨by rfl, ?hy5002⟩) (by assumption) ?rest5002
    case hy5002 => (intro w hSw; (try dsimp only at hSw); go_simp; try with_reducible rfl)
    simp only [Act.put, List.setIfInBounds_toArray, List.set_cons_zero, List.set_cons_succ]
    refine wpAnyH_take (i := 3) (oi := { dst := some 11, op := Op.load 26 (Operand.tmp 4), type := 26, pos := "waiters.go:22", after := #[], guard := none }) (v := ?v5003) rfl (by kernel_rfl) (by kernel_rfl) (by kernel_rfl) (fun _ _ _ h => h) (Or.inl ⟨by rfl, ?hy5003⟩) (by assumption) ?rest5003
    case hy5003 => (intro w hSw; (try dsimp only at hSw); go_simp; try with_reducible rfl)
    simp only [Act.put, List.setIfInBounds_toArray, List.set_cons_zero, List.set_cons_succ]
    refine wpAnyH_ready (rs := [1]) (by kernel_rfl) (by simp) (AllReadyH.cons (o := { dst := some 9, op := Op.call { callee := Callee.value (Operand.func 28), args := #[Operand.tmp 8], argTypes := #[4] }, type := 59, pos := "waiters.go:22", after := #[{ on := 0, ground := Ground.data }], guard := none }) rfl (fun K5004 hK5004 => ?_) AllReadyH.nil)
    go_simp
    refine (order_any true _).mono ?_
    rintro _ _ ⟨rfl, rfl⟩
    refine hK5004.out _ _ (hHeld) (fun hHeld5004 => ?_)
    clear hK5004 K5004
    try simp only [Act.put, List.setIfInBounds_toArray, List.set_cons_zero, List.set_cons_succ]
    refine wpAnyH_ready (rs := [4]) (by kernel_rfl) (by simp) (AllReadyH.cons (o := { dst := some 12, op := Op.call { callee := Callee.invoke (Operand.tmp 9) "quarterdeck/waiters.place", args := #[Operand.tmp 10, Operand.tmp 11], argTypes := #[22, 26] }, type := 3, pos := "waiters.go:22", after := #[{ on := 1, ground := Ground.data }, { on := 2, ground := Ground.data }, { on := 3, ground := Ground.data }, { on := 1, ground := Ground.chain }], guard := none }) rfl (fun K5005 hK5005 => ?_) AllReadyH.nil)
    go_simp
    refine (HP.out _ HB1.out).mono ?_
    rintro e w1 ⟨rfl, hb1⟩
    have BX1 := hid (BX.out.drew.belowAll hb1)
    have HB2 := hid (HB1.out.trans (hb1.mono HB1.out.size))
    clear hb1
    refine hK5005.out _ _ (MK.out _ BX1.out) (fun hHeld5005 => ?_)
    clear hK5005 K5005
    try simp only [Act.put, List.setIfInBounds_toArray, List.set_cons_zero, List.set_cons_succ]
    refine wpAnyH_take (i := 5) (oi := { dst := some 7, op := Op.assign (Operand.tmp 12), type := 3, pos := "waiters.go:22", after := #[{ on := 4, ground := Ground.data }, { on := 4, ground := Ground.chain }, { on := 0, ground := Ground.phase }, { on := 1, ground := Ground.phase }, { on := 2, ground := Ground.phase }, { on := 3, ground := Ground.phase }, { on := 4, ground := Ground.phase }], guard := none }) (v := ?v5006) rfl (by kernel_rfl) (by kernel_rfl) (by kernel_rfl) (fun _ _ _ h => h) (Or.inl ⟨by rfl, ?hy5006⟩) (by assumption) ?rest5006
    case hy5006 => (intro w hSw; (try dsimp only at hSw); go_simp; try with_reducible rfl)
    simp only [Act.put, List.setIfInBounds_toArray, List.set_cons_zero, List.set_cons_succ]
    refine wpAnyH_done (by kernel_rfl) ?_ _
    clear hHeld hHeld5004 hHeld5005
    go_wp2_with fail
    by_cases hck : cl = k
    case' pos =>
      replace hck := hck.symm
      subst hck
      refine wp_region_held_drew (S := (fun w' => w'.cell? ⟨w.heap.size, 0, none⟩ = some (.int .i64 p) ∧ w'.cell? ⟨w.heap.size, 1, none⟩ = some (.int .i64 pr) ∧ w'.cell? ⟨w.heap.size, 2, none⟩ = some (.int .i64 vl))) (by kernel_rfl) (MK.out _ BX1.out.drew) (fun hHeld => ?_)
      refine wpAnyH_take (i := 0) (oi := { dst := some 13, op := Op.move (Operand.tmp 0), type := 22, pos := "waiters.go:24", after := #[], guard := none }) (v := ?v6001) rfl (by kernel_rfl) (by kernel_rfl) (by kernel_rfl) (fun _ _ _ h => h) (Or.inl ⟨by rfl, ?hy6001⟩) (by assumption) ?rest6001
      case hy6001 => (intro w hSw; (try dsimp only at hSw); go_simp; try with_reducible rfl)
      simp only [Act.put, List.setIfInBounds_toArray, List.set_cons_zero, List.set_cons_succ]
      refine wpAnyH_take (i := 1) (oi := { dst := some 14, op := Op.move (Operand.tmp 7), type := 3, pos := "waiters.go:24", after := #[], guard := none }) (v := ?v6002) rfl (by kernel_rfl) (by kernel_rfl) (by kernel_rfl) (fun _ _ _ h => h) (Or.inl ⟨by rfl, ?hy6002⟩) (by assumption) ?rest6002
      case hy6002 => (intro w hSw; (try dsimp only at hSw); go_simp; try with_reducible rfl)
      simp only [Act.put, List.setIfInBounds_toArray, List.set_cons_zero, List.set_cons_succ]
      refine wpAnyH_take (i := 2) (oi := { dst := some 15, op := Op.slice 22 (Operand.tmp 13) none (some (Operand.tmp 14)) none, type := 22, pos := "waiters.go:24", after := #[{ on := 0, ground := Ground.data }, { on := 1, ground := Ground.data }], guard := none }) (v := ?v6003) rfl (by kernel_rfl) (by kernel_rfl) (by kernel_rfl) (fun _ _ _ h => h) (Or.inl ⟨by rfl, ?hy6003⟩) (by assumption) ?rest6003
      case hy6003 => (intro w hSw; (try dsimp only at hSw); go_simp; try with_reducible rfl)
      simp only [Act.put, List.setIfInBounds_toArray, List.set_cons_zero, List.set_cons_succ]
      refine wpAnyH_take (i := 3) (oi := { dst := some 16, op := Op.load 26 (Operand.tmp 4), type := 26, pos := "waiters.go:24", after := #[], guard := none }) (v := ?v6004) rfl (by kernel_rfl) (by kernel_rfl) (by kernel_rfl) (fun _ _ _ h => h) (Or.inl ⟨by rfl, ?hy6004⟩) (by assumption) ?rest6004
      case hy6004 => (intro w hSw; (try dsimp only at hSw); go_simp; try with_reducible rfl)
      simp only [Act.put, List.setIfInBounds_toArray, List.set_cons_zero, List.set_cons_succ]
      refine wpAnyH_take (i := 5) (oi := { dst := some 18, op := Op.move (Operand.tmp 0), type := 22, pos := "waiters.go:24", after := #[], guard := none }) (v := ?v6005) rfl (by kernel_rfl) (by kernel_rfl) (by kernel_rfl) (fun _ _ _ h => h) (Or.inl ⟨by rfl, ?hy6005⟩) (by assumption) ?rest6005
      case hy6005 => (intro w hSw; (try dsimp only at hSw); go_simp; try with_reducible rfl)
      simp only [Act.put, List.setIfInBounds_toArray, List.set_cons_zero, List.set_cons_succ]
      refine wpAnyH_take (i := 6) (oi := { dst := some 19, op := Op.move (Operand.tmp 7), type := 3, pos := "waiters.go:24", after := #[], guard := none }) (v := ?v6006) rfl (by kernel_rfl) (by kernel_rfl) (by kernel_rfl) (fun _ _ _ h => h) (Or.inl ⟨by rfl, ?hy6006⟩) (by assumption) ?rest6006
      case hy6006 => (intro w hSw; (try dsimp only at hSw); go_simp; try with_reducible rfl)
      simp only [Act.put, List.setIfInBounds_toArray, List.set_cons_zero, List.set_cons_succ]
      refine wpAnyH_take (i := 7) (oi := { dst := some 20, op := Op.slice 22 (Operand.tmp 18) (some (Operand.tmp 19)) none none, type := 22, pos := "waiters.go:24", after := #[{ on := 5, ground := Ground.data }, { on := 6, ground := Ground.data }], guard := none }) (v := ?v6007) rfl (by kernel_rfl) (by kernel_rfl) (by kernel_rfl) (fun _ _ _ h => h) (Or.inl ⟨by rfl, ?hy6007⟩) (by assumption) ?rest6007
      case hy6007 => (intro w hSw; (try dsimp only at hSw); go_simp; try with_reducible rfl)
      simp only [Act.put, List.setIfInBounds_toArray, List.set_cons_zero, List.set_cons_succ]
      refine wpAnyH_ready (rs := [4]) (by kernel_rfl) (by simp) (AllReadyH.cons (o := { dst := some 17, op := Op.buildSlice 22 1 #[(0, Operand.tmp 16)], type := 22, pos := "waiters.go:24", after := #[{ on := 3, ground := Ground.data }], guard := none }) rfl (fun K6008 hK6008 => ?_) AllReadyH.nil)
      refine step_lit1 rfl (.tmp 16) rfl ⟨p, pr, vl⟩ rfl ?_
      intro w2 hbx2 hb2
      have BX2 := hid (BX1.out.drew.belowAll hb2)
      have HB4 := hid (HB2.out.drew.trans (hb2.mono HB2.out.size))
      have SX2 := hid (SeesWt.box hbx2)
      clear hb2 hbx2
      refine hK6008.out _ _ (MK.out _ BX2.out) (fun hHeld6008 => ?_)
      clear hK6008 K6008
      try simp only [Act.put, List.setIfInBounds_toArray, List.set_cons_zero, List.set_cons_succ]
      refine wpAnyH_ready (rs := [8]) (by kernel_rfl) (by simp) (AllReadyH.cons (o := { dst := some 21, op := Op.buildSlice 66 3 #[(0, Operand.tmp 15), (1, Operand.tmp 17), (2, Operand.tmp 20)], type := 66, pos := "waiters.go:24", after := #[{ on := 2, ground := Ground.data }, { on := 4, ground := Ground.data }, { on := 7, ground := Ground.data }], guard := none }) rfl (fun K6009 hK6009 => ?_) AllReadyH.nil)
      refine step_lit3 rfl (.tmp 15) (.tmp 17) (.tmp 20) rfl _ _ _ _ _ _ _ _ _ rfl rfl rfl ?_
      intro w3 hbx3 hb3
      have BX3 := hid (BX2.out.belowAll hb3)
      have HB5 := hid (HB4.out.trans (hb3.mono HB4.out.size))
      have HT := hid (Three.of hbx3 ((HV.out.below HB5.out).takenA k hq) (SX2.out.below hb3) ((by first | exact SeesWt.emptyA k hl1 | exact SeesWt.emptyB k hl1)))
      clear hb3 hbx3 SX2
      refine hK6009.out _ _ (MK.out _ BX3.out) (fun hHeld6009 => ?_)
      clear hK6009 K6009
      try simp only [Act.put, List.setIfInBounds_toArray, List.set_cons_zero, List.set_cons_succ]
      refine wpAnyH_ready (rs := [9]) (by kernel_rfl) (by simp) (AllReadyH.cons (o := { dst := some 22, op := Op.call { callee := Callee.value (Operand.func 29), args := #[Operand.tmp 21], argTypes := #[66] }, type := 22, pos := "waiters.go:24", after := #[{ on := 8, ground := Ground.data }], guard := none }) rfl (fun K6010 hK6010 => ?_) AllReadyH.nil)
      go_simp
      refine (concat_any HT.out (by simp; omega)).mono ?_
      rintro e w4 ⟨u, rfl, hu, hb4⟩
      have BX4 := hid (BX3.out.belowAll hb4)
      have HB6 := hid (HB5.out.trans (hb4.mono HB5.out.size))
      have HO := hid (hu.mono HB5.out.size)
      clear hb4 hu
      refine hK6010.out _ _ (MK.out _ BX4.out) (fun hHeld6010 => ?_)
      clear hK6010 K6010
      try simp only [Act.put, List.setIfInBounds_toArray, List.set_cons_zero, List.set_cons_succ]
      refine wpAnyH_take (i := 10) (oi := { dst := some 6, op := Op.assign (Operand.tmp 22), type := 22, pos := "waiters.go:24", after := #[{ on := 9, ground := Ground.data }, { on := 9, ground := Ground.chain }, { on := 0, ground := Ground.phase }, { on := 1, ground := Ground.phase }, { on := 2, ground := Ground.phase }, { on := 3, ground := Ground.phase }, { on := 4, ground := Ground.phase }, { on := 5, ground := Ground.phase }, { on := 6, ground := Ground.phase }, { on := 7, ground := Ground.phase }, { on := 8, ground := Ground.phase }, { on := 9, ground := Ground.phase }], guard := none }) (v := ?v6011) rfl (by kernel_rfl) (by kernel_rfl) (by kernel_rfl) (fun _ _ _ h => h) (Or.inl ⟨by rfl, ?hy6011⟩) (by assumption) ?rest6011
      case hy6011 => (intro w hSw; (try dsimp only at hSw); go_simp; try with_reducible rfl)
      simp only [Act.put, List.setIfInBounds_toArray, List.set_cons_zero, List.set_cons_succ]
      refine wpAnyH_done (by kernel_rfl) ?_ _
      clear hHeld hHeld6008 hHeld6009 hHeld6010
      go_wp2_with fail
      go_ret
      exact ⟨_, rfl, HO.out, HB6.out⟩
    case' neg =>
      refine wp_region_held_drew (S := (fun w' => w'.cell? ⟨w.heap.size, 0, none⟩ = some (.int .i64 p) ∧ w'.cell? ⟨w.heap.size, 1, none⟩ = some (.int .i64 pr) ∧ w'.cell? ⟨w.heap.size, 2, none⟩ = some (.int .i64 vl))) (by kernel_rfl) (MK.out _ BX1.out.drew) (fun hHeld => ?_)
      refine wpAnyH_take (i := 0) (oi := { dst := some 13, op := Op.move (Operand.tmp 0), type := 22, pos := "waiters.go:24", after := #[], guard := none }) (v := ?v7001) rfl (by kernel_rfl) (by kernel_rfl) (by kernel_rfl) (fun _ _ _ h => h) (Or.inl ⟨by rfl, ?hy7001⟩) (by assumption) ?rest7001
      case hy7001 => (intro w hSw; (try dsimp only at hSw); go_simp; try with_reducible rfl)
      simp only [Act.put, List.setIfInBounds_toArray, List.set_cons_zero, List.set_cons_succ]
      refine wpAnyH_take (i := 1) (oi := { dst := some 14, op := Op.move (Operand.tmp 7), type := 3, pos := "waiters.go:24", after := #[], guard := none }) (v := ?v7002) rfl (by kernel_rfl) (by kernel_rfl) (by kernel_rfl) (fun _ _ _ h => h) (Or.inl ⟨by rfl, ?hy7002⟩) (by assumption) ?rest7002
      case hy7002 => (intro w hSw; (try dsimp only at hSw); go_simp; try with_reducible rfl)
      simp only [Act.put, List.setIfInBounds_toArray, List.set_cons_zero, List.set_cons_succ]
      refine wpAnyH_take (i := 2) (oi := { dst := some 15, op := Op.slice 22 (Operand.tmp 13) none (some (Operand.tmp 14)) none, type := 22, pos := "waiters.go:24", after := #[{ on := 0, ground := Ground.data }, { on := 1, ground := Ground.data }], guard := none }) (v := ?v7003) rfl (by kernel_rfl) (by kernel_rfl) (by kernel_rfl) (fun _ _ _ h => h) (Or.inl ⟨by rfl, ?hy7003⟩) (by assumption) ?rest7003
      case hy7003 => (intro w hSw; (try dsimp only at hSw); go_simp; try with_reducible rfl)
      simp only [Act.put, List.setIfInBounds_toArray, List.set_cons_zero, List.set_cons_succ]
      refine wpAnyH_take (i := 3) (oi := { dst := some 16, op := Op.load 26 (Operand.tmp 4), type := 26, pos := "waiters.go:24", after := #[], guard := none }) (v := ?v7004) rfl (by kernel_rfl) (by kernel_rfl) (by kernel_rfl) (fun _ _ _ h => h) (Or.inl ⟨by rfl, ?hy7004⟩) (by assumption) ?rest7004
      case hy7004 => (intro w hSw; (try dsimp only at hSw); go_simp; try with_reducible rfl)
      simp only [Act.put, List.setIfInBounds_toArray, List.set_cons_zero, List.set_cons_succ]
      refine wpAnyH_take (i := 5) (oi := { dst := some 18, op := Op.move (Operand.tmp 0), type := 22, pos := "waiters.go:24", after := #[], guard := none }) (v := ?v7005) rfl (by kernel_rfl) (by kernel_rfl) (by kernel_rfl) (fun _ _ _ h => h) (Or.inl ⟨by rfl, ?hy7005⟩) (by assumption) ?rest7005
      case hy7005 => (intro w hSw; (try dsimp only at hSw); go_simp; try with_reducible rfl)
      simp only [Act.put, List.setIfInBounds_toArray, List.set_cons_zero, List.set_cons_succ]
      refine wpAnyH_take (i := 6) (oi := { dst := some 19, op := Op.move (Operand.tmp 7), type := 3, pos := "waiters.go:24", after := #[], guard := none }) (v := ?v7006) rfl (by kernel_rfl) (by kernel_rfl) (by kernel_rfl) (fun _ _ _ h => h) (Or.inl ⟨by rfl, ?hy7006⟩) (by assumption) ?rest7006
      case hy7006 => (intro w hSw; (try dsimp only at hSw); go_simp; try with_reducible rfl)
      simp only [Act.put, List.setIfInBounds_toArray, List.set_cons_zero, List.set_cons_succ]
      refine wpAnyH_take (i := 7) (oi := { dst := some 20, op := Op.slice 22 (Operand.tmp 18) (some (Operand.tmp 19)) none none, type := 22, pos := "waiters.go:24", after := #[{ on := 5, ground := Ground.data }, { on := 6, ground := Ground.data }], guard := none }) (v := ?v7007) rfl (by kernel_rfl) (by kernel_rfl) (by kernel_rfl) (fun _ _ _ h => h) (Or.inl ⟨by rfl, ?hy7007⟩) (by assumption) ?rest7007
      case hy7007 => (intro w hSw; (try dsimp only at hSw); go_simp; try with_reducible rfl)
      simp only [Act.put, List.setIfInBounds_toArray, List.set_cons_zero, List.set_cons_succ]
      refine wpAnyH_ready (rs := [4]) (by kernel_rfl) (by simp) (AllReadyH.cons (o := { dst := some 17, op := Op.buildSlice 22 1 #[(0, Operand.tmp 16)], type := 22, pos := "waiters.go:24", after := #[{ on := 3, ground := Ground.data }], guard := none }) rfl (fun K7008 hK7008 => ?_) AllReadyH.nil)
      refine step_lit1 rfl (.tmp 16) rfl ⟨p, pr, vl⟩ rfl ?_
      intro w2 hbx2 hb2
      have BX2 := hid (BX1.out.drew.belowAll hb2)
      have HB4 := hid (HB2.out.drew.trans (hb2.mono HB2.out.size))
      have SX2 := hid (SeesWt.box hbx2)
      clear hb2 hbx2
      refine hK7008.out _ _ (MK.out _ BX2.out) (fun hHeld7008 => ?_)
      clear hK7008 K7008
      try simp only [Act.put, List.setIfInBounds_toArray, List.set_cons_zero, List.set_cons_succ]
      refine wpAnyH_ready (rs := [8]) (by kernel_rfl) (by simp) (AllReadyH.cons (o := { dst := some 21, op := Op.buildSlice 66 3 #[(0, Operand.tmp 15), (1, Operand.tmp 17), (2, Operand.tmp 20)], type := 66, pos := "waiters.go:24", after := #[{ on := 2, ground := Ground.data }, { on := 4, ground := Ground.data }, { on := 7, ground := Ground.data }], guard := none }) rfl (fun K7009 hK7009 => ?_) AllReadyH.nil)
      refine step_lit3 rfl (.tmp 15) (.tmp 17) (.tmp 20) rfl _ _ _ _ _ _ _ _ _ rfl rfl rfl ?_
      intro w3 hbx3 hb3
      have BX3 := hid (BX2.out.belowAll hb3)
      have HB5 := hid (HB4.out.trans (hb3.mono HB4.out.size))
      have HT := hid (Three.of hbx3 ((HV.out.below HB5.out).takenA k hq) (SX2.out.below hb3) ((HV.out.below HB5.out).droppedA k hq))
      clear hb3 hbx3 SX2
      refine hK7009.out _ _ (MK.out _ BX3.out) (fun hHeld7009 => ?_)
      clear hK7009 K7009
      try simp only [Act.put, List.setIfInBounds_toArray, List.set_cons_zero, List.set_cons_succ]
      refine wpAnyH_ready (rs := [9]) (by kernel_rfl) (by simp) (AllReadyH.cons (o := { dst := some 22, op := Op.call { callee := Callee.value (Operand.func 29), args := #[Operand.tmp 21], argTypes := #[66] }, type := 22, pos := "waiters.go:24", after := #[{ on := 8, ground := Ground.data }], guard := none }) rfl (fun K7010 hK7010 => ?_) AllReadyH.nil)
      go_simp
      refine (concat_any HT.out (by simp; omega)).mono ?_
      rintro e w4 ⟨u, rfl, hu, hb4⟩
      have BX4 := hid (BX3.out.belowAll hb4)
      have HB6 := hid (HB5.out.trans (hb4.mono HB5.out.size))
      have HO := hid (hu.mono HB5.out.size)
      clear hb4 hu
      refine hK7010.out _ _ (MK.out _ BX4.out) (fun hHeld7010 => ?_)
      clear hK7010 K7010
      try simp only [Act.put, List.setIfInBounds_toArray, List.set_cons_zero, List.set_cons_succ]
      refine wpAnyH_take (i := 10) (oi := { dst := some 6, op := Op.assign (Operand.tmp 22), type := 22, pos := "waiters.go:24", after := #[{ on := 9, ground := Ground.data }, { on := 9, ground := Ground.chain }, { on := 0, ground := Ground.phase }, { on := 1, ground := Ground.phase }, { on := 2, ground := Ground.phase }, { on := 3, ground := Ground.phase }, { on := 4, ground := Ground.phase }, { on := 5, ground := Ground.phase }, { on := 6, ground := Ground.phase }, { on := 7, ground := Ground.phase }, { on := 8, ground := Ground.phase }, { on := 9, ground := Ground.phase }], guard := none }) (v := ?v7011) rfl (by kernel_rfl) (by kernel_rfl) (by kernel_rfl) (fun _ _ _ h => h) (Or.inl ⟨by rfl, ?hy7011⟩) (by assumption) ?rest7011
      case hy7011 => (intro w hSw; (try dsimp only at hSw); go_simp; try with_reducible rfl)
      simp only [Act.put, List.setIfInBounds_toArray, List.set_cons_zero, List.set_cons_succ]
      refine wpAnyH_done (by kernel_rfl) ?_ _
      clear hHeld hHeld7008 hHeld7009 hHeld7010
      go_wp2_with fail
      go_ret
      exact ⟨_, rfl, HO.out, HB6.out⟩

theorem add_any (x : Wt) (q : Bool) {v : Value} {l : List Wt} {w : World} (hv : SeesWt w v l) (hlen : l.length ≤ 800000) :
    Calls Try.prog 23 #[v, x.val, .bool q] w fun e w' => ∃ u, e = .returned u ∧ OWt w' w.heap.size u (addP l x q) ∧ Below w.heap.size w w' := by
  have HV := hid hv
  rcases hv with ⟨rfl, hn⟩ | ⟨xa, cl, rfl, h1, h2, _⟩
  · have hl0 : l = [] := by simpa using hn
    subst hl0
    exact add_nil x q w
  · have h := HV.out
    rw [List.length_map] at h h1 ⊢
    exact add_some x q h hlen h1 h2
end Go.Proofs.Ytgnjnhfimagbpaa
