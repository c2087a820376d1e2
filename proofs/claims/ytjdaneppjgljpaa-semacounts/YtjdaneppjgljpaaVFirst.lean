/-
  What waiters' First returns, whatever list it is given: the others are a list of the call's own.
-/
import Derived.Test.YtjdaneppjgljpaaVAdd
namespace Go.Proofs.Ytjdaneppjgljpaa
open Go.RowKit
set_option linter.unusedVariables false

theorem results_cell_row3 {P : Program} {fn : Func} {p u v : Tmp} {ty : TypeId} (h : fn.results = #[.cell p ty, .tmp u, .tmp v]) (tmps : Array Value) (w : World) (g : Nat) (t : TypeId) (cs : Array Value) (fr : Nat × Nat) (d : TypeDesc)
    (hp : tmps.getD p undef = .pointer (some ⟨g, 0, none⟩)) (hg : w.heap[g]? = some (.cells cs t fr))
    (hu : P.underlying ty = some d) (hd : (match d with | .struct _ | .array _ _ => true | _ => false) = true) (hi : (P.info? ty).map (·.size) = some cs.size) :
    (results fn tmps).run P w = .ok (.tuple #[.agg cs, tmps.getD u undef, tmps.getD v undef]) w := by
  have hp' : tmps[p]?.getD undef = .pointer (some ⟨g, 0, none⟩) := by simpa using hp
  simp [results, h, hp', asAddr, run_loadVar_row w g t ty cs fr d hg hu hd hi]
theorem Try.sizeWt : (Try.prog.info? 26).map (·.size) = some 3 := by kernel_rfl
theorem step_store_Wt {w : World} {ops : Array Oper} {o : Oper} {a : Act} {K : Act → World → Prop} {Q : Exit → Act → World → Prop} {E : Prop} (hgd : o.guard = none) (x y : Operand) (ho : o.op = .store 26 x y)
    (g : Nat) (hx : a.eval x = .pointer (some ⟨g, 0, none⟩)) (r : Wt) (hy : a.eval y = r.val) (old : Array Value) (hb : BoxAt w g 26 old) (hold : old.size = 3)
    (h : ∀ w', BoxAt w' g 26 r.cells.toArray → w.grownBy w' (some g) → K (a.put o.dst undef) w') :
    if Region.wanted o (yielded ops a.tmps) = true then Oper.wp Try.prog o a w K Q else E := by
  have hw : Region.wanted o (yielded ops a.tmps) = true := by simp [Region.wanted, hgd]
  rw [if_pos hw]
  refine wp_store_row 26 x y ho g r.cells.toArray hx hy 26 old hb (by rw [Try.sizeWt]; rfl) (by rw [hold]; rfl) (by simp [Wt.cells, Value.oneCell']) ?_
  exact h _ (setRow_heap w g old _ _ _ hb) ⟨rfl, rfl, rfl, by simp, fun j _ hj => setRow_other w g j _ (fun e => hj (by simp [e]))⟩

def firstV (l : List Wt) (u : Value) : Value := .tuple #[(l.getD 0 Wt.zero).val, u, .bool (decide (0 < l.length))]

set_option maxRecDepth 100000 in
set_option maxHeartbeats 1600000 in
theorem first_empty (al : Option Addr) (cl : Nat) (w : World) :
    Calls Try.prog 23 #[.slice al 0 cl] w fun e w' => ∃ u, e = .returned (firstV [] u) ∧ OWt w' w.heap.size u [] ∧ Below w.heap.size w w' := by
  go_enter Try.func23, Try.ntmps23
  go_wp2
  refine bodyPost_ret (results_cell_row3 rfl _ _ w.heap.size 26 _ (0, 0) _ rfl (BoxAt.new w 26 _) Try.underlying26 rfl Try.sizeWt) rfl ?_
  refine ⟨_, rfl, OWt.nil _ _, ?_⟩
  exact (Below.refl _ _).alloc (Nat.le_refl _) _

set_option maxRecDepth 100000 in
set_option maxHeartbeats 1600000 in
theorem first_some {al : Option Addr} {cl : Nat} {l : List Wt} {w : World} (hv : SeesWt w (.slice al l.length cl) l) (hlen : l.length ≤ 800000) (hl0 : 0 < l.length) :
    Calls Try.prog 23 #[.slice al l.length cl] w fun e w' => ∃ u, e = .returned (firstV l u) ∧ OWt w' w.heap.size u (l.drop 1) ∧ Below w.heap.size w w' := by
  obtain ⟨al', cl', hv', hl1, hl2, hlc⟩ := hv.form
  simp only [Value.slice.injEq, true_and] at hv'
  obtain ⟨rfl, rfl⟩ := hv'
  obtain ⟨b, off, rfl, hbw, hcell⟩ := hlc hl0
  unfold maxLen at hl2
  have HV := hid hv
  have hS1 : (⟨b, off, none⟩ : Addr).add (1 * 3) = ⟨b, off + 3, none⟩ := by rw [add_none]
  have c0 := hcell 0 hl0 0 (by decide)
  have c1 := hcell 0 hl0 1 (by decide)
  have c2 := hcell 0 hl0 2 (by decide)
  have hft : ∀ u, firstV l u = .tuple #[(l.getD 0 Wt.zero).val, u, .bool true] := fun u => by unfold firstV; rw [decide_eq_true hl0]
  simp only [hft]
  clear hv hcell hlc hft
  obtain ⟨r, hr⟩ : ∃ r, l.getD 0 Wt.zero = r := ⟨_, rfl⟩
  rw [hr] at c0 c1 c2 ⊢
  clear hr
  obtain ⟨x0, x1, x2⟩ := r
  simp only [Wt.cells, List.getD_cons_zero, List.getD_cons_succ, Nat.zero_mul, Nat.add_zero] at c0 c1 c2
  have BX := hid (BoxAt.new w 26 #[.int .i64 0, .int .i64 0, .int .i64 0])
  have hb0 : Below w.heap.size w (w.alloc (.cells #[.int .i64 0, .int .i64 0, .int .i64 0] 26)) := (Below.refl _ _).alloc (Nat.le_refl _) _
  have HB0 := hid hb0
  have hmk : ∀ w', Below w.heap.size w w' → w'.cell? ⟨b, off, none⟩ = some (.int .i64 x0) ∧ w'.cell? ⟨b, off + 1, none⟩ = some (.int .i64 x1) ∧ w'.cell? ⟨b, off + 2, none⟩ = some (.int .i64 x2) := fun w' h => ⟨(h.cell (by exact hbw)).trans c0, (h.cell (by exact hbw)).trans c1, (h.cell (by exact hbw)).trans c2⟩
  have MK := hid hmk
  have HCx := hid hl0
  have hne : (((l.length : Nat) : Int) == 0) = false := by simp; intro h; rw [h] at hl0; simp at hl0
  have hcl1 : 1 ≤ cl := by omega
  have h1l : 1 ≤ l.length := hl0
  have h1i : (1 : Int) ≤ (l.length : Int) := by omega
  clear hmk hb0 c0 c1 c2
  go_enter Try.func23, Try.ntmps23
  go_wp2_with fail
  by_cases hck : cl = 1
  case' pos =>
    subst hck
    refine wp_region_held_drew (S := (fun w' => w'.cell? ⟨b, off, none⟩ = some (.int .i64 x0) ∧ w'.cell? ⟨b, off + 1, none⟩ = some (.int .i64 x1) ∧ w'.cell? ⟨b, off + 2, none⟩ = some (.int .i64 x2))) (by kernel_rfl) (MK.out _ HB0.out.drew) (fun hHeld => ?_)
    refine wpAnyH_take (i := 0) (oi := { dst := some 9, op := Op.move (Operand.tmp 0), type := 22, pos := "waiters.go:32", after := #[], guard := none }) (v := ?v1001) rfl (by kernel_rfl) (by kernel_rfl) (by kernel_rfl) (fun _ _ _ h => h) (Or.inl ⟨by rfl, ?hy1001⟩) (by assumption) ?rest1001
    case hy1001 => (intro w hSw; (try dsimp only at hSw); go_simp; try with_reducible rfl)
    simp only [Act.put, List.setIfInBounds_toArray, List.set_cons_zero, List.set_cons_succ]
    refine wpAnyH_take (i := 1) (oi := { dst := some 10, op := Op.indexAddr 22 (Operand.tmp 9) (Operand.const (Value.int IntKind.i64 0)), type := 0, pos := "waiters.go:32", after := #[{ on := 0, ground := Ground.data }], guard := none }) (v := ?v1002) rfl (by kernel_rfl) (by kernel_rfl) (by kernel_rfl) (fun _ _ _ h => h) (Or.inl ⟨by rfl, ?hy1002⟩) (by assumption) ?rest1002
    case hy1002 => (intro w hSw; (try dsimp only at hSw); go_simp; try with_reducible rfl)
    simp only [Act.put, List.setIfInBounds_toArray, List.set_cons_zero, List.set_cons_succ]
    refine wpAnyH_take (i := 2) (oi := { dst := some 11, op := Op.load 26 (Operand.tmp 10), type := 26, pos := "waiters.go:32", after := #[{ on := 1, ground := Ground.data }], guard := none }) (v := ?v1003) rfl (by kernel_rfl) (by kernel_rfl) (by kernel_rfl) (fun _ _ _ h => h) (Or.inl ⟨by rfl, ?hy1003⟩) (by assumption) ?rest1003
    case hy1003 => (intro w hSw; (try dsimp only at hSw); go_simp; try with_reducible rfl)
    simp only [Act.put, List.setIfInBounds_toArray, List.set_cons_zero, List.set_cons_succ]
    refine wpAnyH_take (i := 3) (oi := { dst := some 12, op := Op.move (Operand.tmp 0), type := 22, pos := "waiters.go:32", after := #[], guard := none }) (v := ?v1004) rfl (by kernel_rfl) (by kernel_rfl) (by kernel_rfl) (fun _ _ _ h => h) (Or.inl ⟨by rfl, ?hy1004⟩) (by assumption) ?rest1004
    case hy1004 => (intro w hSw; (try dsimp only at hSw); go_simp; try with_reducible rfl)
    simp only [Act.put, List.setIfInBounds_toArray, List.set_cons_zero, List.set_cons_succ]
    refine wpAnyH_take (i := 4) (oi := { dst := some 13, op := Op.slice 22 (Operand.tmp 12) (some (Operand.const (Value.int IntKind.i64 1))) none none, type := 22, pos := "waiters.go:32", after := #[{ on := 3, ground := Ground.data }], guard := none }) (v := ?v1005) rfl (by kernel_rfl) (by kernel_rfl) (by kernel_rfl) (fun _ _ _ h => h) (Or.inl ⟨by rfl, ?hy1005⟩) (by assumption) ?rest1005
    case hy1005 => (intro w hSw; (try dsimp only at hSw); go_simp; try with_reducible rfl)
    simp only [Act.put, List.setIfInBounds_toArray, List.set_cons_zero, List.set_cons_succ]
    refine wpAnyH_ready (rs := [5]) (by kernel_rfl) (by simp) (AllReadyH.cons (o := { dst := some 14, op := Op.call { callee := Callee.value (Operand.func 21), args := #[Operand.tmp 13], argTypes := #[22] }, type := 22, pos := "waiters.go:32", after := #[{ on := 4, ground := Ground.data }], guard := none }) rfl (fun K1006 hK1006 => ?_) AllReadyH.nil)
    go_simp
    refine (qclone_Wt (l := l.drop 1) (by first | exact SeesWt.emptyA 1 hl1 | exact SeesWt.emptyB 1 hl1) (by simp; omega)).mono ?_
    rintro e w2 ⟨u, rfl, hu, hb2⟩
    have BX1 := hid (BX.out.drew.belowAll hb2)
    have HB2 := hid (HB0.out.drew.trans (hb2.mono HB0.out.drew.size))
    have HOL := hid (show ∀ k, u.ownBlock = some k → w.heap.size + 1 ≤ k ∧ k < w2.heap.size from by have := hu.lt; simpa using this)
    have HO := hid (hu.mono HB0.out.drew.size)
    clear hu hb2
    refine hK1006.out _ _ (MK.out _ HB2.out) (fun hHeld1006 => ?_)
    clear hK1006 K1006
    try simp only [Act.put, List.setIfInBounds_toArray, List.set_cons_zero, List.set_cons_succ]
    refine wpAnyH_ready (rs := [6]) (by kernel_rfl) (by simp) (AllReadyH.cons (o := { dst := none, op := Op.store 26 (Operand.tmp 2) (Operand.tmp 11), type := 0, pos := "waiters.go:32", after := #[{ on := 2, ground := Ground.data }, { on := 5, ground := Ground.chain }, { on := 0, ground := Ground.phase }, { on := 1, ground := Ground.phase }, { on := 2, ground := Ground.phase }, { on := 3, ground := Ground.textOnly Departure.lateStores }, { on := 4, ground := Ground.textOnly Departure.lateStoresUnsure }, { on := 5, ground := Ground.textOnly Departure.lateStoresUnsure }], guard := none }) rfl (fun K1007 hK1007 => ?_) AllReadyH.nil)
    refine step_store_Wt rfl (.tmp 2) (.tmp 11) rfl _ rfl ⟨x0, x1, x2⟩ rfl _ BX1.out rfl ?_
    intro w3 hbx3 hg3
    have BX3 := hid hbx3
    have HB3 := hid (HB2.out.grown hg3 HB2.out.size (fun k hk => by cases hk; exact Nat.le_refl _))
    have HO3 := hid (show OWt w3 w.heap.size u (l.drop 1) from HO.out.kept (row := some w.heap.size) hg3 (.inr (by intro e; have := HOL.out _ e; omega)))
    clear hbx3 hg3
    refine hK1007.out _ _ (MK.out _ HB3.out) (fun hHeld1007 => ?_)
    clear hK1007 K1007
    try simp only [Act.put]
    refine wpAnyH_take (i := 7) (oi := { dst := some 3, op := Op.assign (Operand.tmp 14), type := 22, pos := "waiters.go:32", after := #[{ on := 5, ground := Ground.data }, { on := 6, ground := Ground.chain }, { on := 0, ground := Ground.phase }, { on := 1, ground := Ground.phase }, { on := 2, ground := Ground.phase }, { on := 3, ground := Ground.phase }, { on := 4, ground := Ground.phase }, { on := 5, ground := Ground.phase }, { on := 6, ground := Ground.phase }], guard := none }) (v := ?v1008) rfl (by kernel_rfl) (by kernel_rfl) (by kernel_rfl) (fun _ _ _ h => h) (Or.inl ⟨by rfl, ?hy1008⟩) (by assumption) ?rest1008
    case hy1008 => (intro w hSw; (try dsimp only at hSw); go_simp; try with_reducible rfl)
    simp only [Act.put, List.setIfInBounds_toArray, List.set_cons_zero, List.set_cons_succ]
    refine wpAnyH_take (i := 8) (oi := { dst := some 4, op := Op.assign (Operand.const (Value.bool true)), type := 4, pos := "waiters.go:32", after := #[{ on := 7, ground := Ground.chain }, { on := 0, ground := Ground.phase }, { on := 1, ground := Ground.phase }, { on := 2, ground := Ground.phase }, { on := 3, ground := Ground.phase }, { on := 4, ground := Ground.phase }, { on := 5, ground := Ground.phase }, { on := 6, ground := Ground.phase }, { on := 7, ground := Ground.phase }], guard := none }) (v := ?v1009) rfl (by kernel_rfl) (by kernel_rfl) (by kernel_rfl) (fun _ _ _ h => h) (Or.inl ⟨by rfl, ?hy1009⟩) (by assumption) ?rest1009
    case hy1009 => (intro w hSw; (try dsimp only at hSw); go_simp; try with_reducible rfl)
    simp only [Act.put, List.setIfInBounds_toArray, List.set_cons_zero, List.set_cons_succ]
    refine wpAnyH_done (by kernel_rfl) ?_ _
    clear hHeld hHeld1006 hHeld1007
    go_wp2_with fail
    refine bodyPost_ret (results_cell_row3 rfl _ _ w.heap.size 26 _ (0, 0) _ rfl BX3.out Try.underlying26 rfl Try.sizeWt) rfl ?_
    exact ⟨_, rfl, HO3.out, HB3.out⟩
  case' neg =>
    refine wp_region_held_drew (S := (fun w' => w'.cell? ⟨b, off, none⟩ = some (.int .i64 x0) ∧ w'.cell? ⟨b, off + 1, none⟩ = some (.int .i64 x1) ∧ w'.cell? ⟨b, off + 2, none⟩ = some (.int .i64 x2))) (by kernel_rfl) (MK.out _ HB0.out.drew) (fun hHeld => ?_)
    refine wpAnyH_take (i := 0) (oi := { dst := some 9, op := Op.move (Operand.tmp 0), type := 22, pos := "waiters.go:32", after := #[], guard := none }) (v := ?v2001) rfl (by kernel_rfl) (by kernel_rfl) (by kernel_rfl) (fun _ _ _ h => h) (Or.inl ⟨by rfl, ?hy2001⟩) (by assumption) ?rest2001
    case hy2001 => (intro w hSw; (try dsimp only at hSw); go_simp; try with_reducible rfl)
    simp only [Act.put, List.setIfInBounds_toArray, List.set_cons_zero, List.set_cons_succ]
    refine wpAnyH_take (i := 1) (oi := { dst := some 10, op := Op.indexAddr 22 (Operand.tmp 9) (Operand.const (Value.int IntKind.i64 0)), type := 0, pos := "waiters.go:32", after := #[{ on := 0, ground := Ground.data }], guard := none }) (v := ?v2002) rfl (by kernel_rfl) (by kernel_rfl) (by kernel_rfl) (fun _ _ _ h => h) (Or.inl ⟨by rfl, ?hy2002⟩) (by assumption) ?rest2002
    case hy2002 => (intro w hSw; (try dsimp only at hSw); go_simp; try with_reducible rfl)
    simp only [Act.put, List.setIfInBounds_toArray, List.set_cons_zero, List.set_cons_succ]
    refine wpAnyH_take (i := 2) (oi := { dst := some 11, op := Op.load 26 (Operand.tmp 10), type := 26, pos := "waiters.go:32", after := #[{ on := 1, ground := Ground.data }], guard := none }) (v := ?v2003) rfl (by kernel_rfl) (by kernel_rfl) (by kernel_rfl) (fun _ _ _ h => h) (Or.inl ⟨by rfl, ?hy2003⟩) (by assumption) ?rest2003
    case hy2003 => (intro w hSw; (try dsimp only at hSw); go_simp; try with_reducible rfl)
    simp only [Act.put, List.setIfInBounds_toArray, List.set_cons_zero, List.set_cons_succ]
    refine wpAnyH_take (i := 3) (oi := { dst := some 12, op := Op.move (Operand.tmp 0), type := 22, pos := "waiters.go:32", after := #[], guard := none }) (v := ?v2004) rfl (by kernel_rfl) (by kernel_rfl) (by kernel_rfl) (fun _ _ _ h => h) (Or.inl ⟨by rfl, ?hy2004⟩) (by assumption) ?rest2004
    case hy2004 => (intro w hSw; (try dsimp only at hSw); go_simp; try with_reducible rfl)
    simp only [Act.put, List.setIfInBounds_toArray, List.set_cons_zero, List.set_cons_succ]
    refine wpAnyH_take (i := 4) (oi := { dst := some 13, op := Op.slice 22 (Operand.tmp 12) (some (Operand.const (Value.int IntKind.i64 1))) none none, type := 22, pos := "waiters.go:32", after := #[{ on := 3, ground := Ground.data }], guard := none }) (v := ?v2005) rfl (by kernel_rfl) (by kernel_rfl) (by kernel_rfl) (fun _ _ _ h => h) (Or.inl ⟨by rfl, ?hy2005⟩) (by assumption) ?rest2005
    case hy2005 => (intro w hSw; (try dsimp only at hSw); go_simp; try with_reducible rfl)
    simp only [Act.put, List.setIfInBounds_toArray, List.set_cons_zero, List.set_cons_succ]
    refine wpAnyH_ready (rs := [5]) (by kernel_rfl) (by simp) (AllReadyH.cons (o := { dst := some 14, op := Op.call { callee := Callee.value (Operand.func 21), args := #[Operand.tmp 13], argTypes := #[22] }, type := 22, pos := "waiters.go:32", after := #[{ on := 4, ground := Ground.data }], guard := none }) rfl (fun K2006 hK2006 => ?_) AllReadyH.nil)
    go_simp
    refine (qclone_Wt (l := l.drop 1) (by have := (HV.out.below HB0.out.drew).droppedA 1 h1l; rw [hS1] at this; exact this) (by simp; omega)).mono ?_
    rintro e w2 ⟨u, rfl, hu, hb2⟩
    have BX1 := hid (BX.out.drew.belowAll hb2)
    have HB2 := hid (HB0.out.drew.trans (hb2.mono HB0.out.drew.size))
    have HOL := hid (show ∀ k, u.ownBlock = some k → w.heap.size + 1 ≤ k ∧ k < w2.heap.size from by have := hu.lt; simpa using this)
    have HO := hid (hu.mono HB0.out.drew.size)
    clear hu hb2
    refine hK2006.out _ _ (MK.out _ HB2.out) (fun hHeld2006 => ?_)
    clear hK2006 K2006
    try simp only [Act.put, List.setIfInBounds_toArray, List.set_cons_zero, List.set_cons_succ]
    refine wpAnyH_ready (rs := [6]) (by kernel_rfl) (by simp) (AllReadyH.cons (o := { dst := none, op := Op.store 26 (Operand.tmp 2) (Operand.tmp 11), type := 0, pos := "waiters.go:32", after := #[{ on := 2, ground := Ground.data }, { on := 5, ground := Ground.chain }, { on := 0, ground := Ground.phase }, { on := 1, ground := Ground.phase }, { on := 2, ground := Ground.phase }, { on := 3, ground := Ground.textOnly Departure.lateStores }, { on := 4, ground := Ground.textOnly Departure.lateStoresUnsure }, { on := 5, ground := Ground.textOnly Departure.lateStoresUnsure }], guard := none }) rfl (fun K2007 hK2007 => ?_) AllReadyH.nil)
    refine step_store_Wt rfl (.tmp 2) (.tmp 11) rfl _ rfl ⟨x0, x1, x2⟩ rfl _ BX1.out rfl ?_
    intro w3 hbx3 hg3
    have BX3 := hid hbx3
    have HB3 := hid (HB2.out.grown hg3 HB2.out.size (fun k hk => by cases hk; exact Nat.le_refl _))
    have HO3 := hid (show OWt w3 w.heap.size u (l.drop 1) from HO.out.kept (row := some w.heap.size) hg3 (.inr (by intro e; have := HOL.out _ e; omega)))
    clear hbx3 hg3
    refine hK2007.out _ _ (MK.out _ HB3.out) (fun hHeld2007 => ?_)
    clear hK2007 K2007
    try simp only [Act.put]
    refine wpAnyH_take (i := 7) (oi := { dst := some 3, op := Op.assign (Operand.tmp 14), type := 22, pos := "waiters.go:32", after := #[{ on := 5, ground := Ground.data }, { on := 6, ground := Ground.chain }, { on := 0, ground := Ground.phase }, { on := 1, ground := Ground.phase }, { on := 2, ground := Ground.phase }, { on := 3, ground := Ground.phase }, { on := 4, ground := Ground.phase }, { on := 5, ground := Ground.phase }, { on := 6, ground := Ground.phase }], guard := none }) (v := ?v2008) rfl (by kernel_rfl) (by kernel_rfl) (by kernel_rfl) (fun _ _ _ h => h) (Or.inl ⟨by rfl, ?hy2008⟩) (by assumption) ?rest2008
    case hy2008 => (intro w hSw; (try dsimp only at hSw); go_simp; try with_reducible rfl)
    simp only [Act.put, List.setIfInBounds_toArray, List.set_cons_zero, List.set_cons_succ]
    refine wpAnyH_take (i := 8) (oi := { dst := some 4, op := Op.assign (Operand.const (Value.bool true)), type := 4, pos := "waiters.go:32", after := #[{ on := 7, ground := Ground.chain }, { on := 0, ground := Ground.phase }, { on := 1, ground := Ground.phase }, { on := 2, ground := Ground.phase }, { on := 3, ground := Ground.phase }, { on := 4, ground := Ground.phase }, { on := 5, ground := Ground.phase }, { on := 6, ground := Ground.phase }, { on := 7, ground := Ground.phase }], guard := none }) (v := ?v2009) rfl (by kernel_rfl) (by kernel_rfl) (by kernel_rfl) (fun _ _ _ h => h) (Or.inl ⟨by rfl, ?hy2009⟩) (by assumption) ?rest2009
    case hy2009 => (intro w hSw; (try dsimp only at hSw); go_simp; try with_reducible rfl)
    simp only [Act.put, List.setIfInBounds_toArray, List.set_cons_zero, List.set_cons_succ]
    refine wpAnyH_done (by kernel_rfl) ?_ _
    clear hHeld hHeld2006 hHeld2007
    go_wp2_with fail
    refine bodyPost_ret (results_cell_row3 rfl _ _ w.heap.size 26 _ (0, 0) _ rfl BX3.out Try.underlying26 rfl Try.sizeWt) rfl ?_
    exact ⟨_, rfl, HO3.out, HB3.out⟩

theorem first_any {v : Value} {l : List Wt} {w : World} (hv : SeesWt w v l) (hlen : l.length ≤ 800000) :
    Calls Try.prog 23 #[v] w fun e w' => ∃ u, e = .returned (firstV l u) ∧ OWt w' w.heap.size u (l.drop 1) ∧ Below w.heap.size w w' := by
  have HV := hid hv
  obtain ⟨al, cl, rfl, _, _, _⟩ := hv.form
  cases l with
  | nil => exact first_empty al cl w
  | cons x t => exact first_some HV.out hlen (by simp)
end Go.Proofs.Ytjdaneppjgljpaa
