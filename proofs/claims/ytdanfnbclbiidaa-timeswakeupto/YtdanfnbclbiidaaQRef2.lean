/-
  What the document's queued, New return.
-/
import Derived.Test.YtdanfnbclbiidaaQRef1
import Derived.Deep.RegionHeld3
namespace Go.Proofs.Ytdanfnbclbiidaa
open Go.RowKit
set_option linter.unusedVariables false

theorem box_yields {o : Oper} {a : Act} (T : TypeId) (x : Operand) (ho : o.op = .load T x) (g : Nat) (hx : a.eval x = .pointer (some ⟨g, 0, none⟩)) (cs : List Value) (t : TypeId) (fs : Array Field) (hu : Try.prog.underlying T = some (.struct fs)) (hi : (Try.prog.info? T).map (·.size) = some cs.length) {w : World} (hc : BoxAt w g t cs.toArray) :
    (execOp a.eval o).run Try.prog w = .ok (.value (.agg cs.toArray)) w := by
  unfold execOp
  simp only [ho, hx, Instr.loadAt, Instr.sureAddr, Sem.run_bind, Sem.run_pure, Result.andThen_ok, run_loadVar_mid w g 0 T cs _ (box_range hc) hu rfl hi]
theorem wp_store_whole {P : Program} {o : Oper} {a : Act} {w : World} {K : Act → World → Prop} {Q : Exit → Act → World → Prop} (T : TypeId) (x y : Operand) (ho : o.op = .store T x y)
    (g : Nat) (hx : a.eval x = .pointer (some ⟨g, 0, none⟩)) (cs : List Value) (hy : a.eval y = .agg cs.toArray) (t : TypeId) (old : Array Value) (hb : BoxAt w g t old) (hold : old.size = cs.length) (hi : (P.info? T).map (·.size) = some cs.length) (h1 : ∀ v ∈ cs, v.oneCell' = true)
    (h : ∀ w', BoxAt w' g t cs.toArray → w.grownBy w' (some g) → w'.heap.size = w.heap.size → K (a.put o.dst undef) w') : Oper.wp P o a w K Q :=
  wp_store_row T x y ho g cs.toArray hx hy t old hb (by simpa using hi) (by simpa using hold) (all_oneCell_toArray h1) (h _ (setRow_heap w g old _ t _ hb) ⟨rfl, rfl, rfl, by simp, fun j _ hj => setRow_other w g j _ (fun e => hj (by simp [e]))⟩ (by simp))
theorem results_two {P : Program} {fn : Func} {p u : Tmp} {ty tu : TypeId} (h : fn.results = #[.cell p ty, .cell u tu]) (tmps : Array Value) (w : World) (g g' : Nat) (t t' : TypeId) (cs cs' : Array Value) (d d' : TypeDesc)
    (hp : tmps.getD p undef = .pointer (some ⟨g, 0, none⟩)) (hg : BoxAt w g t cs) (hp' : tmps.getD u undef = .pointer (some ⟨g', 0, none⟩)) (hg' : BoxAt w g' t' cs')
    (hu : P.underlying ty = some d) (hd : (match d with | .struct _ | .array _ _ => true | _ => false) = true) (hi : (P.info? ty).map (·.size) = some cs.size)
    (hu' : P.underlying tu = some d') (hd' : (match d' with | .struct _ | .array _ _ => true | _ => false) = true) (hi' : (P.info? tu).map (·.size) = some cs'.size) :
    (results fn tmps).run P w = .ok (.tuple #[.agg cs, .agg cs']) w := by
  have e1 : tmps[p]?.getD undef = .pointer (some ⟨g, 0, none⟩) := by simpa using hp
  have e2 : tmps[u]?.getD undef = .pointer (some ⟨g', 0, none⟩) := by simpa using hp'
  simp [results, h, e1, e2, asAddr, run_loadVar_row w g t ty cs _ d hg hu hd hi, run_loadVar_row w g' t' tu cs' _ d' hg' hu' hd' hi']

set_option maxRecDepth 100000 in
set_option maxHeartbeats 1600000 in
theorem rqueued_any (q : PaV) (x : Px) (w : World) :
    Calls Try.prog 56 #[q.val, x.val] w fun e w' => e = .returned (.tuple #[PaV.val { q with nx := wrap64 (q.nx + 1) }, Px.val { x with si := q.nx }]) ∧ Below w.heap.size w w' := by
  go_enter Try.func56, Try.ntmps56
  go_wp2_with (first
    | (refine wpList_box rfl 39 (.tmp 0) rfl q.cells.toArray rfl ?_
       intro w1 b1 h1 z1
       have PB := hid (show PaB w1 w.heap.size q from b1)
       have HB := hid h1
       clear b1 h1)
    | (refine wpList_box rfl 57 (.tmp 1) rfl x.cells.toArray rfl ?_
       intro w2 b2 h2 z2
       rw [z1] at b2
       have XB := hid b2
       have PB := hid (show PaB w2 w.heap.size q from BoxAt.belowAll PB.out h2)
       have HB := hid (HB.out.trans (h2.mono (by omega)))
       clear b2 h2)
    | (refine wpList_new rfl 39 rfl _ Try.zeroPa ?_
       intro w3 b3 h3 z3
       rw [z2, z1] at b3
       have RB := hid b3
       have XB := hid (XB.out.belowAll h3)
       have PB := hid (show PaB w3 w.heap.size q from BoxAt.belowAll PB.out h3)
       have HB := hid (HB.out.trans (h3.mono (by omega)))
       clear b3 h3)
    | (refine wpList_new rfl 57 rfl _ Try.zeroPx ?_
       intro w4 b4 h4 z4
       rw [z3, z2, z1] at b4
       have SB := hid b4
       have RB := hid (RB.out.belowAll h4)
       have XB := hid (XB.out.belowAll h4)
       have PB := hid (show PaB w4 w.heap.size q from BoxAt.belowAll PB.out h4)
       have HB := hid (HB.out.trans (h4.mono (by omega)))
       have kn : w4.cell? ⟨w.heap.size, 2, none⟩ = some (.int .i64 q.nx) := (BoxAt.cell PB.out 2).trans rfl
       have hsz : w.heap.size + 4 ≤ w4.heap.size := by omega
       clear b4 h4)
    | (refine wpList_store_box rfl 3 _ _ rfl rfl (w.heap.size + 1) 8 (.int .i64 q.nx) rfl rfl rfl rfl (by kernel_rfl) _ _ XB.out (by simp [Px.cells]) ?_
       intro w5 b g z
       have XB := hid (show BoxAt w5 (w.heap.size + 1) 57 (Px.cells { x with si := q.nx }).toArray by simpa [Px.cells] using b)
       have PB := hid (show PaB w5 w.heap.size q from BoxAt.grown PB.out g (fun e => by have := Option.some.inj e; omega))
       have RB := hid (RB.out.grown g (fun e => by have := Option.some.inj e; omega))
       have SB := hid (SB.out.grown g (fun e => by have := Option.some.inj e; omega))
       have HB := hid (HB.out.trans (grown_below g (by omega) (by omega)))
       have kn : w5.cell? ⟨w.heap.size, 2, none⟩ = some (.int .i64 q.nx) := (BoxAt.cell PB.out 2).trans rfl
       have hsz : w.heap.size + 4 ≤ w5.heap.size := by omega
       clear b g z)
    | (refine wpList_store_box rfl 3 _ _ rfl rfl w.heap.size 2 (.int .i64 (wrap64 (q.nx + 1))) rfl rfl rfl rfl (by kernel_rfl) _ _ PB.out (by simp [PaV.cells]) ?_
       intro w6 b g z
       have PB := hid (show PaB w6 w.heap.size { q with nx := wrap64 (q.nx + 1) } by simpa [PaB, PaV.cells] using b)
       have XB := hid (XB.out.grown g (fun e => by have := Option.some.inj e; omega))
       have RB := hid (RB.out.grown g (fun e => by have := Option.some.inj e; omega))
       have SB := hid (SB.out.grown g (fun e => by have := Option.some.inj e; omega))
       have HB := hid (HB.out.trans (grown_below g (Nat.le_refl _) (by omega)))
       have hsz : w.heap.size + 4 ≤ w6.heap.size := by omega
       clear b g z)
    | fail)
  have PB := hid (BoxAt.drew PB.out)
  have XB := hid XB.out.drew
  have RB := hid RB.out.drew
  have SB := hid SB.out.drew
  have HB := hid HB.out.drew
  have hsz : w.heap.size + 4 ≤ w6.drew.heap.size := hsz
  clear z1 z2 z3 z4
  refine wp_region_held_drew (S := (fun W => PaB W w.heap.size { q with nx := wrap64 (q.nx + 1) } ∧ BoxAt W (w.heap.size + 1) 57 (Px.cells { x with si := q.nx }).toArray)) (by kernel_rfl) (⟨PB.out, XB.out⟩) (fun hHeld => ?_)
  refine wpAnyH_take (i := 0) (oi := { dst := some 13, op := Op.load 39 (Operand.tmp 2), type := 39, pos := "ref.go:35", after := #[], guard := none }) (v := ?_) rfl (by kernel_rfl) (by kernel_rfl) (by kernel_rfl) (fun _ _ _ h => h) (Or.inl ⟨by rfl, ?_⟩) (by assumption) ?_
  rotate_left
  · (intro W hSw; refine box_yields 39 (.tmp 2) ?_ w.heap.size ?_ (PaV.cells { q with nx := wrap64 (q.nx + 1) }) 39 _ Try.underlying39 Try.infoPa hSw.1 <;> rfl)
  simp only [Act.put, List.setIfInBounds_toArray, List.set_cons_zero, List.set_cons_succ]
  refine wpAnyH_take (i := 1) (oi := { dst := some 14, op := Op.load 57 (Operand.tmp 3), type := 57, pos := "ref.go:35", after := #[{ on := 2, ground := Ground.gcOnly Departure.lateStores }], guard := none }) (v := ?_) rfl (by kernel_rfl) (by kernel_rfl) (by kernel_rfl) (fun _ _ _ h => h) (Or.inl ⟨by rfl, ?_⟩) (by assumption) ?_
  rotate_left
  · (intro W hSw; refine box_yields 57 (.tmp 3) ?_ (w.heap.size + 1) ?_ (Px.cells { x with si := q.nx }) 57 _ Try.underlying57 Try.infoPx hSw.2 <;> rfl)
  simp only [Act.put, List.setIfInBounds_toArray, List.set_cons_zero, List.set_cons_succ]
  refine wpAnyH_ready (rs := [2]) (by kernel_rfl) (by simp) (AllReadyH.cons (o := { dst := none, op := Op.store 39 (Operand.tmp 4) (Operand.tmp 13), type := 0, pos := "ref.go:35", after := #[{ on := 0, ground := Ground.data }, { on := 0, ground := Ground.phase }, { on := 1, ground := Ground.textOnly Departure.lateStores }], guard := none }) rfl (fun K3 hK3 => ?_) AllReadyH.nil)
  refine wp_store_whole 39 _ _ rfl (w.heap.size + 1 + 1) rfl (PaV.cells { q with nx := wrap64 (q.nx + 1) }) rfl _ _ RB.out rfl Try.infoPa (PaV.one _) ?_
  intro v21 b g z
  have RB := hid b
  have SB := hid (SB.out.grown g (fun e => by have := Option.some.inj e; omega))
  have PB := hid (BoxAt.grown PB.out g (fun e => by have := Option.some.inj e; omega))
  have XB := hid (XB.out.grown g (fun e => by have := Option.some.inj e; omega))
  have HB := hid (HB.out.trans (grown_below g (by omega) (by omega)))
  have hsz : w.heap.size + 4 ≤ v21.heap.size := by omega
  clear b g
  refine hK3.out _ _ (⟨PB.out, XB.out⟩) (fun hHeld3 => ?_)
  clear hK3 K3
  try simp only [Act.put]
  refine wpAnyH_ready (rs := [3]) (by kernel_rfl) (by simp) (AllReadyH.cons (o := { dst := none, op := Op.store 57 (Operand.tmp 5) (Operand.tmp 14), type := 0, pos := "ref.go:35", after := #[{ on := 1, ground := Ground.data }, { on := 2, ground := Ground.chain }, { on := 0, ground := Ground.phase }, { on := 1, ground := Ground.phase }, { on := 2, ground := Ground.phase }], guard := none }) rfl (fun K4 hK4 => ?_) AllReadyH.nil)
  refine wp_store_whole 57 _ _ rfl (w.heap.size + 1 + 1 + 1) rfl (Px.cells { x with si := q.nx }) rfl _ _ SB.out rfl Try.infoPx (Px.one _) ?_
  intro v22 b g z
  have SB := hid b
  have RB := hid (RB.out.grown g (fun e => by have := Option.some.inj e; omega))
  have PB := hid (BoxAt.grown PB.out g (fun e => by have := Option.some.inj e; omega))
  have XB := hid (XB.out.grown g (fun e => by have := Option.some.inj e; omega))
  have HB := hid (HB.out.trans (grown_below g (by omega) (by omega)))
  have hsz : w.heap.size + 4 ≤ v22.heap.size := by omega
  clear b g
  refine hK4.out _ _ (⟨PB.out, XB.out⟩) (fun hHeld4 => ?_)
  clear hK4 K4
  try simp only [Act.put]
  refine wpAnyH_done (by kernel_rfl) ?_ _
  clear hHeld hHeld3 hHeld4
  go_wp2_with fail
  refine bodyPost_ret (results_two rfl _ _ (w.heap.size + 1 + 1) (w.heap.size + 1 + 1 + 1) 39 57 _ _ _ _ rfl RB.out rfl SB.out Try.underlying39 rfl Try.infoPa Try.underlying57 rfl Try.infoPx) rfl ?_
  exact ⟨rfl, HB.out⟩

theorem seesPx_val {w : World} {g : Nat} {t : TypeId} {r : Px} (h : BoxAt w g t r.cells.toArray) : SeesPx w (.slice (some ⟨g, 0, none⟩) 1 1) [r] := SeesPx.box h

end Go.Proofs.Ytdanfnbclbiidaa
