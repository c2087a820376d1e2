/-
  A list of those who wait: made, copied from another one.
-/
import Derived.Test.YtgnjnhfimagbpaaVAll
import Derived.Test.YtgnjnhfimagbpaaBox
import Derived.Laws.CopyOwn
namespace Go.Proofs.Ytgnjnhfimagbpaa
open Go.RowKit
set_option linter.unusedVariables false

theorem made_zeroWt (n : Nat) : (madeCells (Value.agg Wt.zero.cells.toArray).cells (n * 3)).toList = ((List.replicate n Wt.zero).map Wt.cells).flatten := by
  have h1 : ((List.replicate n Wt.zero).map Wt.cells).flatten = List.replicate (n * 3) (.int .i64 0) := by
    rw [List.map_replicate]
    induction n with
    | zero => rfl
    | succ n ih => rw [List.replicate_succ, List.flatten_cons, ih, Nat.succ_mul, Nat.add_comm (n * 3) 3, ← List.replicate_append_replicate]; rfl
  rw [h1]
  apply List.ext_getElem
  · simp [madeCells]
  · intro i h1 h2
    have h3 : i % 3 = 0 ∨ i % 3 = 1 ∨ i % 3 = 2 := by omega
    simp only [madeCells, Wt.zero, Wt.cells, Value.cells]
    rcases h3 with h3 | h3 | h3 <;> simp [h3]
theorem wpList_make_Wt (w : World) {ops : Array Oper} {rest : List Oper} {o : Oper} {a : Act} {Q : Exit → Act → World → Prop}
    (hg : o.guard = none) (l c : Operand) (hop : o.op = Op.makeSlice 22 l c) (base : Nat) (n : Nat) (hl : a.eval l = .int .i64 (n : Int)) (hc : a.eval c = .int .i64 (n : Int)) (hn : n ≤ 900000) (b4 : base ≤ w.heap.size)
    (hK : ∀ w', OWt w' base (.slice (some ⟨w.heap.size, 0, none⟩) n n) (List.replicate n Wt.zero) → w.grownBy w' none → wpList Try.prog ops Q rest (a.put o.dst (.slice (some ⟨w.heap.size, 0, none⟩) n n)) w') :
    wpList Try.prog ops Q (o :: rest) a w := by
  refine wpList_plain hg fun K hK' => ?_
  obtain ⟨i0, hi, hz0, hz1, hz2⟩ := info_parts Try.infoOWt
  have hr := run_make (P := Try.prog) w 22 26 i0 _ Try.underlying22 hi hz0 .i64 .i64 n n (by omega) (by omega) (by rw [hz2]; omega) (by omega)
  simp only [Int.toNat_natCast, hz1] at hr
  unfold Oper.wp
  simp only [execOp, hop, hl, hc, hr, Sem.run_bind, Sem.run_pure, Result.andThen_ok]
  refine hK' _ _ (hK _ ?_ (World.grownBy_alloc w _ none))
  have hlen : (List.replicate n Wt.zero).length = n := by simp
  unfold OWt
  rw [hlen]
  refine ⟨by rw [flatWt, hlen], .inr ⟨w.heap.size, n, madeCells (Value.agg Wt.zero.cells.toArray).cells (n * 3), rfl, b4, heap_alloc_new w _, Nat.le_refl _, by unfold maxLen; omega, by simp [size_madeCells], ?_⟩⟩
  rw [made_zeroWt, List.take_of_length_le (by rw [flatWt, hlen]; exact Nat.le_refl _)]

theorem run_copy_rowC {P : Program} (c : Nat) (w : World) (dT sT ty elem : TypeId) (g dLen dCap : Nat) (a : Addr) (sLen sCap : Nat) (cur : Array Value) (t : TypeId) (cs : List Value)
    (hu : P.underlying dT = some (.slice elem)) (hs : (P.info? elem).map (·.size) = some c)
    (hg : w.heap[g]? = some (.cells cur t (0, 0))) (hn : cs.length = Nat.min sLen dLen * c)
    (hsrc : ∀ j v, cs[j]? = some v → w.cell? (a.add j) = some v) (hfit : cs.length ≤ cur.size) (h1 : ∀ v ∈ cs, v.oneCell' = true) :
    (Builtin.copy_ #[dT, sT] ty #[.slice (some ⟨g, 0, none⟩) dLen dCap, .slice (some a) sLen sCap]).run P w =
      .ok (goInt (Nat.min sLen dLen)) (w.setRow g (cs ++ cur.toList.drop cs.length).toArray) := by
  have hl := run_loadCells_list (P := P) w a cs hsrc
  have hst := run_storeCells_at P g 0 t cs 0 cur w hg (by simpa using hfit) h1
  cases hq : P.info? elem with
  | none => simp [hq] at hs
  | some i =>
    have hi : i.size = c := by simpa [hq] using hs
    rw [hn] at hl
    simp [Builtin.copy_, run_underlying hu, Builtin.lenOf, Builtin.firstCells, sizeOf, typeInfo, hq, hi, hl, hst]
theorem run_copy_noneC {P : Program} (c : Nat) (w : World) (dT sT ty elem : TypeId) (d a : Option Addr) (dLen dCap sLen sCap : Nat) (hu : P.underlying dT = some (.slice elem)) (hs : (P.info? elem).map (·.size) = some c) (hn : Nat.min sLen dLen = 0) :
    (Builtin.copy_ #[dT, sT] ty #[.slice d dLen dCap, .slice a sLen sCap]).run P w = .ok (goInt 0) w := by
  cases hq : P.info? elem with
  | none => simp [hq] at hs
  | some i =>
    have hl : ∀ (x : Addr), (loadCells x 0).run P w = .ok #[] w := fun x => by simpa using run_loadCells_list (P := P) w x [] (by simp)
    cases d <;> cases a <;> simp [Builtin.copy_, run_underlying hu, Builtin.lenOf, Builtin.firstCells, sizeOf, typeInfo, hq, hn, storeCells, hl]

/-- 'copy(dst, src)', dst a list of the call's own with as many as src has. -/
theorem wpList_copy_Wt {w : World} {ops : Array Oper} {rest : List Oper} {o : Oper} {a : Act} {Q : Exit → Act → World → Prop} (hgd : o.guard = none) (d s : Operand)
    (ho : o.op = .call { callee := .builtin .copy, args := #[d, s], argTypes := #[22, 22] })
    (base g n cap : Nat) (old : List Wt) (hold : old.length = n) (hd : a.eval d = .slice (some ⟨g, 0, none⟩) n cap) (hown : OWt w base (.slice (some ⟨g, 0, none⟩) n cap) old)
    (y : Value) (l : List Wt) (hy : a.eval s = y) (hsee : SeesWt w y l) (hn : l.length = n)
    (h : ∀ w', OWt w' base (.slice (some ⟨g, 0, none⟩) n cap) l → w.grownBy w' (some g) → wpList Try.prog ops Q rest (a.put o.dst (goInt n)) w') : wpList Try.prog ops Q (o :: rest) a w := by
  have hsz : (Try.prog.info? 26).map (·.size) = some 3 := by kernel_rfl
  subst hold
  obtain ⟨ha, hb⟩ := hown
  rcases hb with ⟨h', _⟩ | ⟨g', cap', cur, h', hb, hg, hnc, hcm, hcs, htake⟩
  · simp at h'
  simp only [Value.slice.injEq, Option.some.injEq, Addr.mk.injEq, and_true, true_and] at h'
  obtain ⟨rfl, rfl⟩ := h'
  refine wpList_plain hgd fun K hK => ?_
  rcases hsee with ⟨rfl, hnl⟩ | ⟨ad, c2, rfl, h1, h2, hc⟩
  · have hl0 : l = [] := by simpa using hnl
    subst hl0
    have h0 : old = [] := List.eq_nil_of_length_eq_zero (by simpa using hn.symm)
    subst h0
    have hrun := run_copy_noneC (P := Try.prog) 3 w 22 22 o.type 26 (some ⟨g, 0, none⟩) none 0 cap 0 0 Try.underlying22 hsz (by simp)
    unfold Oper.wp
    simp [execOp, ho, resolve, invoke, builtin, hd, hy, hrun, Result.andThen]
    exact hK _ _ (h w ⟨ha, .inr ⟨g, cap, cur, rfl, hb, hg, hnc, hcm, hcs, htake⟩⟩ (World.grownBy.refl _ _))
  · simp only [List.length_map] at h1 hy hc
    have hfl := flatWt l
    have hm : Nat.min l.length old.length = old.length := by rw [hn]; exact Nat.min_self _
    have hfit : (l.map Wt.cells).flatten.length ≤ cur.size := by
      rw [hfl, hcs, hn]
      exact Nat.mul_le_mul_right 3 hnc
    have hrun := run_copy_rowC (P := Try.prog) 3 w 22 22 o.type 26 g old.length cap ad l.length c2 cur _ (l.map Wt.cells).flatten Try.underlying22 hsz hg (by rw [hfl, hm, hn])
      (SeesC.cells (lensWt l) (by simpa using hc)) hfit (oneWt l)
    rw [hm] at hrun
    obtain ⟨F, hF⟩ : ∃ F, (l.map Wt.cells).flatten = F := ⟨_, rfl⟩
    rw [hF] at hfl hfit hrun
    unfold Oper.wp
    simp [execOp, ho, resolve, invoke, builtin, hd, hy, hrun, Result.andThen]
    refine hK _ _ (h _ ⟨by rw [hF, hfl], .inr ⟨g, cap, _, by rw [hn], hb, setRow_heap w g cur _ _ _ hg, by omega, hcm, ?_, ?_⟩⟩ ⟨rfl, rfl, rfl, by simp, fun j _ hj => setRow_other w g j _ (fun e => hj (by simp [e]))⟩)
    · have e1 : F.toArray.size = F.length := List.size_toArray ..
      have e2 : cur.toList.length = cur.size := Array.length_toList
      simp only [List.size_toArray, List.length_append, List.length_drop, Array.length_toList]
      omega
    · rw [hF, List.take_append_of_le_length (by rw [hfl]; exact Nat.le_refl _), List.take_of_length_le (by rw [hfl]; exact Nat.le_refl _)]
end Go.Proofs.Ytgnjnhfimagbpaa
