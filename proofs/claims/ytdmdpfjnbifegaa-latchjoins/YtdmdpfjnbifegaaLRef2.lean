/-
  What the document's Give and Offer of latches return, whatever latch they are given, and that nothing that was there is written.
-/
import Derived.Test.YtdmdpfjnbifegaaLGive
import Derived.Deep.RegionLaw
namespace Go.Proofs.Ytdmdpfjnbifegaa
open Go.RowKit
set_option linter.unusedVariables false

/-- 'append(nil, x...)' for any slice of integers that is read, as a step of a region that draws its order. -/
theorem step_append_sees {P : Program} {w : World} {ops : Array Oper} {o : Oper} {a : Act} {K : Act → World → Prop} {Q : Exit → Act → World → Prop} {E : Prop} (hgd : o.guard = none) (s x : Operand) (t : TypeId)
    (ho : o.op = .call { callee := .builtin .append, args := #[s, x], argTypes := #[t, t] })
    (base : Nat) (e : TypeId) (i : TypeInfo) (z : Value) (bytes : Nat) (ht : P.underlying t = some (.slice e)) (hi : P.info? e = some i) (hz : i.zero = some z)
    (hsize : i.size = 1) (hby : i.bytes = bytes) (hzs : z.cells.size = 1) (k : IntKind) (hs : a.eval s = .slice none 0 0)
    (y : Value) (ys : List Int) (hx : a.eval x = y) (hsee : Sees w k y ys)
    (h63 : ys.length ≤ maxLen) (hbytes : ys.length * bytes ≤ 140737488355328) (hbase : base ≤ w.heap.size)
    (h : ∀ v' w', w'.ownsRow base e 1 v' ys.length (ys.map (Value.int k)) → w.grownBy w' none → K (a.put o.dst v') w') :
    if Region.wanted o (yielded ops a.tmps) = true then Oper.wp P o a w K Q else E := by
  have hw : Region.wanted o (yielded ops a.tmps) = true := by simp [Region.wanted, hgd]
  rw [if_pos hw]
  rcases hsee with ⟨rfl, rfl⟩ | ⟨ad, cap, rfl, h1, h2, hc⟩
  · have hrun := run_append_owned_none (P := P) w base t o.type e i 1 ht hi (.slice none 0 0) 0 [] (World.ownsRow_nil _ _ _ _)
    unfold Oper.wp
    simp [execOp, ho, resolve, invoke, builtin, hs, hx, hrun, Result.andThen]
    exact h _ w (World.ownsRow_nil _ _ _ _) (World.grownBy.refl _ _)
  · refine wp_append_own w s x t ho base e i z 1 bytes ht hi hz hsize hby hzs (by decide) (.slice none 0 0) 0 [] hs (World.ownsRow_nil _ _ _ _) ad _ _ (ys.map (Value.int k)) hx (by simp) ?_ (ints_oneCell _ _) (by simpa using h63) (by simpa using hbytes) hbase (fun v' w' a b _ => h v' w' (by simpa using a) b)
    intro j u hj
    rcases Nat.lt_or_ge j ys.length with hj' | hj'
    · simp [List.getElem?_map, List.getElem?_eq_getElem hj'] at hj
      subst hj
      rw [hc j hj']; simp [List.getD, List.getElem?_eq_getElem hj']
    · simp [List.getElem?_eq_none (show (ys.map (Value.int k)).length ≤ j by simpa using hj')] at hj

set_option maxRecDepth 100000 in
set_option maxHeartbeats 400000 in
theorem rgive_any (d p : Int) (v : Value) (xs : List Int) (w : World) (hv : Sees w .i64 v xs) (hlen : xs.length ≤ 100000) :
    Calls Try.prog 10 #[ltV d v p] w fun e w' => ∃ u, e = .returned (.tuple #[u, ltV d (.slice none 0 0) p]) ∧
      w'.ownsRow w.heap.size 3 1 u xs.length (xs.map (Value.int .i64)) ∧ Below w.heap.size w w' := by
  obtain ⟨i0, hi, hz0, hz1, hz2⟩ := info_parts Try.infoI6
  have HV := hid hv
  obtain ⟨a, cap, rfl, hc1, hc2, _⟩ := hv.form
  clear hv
  unfold maxLen at hc2
  have HM := hid (show xs.length ≤ maxLen by unfold maxLen; omega)
  go_enter Try.func10, Try.ntmps10
  go_wp2_with fail
  have b0 : BoxAt ((w.alloc (.cells #[.int .i64 d, .slice a xs.length cap, .int .i64 p] 24)).alloc (.cells #[.int .i64 0, .slice none 0 0, .int .i64 0] 24)) w.heap.size 24 #[.int .i64 d, .slice a xs.length cap, .int .i64 p] := (BoxAt.new w _ _).alloc _
  have b1 := BoxAt.new (w.alloc (.cells #[.int .i64 d, .slice a xs.length cap, .int .i64 p] 24)) 24 #[.int .i64 0, .slice none 0 0, .int .i64 0]
  rw [show (w.alloc (.cells #[.int .i64 d, .slice a xs.length cap, .int .i64 p] 24)).heap.size = w.heap.size + 1 by simp] at b1
  have hbel : Below w.heap.size w ((w.alloc (.cells #[.int .i64 d, .slice a xs.length cap, .int .i64 p] 24)).alloc (.cells #[.int .i64 0, .slice none 0 0, .int .i64 0] 24)) := ((Below.refl _ _).alloc (Nat.le_refl _) _).alloc (by simp) _
  have hsz : w.heap.size + 2 ≤ ((w.alloc (.cells #[.int .i64 d, .slice a xs.length cap, .int .i64 p] 24)).alloc (.cells #[.int .i64 0, .slice none 0 0, .int .i64 0] 24)).heap.size := by simp
  generalize ((w.alloc (.cells #[.int .i64 d, .slice a xs.length cap, .int .i64 p] 24)).alloc (.cells #[.int .i64 0, .slice none 0 0, .int .i64 0] 24)) = W at *
  have f0 := b0.free
  have f1 := b1.free
  have c0 := b0.cell 0
  have c1 := b0.cell 1
  have c2 := b0.cell 2
  have e0 := b1.cell 0
  have e1 := b1.cell 1
  have e2 := b1.cell 2
  simp at c0 c1 c2 e0 e1 e2
  have B0 := hid b0.drew
  have B1 := hid b1.drew
  have HW := hid (HV.out.below hbel.drew)
  replace hbel := hbel.drew
  replace hsz : w.heap.size + 2 ≤ W.drew.heap.size := hsz
  clear b0 b1
  go_region_law (refine step_append_sees rfl (.const (.slice none 0 0)) (.tmp 5) 22 rfl (w.heap.size + 2) 3 i0 (.int .i64 0) 8 Try.underlying22 hi hz0 hz1 hz2 rfl .i64 rfl _ xs rfl HW.out HM.out (by omega) hsz ?_
                 intro v' w2 ho2 hg2
                 have b0 := B0.out.grown hg2 (by simp)
                 have b1 := B1.out.grown hg2 (by simp)
                 have f1' := b1.free
                 have c0' := b0.cell 0
                 have c2' := b0.cell 2
                 have e0' := b1.cell 0
                 have e1' := b1.cell 1
                 have e2' := b1.cell 2
                 simp at c0' c2' e0' e1' e2'
                 have B2 := hid b1
                 have HO := hid ho2
                 have HB2 := hid (hbel.grown hg2 hbel.size (by simp))
                 clear b0 b1 ho2 hg2)
  all_goals
    go_wp2
    refine bodyPost_ret (results_tmp_row rfl _ _ (w.heap.size + 1) 24 _ (0, 0) _ rfl (B2.out.set3 _ _ _) Try.underlying24 rfl Try.infoL6) rfl ?_
    refine ⟨_, rfl, ?_, ?_⟩
    · exact owns_base (ownsRow_setCell_below (ownsRow_setCell_below (ownsRow_setCell_below HO.out (by simp) _) (by simp) _) (by simp) _) (by omega)
    · exact ((HB2.out.setCell (by simp) _).setCell (by simp) _).setCell (by simp) _
end Go.Proofs.Ytdmdpfjnbifegaa
