/-
  The processes that are told by a function, gone through one by one: what times.those hands to its rounds.
-/
import Derived.Test.YtdanfnbclbiidaaUDo
import Derived.TacticsInMore
import Derived.OwnWalkIn
import Derived.LoopNIn
import Derived.LoopIn
import Derived.WalkKit
namespace Go.Proofs.Ytdanfnbclbiidaa
open Go.RowKit
set_option linter.unusedVariables false

theorem oper_wide {P : Program} {o : Oper} {a : Act} {w : World} {K : Act → World → Prop} {Q : Exit → Act → World → Prop} (hd : noDefer o = true) (h : o.wp P a w K Q) : o.wpIn Fence.wide 0 P a w K Q := by
  refine ⟨fun _ _ => trivial, ?_⟩
  rw [show Oper.semAt Fence.wide.round a.eval o = execOp a.eval o from by simp [Oper.semAt]]
  unfold Oper.wp at h
  generalize (execOp a.eval o).run P w = r at h ⊢
  cases r with
  | ok n w' =>
    cases n with
    | enter f args => exact ⟨fun hs => (by cases hs), callsIn_wide.2 h⟩
    | row rw' args => exact ⟨fun hs => (by cases hs), fun c cs _ => let ⟨v, w'', r, s⟩ := h c cs; ⟨v, w'', r, stepsIn_wide.2 s⟩⟩
    | round _ _ _ _ _ => exact h.elim
    | _ => exact h
  | halt x w' => cases x <;> exact h
theorem in_plain {P : Program} {ops : Array Oper} {rest : List Oper} {o : Oper} {a : Act} {w : World} {Q : Exit → Act → World → Prop} (hg : o.guard = none) (hd : noDefer o = true)
    (h : ∀ K : Act → World → Prop, (∀ a w, wpListIn Fence.wide 0 P ops Q rest a w → K a w) → o.wp P a w K Q) : wpListIn Fence.wide 0 P ops Q (o :: rest) a w :=
  wpListIn_plain hg fun K hK => oper_wide hd (h K hK)
theorem in_yields {P : Program} {ops : Array Oper} {rest : List Oper} {o : Oper} {a : Act} {w w' : World} {Q : Exit → Act → World → Prop} {v : Value} (hw : Region.wanted o (yielded ops a.tmps) = true) (hd : noDefer o = true)
    (hy : (execOp a.eval o).run P w = .ok (.value v) w') (h : wpListIn Fence.wide 0 P ops Q rest (a.put o.dst v) w') : wpListIn Fence.wide 0 P ops Q (o :: rest) a w := by
  unfold wpListIn
  rw [if_pos hw]
  refine oper_wide hd ?_
  unfold Oper.wp
  rw [hy]
  exact h
/-- A new box of nothing. -/
theorem wp_new {P : Program} {o : Oper} {a : Act} {w : World} {K : Act → World → Prop} {Q : Exit → Act → World → Prop} (T : TypeId) (ho : o.op = .alloc T) (cs : Array Value) (hz : (P.info? T).bind (·.zero) = some (.agg cs))
    (h : ∀ w', BoxAt w' w.heap.size T cs → Below w.heap.size w w' → w'.heap.size = w.heap.size + 1 → K (a.put o.dst (.pointer (some ⟨w.heap.size, 0, none⟩))) w') : Oper.wp P o a w K Q := by
  cases hq : P.info? T with
  | none => simp [hq] at hz
  | some i =>
    have hz' : i.zero = some (.agg cs) := by simpa [hq] using hz
    have hzr : (zeroValue T).run P w = .ok (.agg cs) w := by
      unfold zeroValue
      simp [typeInfo, hq, hz']
    unfold Oper.wp execOp
    simp only [ho, Instr.alloc, hzr, Sem.run_bind, newVar, newRow, run_newObj_alloc, Sem.run_pure, Result.andThen_ok]
    exact h _ (BoxAt.new w T cs) ((Below.refl _ w).alloc (Nat.le_refl _) _) (by simp)

set_option maxRecDepth 100000 in
set_option maxHeartbeats 3200000 in
theorem iter_any (l B1 B2 n cap gw : Nat) (a : Option Addr) (caps : Array Value) (X : Nat → Px) (b : Nat → Bool) (J : Nat → World → Prop)
    (eg : ∀ args w, (callFunc gw args).run Try.prog w = .ok (.enter gw args) w) (hn : n ≤ 9223372036854775807)
    (h1 : ∀ k W, J k W → BoxAt W B1 29 #[.slice a n cap]) (h2 : ∀ k W, J k W → BoxAt W B2 81 #[.func (.func gw) #[] caps])
    (h3 : ∀ k W, k < n → J k W → ∃ g o, a = some ⟨g, o, none⟩ ∧ PxAt W g (o + k * 18) (X k))
    (hw : ∀ k W, k < n → J k W → Calls Try.prog gw (#[(X k).val] ++ caps) W fun e W' => e = .returned (.bool (b k)) ∧ Below W.heap.size W W')
    (hJb : ∀ k W W', J k W → Below W.heap.size W W' → J k W') (hJs : ∀ k W, k < n → b k = false → J k W → J (k + 1) W)
    (hY : ∀ k W, k < n → b k = true → J k W → YieldAt Fence.wide 0 Try.prog l #[.int .i64 (k : Nat), (X k).val] W fun e W' => e = .returned (.bool true) ∧ J (k + 1) W') (W : World) (h0 : J 0 W) :
    CallsIn Fence.wide 0 Try.prog 51 #[.func (.yield l) #[] #[], .pointer (some ⟨B1, 0, none⟩), .pointer (some ⟨B2, 0, none⟩)] W fun e W' => (∃ v, e = .returned v) ∧ J n W' := by
  have H1 := hid h1
  have H2 := hid h2
  have H3 := hid h3
  have HW := hid hw
  have HJb := hid hJb
  have HJs := hid hJs
  have HY := hid hY
  have c1 : W.cell? ⟨B1, 0, none⟩ = some (.slice a n cap) := ((h1 0 W h0).cell 0).trans rfl
  have HJ := hid h0
  clear h1 h2 h3 hw hJb hJs hY h0
  refine callsIn_of_wp Try.func51 rfl trivial ?_ rfl
  simp only [Try.ntmps51, List.size_toArray, List.length_cons, List.length_nil, Nat.reduceAdd, Nat.reduceSub, Array.replicate_succ, Array.replicate_zero, List.push_toArray, List.append_toArray, List.nil_append, List.cons_append]
  gi_wp2
  gi_loopw [8] (fun i wr => ∃ k : Nat, k ≤ n ∧ i = .int .i64 k ∧ Hid (J k wr)) (fun i _ => n - (intOf i).toNat)
  case atStart => exact ⟨0, Nat.zero_le _, rfl, HJ⟩
  case round =>
    clear c1 HJ
    obtain ⟨k, hk, rfl, HJ⟩ := hrel
    by_cases hlt : k < n
    · obtain ⟨g, o, ha, hx⟩ := H3.out k wr hlt HJ.out
      have HX := hid hx
      subst ha
      have HB := hid (Below.refl wr.heap.size wr)
      have HK := hid hlt
      have hgl : g < wr.heap.size := World.block_lt_of_cell? wr _ hx.st
      clear hx
      gi_wp2_with (first
        | (refine in_yields rfl rfl (px_yields _ rfl g (o + k * 18) rfl (X k) HX.out) ?_)
        | (refine in_plain rfl rfl (fun K hK => wp_new 57 rfl _ Try.zeroPx ?_)
           intro v1 b1 hb1 z1
           have OB := hid b1
           have HB := hid (HB.out.trans (hb1.mono HB.out.size))
           have hs1 : wr.heap.size + 1 ≤ v1.heap.size := by omega
           clear b1 hb1 z1
           refine hK _ _ ?_)
        | (refine in_plain rfl rfl (fun K hK => wp_store_whole 57 _ _ rfl wr.heap.size rfl (Px.cells (X k)) rfl _ _ OB.out rfl Try.infoPx (Px.one _) ?_)
           intro v2 b2 g2 z2
           have OB := hid b2
           have HB := hid (HB.out.trans (grown_below g2 (Nat.le_refl _) (by omega)))
           have hs2 : wr.heap.size + 1 ≤ v2.heap.size := by omega
           have HJ2 := hid (HJb.out k wr v2 HJ.out HB.out)
           have c2 : v2.cell? ⟨B2, 0, none⟩ = some (.func (.func gw) #[] caps) := ((H2.out k v2 HJ2.out).cell 0).trans rfl
           clear b2 g2 z2
           refine hK _ _ ?_)
        | (refine in_yields rfl rfl (box_yields 57 _ rfl wr.heap.size rfl (Px.cells (X k)) _ _ Try.underlying57 Try.infoPx OB.out) ?_)
        | fail)
      refine ⟨trivial, rfl, (callsIn_wide.2 (HW.out k v2 HK.out HJ2.out)).mono ?_⟩
      rintro e v3 ⟨rfl, hb3⟩
      have OB := hid (OB.out.belowAll hb3)
      have HJ3 := hid (HJb.out k v2 v3 HJ2.out hb3)
      clear hb3 c2 HB HX HJ2
      rcases hbk : b k
      · have HJ4 := hid (HJs.out k v3 HK.out hbk HJ3.out)
        clear HJ3 HJ hbk
        gi_wp2
        refine ⟨fun _ h => (by cases h), ?_⟩
        gi_wp2
        go_roundw
        case rel => exact ⟨k + 1, by have := HK.out; omega, by go_num, HJ4⟩
        case measure => have := HK.out; simp [intOf]; omega
      · obtain ⟨fn, tmps, assign, body, hy, hR⟩ := HY.out k v3 HK.out hbk HJ3.out
        have HR := hid hR
        have hy2 : (Instr.yield l #[.int .i64 (k : Nat), .agg (X k).cells.toArray]).run Try.prog v3 = .ok (.round l fn tmps assign body) v3 := hy
        clear HJ3 HJ hbk hR hy
        gi_wp2_with (first
          | (refine in_yields rfl rfl (box_yields 57 _ rfl wr.heap.size rfl (Px.cells (X k)) _ _ Try.underlying57 Try.infoPx OB.out) ?_)
          | fail)
        refine ⟨rfl, ?_⟩
        refine HR.out.mono ?_
        rintro e v4 ⟨rfl, hJ⟩
        have HJ5 := hid hJ
        clear hJ HR hy2 OB
        gi_wp2
        go_roundw
        case rel => exact ⟨k + 1, by have := HK.out; omega, by go_num, HJ5⟩
        case measure => have := HK.out; simp [intOf]; omega
    · obtain rfl : k = n := by omega
      gi_wp2
      go_end0
      exact ⟨⟨_, rfl⟩, HJ.out⟩
end Go.Proofs.Ytdanfnbclbiidaa
