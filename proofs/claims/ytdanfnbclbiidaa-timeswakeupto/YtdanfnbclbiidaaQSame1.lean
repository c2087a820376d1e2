/-
  What the document's ints, waits return: that there is an answer, and that it is yes where the lists are the same; processes compared.
-/
import Derived.Test.YtdanfnbclbiidaaQEq
import Derived.Test.YtdanfnbclbiidaaWSame
import Derived.BigQuiet
import Derived.Deep.RegionHeld3
namespace Go.Proofs.Ytdanfnbclbiidaa
open Go.RowKit
set_option linter.unusedVariables false

/-- A bool is returned, and it is true where p holds. -/
def IsT (p : Prop) (e : Ending) : Prop := ∃ b, e = .returned (.bool b) ∧ (p → b = true)
theorem IsT.yes (p : Prop) : IsT p (.returned (.bool true)) := ⟨true, rfl, fun _ => rfl⟩
theorem IsT.no {p : Prop} (h : ¬ p) : IsT p (.returned (.bool false)) := ⟨false, rfl, fun hp => absurd hp h⟩

set_option maxRecDepth 100000 in
set_option maxHeartbeats 400000 in
theorem ints_tot (va vb : Value) (xs ys : List Int) (w : World) (ha : Sees w .i64 va xs) (hb : Sees w .i64 vb ys) :
    Calls Try.prog 26 #[va, vb] w fun e w' => IsT (xs = ys) e ∧ Below w.heap.size w w' := by
  obtain ⟨a, ca, rfl, ha1, ha2, hac⟩ := ha.form
  obtain ⟨b, cb, rfl, hb1, hb2, hbc⟩ := hb.form
  unfold maxLen at ha2 hb2
  have HA := hid hac
  have HB := hid hbc
  clear ha hb hac hbc
  by_cases hl : xs.length = ys.length
  · have hlb : ((xs.length : Int) != (ys.length : Int)) = false := by simp [hl]
    have HL := hid hl
    clear hl
    go_enter Try.func26, Try.ntmps26
    go_wp2
    go_loopw [5] (fun i wr => ∃ k : Nat, k ≤ xs.length ∧ i = .int .i64 k ∧ Below w.heap.size w wr) (fun i _ => xs.length - (intOf i).toNat)
    case atStart => exact ⟨0, by omega, rfl, Below.refl _ _⟩
    case round =>
      obtain ⟨k, hk, rfl, hbel⟩ := hrel
      by_cases hlt : k < xs.length
      · have hlt2 : k < ys.length := by rw [← HL.out]; exact hlt
        obtain ⟨b1, o1, rfl, hw1, hc1⟩ := HA.out (by omega)
        obtain ⟨b2, o2, rfl, hw2, hc2⟩ := HB.out (by omega)
        have hx1 : wr.cell? ⟨b1, o1 + k, none⟩ = some (.int .i64 (xs.getD k 0)) := (hbel.cell (by exact hw1)).trans (hc1 k hlt)
        have hx2 : wr.cell? ⟨b2, o2 + k, none⟩ = some (.int .i64 (ys.getD k 0)) := (hbel.cell (by exact hw2)).trans (hc2 k hlt2)
        have HN := hid (show xs.getD k 0 ≠ ys.getD k 0 → ¬ xs = ys from fun h e => h (by rw [e]))
        clear hc1 hc2 HA HB
        generalize xs.getD k 0 = x at *
        generalize ys.getD k 0 = y at *
        by_cases hxy : x = y
        · have hxb : (x != y) = false := by simp [hxy]
          clear hxy HN
          go_wp2
          go_region
          all_goals (try go_wp2)
          all_goals
            go_roundw
            case rel => exact ⟨k + 1, by omega, by go_num, by repeat (first | exact hbel | refine Below.drew ?_)⟩
            case measure => simp [intOf]; omega
        · have hxb : (x != y) = true := by simp [hxy]
          have HXY := hid (HN.out hxy)
          clear hxy HN
          go_wp2
          go_region
          all_goals (try go_wp2)
          all_goals
            go_ret
            exact ⟨IsT.no HXY.out, by repeat (first | exact hbel | refine Below.drew ?_)⟩
      · go_wp2
        go_ret
        exact ⟨IsT.yes _, hbel⟩
  · have hlb : ((xs.length : Int) != (ys.length : Int)) = true := by simp; omega
    have hn : ¬ xs = ys := fun h => hl (by rw [h])
    have HN := hid hn
    clear hl hn
    go_enter Try.func26, Try.ntmps26
    go_wp2
    go_ret
    exact ⟨IsT.no HN.out, Below.refl _ _⟩

theorem eq_int (d : Nat) (x y : Int) (w : World) : (Op.equalIn (d + 1) 3 (.int .i64 x) (.int .i64 y)).run Try.prog w = .ok (x == y) w := by
  simp [Op.equalIn, run_underlying Try.underlying3]
theorem eq_bool (d : Nat) (x y : Bool) (w : World) : (Op.equalIn (d + 1) 4 (.bool x) (.bool y)).run Try.prog w = .ok (x == y) w := by
  simp [Op.equalIn, run_underlying Try.underlying4]
theorem neq_yields {o : Oper} {a : Act} (T U : TypeId) (x y : Operand) (ho : o.op = .binOp .neq T x y U) (xs ys : Array Value) (hx : a.eval x = .agg xs) (hy : a.eval y = .agg ys) (b : Bool) (hn : ∀ w, (Op.equalIn 10000 T (.agg xs) (.agg ys)).run Try.prog w = .ok b w) (hm : Try.prog.eqGuardType Try.prog.depth T = false) (w : World) :
    (execOp a.eval o).run Try.prog w = .ok (.value (.bool (!b))) w := by
  unfold execOp
  simp only [ho, hx, hy, Sem.run_bind, run_eqGuard_agg _ _ _ _ _ _ _ hm, Result.andThen_ok, run_neq_struct, hn]
  rfl

theorem struct_total {P : Program} (d : Nat) (t : TypeId) (xs ys : Array Value) {fs : Array Field} (hu : P.underlying t = some (.struct fs)) (hp : P.stoodInHeld t = false)
    (h : ∀ f ∈ fs.toList, f.name ≠ "_" ∧ ∃ a b r, (∀ w, (part f.type xs f.offset).run P w = .ok a w) ∧ (∀ w, (part f.type ys f.offset).run P w = .ok b w) ∧ (∀ w, (Op.equalIn d f.type a b).run P w = .ok r w) ∧ (xs = ys → r = true)) :
    ∃ r, (∀ w, (Op.equalIn (d + 1) t (.agg xs) (.agg ys)).run P w = .ok r w) ∧ (xs = ys → r = true) := by
  have hf : P.fieldsOf t = fs := by unfold Program.fieldsOf; rw [hu]
  obtain ⟨r, hr, he⟩ := fields_total d xs ys fs.toList h
  exact ⟨r, fun w => by rw [run_equalIn_struct w d t xs ys (by rw [hf]; exact hu) hp, hf]; exact hr w, he⟩

theorem arr4_eq (d : Nat) (w : World) (x0 x1 x2 x3 y0 y1 y2 y3 : Int) : (Op.equalIn (d + 2) 53 (.agg #[.int .i64 x0, .int .i64 x1, .int .i64 x2, .int .i64 x3]) (.agg #[.int .i64 y0, .int .i64 y1, .int .i64 y2, .int .i64 y3])).run Try.prog w = .ok (x0 == y0 && (x1 == y1 && (x2 == y2 && x3 == y3))) w := by
  obtain ⟨i0, hi, hz0, hz1, hz2⟩ := info_parts Try.infoOI
  have hc : Try.prog.cellsOf 3 = 1 := by kernel_rfl
  have hp : ∀ (w : World) (xs : Array Value) (i : Nat) (v : Value), xs[i]? = some v → (part 3 xs i).run Try.prog w = .ok v w := fun w xs i v h => part_one _ Try.underlying3 rfl h w
  have px0 := fun w => hp w #[.int .i64 x0, .int .i64 x1, .int .i64 x2, .int .i64 x3] 0 (.int .i64 x0) rfl
  have px1 := fun w => hp w #[.int .i64 x0, .int .i64 x1, .int .i64 x2, .int .i64 x3] 1 (.int .i64 x1) rfl
  have px2 := fun w => hp w #[.int .i64 x0, .int .i64 x1, .int .i64 x2, .int .i64 x3] 2 (.int .i64 x2) rfl
  have px3 := fun w => hp w #[.int .i64 x0, .int .i64 x1, .int .i64 x2, .int .i64 x3] 3 (.int .i64 x3) rfl
  have py0 := fun w => hp w #[.int .i64 y0, .int .i64 y1, .int .i64 y2, .int .i64 y3] 0 (.int .i64 y0) rfl
  have py1 := fun w => hp w #[.int .i64 y0, .int .i64 y1, .int .i64 y2, .int .i64 y3] 1 (.int .i64 y1) rfl
  have py2 := fun w => hp w #[.int .i64 y0, .int .i64 y1, .int .i64 y2, .int .i64 y3] 2 (.int .i64 y2) rfl
  have py3 := fun w => hp w #[.int .i64 y0, .int .i64 y1, .int .i64 y2, .int .i64 y3] 3 (.int .i64 y3) rfl
  have he := fun x y w => eq_int d x y w
  rw [run_equalIn_array w (d + 1) _ _ Try.underlying53 hi, hc, show List.range 4 = [0, 1, 2, 3] from rfl]
  simp only [Op.eqItems, Sem.run_bind, Nat.mul_one, px0, py0, he, Result.andThen_ok]
  cases (x0 == y0)
  · simp
  simp only [Bool.not_true, Bool.false_eq_true, if_false, Sem.run_bind, px1, py1, he, Result.andThen_ok]
  cases (x1 == y1)
  · simp
  simp only [Bool.not_true, Bool.false_eq_true, if_false, Sem.run_bind, px2, py2, he, Result.andThen_ok]
  cases (x2 == y2)
  · simp
  simp only [Bool.not_true, Bool.false_eq_true, if_false, Sem.run_bind, px3, py3, he, Result.andThen_ok]
  cases (x3 == y3)
  · simp
  · simp

theorem eq_Wt (x y : Wt) : ∃ b, (∀ w, (Op.equalIn 10000 104 (.agg x.cells.toArray) (.agg y.cells.toArray)).run Try.prog w = .ok b w) ∧ (x = y → b = true) := by
  obtain ⟨r, hr, he⟩ := struct_total (P := Try.prog) 9999 104 x.cells.toArray y.cells.toArray Try.underlying104 (by kernel_rfl) (by
    intro f hf
    simp only [List.mem_cons, List.not_mem_nil, or_false] at hf
    rcases hf with rfl | rfl | rfl
    · exact ⟨by decide, _, _, _, part_one _ Try.underlying3 rfl rfl, part_one _ Try.underlying3 rfl rfl, eq_int 9998 x.p y.p, fun h => by have := congrArg (fun a => a[0]?) h; simpa [Wt.cells] using this⟩
    · exact ⟨by decide, _, _, _, part_one _ Try.underlying3 rfl rfl, part_one _ Try.underlying3 rfl rfl, eq_int 9998 x.r y.r, fun h => by have := congrArg (fun a => a[1]?) h; simpa [Wt.cells] using this⟩
    · exact ⟨by decide, _, _, _, part_one _ Try.underlying3 rfl rfl, part_one _ Try.underlying3 rfl rfl, eq_int 9998 x.v y.v, fun h => by have := congrArg (fun a => a[2]?) h; simpa [Wt.cells] using this⟩)
  exact ⟨r, hr, fun h => he (by rw [h])⟩

theorem eq_Sp (x y : Sp) : ∃ b, (∀ w, (Op.equalIn 10000 78 (.agg x.cells.toArray) (.agg y.cells.toArray)).run Try.prog w = .ok b w) ∧ (x = y → b = true) := by
  obtain ⟨r, hr, he⟩ := struct_total (P := Try.prog) 9999 78 x.cells.toArray y.cells.toArray Try.underlying78 (by kernel_rfl) (by
    intro f hf
    simp only [List.mem_cons, List.not_mem_nil, or_false] at hf
    rcases hf with rfl | rfl | rfl
    · exact ⟨by decide, _, _, _, part_one _ Try.underlying4 rfl rfl, part_one _ Try.underlying4 rfl rfl, eq_bool 9998 x.is y.is, fun h => by have := congrArg (fun a => a[0]?) h; simpa [Sp.cells] using this⟩
    · exact ⟨by decide, _, _, _, part_one _ Try.underlying3 rfl rfl, part_one _ Try.underlying3 rfl rfl, eq_int 9998 x.v y.v, fun h => by have := congrArg (fun a => a[1]?) h; simpa [Sp.cells] using this⟩
    · exact ⟨by decide, _, _, _, part_one _ Try.underlying3 rfl rfl, part_one _ Try.underlying3 rfl rfl, eq_int 9998 x.t y.t, fun h => by have := congrArg (fun a => a[2]?) h; simpa [Sp.cells] using this⟩)
  exact ⟨r, hr, fun h => he (by rw [h])⟩

theorem part_row {P : Program} {e : TypeId} {xs : Array Value} {i n : Nat} {d : TypeDesc} (he : P.underlying e = some d) (hd : d.isRow = true) (hi : (P.info? e).map (·.size) = some n) (w : World) : (part e xs i).run P w = .ok (.agg (xs.extract i (i + n))) w := by
  cases hq : P.info? e with
  | none => simp [hq] at hi
  | some j =>
    have hs : j.size = n := by simpa [hq] using hi
    cases d <;> first | (simp [TypeDesc.isRow] at hd; done) | (simp [part, isAgg, run_underlying he, sizeOf, typeInfo, hq, hs]; done)

theorem eq_core (p a b c d q e f g h : Int) : ∃ r, (∀ w, (Op.equalIn 9999 55 (.agg #[.int .i64 p, .int .i64 a, .int .i64 b, .int .i64 c, .int .i64 d]) (.agg #[.int .i64 q, .int .i64 e, .int .i64 f, .int .i64 g, .int .i64 h])).run Try.prog w = .ok r w) ∧ (p = q ∧ a = e ∧ b = f ∧ c = g ∧ d = h → r = true) := by
  obtain ⟨r, hr, he⟩ := struct_total (P := Try.prog) 9998 55 #[.int .i64 p, .int .i64 a, .int .i64 b, .int .i64 c, .int .i64 d] #[.int .i64 q, .int .i64 e, .int .i64 f, .int .i64 g, .int .i64 h] Try.underlying55 (by kernel_rfl) (by
    intro fl hfl
    simp only [List.mem_cons, List.not_mem_nil, or_false] at hfl
    rcases hfl with rfl | rfl
    · exact ⟨by decide, _, _, _, part_one _ Try.underlying3 rfl rfl, part_one _ Try.underlying3 rfl rfl, eq_int 9997 p q, fun h => by have := congrArg (fun a => a[0]?) h; simpa using this⟩
    · exact ⟨by decide, _, _, _, part_row (n := 4) Try.underlying53 rfl (by kernel_rfl), part_row (n := 4) Try.underlying53 rfl (by kernel_rfl), fun w => arr4_eq 9996 w a b c d e f g h, fun hh => by simp at hh; simp [hh]⟩)
  exact ⟨r, hr, fun hh => he (by obtain ⟨rfl, rfl, rfl, rfl, rfl⟩ := hh; rfl)⟩

set_option maxHeartbeats 800000 in
theorem eq_Px (x y : Px) : ∃ b, (∀ w, (Op.equalIn 10000 57 (.agg x.cells.toArray) (.agg y.cells.toArray)).run Try.prog w = .ok b w) ∧ (x = y → b = true) := by
  obtain ⟨rc, hrc, hec⟩ := eq_core x.pc x.r0 x.r1 x.r2 x.r3 y.pc y.r0 y.r1 y.r2 y.r3
  obtain ⟨r, hr, he⟩ := struct_total (P := Try.prog) 9999 57 x.cells.toArray y.cells.toArray Try.underlying57 (by kernel_rfl) (by
    intro f hf
    simp only [List.mem_cons, List.not_mem_nil, or_false] at hf
    rcases hf with rfl | rfl | rfl | rfl | rfl | rfl | rfl | rfl | rfl | rfl | rfl | rfl | rfl | rfl
    · exact ⟨by decide, _, _, _, part_one _ Try.underlying3 rfl rfl, part_one _ Try.underlying3 rfl rfl, eq_int 9998 x.st y.st, fun h => by have := congrArg (fun a => a[0]?) h; simpa [Px.cells] using this⟩
    · exact ⟨by decide, _, _, _, part_one _ Try.underlying3 rfl rfl, part_one _ Try.underlying3 rfl rfl, eq_int 9998 x.pr y.pr, fun h => by have := congrArg (fun a => a[1]?) h; simpa [Px.cells] using this⟩
    · exact ⟨by decide, _, _, _, part_one _ Try.underlying4 rfl rfl, part_one _ Try.underlying4 rfl rfl, eq_bool 9998 x.su y.su, fun h => by have := congrArg (fun a => a[2]?) h; simpa [Px.cells] using this⟩
    · exact ⟨by decide, _, _, rc, part_row (n := 5) Try.underlying55 rfl (by kernel_rfl), part_row (n := 5) Try.underlying55 rfl (by kernel_rfl), hrc, fun h => hec (by have h3 := congrArg (fun a => a[3]?) h; have h4 := congrArg (fun a => a[4]?) h; have h5 := congrArg (fun a => a[5]?) h; have h6 := congrArg (fun a => a[6]?) h; have h7 := congrArg (fun a => a[7]?) h; simp [Px.cells] at h3 h4 h5 h6 h7; exact ⟨h3, h4, h5, h6, h7⟩)⟩
    · exact ⟨by decide, _, _, _, part_one _ Try.underlying3 rfl rfl, part_one _ Try.underlying3 rfl rfl, eq_int 9998 x.si y.si, fun h => by have := congrArg (fun a => a[8]?) h; simpa [Px.cells] using this⟩
    · exact ⟨by decide, _, _, _, part_one _ Try.underlying3 rfl rfl, part_one _ Try.underlying3 rfl rfl, eq_int 9998 x.un y.un, fun h => by have := congrArg (fun a => a[9]?) h; simpa [Px.cells] using this⟩
    · exact ⟨by decide, _, _, _, part_one _ Try.underlying3 rfl rfl, part_one _ Try.underlying3 rfl rfl, eq_int 9998 x.ki y.ki, fun h => by have := congrArg (fun a => a[10]?) h; simpa [Px.cells] using this⟩
    · exact ⟨by decide, _, _, _, part_one _ Try.underlying3 rfl rfl, part_one _ Try.underlying3 rfl rfl, eq_int 9998 x.ob y.ob, fun h => by have := congrArg (fun a => a[11]?) h; simpa [Px.cells] using this⟩
    · exact ⟨by decide, _, _, _, part_one _ Try.underlying3 rfl rfl, part_one _ Try.underlying3 rfl rfl, eq_int 9998 x.du y.du, fun h => by have := congrArg (fun a => a[12]?) h; simpa [Px.cells] using this⟩
    · exact ⟨by decide, _, _, _, part_one _ Try.underlying3 rfl rfl, part_one _ Try.underlying3 rfl rfl, eq_int 9998 x.ne y.ne, fun h => by have := congrArg (fun a => a[13]?) h; simpa [Px.cells] using this⟩
    · exact ⟨by decide, _, _, _, part_one _ Try.underlying4 rfl rfl, part_one _ Try.underlying4 rfl rfl, eq_bool 9998 x.pe y.pe, fun h => by have := congrArg (fun a => a[14]?) h; simpa [Px.cells] using this⟩
    · exact ⟨by decide, _, _, _, part_one _ Try.underlying3 rfl rfl, part_one _ Try.underlying3 rfl rfl, eq_int 9998 x.co y.co, fun h => by have := congrArg (fun a => a[15]?) h; simpa [Px.cells] using this⟩
    · exact ⟨by decide, _, _, _, part_one _ Try.underlying3 rfl rfl, part_one _ Try.underlying3 rfl rfl, eq_int 9998 x.va y.va, fun h => by have := congrArg (fun a => a[16]?) h; simpa [Px.cells] using this⟩
    · exact ⟨by decide, _, _, _, part_one _ Try.underlying3 rfl rfl, part_one _ Try.underlying3 rfl rfl, eq_int 9998 x.ca y.ca, fun h => by have := congrArg (fun a => a[17]?) h; simpa [Px.cells] using this⟩)
  exact ⟨r, hr, fun h => he (by rw [h])⟩

end Go.Proofs.Ytdanfnbclbiidaa
