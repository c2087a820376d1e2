/-
  What slices.IndexFunc, slices.DeleteFunc return at lists of waits; what strikes some of them out of a list.
-/
import Derived.Test.YtdanfnbclbiidaaQClone
import Derived.Test.YtdanfnbclbiidaaQMath
import Derived.Shelf.Abstract
import Derived.Lib.SliceRun
namespace Go.Proofs.Ytdanfnbclbiidaa
open Go.RowKit
set_option linter.unusedVariables false

/-- What tells of a wait whether it goes. -/
def TellsW (gl : Nat) (cs : Array Value) (f : Wt → Bool) (B : Nat) (w : World) : Prop :=
  ∀ W, Below B w W → ∀ x : Wt, Calls Try.prog gl (#[x.val] ++ cs) W fun e w' => e = .returned (.bool (f x)) ∧ Below W.heap.size W w'
theorem TellsW.on {gl : Nat} {cs : Array Value} {f : Wt → Bool} {B : Nat} {w w1 : World} (h : TellsW gl cs f B w) (hb : Below B w w1) : TellsW gl cs f B w1 := fun W hW x => h W (hb.trans hW) x
theorem TellsW.mono {gl : Nat} {cs : Array Value} {f : Wt → Bool} {B B' : Nat} {w : World} (h : TellsW gl cs f B w) (hb : B ≤ B') : TellsW gl cs f B' w := fun W hW x => h W (hW.mono hb) x

set_option maxRecDepth 100000 in
set_option maxHeartbeats 800000 in
theorem index_Wt {v : Value} {l : List Wt} {w : World} (gl : Nat) (cs : Array Value) (f : Wt → Bool) (eg : ∀ args w, (callFunc gl args).run Try.prog w = .ok (.enter gl args) w) (hv : SeesWt w v l) (hlen : l.length ≤ 900000) (hp : TellsW gl cs f w.heap.size w) :
    Calls Try.prog 79 #[v, .func (.func gl) #[] cs] w fun e w' => ∃ r : Int, e = .returned (.int .i64 r) ∧ Below w.heap.size w w' ∧
      ((r = -1 ∧ ∀ j, j < l.length → f (l.getD j Wt.zero) = false) ∨ ∃ k : Nat, r = (k : Int) ∧ k < l.length ∧ f (l.getD k Wt.zero) = true ∧ ∀ j, j < k → f (l.getD j Wt.zero) = false) := by
  obtain ⟨al, cl, rfl, hl1, hl2, hlc⟩ := hv.form
  unfold maxLen at hl2
  have HC := hid hlc
  have HP := hid hp
  clear hlc hv hp
  go_enter Try.func79, Try.ntmps79
  go_wp2
  go_loopw [8] (fun t wc => ∃ i : Nat, i ≤ l.length ∧ t = .int .i64 i ∧ (∀ j, j < i → f (l.getD j Wt.zero) = false) ∧ Below w.heap.size w wc) (fun t _ => l.length - (intOf t).toNat)
  case atStart => exact ⟨0, by omega, rfl, by intro j hj; omega, Below.refl _ _⟩
  case round =>
    obtain ⟨i, hi, rfl, hgood, hbel⟩ := hrel
    have HG := hid hgood
    clear hgood
    by_cases hlt : i < l.length
    · obtain ⟨b, off, rfl, hbw, hcell⟩ := HC.out (by omega)
      have c0 := (hbel.cell (by exact hbw)).trans (hcell i hlt 0 (by decide))
      have c1 := (hbel.cell (by exact hbw)).trans (hcell i hlt 1 (by decide))
      have c2 := (hbel.cell (by exact hbw)).trans (hcell i hlt 2 (by decide))
      have HPi := hid (HP.out wr hbel (l.getD i Wt.zero))
      obtain ⟨R, hR⟩ : ∃ b, f (l.getD i Wt.zero) = b := ⟨_, rfl⟩
      rw [hR] at HPi
      have HR := hid hR
      clear hcell HC HP hR
      obtain ⟨r, hr⟩ : ∃ r, l.getD i Wt.zero = r := ⟨_, rfl⟩
      rw [hr] at c0 c1 c2 HPi
      clear hr
      obtain ⟨x0, x1, x2⟩ := r
      simp only [Wt.cells, List.getD_cons_zero, List.getD_cons_succ, Nat.add_zero] at c0 c1 c2
      go_wp2_with fail
      refine HPi.out.mono ?_
      rintro e w2 ⟨rfl, hb2⟩
      have hB2 : Below w.heap.size w w2 := hbel.trans (hb2.mono hbel.size)
      clear hb2 c0 c1 c2 HPi
      rcases R with _ | _
      · go_wp2
        go_roundw
        case rel =>
          refine ⟨i + 1, by omega, by go_num, fun j hj => ?_, hB2⟩
          by_cases e : j = i
          · subst e; exact HR.out
          · exact HG.out j (by omega)
        case measure => simp [intOf]; omega
      · go_wp2
        go_ret
        exact ⟨_, rfl, hB2, .inr ⟨i, rfl, hlt, HR.out, HG.out⟩⟩
    · go_wp2
      go_ret
      exact ⟨_, rfl, hbel, .inl ⟨rfl, fun j hj => HG.out j (by omega)⟩⟩
theorem owns_prefix {w : World} {base : Nat} {e : TypeId} {c g n cap : Nat} {xs : List Value} (h : w.ownsRow base e c (.slice (some ⟨g, 0, none⟩) n cap) n xs) (m : Nat) (hm : m ≤ n) : w.ownsRow base e c (.slice (some ⟨g, 0, none⟩) m cap) m (xs.take (m * c)) := by
  have hmc : m * c ≤ n * c := Nat.mul_le_mul_right c hm
  refine ⟨by rw [List.length_take, h.1]; omega, ?_⟩
  rcases h.2 with ⟨h', _⟩ | ⟨g', cap', cur, h', hb, hg, hnc, hcm, hs, ht⟩
  · simp at h'
  · simp only [Value.slice.injEq, Option.some.injEq, Addr.mk.injEq, and_true, true_and] at h'
    obtain ⟨rfl, rfl⟩ := h'
    refine .inr ⟨g, cap, cur, rfl, hb, hg, by omega, hcm, hs, ?_⟩
    rw [← ht, List.take_take, Nat.min_eq_left hmc]
theorem owns_beyond {base : Nat} {e : TypeId} {c g n cap : Nat} {xs : List Value} : ∀ (vs : List Value) (o : Nat) (w : World), xs.length ≤ o → w.ownsRow base e c (.slice (some ⟨g, 0, none⟩) n cap) n xs → (w.setCells g o vs).ownsRow base e c (.slice (some ⟨g, 0, none⟩) n cap) n xs
  | [], _, _, _, h => h
  | v :: vs, o, w, ho, h => by
    have h1 := (h.stored o v).1
    rw [List.set_eq_of_length_le ho] at h1
    exact owns_beyond vs (o + 1) _ (by omega) h1

/-- 'clear' of a list of waits. -/
theorem run_clear_Wt (w : World) (ty : TypeId) (b o n c : Nat) (hn : 0 < n) (hc : ∀ j, j < n * 3 → (w.cell? ⟨b, o + j, none⟩).isSome = true) (hf : ∀ j, j < n * 3 → w.frozen? ⟨b, o + j, none⟩ = false) :
    (Builtin.clear_ #[65] ty #[.slice (some ⟨b, o, none⟩) n c]).run Try.prog w = .ok (.tuple #[]) (w.setCells b o (List.replicate (n * 3) (.int .i64 0))) := by
  obtain ⟨i0, hi, hz0, hz1, hz2⟩ := info_parts Try.infoOWt
  have hv : ∀ w, (zeroValue 104).run Try.prog w = .ok (.agg Wt.zero.cells.toArray) w := fun w => by
    unfold zeroValue
    simp [typeInfo, hi, hz0]
  have hzc : (Builtin.zeroCells (Value.agg Wt.zero.cells.toArray).cells n).toList = List.replicate (n * 3) (.int .i64 0) := by
    simp only [Builtin.zeroCells, Wt.zero, Wt.cells, Value.cells]
    apply List.ext_getElem
    · simp
    · intro i h1 h2
      have h3 : i % 3 = 0 ∨ i % 3 = 1 ∨ i % 3 = 2 := by omega
      rcases h3 with h3 | h3 | h3 <;> simp [h3]
  have hst := run_storeCells_cells (P := Try.prog) b o (List.replicate (n * 3) (.int .i64 0)) 0 w (by simpa using hc) (by simpa using hf) (by intro v hv'; rw [List.eq_of_mem_replicate hv']; rfl)
  simp only [Nat.add_zero] at hst
  obtain ⟨m, rfl⟩ : ∃ m, n = m + 1 := ⟨n - 1, by omega⟩
  simp [Builtin.clear_, run_underlying Try.underlying65, hv, hzc, hst]

theorem filt_gone {f : Wt → Bool} {x : Wt} (h : f x = true) : [x].filter (fun x => !f x) = [] := by simp [h]
theorem filt_stay {f : Wt → Bool} {x : Wt} (h : f x = false) : [x].filter (fun x => !f x) = [x] := by simp [h]

/-- A list of which the first j were asked: the first i are who stays. -/
structure Kept (f : Wt → Bool) (l C : List Wt) (j i : Nat) : Prop where
  len : C.length = l.length
  lt : i < j
  le : j ≤ l.length
  low : C.take i = (l.take j).filter (fun x => !f x)
  high : C.drop j = l.drop j
theorem Kept.start {f : Wt → Bool} {l : List Wt} {k : Nat} (hk : k < l.length) (ht : f (l.getD k Wt.zero) = true) (hb : ∀ j, j < k → f (l.getD j Wt.zero) = false) : Kept f l l (k + 1) k := by
  refine ⟨rfl, by omega, by omega, ?_, rfl⟩
  have h1 : l.take (k + 1) = l.take k ++ [l.getD k Wt.zero] := by rw [List.take_add_one, List.getElem?_eq_getElem hk]; simp [List.getD, List.getElem?_eq_getElem hk]
  rw [h1, List.filter_append]
  have h2 : (l.take k).filter (fun x => !f x) = l.take k := by
    rw [List.filter_eq_self]
    intro x hx
    obtain ⟨j, hj, rfl⟩ := List.mem_iff_getElem.1 hx
    have hj' : j < k := by simp at hj; omega
    have := hb j hj'
    simp [List.getD, List.getElem?_eq_getElem (show j < l.length by omega)] at this
    simp [this]
  rw [h2, filt_gone ht, List.append_nil]
theorem Kept.get {f : Wt → Bool} {l C : List Wt} {j i : Nat} (h : Kept f l C j i) (hj : j < l.length) : C.getD j Wt.zero = l.getD j Wt.zero := by
  have h1 : C[j]? = l[j]? := by
    have := congrArg (fun x => x[0]?) h.high
    simpa using this
  simp [List.getD, h1]
theorem Kept.snoc {l : List Wt} {j : Nat} (hj : j < l.length) : l.take (j + 1) = l.take j ++ [l.getD j Wt.zero] := by
  rw [List.take_add_one, List.getElem?_eq_getElem hj]; simp [List.getD, List.getElem?_eq_getElem hj]
theorem Kept.skip {f : Wt → Bool} {l C : List Wt} {j i : Nat} (h : Kept f l C j i) (hj : j < l.length) (hf : f (l.getD j Wt.zero) = true) : Kept f l C (j + 1) i := by
  refine ⟨h.len, by have := h.lt; omega, hj, ?_, ?_⟩
  · rw [Kept.snoc hj, List.filter_append, h.low, filt_gone hf, List.append_nil]
  · have := congrArg (fun x => x.drop 1) h.high
    simpa using this
theorem Kept.keep {f : Wt → Bool} {l C : List Wt} {j i : Nat} (h : Kept f l C j i) (hj : j < l.length) (hf : f (l.getD j Wt.zero) = false) : Kept f l (C.set i (l.getD j Wt.zero)) (j + 1) (i + 1) := by
  have hlt := h.lt
  have hlen := h.len
  refine ⟨by simpa using h.len, by omega, hj, ?_, ?_⟩
  · rw [Kept.snoc hj, List.filter_append, ← h.low, List.take_add_one, List.getElem?_set_self (by omega), List.take_set_of_le (Nat.le_refl _), filt_stay hf]
    rfl
  · rw [List.drop_set_of_lt (by omega)]
    have := congrArg (fun x => x.drop 1) h.high
    simpa using this

theorem wpList_store_el {ops : Array Oper} {rest : List Oper} {o : Oper} {a : Act} {w : World} {Q : Exit → Act → World → Prop} (hgd : o.guard = none) (T : TypeId) (x y : Operand) (ho : o.op = .store T x y) (hd : o.dst = none)
    {base c g n cap : Nat} {es : List (List Value)} (hown : w.ownsRow base T c (.slice (some ⟨g, 0, none⟩) n cap) n es.flatten) (hl : ∀ x ∈ es, x.length = c) (i : Nat) (hi : i < es.length) (vs : List Value) (hx : a.eval x = .pointer (some ⟨g, i * c, none⟩)) (hy : a.eval y = .agg vs.toArray) (hv : vs.length = c) (hinf : (Try.prog.info? T).map (·.size) = some c) (h1 : ∀ v ∈ vs, v.oneCell' = true)
    (h : ∀ w', w'.ownsRow base T c (.slice (some ⟨g, 0, none⟩) n cap) n (es.set i vs).flatten → w.grownBy w' (some g) → w'.heap.size = w.heap.size → wpList Try.prog ops Q rest a w') : wpList Try.prog ops Q (o :: rest) a w := by
  refine wpList_store_mid hgd T x y ho g (i * c) vs.toArray hx hy (by simpa [hv] using row_there i hl hi hown) (by simpa [hv] using hinf) (all_oneCell_toArray h1) ?_
  rw [hd]
  exact h _ (row_sets i vs hl hi hv hown) (grown_sets g _ _ _) (size_sets g _ _ _)

set_option maxRecDepth 100000 in
set_option maxHeartbeats 1600000 in
theorem delete_Wt {v : Value} {l : List Wt} {w : World} {B : Nat} (gl : Nat) (cs : Array Value) (f : Wt → Bool) (eg : ∀ args w, (callFunc gl args).run Try.prog w = .ok (.enter gl args) w) (hv : OWt w B v l) (hB : B ≤ w.heap.size) (hlen : l.length ≤ 900000) (hp : TellsW gl cs f B w) :
    Calls Try.prog 62 #[v, .func (.func gl) #[] cs] w fun e w' => ∃ u, e = .returned u ∧ OWt w' B u (l.filter fun x => !f x) ∧ Below B w w' := by
  have HI := hid (index_Wt gl cs f eg hv.sees hlen (hp.mono hB))
  have HV := hid hv
  have HP := hid hp
  have hm1 := hid (show ∀ k : Nat, ((k : Int) == -1) = false from fun k => beq_eq_false_iff_ne.2 (by omega))
  have hm0 : ((-1 : Int) == -1) = true := rfl
  rcases Nat.eq_zero_or_pos l.length with h0 | h0
  · have hl0 : l = [] := List.eq_nil_of_length_eq_zero h0
    subst hl0
    obtain ⟨al, cl, rfl, _, _, _⟩ := hv.sees.form
    clear hv hp
    go_enter Try.func62, Try.ntmps62
    go_wp2_with fail
    refine HI.out.mono ?_
    rintro e w1 ⟨r, rfl, hb, hr⟩
    rcases hr with ⟨rfl, _⟩ | ⟨k, _, hk, _⟩
    · go_wp2
      go_ret
      exact ⟨_, rfl, by simpa using HV.out.below hb, hb.mono hB⟩
    · simp at hk
  · obtain ⟨g, cap, rfl, hg1, hg2, hg3, hg4⟩ := owns_formQ hv h0
    clear hv hp
    go_enter Try.func62, Try.ntmps62
    go_wp2_with fail
    refine HI.out.mono ?_
    rintro e w1 ⟨r, rfl, hb, hr⟩
    have HV1 := hid (HV.out.below hb)
    have hb1 := hb.mono hB
    clear HV HI
    rcases hr with ⟨rfl, hall⟩ | ⟨k, rfl, hk, ht, hall⟩
    · have HA := hid hall
      clear hall
      go_wp2
      go_ret
      refine ⟨_, rfl, ?_, hb1⟩
      have hf : l.filter (fun x => !f x) = l := by
        rw [List.filter_eq_self]
        intro x hx
        obtain ⟨j, hj, rfl⟩ := List.mem_iff_getElem.1 hx
        have := HA.out j hj
        simp [List.getD, List.getElem?_eq_getElem hj] at this
        simp [this]
      rw [hf]
      exact HV1.out
    · have HK := hid (Kept.start hk ht hall)
      have hmk := hm1.out k
      clear ht hall
      go_wp2
      go_loopw [5, 6] (fun s t wc => ∃ (i j : Nat) (C : List Wt), s = .int .i64 i ∧ t = .int .i64 j ∧ Hid (Kept f l C j i) ∧ Hid (wc.ownsRow B 104 3 (.slice (some ⟨g, 0, none⟩) l.length cap) l.length (C.map Wt.cells).flatten) ∧ Below B w wc ∧ g < wc.heap.size) (fun _ t _ => l.length - (intOf t).toNat)
      case atStart => exact ⟨k, k + 1, l, rfl, by go_num, HK, HV1, hb1, by have := hb.size; omega⟩
      case round =>
        clear HV1 HK
        obtain ⟨i, j, C, rfl, rfl, HK, HO, hbel, hgw⟩ := hrel
        have hij := HK.out.lt
        have hjl := HK.out.le
        have hcl := HK.out.len
        have hsz := hbel.size
        by_cases hlt : j < l.length
        · have c0 : wr.cell? ⟨g, j * 3, none⟩ = some (((C.map Wt.cells).getD j []).getD 0 .nilIface) := (HO.out.cellAt (j * 3 + 0) (by omega)).trans (flat_get 3 _ (lensWt C) j 0 (by simp; omega) (by decide))
          have c1 : wr.cell? ⟨g, j * 3 + 1, none⟩ = some (((C.map Wt.cells).getD j []).getD 1 .nilIface) := (HO.out.cellAt (j * 3 + 1) (by omega)).trans (flat_get 3 _ (lensWt C) j 1 (by simp; omega) (by decide))
          have c2 : wr.cell? ⟨g, j * 3 + 2, none⟩ = some (((C.map Wt.cells).getD j []).getD 2 .nilIface) := (HO.out.cellAt (j * 3 + 2) (by omega)).trans (flat_get 3 _ (lensWt C) j 2 (by simp; omega) (by decide))
          rw [cells_getDWt C j (by omega), HK.out.get hlt] at c0 c1 c2
          have HKs := hid (HK.out.skip hlt)
          have HKk := hid (HK.out.keep hlt)
          have HPi := hid (HP.out (wr.alloc (.cells (l.getD j Wt.zero).cells.toArray 104)) (hbel.alloc (by omega) _) (l.getD j Wt.zero))
          obtain ⟨R, hR⟩ : ∃ b, f (l.getD j Wt.zero) = b := ⟨_, rfl⟩
          rw [hR] at HPi HKs HKk
          clear HP hR HK
          generalize l.getD j Wt.zero = r at *
          obtain ⟨x0, x1, x2⟩ := r
          simp only [Wt.cells, List.getD_cons_zero, List.getD_cons_succ] at c0 c1 c2
          go_wp2_with fail
          refine HPi.out.mono ?_
          rintro e w2 ⟨rfl, hb2⟩
          have hB2 : Below B w w2 := (hbel.alloc (by omega) _).trans (hb2.mono (by simp; omega))
          have b2 : BoxAt w2 wr.heap.size 104 #[.int .i64 x0, .int .i64 x1, .int .i64 x2] := (BoxAt.new wr _ _).below hb2 (by simp)
          have k0 : w2.cell? ⟨wr.heap.size, 0, none⟩ = some (.int .i64 x0) := (b2.cell 0).trans rfl
          have k1 : w2.cell? ⟨wr.heap.size, 1, none⟩ = some (.int .i64 x1) := (b2.cell 1).trans rfl
          have k2 : w2.cell? ⟨wr.heap.size, 2, none⟩ = some (.int .i64 x2) := (b2.cell 2).trans rfl
          have HO2 := hid (owns_below HO.out (((Below.refl wr.heap.size wr).alloc (Nat.le_refl _) (.cells #[.int .i64 x0, .int .i64 x1, .int .i64 x2] 104)).trans (hb2.mono (by simp))))
          have hg2' : g < w2.heap.size := by have := hb2.size; simp at this; omega
          clear hb2 c0 c1 c2 HPi HO b2
          rcases R with _ | _
          · have HK2 := hid (HKk.out rfl)
            clear HKs HKk
            go_wp2_with (
              (refine wpList_store_el rfl 104 _ _ rfl rfl HO2.out (lensWt C) i (by simp; omega) [.int .i64 x0, .int .i64 x1, .int .i64 x2] rfl rfl rfl (by kernel_rfl) (by simp [Value.oneCell']) ?_
               intro w3 ho3 hgr3 hz3
               have hw3 : Below B w w3 := hB2.trans (grown_below hgr3 hg1 (by omega))
               have HO3 := hid ho3
               clear ho3 hgr3))
            go_roundw
            case rel =>
              refine ⟨i + 1, j + 1, C.set i ⟨x0, x1, x2⟩, by go_num, by go_num, HK2, hid ?_, hw3, by omega⟩
              rw [List.map_set]
              exact HO3.out
            case measure => simp [intOf]; omega
          · have HK2 := hid (HKs.out rfl)
            clear HKs HKk
            go_wp2
            go_roundw
            case rel => exact ⟨i, j + 1, C, rfl, by go_num, HK2, HO2, hB2, hg2'⟩
            case measure => simp [intOf]; omega
        · have hje : j = l.length := by omega
          subst hje
          clear HP
          have hcell : ∀ t, t < (l.length - i) * 3 → (wr.cell? ⟨g, i * 3 + t, none⟩).isSome = true := fun t ht => by
            rw [HO.out.cellAt (i * 3 + t) (by omega)]
            simp only [List.getElem?_eq_getElem (show i * 3 + t < ((C.map Wt.cells).flatten).length by rw [flatWt]; omega), Option.isSome_some]
          have hclr : ∀ ty, (Builtin.clear_ #[65] ty #[.slice (some ⟨g, i * 3, none⟩) (l.length - i) (cap - i)]).run Try.prog wr = .ok (.tuple #[]) (wr.setCells g (i * 3) (List.replicate ((l.length - i) * 3) (.int .i64 0))) :=
            fun ty => run_clear_Wt wr ty g (i * 3) (l.length - i) (cap - i) (by omega) hcell (fun t ht => HO.out.frozenAt _)
          have HF := hid (show OWt (wr.setCells g (i * 3) (List.replicate ((l.length - i) * 3) (.int .i64 0))) B (.slice (some ⟨g, 0, none⟩) i cap) (l.filter fun x => !f x) by
            have h1 := owns_prefix HO.out i (by omega)
            have h2 : ((C.map Wt.cells).flatten).take (i * 3) = ((C.take i).map Wt.cells).flatten := by
              conv => lhs; rw [← List.take_append_drop i C, List.map_append, List.flatten_append]
              rw [List.take_append_of_le_length (by rw [flatWt]; simp; omega), List.take_of_length_le (by rw [flatWt]; simp; omega)]
            have hlow := HK.out.low
            rw [List.take_of_length_le (Nat.le_refl _)] at hlow
            rw [h2, hlow] at h1
            have hli : (l.filter fun x => !f x).length = i := by rw [← hlow]; simp; omega
            unfold OWt
            rw [hli]
            exact owns_beyond _ _ _ (by rw [flatWt, hli]; omega) h1)
          have hbl : Below B w (wr.setCells g (i * 3) (List.replicate ((l.length - i) * 3) (.int .i64 0))) := hbel.trans (grown_below (grown_sets g _ _ _) hg1 (by omega))
          clear hcell HO HK
          have hicap : (cap : Int) ≠ i := by omega
          go_wp2
          go_ret
          exact ⟨_, rfl, HF.out, hbl⟩
end Go.Proofs.Ytdanfnbclbiidaa
