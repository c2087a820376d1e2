/-
  What the test of the channels' ends returns, whatever channels it is given, and that nothing that was there is written.
-/
import Derived.Test.YtfdoejdnhogepaaTSpan
import Derived.BigQuiet
namespace Go.Proofs.Ytfdoejdnhogepaa
open Go.RowKit
set_option linter.unusedVariables false

def fromE (c : Ch) : En := ⟨c.qu, c.f, c.a⟩
def toE (c : Ch) : En := ⟨c.qu, c.t, c.b⟩
def eqE (x y : En) : Bool := decide (x.qu = y.qu ∧ x.p = y.p ∧ x.o = y.o)
def memE (l : List En) (e : En) : Bool := l.any (eqE e)

theorem Try.infoEn : (Try.prog.info? 120).map (·.size) = some 3 := by kernel_rfl
theorem Try.infoEn2 : (Try.prog.info? 120).map (fun i => (i.zero, i.size, i.bytes)) = some (some (.agg #[.bool false, .int .i64 0, .int .i64 0]), 3, 24) := by kernel_rfl

theorem results_cell_row2 {P : Program} {fn : Func} {p u : Tmp} {ty : TypeId} (h : fn.results = #[.cell p ty, .cell u ty]) (tmps : Array Value) (w : World) (g g' : Nat) (t : TypeId) (cs cs' : Array Value) (fr : Nat × Nat) (d : TypeDesc)
    (hp : tmps.getD p undef = .pointer (some ⟨g, 0, none⟩)) (hp2 : tmps.getD u undef = .pointer (some ⟨g', 0, none⟩)) (hg : w.heap[g]? = some (.cells cs t fr)) (hg' : w.heap[g']? = some (.cells cs' t fr))
    (hu : P.underlying ty = some d) (hd : (match d with | .struct _ | .array _ _ => true | _ => false) = true) (hi : (P.info? ty).map (·.size) = some cs.size) (hi' : (P.info? ty).map (·.size) = some cs'.size) :
    (results fn tmps).run P w = .ok (.tuple #[.agg cs, .agg cs']) w := by
  have hp' : tmps[p]?.getD undef = .pointer (some ⟨g, 0, none⟩) := by simpa using hp
  have hp2' : tmps[u]?.getD undef = .pointer (some ⟨g', 0, none⟩) := by simpa using hp2
  simp [results, h, hp', hp2', asAddr, run_loadVar_row w g t ty cs fr d hg hu hd hi, run_loadVar_row w g' t ty cs' fr d hg' hu hd hi']

set_option maxRecDepth 100000 in
set_option maxHeartbeats 800000 in
theorem ends_any (c : Ch) (w : World) :
    Calls Try.prog 84 #[c.val] w fun e w' => e = .returned (.tuple #[(fromE c).val, (toE c).val]) ∧ Below w.heap.size w w' := by
  obtain ⟨qu, f, a, t, b⟩ := c
  unfold Ch.val
  go_enter Try.func84, Try.ntmps84
  go_wp2
  go_region
  all_goals (try go_wp2)
  all_goals
    refine bodyPost_ret (results_cell_row2 rfl _ _ (w.heap.size + 1) (w.heap.size + 2) 120 _ _ (0, 0) _ rfl rfl ((BoxAt.new1 w _ _ _).alloc _).drew (BoxAt.new2 w _ _ _ _).drew Try.underlying120 rfl Try.infoEn Try.infoEn) rfl ?_
    exact ⟨rfl, ((((Below.refl _ _).alloc (Nat.le_refl _) _).alloc (by simp) _).alloc (by simp; omega) _).drew⟩

theorem eqE_iff (x y : En) : eqE x y = true ↔ x.qu = y.qu ∧ x.p = y.p ∧ x.o = y.o := by simp [eqE]

set_option maxRecDepth 100000 in
set_option maxHeartbeats 1600000 in
theorem index_any (v : Value) (l : List En) (e : En) (w : World) (hv : SeesEn w v l) :
    Calls Try.prog 102 #[v, e.val] w fun x w' => ∃ k : Int, x = .returned (.int .i64 k) ∧ (0 ≤ k ↔ memE l e = true) ∧ Below w.heap.size w w' := by
  obtain ⟨al, cl, rfl, hl1, hl2, hlc⟩ := hv.form
  unfold maxLen at hl2
  obtain ⟨eq, ep, eo⟩ := e
  unfold En.val
  have HC := hid hlc
  clear hlc hv
  go_enter Try.func102, Try.ntmps102
  go_wp2
  go_loopw [8] (fun t wc => ∃ i : Nat, i ≤ l.length ∧ t = .int .i64 i ∧ memE (l.take i) ⟨eq, ep, eo⟩ = false ∧ BoxAt wc w.heap.size 120 #[.bool eq, .int .i64 ep, .int .i64 eo] ∧ Below w.heap.size w wc) (fun t _ => l.length - (intOf t).toNat)
  case atStart => exact ⟨0, by omega, rfl, by simp [memE], BoxAt.new w _ _, (Below.refl _ _).alloc (Nat.le_refl _) _⟩
  case round =>
    obtain ⟨i, hi, rfl, hm, hbox, hbel⟩ := hrel
    have HM := hid hm
    have HX := hid hbox
    have d0 := (hbox.cell 0).trans rfl
    have d1 := (hbox.cell 1).trans rfl
    have d2 := (hbox.cell 2).trans rfl
    clear hm hbox
    by_cases hlt : i < l.length
    · obtain ⟨b, off, rfl, hbw, hcell⟩ := HC.out (by omega)
      have c0 := (hbel.cell (by exact hbw)).trans (hcell i hlt 0 (by decide))
      have c1 := (hbel.cell (by exact hbw)).trans (hcell i hlt 1 (by decide))
      have c2 := (hbel.cell (by exact hbw)).trans (hcell i hlt 2 (by decide))
      have HY := hid (show eqE ⟨eq, ep, eo⟩ (l.getD i En.zero) = true → memE l ⟨eq, ep, eo⟩ = true by
        intro h
        unfold memE
        rw [List.any_eq_true]
        exact ⟨_, by simp [List.getD, List.getElem?_eq_getElem hlt], h⟩)
      have HZ := hid (show eqE ⟨eq, ep, eo⟩ (l.getD i En.zero) = false → memE (l.take (i + 1)) ⟨eq, ep, eo⟩ = false by
        intro h
        rw [List.take_succ_eq_append_getElem hlt]
        unfold memE
        rw [List.any_append]
        have h2 := HM.out
        unfold memE at h2
        rw [h2]
        simp [List.getD, List.getElem?_eq_getElem hlt] at h
        simp [h])
      clear hcell HC HM
      generalize l.getD i En.zero = r at *
      obtain ⟨x0, x1, x2⟩ := r
      simp only [En.cells, List.getD_cons_zero, List.getD_cons_succ, Nat.add_zero] at c0 c1 c2
      by_cases hxy : eq = x0 ∧ ep = x1 ∧ eo = x2
      · have HN := hid (HY.out ((eqE_iff _ _).2 hxy))
        clear HY HZ
        obtain ⟨rfl, rfl, rfl⟩ := hxy
        go_wp2
        go_region
        all_goals (try go_wp2)
        all_goals
          go_ret
          exact ⟨_, rfl, by simp only [HN.out, iff_true]; omega, by repeat (first | exact hbel | refine Below.drew ?_)⟩
      · have HN := hid (HZ.out (by rw [← Bool.not_eq_true, eqE_iff]; exact hxy))
        clear HY HZ
        have h3 : ¬ eq = x0 ∨ (eq = x0 ∧ ¬ ep = x1) ∨ (eq = x0 ∧ ep = x1 ∧ ¬ eo = x2) := by
          by_cases h1 : eq = x0
          · by_cases h2 : ep = x1
            · exact .inr (.inr ⟨h1, h2, fun h => hxy ⟨h1, h2, h⟩⟩)
            · exact .inr (.inl ⟨h1, h2⟩)
          · exact .inl h1
        clear hxy
        rcases h3 with h3 | ⟨rfl, h3⟩ | ⟨rfl, rfl, h3⟩
        all_goals
          go_wp2
          go_region
          all_goals (try go_wp2)
          all_goals
            go_roundw
            case rel => exact ⟨i + 1, by omega, by go_num, HN.out, by repeat (first | exact HX.out | refine BoxAt.drew ?_), by repeat (first | exact hbel | refine Below.drew ?_)⟩
            case measure => simp [intOf]; omega
    · have HE := hid (show memE l ⟨eq, ep, eo⟩ = false by have := HM.out; rw [List.take_of_length_le (by omega)] at this; exact this)
      clear HC HM
      go_wp2
      go_ret
      exact ⟨_, rfl, by simp [HE.out], hbel⟩

set_option maxRecDepth 100000 in
set_option maxHeartbeats 800000 in
theorem contains_any (v : Value) (l : List En) (e : En) (w : World) (hv : SeesEn w v l) :
    Calls Try.prog 86 #[v, e.val] w fun x w' => x = .returned (.bool (memE l e)) ∧ Below w.heap.size w w' := by
  have HV := hid hv
  obtain ⟨al, cl, rfl, hl1, hl2, hlc⟩ := hv.form
  obtain ⟨eq, ep, eo⟩ := e
  unfold En.val
  clear hlc hv
  go_enter Try.func86, Try.ntmps86
  go_wp2_with fail
  refine (index_any _ l ⟨eq, ep, eo⟩ _ (HV.out.below ((Below.refl _ _).alloc (Nat.le_refl _) _))).mono ?_
  rintro x w1 ⟨k, rfl, hk, hb⟩
  have HK := hid hk
  have hB : Below w.heap.size w w1 := ((Below.refl _ _).alloc (Nat.le_refl _) _).trans (hb.mono (by simp))
  clear hb hk
  by_cases h0 : 0 ≤ k
  · have HM := hid (HK.out.1 h0)
    clear HK
    go_wp2
    go_ret
    exact ⟨by rw [HM.out]; rfl, hB⟩
  · have HM := hid (show memE l ⟨eq, ep, eo⟩ = false by rw [← Bool.not_eq_true]; exact fun h => h0 (HK.out.2 h))
    clear HK
    go_wp2
    go_ret
    exact ⟨by rw [HM.out]; simp; omega, hB⟩
end Go.Proofs.Ytfdoejdnhogepaa
