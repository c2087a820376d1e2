/-
  Cores and outcomes as blocks of five cells; a copy of words.
-/
import Derived.Test.YtedldckijblnhaaDoorCStep
namespace Go.Proofs.YtedldckijblnhaaDoor
open Go.RowKit
set_option linter.unusedVariables false

set_option maxRecDepth 100000 in
set_option maxHeartbeats 400000 in
theorem clone_owns (vm : Value) (m : List Int) (w : World) (hm : Sees w .i64 vm m) (hlen : m.length ≤ 100000) :
    Calls Tryd.prog 19 #[vm] w fun e w' => ∃ a l c, e = .returned (.slice a l c) ∧ w'.ownsRow w.heap.size 3 1 (.slice a l c) m.length (m.map (Value.int .i64)) ∧ Below w.heap.size w w' := by
  by_cases h0 : 0 < m.length
  · refine (clone_any vm m w hm h0 hlen).mono ?_
    rintro e w' ⟨u, rfl, ho, hb⟩
    obtain ⟨ua, ul, uc, rfl⟩ := owns_slice ho
    exact ⟨ua, ul, uc, rfl, ho, hb⟩
  · obtain rfl : m = [] := List.eq_nil_of_length_eq_zero (by omega)
    have hnil := fun (w : World) (a : Option Addr) (l c : Nat) => Lib.run_eql_slice_nil (P := Tryd.prog) w 26 3 a l c 0 0 Tryd.underlying26
    rcases hm with ⟨rfl, _⟩ | ⟨x, cap, rfl, h1, h2, hc⟩
    · go_enter Tryd.func19, Tryd.ntmps19
      go_wp2
      go_ret
      exact ⟨_, _, _, rfl, World.ownsRow_nil _ _ _ _, Below.refl _ _⟩
    · clear hc
      obtain ⟨i0, hi, hz0, hz1, hz2⟩ := info_parts Tryd.infoI
      have hown : (w.alloc (.cells #[] 3)).ownsRow w.heap.size 3 1 (.slice (some ⟨w.heap.size, 0, none⟩) 0 0) 0 [] := World.ownsRow_made w #[] 0 (Nat.le_refl _) (by decide) rfl
      have hsee : Sees (w.alloc (.cells #[] 3)) .i64 (.slice (some x) 0 cap) [] := .inr ⟨x, cap, rfl, by simp, h2, by simp⟩
      simp only [List.length_nil]
      go_enter Tryd.func19, Tryd.ntmps19
      go_wp2_with (at_builtin; refine wpList_append_sees rfl _ _ 26 rfl w.heap.size 3 i0 (.int .i64 0) 8 Tryd.underlying26 hi hz0 hz1 hz2 rfl .i64 _ _ _ rfl hown _ [] rfl hsee ?c1 ?c2 ?c3 ?_)
      case c1 => simp
      case c2 => simp
      case c3 => simp
      intro v' w2 hown2 hgrow
      have hbel : Below w.heap.size w w2 := ((Below.refl _ _).alloc (Nat.le_refl _) _).grown hgrow (by simp) (fun k hk => (hown.lt k hk).1)
      have HO := hid (show w2.ownsRow w.heap.size 3 1 v' 0 (([] : List Int).map (Value.int .i64)) by simpa using hown2)
      clear hown2 hown hgrow hsee
      go_wp2
      go_ret
      obtain ⟨ua, ul, uc, rfl⟩ := owns_slice HO.out
      exact ⟨ua, ul, uc, rfl, HO.out, hbel⟩

/-- Block g, in w, holds five cells. -/
def FiveAt (w : World) (g : Nat) (v0 v1 v2 v3 v4 : Value) : Prop := g < w.heap.size ∧ (∀ j, w.frozen? ⟨g, j, none⟩ = false) ∧
  w.cell? ⟨g, 0, none⟩ = some v0 ∧ w.cell? ⟨g, 1, none⟩ = some v1 ∧ w.cell? ⟨g, 2, none⟩ = some v2 ∧ w.cell? ⟨g, 3, none⟩ = some v3 ∧ w.cell? ⟨g, 4, none⟩ = some v4
theorem FiveAt.below {w w' : World} {B g : Nat} {v0 v1 v2 v3 v4 : Value} (h : FiveAt w g v0 v1 v2 v3 v4) (hb : Below B w w') (hg : g < B) : FiveAt w' g v0 v1 v2 v3 v4 := by
  obtain ⟨h0, h1, h2, h3, h4, h5, h6⟩ := h
  have hs := hb.size
  refine ⟨by omega, fun j => ?_, ?_, ?_, ?_, ?_, ?_⟩
  · rw [hb.frozen (by exact hg)]; exact h1 j
  all_goals (rw [hb.cell (by exact hg)]; assumption)
theorem FiveAt.other {w : World} {g g' j : Nat} {v v0 v1 v2 v3 v4 : Value} (h : FiveAt w g v0 v1 v2 v3 v4) (hg : g ≠ g') : FiveAt (w.setCell ⟨g', j, none⟩ v) g v0 v1 v2 v3 v4 := by
  obtain ⟨h0, h1, h2, h3, h4, h5, h6⟩ := h
  refine ⟨by simpa using h0, fun j => by simpa using h1 j, ?_, ?_, ?_, ?_, ?_⟩
  all_goals (rw [World.cell?_setCell_other _ _ _ _ (cadr_ne (by omega))]; assumption)
theorem FiveAt.set0 {w : World} {g : Nat} {v v0 v1 v2 v3 v4 : Value} (h : FiveAt w g v0 v1 v2 v3 v4) : FiveAt (w.setCell ⟨g, 0, none⟩ v) g v v1 v2 v3 v4 := by
  obtain ⟨h0, h1, h2, h3, h4, h5, h6⟩ := h
  refine ⟨by simpa using h0, fun j => by simpa using h1 j, World.cell?_setCell_same _ _ _ h2, ?_, ?_, ?_, ?_⟩
  all_goals (rw [World.cell?_setCell_other _ _ _ _ (cadr_ne (by omega))]; assumption)
theorem FiveAt.set1 {w : World} {g : Nat} {v v0 v1 v2 v3 v4 : Value} (h : FiveAt w g v0 v1 v2 v3 v4) : FiveAt (w.setCell ⟨g, 1, none⟩ v) g v0 v v2 v3 v4 := by
  obtain ⟨h0, h1, h2, h3, h4, h5, h6⟩ := h
  refine ⟨by simpa using h0, fun j => by simpa using h1 j, ?_, World.cell?_setCell_same _ _ _ h3, ?_, ?_, ?_⟩
  all_goals (rw [World.cell?_setCell_other _ _ _ _ (cadr_ne (by omega))]; assumption)
theorem FiveAt.set2 {w : World} {g : Nat} {v v0 v1 v2 v3 v4 : Value} (h : FiveAt w g v0 v1 v2 v3 v4) : FiveAt (w.setCell ⟨g, 2, none⟩ v) g v0 v1 v v3 v4 := by
  obtain ⟨h0, h1, h2, h3, h4, h5, h6⟩ := h
  refine ⟨by simpa using h0, fun j => by simpa using h1 j, ?_, ?_, World.cell?_setCell_same _ _ _ h4, ?_, ?_⟩
  all_goals (rw [World.cell?_setCell_other _ _ _ _ (cadr_ne (by omega))]; assumption)
theorem FiveAt.set3 {w : World} {g : Nat} {v v0 v1 v2 v3 v4 : Value} (h : FiveAt w g v0 v1 v2 v3 v4) : FiveAt (w.setCell ⟨g, 3, none⟩ v) g v0 v1 v2 v v4 := by
  obtain ⟨h0, h1, h2, h3, h4, h5, h6⟩ := h
  refine ⟨by simpa using h0, fun j => by simpa using h1 j, ?_, ?_, ?_, World.cell?_setCell_same _ _ _ h5, ?_⟩
  all_goals (rw [World.cell?_setCell_other _ _ _ _ (cadr_ne (by omega))]; assumption)
theorem FiveAt.set4 {w : World} {g : Nat} {v v0 v1 v2 v3 v4 : Value} (h : FiveAt w g v0 v1 v2 v3 v4) : FiveAt (w.setCell ⟨g, 4, none⟩ v) g v0 v1 v2 v3 v := by
  obtain ⟨h0, h1, h2, h3, h4, h5, h6⟩ := h
  refine ⟨by simpa using h0, fun j => by simpa using h1 j, ?_, ?_, ?_, ?_, World.cell?_setCell_same _ _ _ h6⟩
  all_goals (rw [World.cell?_setCell_other _ _ _ _ (cadr_ne (by omega))]; assumption)
theorem FiveAt.load {w : World} {g : Nat} {v0 v1 v2 v3 v4 : Value} (h : FiveAt w g v0 v1 v2 v3 v4) (ty : TypeId) (d : TypeDesc) (hu : Tryd.prog.underlying ty = some d) (hd : d.isRow = true) (hi : (Tryd.prog.info? ty).map (·.size) = some 5) :
    (loadVar ty ⟨g, 0, none⟩).run Tryd.prog w = .ok (.agg #[v0, v1, v2, v3, v4]) w := by
  obtain ⟨_, _, h2, h3, h4, h5, h6⟩ := h
  exact run_loadVar_mid w g 0 ty [v0, v1, v2, v3, v4] d (fun j v hv => by
    rw [Nat.zero_add]
    match j, hv with
    | 0, hv => simp at hv; subst hv; exact h2
    | 1, hv => simp at hv; subst hv; exact h3
    | 2, hv => simp at hv; subst hv; exact h4
    | 3, hv => simp at hv; subst hv; exact h5
    | 4, hv => simp at hv; subst hv; exact h6
    | j + 5, hv => simp at hv) hu hd hi

def CoAt (w : World) (g : Nat) (c : Co) : Prop := FiveAt w g (.int .i64 c.p) (.int .i64 c.r0) (.int .i64 c.r1) (.int .i64 c.r2) (.int .i64 c.r3)
def OuAt (w : World) (g : Nat) (o : Ou) : Prop := FiveAt w g (.int .i64 o.f) (.int .i64 o.c) (.bool o.h) (.bool o.r) (.int .i64 o.v)

/-- What stands behind Step's first statement: the core that came in, the results, a copy of the words. -/
def Begun (w wx : World) (c : Co) (m : List Int) (v : Value) : Prop := ∃ a l k, v = .slice a l k ∧ wx.ownsRow (w.heap.size + 3) 3 1 (.slice a l k) m.length (m.map (Value.int .i64)) ∧
  CoAt wx w.heap.size c ∧ CoAt wx (w.heap.size + 1) c ∧ OuAt wx (w.heap.size + 2) quietO ∧ Below w.heap.size w wx ∧ w.heap.size + 3 ≤ wx.heap.size

end Go.Proofs.YtedldckijblnhaaDoor
