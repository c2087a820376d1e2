/-
  Slices of structs appended to in a region that draws; what a configuration that may be may not become: windows and channels.
-/
import Derived.Test.YtfdoejdnhogepaaTMore
import Derived.Deep.RegionLaw
namespace Go.Proofs.Ytfdoejdnhogepaa
open Go.RowKit
set_option linter.unusedVariables false

theorem step_append_seesC {P : Program} {w : World} {ops : Array Oper} {o : Oper} {a : Act} {K : Act → World → Prop} {Q : Exit → Act → World → Prop} {E : Prop} (hgd : o.guard = none) (s x : Operand) (t : TypeId)
    (ho : o.op = .call { callee := .builtin .append, args := #[s, x], argTypes := #[t, t] })
    (base : Nat) (e : TypeId) (i : TypeInfo) (z : Value) (c bytes : Nat) (ht : P.underlying t = some (.slice e)) (hi : P.info? e = some i) (hz : i.zero = some z)
    (hsize : i.size = c) (hby : i.bytes = bytes) (hzs : z.cells.size = c) (hc0 : 0 < c)
    (v : Value) (n : Nat) (xs : List Value) (hs : a.eval s = v) (hown : w.ownsRow base e c v n xs)
    (y : Value) (es : List (List Value)) (hx : a.eval x = y) (hsee : SeesC w c y es) (hl : ∀ e ∈ es, e.length = c) (h1 : ∀ e ∈ es, ∀ u ∈ e, u.oneCell' = true)
    (h63 : n + es.length ≤ maxLen) (hbytes : (n + es.length) * bytes ≤ 140737488355328) (hbase : base ≤ w.heap.size)
    (h : ∀ v' w', w'.ownsRow base e c v' (n + es.length) (xs ++ es.flatten) → w.grownBy w' v.ownBlock → K (a.put o.dst v') w') :
    if Region.wanted o (yielded ops a.tmps) = true then Oper.wp P o a w K Q else E := by
  have hw : Region.wanted o (yielded ops a.tmps) = true := by simp [Region.wanted, hgd]
  rw [if_pos hw]
  rcases hsee with ⟨rfl, rfl⟩ | ⟨ad, cap, rfl, h3, h2, hc⟩
  · have hrun := run_append_owned_none (P := P) w base t o.type e i c ht hi v n xs hown
    unfold Oper.wp
    simp [execOp, ho, resolve, invoke, builtin, hs, hx, hrun, Result.andThen]
    exact h _ w (by simpa using hown) (World.grownBy.refl _ _)
  · exact wp_append_own w s x t ho base e i z c bytes ht hi hz hsize hby hzs hc0 v n xs hs hown ad _ cap es.flatten hx (flat_len c es hl) (SeesC.cells hl hc) (cells_one es h1) h63 hbytes hbase (fun v' w' a b _ => h v' w' a b)

theorem parts_none (c : Cf) : mayC { c with wi := [] } = false := by
  rcases hm : mayC { c with wi := [] }
  · rfl
  · have := (may_has hm).2.2.2.2.1; simp at this
theorem order_least (v : Wn) : ∀ (l : List Wn) (f : Int), (∀ x ∈ l, 1 ≤ x.ln) → orderF f (l ++ [v]) = true → f ≤ v.st := by
  intro l
  induction l with
  | nil => intro f _ h; simp [orderF] at h; omega
  | cons x l ih =>
    intro f hl h
    rw [List.cons_append, orderF] at h
    by_cases hs : x.st < f
    · rw [if_pos hs] at h; simp at h
    · rw [if_neg hs] at h
      have := ih _ (fun y hy => hl y (by simp [hy])) h
      have := hl x (by simp)
      omega
theorem parts_within (c : Cf) (v : Wn) (l : List Wn) : mayC { c with wi := (v :: l) ++ [v] } = false := by
  rcases hm : mayC { c with wi := (v :: l) ++ [v] }
  · rfl
  · unfold mayC at hm
    simp only [Bool.and_eq_true] at hm
    have h1 := hm.1.1.1.1.1.1.1
    have hw := win_fine h1 (by rw [Bool.and_eq_true]; exact hm.1.1.1.2)
    have ho := hm.1.1.2
    rw [List.cons_append, orderF] at ho
    by_cases hs : v.st < 0
    · rw [if_pos hs] at ho; simp at ho
    · rw [if_neg hs] at ho
      have := order_least v l _ (fun x hx => (hw x (by simp [hx])).2.2) ho
      have := (hw v (by simp)).2.2
      omega
theorem parts_one (c : Cf) : mayC { c with ch := c.ch ++ [Ch.zero] } = false := by
  rcases hm : mayC { c with ch := c.ch ++ [Ch.zero] }
  · rfl
  · unfold mayC at hm
    simp only [Bool.and_eq_true] at hm
    have := (allN_iff _ _).1 hm.1.2.2 c.ch.length (by simp)
    have hg : (c.ch ++ [Ch.zero]).getD c.ch.length Ch.zero = Ch.zero := by simp [List.getD]
    rw [hg] at this
    simp [chanC, Ch.zero] at this
theorem apart_again (x : Ch) (m : List Ch) : ∀ (l : List Ch) (tk : List En), memE tk (fromE x) = true → apartF tk (l ++ x :: m) = false := by
  intro l
  induction l with
  | nil => intro tk h; rw [List.nil_append, apartF, if_pos h]
  | cons y l ih =>
    intro tk h
    rw [List.cons_append, apartF]
    split
    · rfl
    · split
      · rfl
      · exact ih _ (by simp [memE] at h ⊢; simp [h])
theorem parts_twice (c : Cf) (h : c.ch ≠ []) : mayC { c with ch := c.ch ++ c.ch } = false := by
  rcases hm : mayC { c with ch := c.ch ++ c.ch }
  · rfl
  · unfold mayC at hm
    simp only [Bool.and_eq_true] at hm
    have ha := hm.2
    rcases hc : c.ch with _ | ⟨x, l⟩
    · exact absurd hc h
    · rw [hc, List.cons_append, apartF] at ha
      simp only [memE] at ha
      rw [apart_again x l l _ (by simp [memE, eqE])] at ha
      simp at ha

end Go.Proofs.Ytfdoejdnhogepaa
