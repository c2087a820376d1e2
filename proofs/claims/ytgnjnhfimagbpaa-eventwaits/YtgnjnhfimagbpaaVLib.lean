/-
  Lists of those who wait: one list put behind another, slices.Clone, slices.IndexFunc.
-/
import Derived.Test.YtgnjnhfimagbpaaRows
import Derived.Test.YtgnjnhfimagbpaaVReg
import Derived.Deep.Onto
import Derived.Deep.RegionLaw
import Derived.Laws.OwnMore
import Derived.Deep.MidRow
import Derived.Shelf.Abstract
import Derived.Lib.SliceRun
namespace Go.Proofs.Ytgnjnhfimagbpaa
open Go.RowKit
set_option linter.unusedVariables false

theorem app_row {w : World} {ops : Array Oper} {rest : List Oper} {o : Oper} {a : Act} {Q : Exit → Act → World → Prop} (T S : TypeId) (c bytes : Nat) (z : Value) (hS : Try.prog.underlying S = some (.slice T)) (hT : (Try.prog.info? T).map (fun i => (i.zero, i.size, i.bytes)) = some (some z, c, bytes)) (hz : z.cells.size = c) (hc : 0 < c) (hby : bytes ≤ 1000)
    (hgd : o.guard = none) (s x : Operand) (ho : o.op = .call { callee := .builtin .append, args := #[s, x], argTypes := #[S, S] })
    (base : Nat) (v : Value) (n : Nat) (xs : List Value) (hs : a.eval s = v) (hown : w.ownsRow base T c v n xs) (y : Value) (es : List (List Value)) (hx : a.eval x = y) (hsee : SeesC w c y es) (hl : ∀ e ∈ es, e.length = c) (h1 : ∀ u ∈ es.flatten, u.oneCell' = true) (hlen : n + es.length ≤ 1000000) (hbase : base ≤ w.heap.size)
    (h : ∀ v' w', w'.ownsRow base T c v' (n + es.length) (xs ++ es.flatten) → w.grownBy w' v.ownBlock → Below base w w' → wpList Try.prog ops Q rest (a.put o.dst v') w') : wpList Try.prog ops Q (o :: rest) a w := by
  obtain ⟨i0, hi, hz0, hz1, hz2⟩ := info_parts hT
  have hK : ∀ v' w', w'.ownsRow base T c v' (n + es.length) (xs ++ es.flatten) → w.grownBy w' v.ownBlock → wpList Try.prog ops Q rest (a.put o.dst v') w' := fun v' w' h1 h2 =>
    h v' w' h1 h2 ((Below.refl _ _).grown h2 hbase (fun k hk => (World.ownsRow.lt hown k hk).1))
  rcases hsee with ⟨rfl, rfl⟩ | ⟨ad, cap, rfl, h3, h2, hcell⟩
  · refine wpList_append_own_none hgd s x S ho base T i0 c hS hi v n xs hs hown hx ?_
    exact hK v w (by simpa using hown) (World.grownBy.refl _ _)
  · have hb : (n + es.length) * bytes ≤ 140737488355328 := by
      have : (n + es.length) * bytes ≤ 1000000 * 1000 := Nat.mul_le_mul hlen hby
      omega
    refine wpList_append_own w hgd s x S ho base T i0 z c bytes hS hi hz0 hz1 hz2 hz hc v n xs hs hown ad _ cap es.flatten hx (by rw [flat_len c es hl]) (SeesC.cells hl hcell) h1 (by unfold maxLen; omega) hb hbase (fun v' w' a b _ => hK v' w' a b)

theorem step_app_row {w : World} {ops : Array Oper} {o : Oper} {a : Act} {K : Act → World → Prop} {Q : Exit → Act → World → Prop} {E : Prop} (T S : TypeId) (c bytes : Nat) (z : Value) (hS : Try.prog.underlying S = some (.slice T)) (hT : (Try.prog.info? T).map (fun i => (i.zero, i.size, i.bytes)) = some (some z, c, bytes)) (hz : z.cells.size = c) (hc : 0 < c) (hby : bytes ≤ 1000)
    (hgd : o.guard = none) (s x : Operand) (ho : o.op = .call { callee := .builtin .append, args := #[s, x], argTypes := #[S, S] })
    (base : Nat) (v : Value) (n : Nat) (xs : List Value) (hs : a.eval s = v) (hown : w.ownsRow base T c v n xs) (y : Value) (es : List (List Value)) (hx : a.eval x = y) (hsee : SeesC w c y es) (hl : ∀ e ∈ es, e.length = c) (h1 : ∀ u ∈ es.flatten, u.oneCell' = true) (hlen : n + es.length ≤ 1000000) (hbase : base ≤ w.heap.size)
    (h : ∀ v' w', w'.ownsRow base T c v' (n + es.length) (xs ++ es.flatten) → w.grownBy w' v.ownBlock → Below base w w' → K (a.put o.dst v') w') :
    if Region.wanted o (yielded ops a.tmps) = true then Oper.wp Try.prog o a w K Q else E := by
  have hw : Region.wanted o (yielded ops a.tmps) = true := by simp [Region.wanted, hgd]
  rw [if_pos hw]
  obtain ⟨i0, hi, hz0, hz1, hz2⟩ := info_parts hT
  have hK : ∀ v' w', w'.ownsRow base T c v' (n + es.length) (xs ++ es.flatten) → w.grownBy w' v.ownBlock → K (a.put o.dst v') w' := fun v' w' h1 h2 =>
    h v' w' h1 h2 ((Below.refl _ _).grown h2 hbase (fun k hk => (World.ownsRow.lt hown k hk).1))
  rcases hsee with ⟨rfl, rfl⟩ | ⟨ad, cap, rfl, h3, h2, hcell⟩
  · have hrun := run_append_owned_none (P := Try.prog) w base S o.type T i0 c hS hi v n xs hown
    unfold Oper.wp
    simp [execOp, ho, resolve, invoke, builtin, hs, hx, hrun, Result.andThen]
    exact hK _ w (by simpa using hown) (World.grownBy.refl _ _)
  · have hb : (n + es.length) * bytes ≤ 140737488355328 := by
      have : (n + es.length) * bytes ≤ 1000000 * 1000 := Nat.mul_le_mul hlen hby
      omega
    refine wp_append_own w s x S ho base T i0 z c bytes hS hi hz0 hz1 hz2 hz hc v n xs hs hown ad _ cap es.flatten hx (by rw [flat_len c es hl]) (SeesC.cells hl hcell) h1 (by unfold maxLen; omega) hb hbase (fun v' w' a b _ => hK v' w' a b)

theorem Try.infoOWt : (Try.prog.info? 26).map (fun i => (i.zero, i.size, i.bytes)) = some (some (.agg Wt.zero.cells.toArray), 3, 24) := by kernel_rfl

set_option maxRecDepth 100000 in
set_option maxHeartbeats 800000 in
theorem qclone_Wt {v : Value} {l : List Wt} {w : World} (hv : SeesWt w v l) (hlen : l.length ≤ 900000) :
    Calls Try.prog 25 #[v] w fun e w' => ∃ u, e = .returned u ∧ OWt w' w.heap.size u l ∧ Below w.heap.size w w' := by
  have hs : SeesWt (w.alloc (.cells #[] 26)) v l := hv.below ((Below.refl _ _).alloc (Nat.le_refl _) _)
  have hnil := fun (w : World) (a : Option Addr) (l c : Nat) => Lib.run_eql_slice_nil (P := Try.prog) w 22 26 a l c 0 0 Try.underlying22
  rcases hv with ⟨rfl, hn⟩ | ⟨ad, cap, rfl, h1, h2, hc⟩
  · have hl0 : l = [] := by simpa using hn
    subst hl0
    clear hs
    go_enter Try.func25, Try.ntmps25
    go_wp2
    go_ret
    exact ⟨_, rfl, OWt.nil _ _, Below.refl _ _⟩
  · clear hc
    simp only [List.length_map] at h1 hs ⊢
    have HS := hid hs
    clear hs
    have hown : (w.alloc (.cells #[] 26)).ownsRow w.heap.size 26 3 (.slice (some ⟨w.heap.size, 0, none⟩) 0 0) 0 [] := World.ownsRow_made w #[] 0 (Nat.le_refl _) (by decide) rfl
    go_enter Try.func25, Try.ntmps25
    go_wp2_with (at_builtin; refine app_row 26 22 3 24 _ Try.underlying22 Try.infoOWt rfl (by decide) (by decide) rfl _ _ rfl w.heap.size _ 0 [] rfl hown _ (l.map Wt.cells) rfl HS.out (lensWt l) (oneWt l) ?c1 ?c2 ?_)
    case c1 => simp; omega
    case c2 => simp
    intro v' w2 hown2 hgrow hb
    have hbel : Below w.heap.size w w2 := ((Below.refl _ _).alloc (Nat.le_refl _) _).trans hb
    have HO := hid (show OWt w2 w.heap.size v' l by unfold OWt; simpa using hown2)
    clear hown2 hown hgrow hb
    go_wp2
    go_ret
    exact ⟨_, rfl, HO.out, hbel⟩

/-- What tells of a wait whether it goes. -/
def TellsW (gl : Nat) (cs : Array Value) (f : Wt → Bool) (B : Nat) (w : World) : Prop :=
  ∀ W, Below B w W → ∀ x : Wt, Calls Try.prog gl (#[x.val] ++ cs) W fun e w' => e = .returned (.bool (f x)) ∧ Below W.heap.size W w'
theorem TellsW.on {gl : Nat} {cs : Array Value} {f : Wt → Bool} {B : Nat} {w w1 : World} (h : TellsW gl cs f B w) (hb : Below B w w1) : TellsW gl cs f B w1 := fun W hW x => h W (hb.trans hW) x
theorem TellsW.mono {gl : Nat} {cs : Array Value} {f : Wt → Bool} {B B' : Nat} {w : World} (h : TellsW gl cs f B w) (hb : B ≤ B') : TellsW gl cs f B' w := fun W hW x => h W (hW.mono hb) x

end Go.Proofs.Ytgnjnhfimagbpaa
