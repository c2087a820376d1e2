/-
  What slices.Clone returns, at each type of a partition's lists: a list of the call's own that reads the same.
-/
import Derived.Test.YtdanfnbclbiidaaQLib
namespace Go.Proofs.Ytdanfnbclbiidaa
open Go.RowKit
set_option linter.unusedVariables false

theorem app_row {w : World} {ops : Array Oper} {rest : List Oper} {o : Oper} {a : Act} {Q : Exit → Act → World → Prop} (T S : TypeId) (c bytes : Nat) (z : Value) (hS : Try.prog.underlying S = some (.slice T)) (hT : (Try.prog.info? T).map (fun i => (i.zero, i.size, i.bytes)) = some (some z, c, bytes)) (hz : z.cells.size = c) (hc : 0 < c) (hby : bytes ≤ 1000)
    (hgd : o.guard = none) (s x : Operand) (ho : o.op = .call { callee := .builtin .append, args := #[s, x], argTypes := #[S, S] })
    (base : Nat) (v : Value) (n : Nat) (xs : List Value) (hs : a.eval s = v) (hown : w.ownsRow base T c v n xs) (y : Value) (es : List (List Value)) (hx : a.eval x = y) (hsee : SeesC w c y es) (hl : ∀ e ∈ es, e.length = c) (h1 : ∀ u ∈ es.flatten, u.oneCell' = true) (hlen : n + es.length ≤ 1000000) (hbase : base ≤ w.heap.size)
    (h : ∀ v' w', w'.ownsRow base T c v' (n + es.length) (xs ++ es.flatten) → w.grownBy w' v.ownBlock → Below base w w' → wpList Try.prog ops Q rest (a.put o.dst v') w') : wpList Try.prog ops Q (o :: rest) a w := by
  obtain ⟨i0, hi, hz0, hz1, hz2⟩ := info_parts hT
  have hK : ∀ v' w', w'.ownsRow base T c v' (n + es.length) (xs ++ es.flatten) → w.grownBy w' v.ownBlock → wpList Try.prog ops Q rest (a.put o.dst v') w' := fun v' w' h1 h2 =>
    h v' w' h1 h2 ((Below.refl _ _).grown h2 hbase (fun k hk => (World.ownsRow.lt hown k hk).1))
  rcases hsee with ⟨rfl, rfl⟩ | ⟨ad, cap, rfl, h3, h2, hcell⟩
  · refine wpList_append_own_none hgd s x S ho base T i0 c hS hi v n xs hs hown hx ?_
    exact hK v w (by simpa using hown) (World.grownBy.refl _ _)
  · have hb : (n + es.length) * bytes ≤ 140737488355328 := by
      have : (n + es.length) * bytes ≤ 1000000 * 1000 := Nat.mul_le_mul hlen hby
      omega
    refine wpList_append_own w hgd s x S ho base T i0 z c bytes hS hi hz0 hz1 hz2 hz hc v n xs hs hown ad _ cap es.flatten hx (by rw [flat_len c es hl]) (SeesC.cells hl hcell) h1 (by unfold maxLen; omega) hb hbase (fun v' w' a b _ => hK v' w' a b)

theorem step_app_row {w : World} {ops : Array Oper} {o : Oper} {a : Act} {K : Act → World → Prop} {Q : Exit → Act → World → Prop} {E : Prop} (T S : TypeId) (c bytes : Nat) (z : Value) (hS : Try.prog.underlying S = some (.slice T)) (hT : (Try.prog.info? T).map (fun i => (i.zero, i.size, i.bytes)) = some (some z, c, bytes)) (hz : z.cells.size = c) (hc : 0 < c) (hby : bytes ≤ 1000)
    (hgd : o.guard = none) (s x : Operand) (ho : o.op = .call { callee := .builtin .append, args := #[s, x], argTypes := #[S, S] })
    (base : Nat) (v : Value) (n : Nat) (xs : List Value) (hs : a.eval s = v) (hown : w.ownsRow base T c v n xs) (y : Value) (es : List (List Value)) (hx : a.eval x = y) (hsee : SeesC w c y es) (hl : ∀ e ∈ es, e.length = c) (h1 : ∀ u ∈ es.flatten, u.oneCell' = true) (hlen : n + es.length ≤ 1000000) (hbase : base ≤ w.heap.size)
    (h : ∀ v' w', w'.ownsRow base T c v' (n + es.length) (xs ++ es.flatten) → w.grownBy w' v.ownBlock → Below base w w' → K (a.put o.dst v') w') :
    if Region.wanted o (yielded ops a.tmps) = true then Oper.wp Try.prog o a w K Q else E := by
  have hw : Region.wanted o (yielded ops a.tmps) = true := by simp [Region.wanted, hgd]
  rw [if_pos hw]
  obtain ⟨i0, hi, hz0, hz1, hz2⟩ := info_parts hT
  have hK : ∀ v' w', w'.ownsRow base T c v' (n + es.length) (xs ++ es.flatten) → w.grownBy w' v.ownBlock → K (a.put o.dst v') w' := fun v' w' h1 h2 =>
    h v' w' h1 h2 ((Below.refl _ _).grown h2 hbase (fun k hk => (World.ownsRow.lt hown k hk).1))
  rcases hsee with ⟨rfl, rfl⟩ | ⟨ad, cap, rfl, h3, h2, hcell⟩
  · have hrun := run_append_owned_none (P := Try.prog) w base S o.type T i0 c hS hi v n xs hown
    unfold Oper.wp
    simp [execOp, ho, resolve, invoke, builtin, hs, hx, hrun, Result.andThen]
    exact hK _ w (by simpa using hown) (World.grownBy.refl _ _)
  · have hb : (n + es.length) * bytes ≤ 140737488355328 := by
      have : (n + es.length) * bytes ≤ 1000000 * 1000 := Nat.mul_le_mul hlen hby
      omega
    refine wp_append_own w s x S ho base T i0 z c bytes hS hi hz0 hz1 hz2 hz hc v n xs hs hown ad _ cap es.flatten hx (by rw [flat_len c es hl]) (SeesC.cells hl hcell) h1 (by unfold maxLen; omega) hb hbase (fun v' w' a b _ => hK v' w' a b)

theorem Try.infoOWt : (Try.prog.info? 104).map (fun i => (i.zero, i.size, i.bytes)) = some (some (.agg Wt.zero.cells.toArray), 3, 24) := by kernel_rfl

set_option maxRecDepth 100000 in
set_option maxHeartbeats 800000 in
theorem qclone_Wt {v : Value} {l : List Wt} {w : World} (hv : SeesWt w v l) (hlen : l.length ≤ 900000) :
    Calls Try.prog 63 #[v] w fun e w' => ∃ u, e = .returned u ∧ OWt w' w.heap.size u l ∧ Below w.heap.size w w' := by
  have hs : SeesWt (w.alloc (.cells #[] 104)) v l := hv.below ((Below.refl _ _).alloc (Nat.le_refl _) _)
  have hnil := fun (w : World) (a : Option Addr) (l c : Nat) => Lib.run_eql_slice_nil (P := Try.prog) w 65 104 a l c 0 0 Try.underlying65
  rcases hv with ⟨rfl, hn⟩ | ⟨ad, cap, rfl, h1, h2, hc⟩
  · have hl0 : l = [] := by simpa using hn
    subst hl0
    clear hs
    go_enter Try.func63, Try.ntmps63
    go_wp2
    go_ret
    exact ⟨_, rfl, OWt.nil _ _, Below.refl _ _⟩
  · clear hc
    simp only [List.length_map] at h1 hs ⊢
    have HS := hid hs
    clear hs
    have hown : (w.alloc (.cells #[] 104)).ownsRow w.heap.size 104 3 (.slice (some ⟨w.heap.size, 0, none⟩) 0 0) 0 [] := World.ownsRow_made w #[] 0 (Nat.le_refl _) (by decide) rfl
    go_enter Try.func63, Try.ntmps63
    go_wp2_with (at_builtin; refine app_row 104 65 3 24 _ Try.underlying65 Try.infoOWt rfl (by decide) (by decide) rfl _ _ rfl w.heap.size _ 0 [] rfl hown _ (l.map Wt.cells) rfl HS.out (lensWt l) (oneWt l) ?c1 ?c2 ?_)
    case c1 => simp; omega
    case c2 => simp
    intro v' w2 hown2 hgrow hb
    have hbel : Below w.heap.size w w2 := ((Below.refl _ _).alloc (Nat.le_refl _) _).trans hb
    have HO := hid (show OWt w2 w.heap.size v' l by unfold OWt; simpa using hown2)
    clear hown2 hown hgrow hb
    go_wp2
    go_ret
    exact ⟨_, rfl, HO.out, hbel⟩

theorem Try.infoOSp : (Try.prog.info? 78).map (fun i => (i.zero, i.size, i.bytes)) = some (some (.agg Sp.zero.cells.toArray), 3, 24) := by kernel_rfl

set_option maxRecDepth 100000 in
set_option maxHeartbeats 800000 in
theorem qclone_Sp {v : Value} {l : List Sp} {w : World} (hv : SeesSp w v l) (hlen : l.length ≤ 900000) :
    Calls Try.prog 74 #[v] w fun e w' => ∃ u, e = .returned u ∧ OSp w' w.heap.size u l ∧ Below w.heap.size w w' := by
  have hs : SeesSp (w.alloc (.cells #[] 78)) v l := hv.below ((Below.refl _ _).alloc (Nat.le_refl _) _)
  have hnil := fun (w : World) (a : Option Addr) (l c : Nat) => Lib.run_eql_slice_nil (P := Try.prog) w 34 78 a l c 0 0 Try.underlying34
  rcases hv with ⟨rfl, hn⟩ | ⟨ad, cap, rfl, h1, h2, hc⟩
  · have hl0 : l = [] := by simpa using hn
    subst hl0
    clear hs
    go_enter Try.func74, Try.ntmps74
    go_wp2
    go_ret
    exact ⟨_, rfl, OSp.nil _ _, Below.refl _ _⟩
  · clear hc
    simp only [List.length_map] at h1 hs ⊢
    have HS := hid hs
    clear hs
    have hown : (w.alloc (.cells #[] 78)).ownsRow w.heap.size 78 3 (.slice (some ⟨w.heap.size, 0, none⟩) 0 0) 0 [] := World.ownsRow_made w #[] 0 (Nat.le_refl _) (by decide) rfl
    go_enter Try.func74, Try.ntmps74
    go_wp2_with (at_builtin; refine app_row 78 34 3 24 _ Try.underlying34 Try.infoOSp rfl (by decide) (by decide) rfl _ _ rfl w.heap.size _ 0 [] rfl hown _ (l.map Sp.cells) rfl HS.out (lensSp l) (oneSp l) ?c1 ?c2 ?_)
    case c1 => simp; omega
    case c2 => simp
    intro v' w2 hown2 hgrow hb
    have hbel : Below w.heap.size w w2 := ((Below.refl _ _).alloc (Nat.le_refl _) _).trans hb
    have HO := hid (show OSp w2 w.heap.size v' l by unfold OSp; simpa using hown2)
    clear hown2 hown hgrow hb
    go_wp2
    go_ret
    exact ⟨_, rfl, HO.out, hbel⟩

theorem Try.infoOBdV : (Try.prog.info? 67).map (fun i => (i.zero, i.size, i.bytes)) = some (some (.agg BdV.zero.cells.toArray), 3, 40) := by kernel_rfl

set_option maxRecDepth 100000 in
set_option maxHeartbeats 800000 in
theorem qclone_BdV {v : Value} {l : List BdV} {w : World} (hv : SeesBdV w v l) (hlen : l.length ≤ 900000) :
    Calls Try.prog 80 #[v] w fun e w' => ∃ u, e = .returned u ∧ OBdV w' w.heap.size u l ∧ Below w.heap.size w w' := by
  have hs : SeesBdV (w.alloc (.cells #[] 67)) v l := hv.below ((Below.refl _ _).alloc (Nat.le_refl _) _)
  have hnil := fun (w : World) (a : Option Addr) (l c : Nat) => Lib.run_eql_slice_nil (P := Try.prog) w 30 67 a l c 0 0 Try.underlying30
  rcases hv with ⟨rfl, hn⟩ | ⟨ad, cap, rfl, h1, h2, hc⟩
  · have hl0 : l = [] := by simpa using hn
    subst hl0
    clear hs
    go_enter Try.func80, Try.ntmps80
    go_wp2
    go_ret
    exact ⟨_, rfl, OBdV.nil _ _, Below.refl _ _⟩
  · clear hc
    simp only [List.length_map] at h1 hs ⊢
    have HS := hid hs
    clear hs
    have hown : (w.alloc (.cells #[] 67)).ownsRow w.heap.size 67 3 (.slice (some ⟨w.heap.size, 0, none⟩) 0 0) 0 [] := World.ownsRow_made w #[] 0 (Nat.le_refl _) (by decide) rfl
    go_enter Try.func80, Try.ntmps80
    go_wp2_with (at_builtin; refine app_row 67 30 3 40 _ Try.underlying30 Try.infoOBdV rfl (by decide) (by decide) rfl _ _ rfl w.heap.size _ 0 [] rfl hown _ (l.map BdV.cells) rfl HS.out (lensBdV l) (oneBdV l) ?c1 ?c2 ?_)
    case c1 => simp; omega
    case c2 => simp
    intro v' w2 hown2 hgrow hb
    have hbel : Below w.heap.size w w2 := ((Below.refl _ _).alloc (Nat.le_refl _) _).trans hb
    have HO := hid (show OBdV w2 w.heap.size v' l by unfold OBdV; simpa using hown2)
    clear hown2 hown hgrow hb
    go_wp2
    go_ret
    exact ⟨_, rfl, HO.out, hbel⟩

theorem Try.infoOBfV : (Try.prog.info? 69).map (fun i => (i.zero, i.size, i.bytes)) = some (some (.agg BfV.zero.cells.toArray), 4, 64) := by kernel_rfl

set_option maxRecDepth 100000 in
set_option maxHeartbeats 800000 in
theorem qclone_BfV {v : Value} {l : List BfV} {w : World} (hv : SeesBfV w v l) (hlen : l.length ≤ 900000) :
    Calls Try.prog 81 #[v] w fun e w' => ∃ u, e = .returned u ∧ OBfV w' w.heap.size u l ∧ Below w.heap.size w w' := by
  have hs : SeesBfV (w.alloc (.cells #[] 69)) v l := hv.below ((Below.refl _ _).alloc (Nat.le_refl _) _)
  have hnil := fun (w : World) (a : Option Addr) (l c : Nat) => Lib.run_eql_slice_nil (P := Try.prog) w 31 69 a l c 0 0 Try.underlying31
  rcases hv with ⟨rfl, hn⟩ | ⟨ad, cap, rfl, h1, h2, hc⟩
  · have hl0 : l = [] := by simpa using hn
    subst hl0
    clear hs
    go_enter Try.func81, Try.ntmps81
    go_wp2
    go_ret
    exact ⟨_, rfl, OBfV.nil _ _, Below.refl _ _⟩
  · clear hc
    simp only [List.length_map] at h1 hs ⊢
    have HS := hid hs
    clear hs
    have hown : (w.alloc (.cells #[] 69)).ownsRow w.heap.size 69 4 (.slice (some ⟨w.heap.size, 0, none⟩) 0 0) 0 [] := World.ownsRow_made w #[] 0 (Nat.le_refl _) (by decide) rfl
    go_enter Try.func81, Try.ntmps81
    go_wp2_with (at_builtin; refine app_row 69 31 4 64 _ Try.underlying31 Try.infoOBfV rfl (by decide) (by decide) rfl _ _ rfl w.heap.size _ 0 [] rfl hown _ (l.map BfV.cells) rfl HS.out (lensBfV l) (oneBfV l) ?c1 ?c2 ?_)
    case c1 => simp; omega
    case c2 => simp
    intro v' w2 hown2 hgrow hb
    have hbel : Below w.heap.size w w2 := ((Below.refl _ _).alloc (Nat.le_refl _) _).trans hb
    have HO := hid (show OBfV w2 w.heap.size v' l by unfold OBfV; simpa using hown2)
    clear hown2 hown hgrow hb
    go_wp2
    go_ret
    exact ⟨_, rfl, HO.out, hbel⟩

theorem Try.infoOSeV : (Try.prog.info? 71).map (fun i => (i.zero, i.size, i.bytes)) = some (some (.agg SeV.zero.cells.toArray), 4, 48) := by kernel_rfl

set_option maxRecDepth 100000 in
set_option maxHeartbeats 800000 in
theorem qclone_SeV {v : Value} {l : List SeV} {w : World} (hv : SeesSeV w v l) (hlen : l.length ≤ 900000) :
    Calls Try.prog 82 #[v] w fun e w' => ∃ u, e = .returned u ∧ OSeV w' w.heap.size u l ∧ Below w.heap.size w w' := by
  have hs : SeesSeV (w.alloc (.cells #[] 71)) v l := hv.below ((Below.refl _ _).alloc (Nat.le_refl _) _)
  have hnil := fun (w : World) (a : Option Addr) (l c : Nat) => Lib.run_eql_slice_nil (P := Try.prog) w 32 71 a l c 0 0 Try.underlying32
  rcases hv with ⟨rfl, hn⟩ | ⟨ad, cap, rfl, h1, h2, hc⟩
  · have hl0 : l = [] := by simpa using hn
    subst hl0
    clear hs
    go_enter Try.func82, Try.ntmps82
    go_wp2
    go_ret
    exact ⟨_, rfl, OSeV.nil _ _, Below.refl _ _⟩
  · clear hc
    simp only [List.length_map] at h1 hs ⊢
    have HS := hid hs
    clear hs
    have hown : (w.alloc (.cells #[] 71)).ownsRow w.heap.size 71 4 (.slice (some ⟨w.heap.size, 0, none⟩) 0 0) 0 [] := World.ownsRow_made w #[] 0 (Nat.le_refl _) (by decide) rfl
    go_enter Try.func82, Try.ntmps82
    go_wp2_with (at_builtin; refine app_row 71 32 4 48 _ Try.underlying32 Try.infoOSeV rfl (by decide) (by decide) rfl _ _ rfl w.heap.size _ 0 [] rfl hown _ (l.map SeV.cells) rfl HS.out (lensSeV l) (oneSeV l) ?c1 ?c2 ?_)
    case c1 => simp; omega
    case c2 => simp
    intro v' w2 hown2 hgrow hb
    have hbel : Below w.heap.size w w2 := ((Below.refl _ _).alloc (Nat.le_refl _) _).trans hb
    have HO := hid (show OSeV w2 w.heap.size v' l by unfold OSeV; simpa using hown2)
    clear hown2 hown hgrow hb
    go_wp2
    go_ret
    exact ⟨_, rfl, HO.out, hbel⟩

theorem Try.infoOEvV : (Try.prog.info? 73).map (fun i => (i.zero, i.size, i.bytes)) = some (some (.agg EvV.zero.cells.toArray), 2, 32) := by kernel_rfl

set_option maxRecDepth 100000 in
set_option maxHeartbeats 800000 in
theorem qclone_EvV {v : Value} {l : List EvV} {w : World} (hv : SeesEvV w v l) (hlen : l.length ≤ 900000) :
    Calls Try.prog 83 #[v] w fun e w' => ∃ u, e = .returned u ∧ OEvV w' w.heap.size u l ∧ Below w.heap.size w w' := by
  have hs : SeesEvV (w.alloc (.cells #[] 73)) v l := hv.below ((Below.refl _ _).alloc (Nat.le_refl _) _)
  have hnil := fun (w : World) (a : Option Addr) (l c : Nat) => Lib.run_eql_slice_nil (P := Try.prog) w 33 73 a l c 0 0 Try.underlying33
  rcases hv with ⟨rfl, hn⟩ | ⟨ad, cap, rfl, h1, h2, hc⟩
  · have hl0 : l = [] := by simpa using hn
    subst hl0
    clear hs
    go_enter Try.func83, Try.ntmps83
    go_wp2
    go_ret
    exact ⟨_, rfl, OEvV.nil _ _, Below.refl _ _⟩
  · clear hc
    simp only [List.length_map] at h1 hs ⊢
    have HS := hid hs
    clear hs
    have hown : (w.alloc (.cells #[] 73)).ownsRow w.heap.size 73 2 (.slice (some ⟨w.heap.size, 0, none⟩) 0 0) 0 [] := World.ownsRow_made w #[] 0 (Nat.le_refl _) (by decide) rfl
    go_enter Try.func83, Try.ntmps83
    go_wp2_with (at_builtin; refine app_row 73 33 2 32 _ Try.underlying33 Try.infoOEvV rfl (by decide) (by decide) rfl _ _ rfl w.heap.size _ 0 [] rfl hown _ (l.map EvV.cells) rfl HS.out (lensEvV l) (oneEvV l) ?c1 ?c2 ?_)
    case c1 => simp; omega
    case c2 => simp
    intro v' w2 hown2 hgrow hb
    have hbel : Below w.heap.size w w2 := ((Below.refl _ _).alloc (Nat.le_refl _) _).trans hb
    have HO := hid (show OEvV w2 w.heap.size v' l by unfold OEvV; simpa using hown2)
    clear hown2 hown hgrow hb
    go_wp2
    go_ret
    exact ⟨_, rfl, HO.out, hbel⟩

theorem Try.infoOQuV : (Try.prog.info? 75).map (fun i => (i.zero, i.size, i.bytes)) = some (some (.agg QuV.zero.cells.toArray), 3, 40) := by kernel_rfl

set_option maxRecDepth 100000 in
set_option maxHeartbeats 800000 in
theorem qclone_QuV {v : Value} {l : List QuV} {w : World} (hv : SeesQuV w v l) (hlen : l.length ≤ 900000) :
    Calls Try.prog 84 #[v] w fun e w' => ∃ u, e = .returned u ∧ OQuV w' w.heap.size u l ∧ Below w.heap.size w w' := by
  have hs : SeesQuV (w.alloc (.cells #[] 75)) v l := hv.below ((Below.refl _ _).alloc (Nat.le_refl _) _)
  have hnil := fun (w : World) (a : Option Addr) (l c : Nat) => Lib.run_eql_slice_nil (P := Try.prog) w 35 75 a l c 0 0 Try.underlying35
  rcases hv with ⟨rfl, hn⟩ | ⟨ad, cap, rfl, h1, h2, hc⟩
  · have hl0 : l = [] := by simpa using hn
    subst hl0
    clear hs
    go_enter Try.func84, Try.ntmps84
    go_wp2
    go_ret
    exact ⟨_, rfl, OQuV.nil _ _, Below.refl _ _⟩
  · clear hc
    simp only [List.length_map] at h1 hs ⊢
    have HS := hid hs
    clear hs
    have hown : (w.alloc (.cells #[] 75)).ownsRow w.heap.size 75 3 (.slice (some ⟨w.heap.size, 0, none⟩) 0 0) 0 [] := World.ownsRow_made w #[] 0 (Nat.le_refl _) (by decide) rfl
    go_enter Try.func84, Try.ntmps84
    go_wp2_with (at_builtin; refine app_row 75 35 3 40 _ Try.underlying35 Try.infoOQuV rfl (by decide) (by decide) rfl _ _ rfl w.heap.size _ 0 [] rfl hown _ (l.map QuV.cells) rfl HS.out (lensQuV l) (oneQuV l) ?c1 ?c2 ?_)
    case c1 => simp; omega
    case c2 => simp
    intro v' w2 hown2 hgrow hb
    have hbel : Below w.heap.size w w2 := ((Below.refl _ _).alloc (Nat.le_refl _) _).trans hb
    have HO := hid (show OQuV w2 w.heap.size v' l by unfold OQuV; simpa using hown2)
    clear hown2 hown hgrow hb
    go_wp2
    go_ret
    exact ⟨_, rfl, HO.out, hbel⟩

set_option maxRecDepth 100000 in
set_option maxHeartbeats 800000 in
theorem qclone_Px {v : Value} {l : List Px} {w : World} (hv : SeesPx w v l) (hlen : l.length ≤ 900000) :
    Calls Try.prog 65 #[v] w fun e w' => ∃ u, e = .returned u ∧ OP w' w.heap.size u l ∧ Below w.heap.size w w' := by
  have hs : SeesPx (w.alloc (.cells #[] 57)) v l := hv.below ((Below.refl _ _).alloc (Nat.le_refl _) _)
  have hnil := fun (w : World) (a : Option Addr) (l c : Nat) => Lib.run_eql_slice_nil (P := Try.prog) w 29 57 a l c 0 0 Try.underlying29
  rcases hv with ⟨rfl, hn⟩ | ⟨ad, cap, rfl, h1, h2, hc⟩
  · have hl0 : l = [] := by simpa using hn
    subst hl0
    clear hs
    go_enter Try.func65, Try.ntmps65
    go_wp2
    go_ret
    exact ⟨_, rfl, OP.nil _ _, Below.refl _ _⟩
  · clear hc
    simp only [List.length_map] at h1 hs ⊢
    have HS := hid hs
    clear hs
    have hown : (w.alloc (.cells #[] 57)).ownsRow w.heap.size 57 18 (.slice (some ⟨w.heap.size, 0, none⟩) 0 0) 0 [] := World.ownsRow_made w #[] 0 (Nat.le_refl _) (by decide) rfl
    go_enter Try.func65, Try.ntmps65
    go_wp2_with (at_builtin; refine app_row 57 29 18 144 _ Try.underlying29 Try.infoOP rfl (by decide) (by decide) rfl _ _ rfl w.heap.size _ 0 [] rfl hown _ (l.map Px.cells) rfl HS.out (px_lens l) (px_one l) ?c1 ?c2 ?_)
    case c1 => simp; omega
    case c2 => simp
    intro v' w2 hown2 hgrow hb
    have hbel : Below w.heap.size w w2 := ((Below.refl _ _).alloc (Nat.le_refl _) _).trans hb
    have HO := hid (show OP w2 w.heap.size v' l by unfold OP; simpa using hown2)
    clear hown2 hown hgrow hb
    go_wp2
    go_ret
    exact ⟨_, rfl, HO.out, hbel⟩

set_option maxRecDepth 100000 in
set_option maxHeartbeats 800000 in
theorem qclone_int {v : Value} {l : List Int} {w : World} (hv : Sees w .i64 v l) (hlen : l.length ≤ 900000) :
    Calls Try.prog 64 #[v] w fun e w' => ∃ u, e = .returned u ∧ OI w' w.heap.size u l ∧ Below w.heap.size w w' := by
  have hs : Sees (w.alloc (.cells #[] 3)) .i64 v l := hv.below ((Below.refl _ _).alloc (Nat.le_refl _) _)
  have hnil := fun (w : World) (a : Option Addr) (l c : Nat) => Lib.run_eql_slice_nil (P := Try.prog) w 26 3 a l c 0 0 Try.underlying26
  rcases hv with ⟨rfl, rfl⟩ | ⟨ad, cap, rfl, h1, h2, hc⟩
  · clear hs
    go_enter Try.func64, Try.ntmps64
    go_wp2
    go_ret
    exact ⟨_, rfl, ⟨rfl, .inl ⟨rfl, rfl⟩⟩, Below.refl _ _⟩
  · clear hc
    have HS := hid hs
    clear hs
    have hown : OI (w.alloc (.cells #[] 3)) w.heap.size (.slice (some ⟨w.heap.size, 0, none⟩) 0 0) [] := World.ownsRow_made w #[] 0 (Nat.le_refl _) (by decide) rfl
    go_enter Try.func64, Try.ntmps64
    go_wp2_with (at_builtin; refine app_ints rfl _ _ rfl w.heap.size _ [] rfl hown _ l rfl HS.out ?c1 ?c2 ?_)
    case c1 => simp; omega
    case c2 => simp
    intro v' w2 hown2 hgrow hb
    have hbel : Below w.heap.size w w2 := ((Below.refl _ _).alloc (Nat.le_refl _) _).trans hb
    have HO := hid (show OI w2 w.heap.size v' l by simpa using hown2)
    clear hown2 hown hgrow hb
    go_wp2
    go_ret
    exact ⟨_, rfl, HO.out, hbel⟩

end Go.Proofs.Ytdanfnbclbiidaa
