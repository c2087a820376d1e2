/-
  Whose deadline went by, and a partition in which that is told: what times.Late returns.
-/
import Derived.Test.YtdanfnbclbiidaaUWake
namespace Go.Proofs.Ytdanfnbclbiidaa
open Go.RowKit
set_option linter.unusedVariables false

/-- What Late writes into. -/
def SL (t : TypeId) : Prop := t = 57 ∨ t = 26
theorem Turns.go {S : TypeId → Prop} {a b c : World} (h : Turns S a b) (k : Below a.heap.size b c) : Turns S a c :=
  ⟨k.os.trans h.os, k.tape.trans h.tape, k.output.trans h.output, Nat.le_trans h.size k.size, fun i hi ht => (k.block i hi).trans (h.block i hi ht), fun i t hi ⟨cs, fr, e⟩ => h.tag i t hi ⟨cs, fr, by rw [← k.block i hi]; exact e⟩⟩
/-- The numbers of the late ones among the first k. -/
def lateI (c : Pa) (now : Int) (k : Nat) : List Int := ((List.range k).filter fun i => lateX now (c.pr.getD i Px.zero)).map fun i : Nat => (i : Int)
theorem lateI_len (c : Pa) (now : Int) (k : Nat) : (lateI c now k).length ≤ k := by
  unfold lateI
  rw [List.length_map]
  exact Nat.le_trans (List.length_filter_le _ _) (by simp)
theorem lateI_yes {c : Pa} {now : Int} {k : Nat} (h : lateX now (c.pr.getD k Px.zero) = true) : lateI c now (k + 1) = lateI c now k ++ [(k : Int)] := by
  unfold lateI
  rw [List.range_succ, List.filter_append, List.map_append]
  simp [List.getD] at h
  simp [h]
theorem lateI_no {c : Pa} {now : Int} {k : Nat} (h : lateX now (c.pr.getD k Px.zero) = false) : lateI c now (k + 1) = lateI c now k := by
  unfold lateI
  rw [List.range_succ, List.filter_append, List.map_append]
  simp [List.getD] at h
  simp [h]
theorem lateI_all (c : Pa) (now : Int) : lateI c now c.pr.length = (lateL c now).map fun i : Nat => (i : Int) := rfl
theorem lateS_len (c : Pa) (now : Int) (k : Nat) : (lateS c now k).pr.length = c.pr.length := by
  unfold lateS
  simp
  omega
theorem lateS_ge (c : Pa) (now : Int) {k j : Nat} (h : k ≤ j) (hk : k ≤ c.pr.length) : (lateS c now k).pr.getD j Px.zero = c.pr.getD j Px.zero := by
  unfold lateS
  simp only [List.getD]
  rw [List.getElem?_append_right (by simp; omega)]
  simp only [List.length_map, List.length_take, List.getElem?_drop]
  rw [show k + (j - min k c.pr.length) = j by omega]
theorem lateS_succ (c : Pa) (now : Int) {k : Nat} (hk : k < c.pr.length) : (lateS c now (k + 1)).pr = (lateS c now k).pr.set k (toldX now (c.pr.getD k Px.zero)) := by
  unfold lateS
  apply List.ext_getElem?
  intro j
  simp only [List.getElem?_set, List.getElem?_append, List.length_map, List.length_take, List.length_append, List.length_drop, List.getElem?_map, List.getElem?_take, List.getElem?_drop, List.getD]
  rcases Nat.lt_trichotomy j k with h | h | h
  · rw [if_pos (by omega), if_pos (by omega), if_neg (by omega), if_pos (by omega), if_pos (by omega)]
  · subst h
    rw [if_pos (by omega), if_pos (by omega), if_pos rfl, if_pos (by omega)]
    simp [hk]
  · rw [if_neg (by omega), if_neg (by omega), if_neg (by omega)]
    congr 1
    omega
theorem lateS_skip (c : Pa) (now : Int) {k : Nat} (hk : k < c.pr.length) (h : lateX now (c.pr.getD k Px.zero) = false) : (lateS c now (k + 1)).pr = (lateS c now k).pr := by
  rw [lateS_succ c now hk]
  unfold toldX
  rw [if_neg (by rw [h]; simp), ← lateS_ge c now (Nat.le_refl k) (by omega), set_getD_self]

/-- What holds ahead of round k. -/
structure LateI (w V : World) (LB : Nat) (c : Pa) (now : Int) (s : Sl) (k : Nat) (W : World) : Prop where
  lo : Below w.heap.size w W
  rel : Turns SL V W
  row : OP W w.heap.size s.val (lateS c now k).pr
  lb : ∃ v, BoxAt W LB 26 #[v] ∧ OI W V.heap.size v (lateI c now k)
theorem LateI.put {w V : World} {LB : Nat} {c : Pa} {now : Int} {s : Sl} {k : Nat} {W : World} (h : LateI w V LB c now s k W) {l : Nat} {o : Obj} (o' : Obj) (hw : w.heap.size ≤ V.heap.size) (hl : V.heap.size ≤ l) (ho : W.heap[l]? = some o) (hc : o.isCells = false) : LateI w V LB c now s k (W.putObj l o') := by
  have hk := KeptC.put ho hc o'
  obtain ⟨v, h1, h2⟩ := h.lb
  exact ⟨below_put h.lo (by omega), h.rel.go (below_put (Below.refl _ _) hl), h.row.kept hk, v, h1.kept hk, h2.kept hk⟩
theorem LateI.below {w V : World} {LB : Nat} {c : Pa} {now : Int} {s : Sl} {k : Nat} {W W' : World} (h : LateI w V LB c now s k W) (hb : Below W.heap.size W W') : LateI w V LB c now s k W' := by
  obtain ⟨v, h1, h2⟩ := h.lb
  exact ⟨h.lo.trans (hb.mono h.lo.size), h.rel.go (hb.mono h.rel.size), h.row.below hb, v, h1.belowAll hb, h2.below hb⟩
/-- A walk that lets nothing out. -/
theorem wp_calm {P : Program} {c : Code} {K : Act → World → Prop} {Q : Exit → Act → World → Prop} {a : Act} {w : World} (h : c.wp P (Exit.then K (fun _ _ _ => False)) a w) : c.wp P (Exit.then K Q) a w :=
  Code.wp_mono (fun e a w q => by cases e <;> first | exact q | exact q.elim) h
theorem owns_low {w w' : World} {B base g n cap k : Nat} {e : TypeId} {size : Nat} {xs : List Value} (h : w.ownsRow base e size (.slice (some ⟨g, 0, none⟩) n cap) k xs) (hb : Below B w w') (hg : g < B) : w'.ownsRow base e size (.slice (some ⟨g, 0, none⟩) n cap) k xs := by
  refine ⟨h.1, ?_⟩
  rcases h.2 with h | ⟨g', cap', cur, hv, hg', hh, hrest⟩
  · exact .inl h
  · have e : g = g' := by simp only [Value.slice.injEq, Option.some.injEq, Addr.mk.injEq] at hv; exact hv.1.1
    subst e
    exact .inr ⟨g, cap', cur, hv, hg', (hb.block g hg).trans hh, hrest⟩
theorem PW.low {w w' : World} {B base g cap i : Nat} {L : List Px} {r : Px} (h : PW w base g cap i L r) (hb : Below B w w') (hg : g < B) : PW w' base g cap i L r := ⟨owns_low h.op hb hg, h.lt⟩
theorem owns_others {w w' : World} {base n : Nat} {e : TypeId} {size : Nat} {v : Value} {xs : List Value} (h : w.ownsRow base e size v n xs) (hg : w.grownBy w' v.ownBlock) (B : Nat) : Others B w w' := by
  refine ⟨hg.size, fun k o _ hk ho => (hg.block k (Array.getElem?_eq_some_iff.1 hk).1 (fun e => ?_)).trans hk⟩
  rcases h.2 with ⟨rfl, _⟩ | ⟨g', cap', cur, rfl, hg', hh, hrest⟩
  · simp [Value.ownBlock] at e
  · simp only [Value.ownBlock, Option.some.injEq] at e
    subst e
    rw [hk] at hh
    injection hh with hh
    subst hh
    cases ho
theorem Try.entersLate1 : ∀ args w, (callFunc 39 args).run Try.prog w = .ok (.enter 39 args) w := enters_of Try.func39 (by kernel_rfl) rfl
theorem Try.zeroInts : (Try.prog.info? 26).bind (·.zero) = some (.slice none 0 0) := by kernel_rfl
theorem results_tmp_box {P : Program} {fn : Func} {p u : Tmp} {ty : TypeId} (h : fn.results = #[.tmp u, .cell p ty]) (tmps : Array Value) (w : World) (g : Nat) (t : TypeId) (cs : Array Value) (fr : Nat × Nat) (d : TypeDesc)
    (hp : tmps.getD p undef = .pointer (some ⟨g, 0, none⟩)) (hg : w.heap[g]? = some (.cells cs t fr))
    (hu : P.underlying ty = some d) (hd : (match d with | .struct _ | .array _ _ => true | _ => false) = true) (hi : (P.info? ty).map (·.size) = some cs.size) :
    (results fn tmps).run P w = .ok (.tuple #[tmps.getD u undef, .agg cs]) w := by
  have hp' : tmps[p]?.getD undef = .pointer (some ⟨g, 0, none⟩) := by simpa using hp
  simp [results, h, hp', asAddr, run_loadVar_row w g t ty cs fr d hg hu hd hi]

set_option maxRecDepth 100000 in
set_option maxHeartbeats 6400000 in
theorem late_any {q : PaV} {c : Pa} {now : Int} {w : World} (ha : PaAt w q c) (hsm : c.small) :
    Calls Try.prog 14 #[q.val, .int .i64 now] w fun e w' => ∃ v q', e = .returned (.tuple #[v, PaV.val q']) ∧ OI w' w.heap.size v ((lateL c now).map fun i : Nat => (i : Int)) ∧ PaO w' w.heap.size q' (lateC c now) ∧ Below w.heap.size w w' := by
  have hmf : ∀ (fn : Fn) (first cap : Array Value) (w : World), (Instr.makeFunc fn first cap).run Try.prog w = .ok (.func fn first cap) w := fun _ _ _ _ => rfl
  have HA := hid ha
  have HSm := hid hsm
  have HB := hid (Below.refl w.heap.size w)
  clear ha hsm
  refine (callsIn_wide (n := 0)).1 (callsIn_of_wp_marks Try.func14 rfl trivial (wpIn_wide.2 ?_) rfl)
  simp only [Try.ntmps14, List.size_toArray, List.length_cons, List.length_nil, Nat.reduceAdd, Nat.reduceSub, Array.replicate_succ, Array.replicate_zero, List.push_toArray, List.append_toArray, List.nil_append, List.cons_append]
  have FL1 := hid trivial
  have FL2 := hid trivial
  have FL3 := hid trivial
  go_wp2_with (first
    | (have hfl := FL1.out
       refine wpList_box rfl 39 (.tmp 0) rfl (PaV.cells q).toArray rfl ?_
       intro v1 b h z
       have PB := hid (show BoxAt v1 w.heap.size 39 (PaV.cells q).toArray from b)
       have HB := hid (HB.out.trans (h.mono HB.out.size))
       have hsv1 : w.heap.size + 1 ≤ v1.heap.size := by omega
       clear b h z hfl FL1)
    | (have hfl := FL2.out
       refine wpList_box1 rfl 3 (.tmp 1) rfl (.int .i64 now) rfl rfl ?_
       intro v2 b h z
       have NB := hid (show BoxAt v2 v1.heap.size 3 #[.int .i64 now] from b)
       have PB := hid (PB.out.belowAll h)
       have HB := hid (HB.out.trans (h.mono HB.out.size))
       have hsv2 : v1.heap.size + 1 ≤ v2.heap.size := by omega
       clear b h z hfl FL2)
    | (have hfl := FL3.out
       refine wpList_new rfl 39 rfl _ Try.zeroPa ?_
       intro v3 b h z
       have RB := hid (show BoxAt v3 v2.heap.size 39 (PaV.cells PaV.zero).toArray from b)
       have PB := hid (PB.out.belowAll h)
       have NB := hid (NB.out.belowAll h)
       have HB := hid (HB.out.trans (h.mono HB.out.size))
       have hsv3 : v2.heap.size + 1 ≤ v3.heap.size := by omega
       clear b h z hfl FL3)
    | (refine wpList_load_box rfl 39 _ rfl w.heap.size rfl _ _ PB.out _ Try.underlying39 Try.infoPa ?_)
    | fail)
  refine (own_any (HA.out.below HB.out) HSm.out).mono ?_
  rintro e v4 ⟨q1, rfl, ho, hb⟩
  have PB := hid (PB.out.belowAll hb)
  have NB := hid (NB.out.belowAll hb)
  have RB := hid (RB.out.belowAll hb)
  have HB := hid (HB.out.trans (hb.mono HB.out.size))
  have hsv4 : v3.heap.size ≤ v4.heap.size := hb.size
  have HO := hid (ho.mono (show w.heap.size ≤ v3.heap.size by omega))
  clear ho
  clear hb
  obtain ⟨s, hs⟩ : ∃ s, q1.pr = s := ⟨_, rfl⟩
  have HS := hid hs
  obtain ⟨ap, cpp, hpv, hp1, hp2, _⟩ := HO.out.pr.sees.form
  have hsv : s = ⟨ap, c.pr.length, cpp⟩ := by have h := hpv; rw [hs] at h; obtain ⟨x, y, z⟩ := s; simp only [Sl.val, Value.slice.injEq] at h; rw [h.1, h.2.1, h.2.2]
  have HSV := hid hsv
  have HCap := hid (show cpp ≤ 9223372036854775807 from hp2)
  clear hs hpv hp1 hp2 hsv
  have FL4 := hid trivial
  have FL5 := hid trivial
  go_wp2_with (first
    | (have hfl := FL4.out
       refine wpList_store_whole rfl 39 _ _ rfl rfl w.heap.size rfl (PaV.cells q1) rfl _ _ PB.out rfl Try.infoPa (PaV.one _) ?_
       intro v5 b g z
       have hsv5 : v4.heap.size ≤ v5.heap.size := by omega
       have HO := hid (HO.out.turn (Turns.grown (S := fun t => t = 39) PB.out b rfl g))
       have PB := hid (show BoxAt v5 w.heap.size 39 (PaV.cells q1).toArray from b)
       have NB := hid (NB.out.grown g (fun e => by have := Option.some.inj e; omega))
       have RB := hid (RB.out.grown g (fun e => by have := Option.some.inj e; omega))
       have HB := hid (HB.out.trans (grown_below g (by omega) (by omega)))
       have kPB4 : v5.cell? ⟨w.heap.size, 4, none⟩ = some (.slice ap c.pr.length cpp) := (BoxAt.cell PB.out 4).trans (by show some q1.pr.val = _; rw [HS.out, HSV.out]; rfl)
       clear b g z hfl FL4)
    | (have hfl := FL5.out
       refine wpList_new1 rfl 26 rfl (.slice none 0 0) rfl Try.zeroInts ?_
       intro v6 b h z
       have LB := hid (show BoxAt v6 v5.heap.size 26 #[.slice none 0 0] from b)
       have PB := hid (PB.out.belowAll h)
       have NB := hid (NB.out.belowAll h)
       have RB := hid (RB.out.belowAll h)
       have HO := hid (HO.out.below h)
       have HB := hid (HB.out.trans (h.mono HB.out.size))
       have hsv6 : v5.heap.size + 1 ≤ v6.heap.size := by omega
       clear kPB4
       have kPB4 : v6.cell? ⟨w.heap.size, 4, none⟩ = some (.slice ap c.pr.length cpp) := (BoxAt.cell PB.out 4).trans (by show some q1.pr.val = _; rw [HS.out, HSV.out]; rfl)
       clear b h z hfl FL5)
    | fail)
  refine (those_any ap c.pr.length cpp 39 #[.pointer (some ⟨v1.heap.size, 0, none⟩)] v6).mono ?_
  rintro e v7 ⟨rfl, hb1, hb2, hb⟩
  have B1 := hid hb1
  have B2 := hid hb2
  have PB := hid (PB.out.belowAll hb)
  have NB := hid (NB.out.belowAll hb)
  have RB := hid (RB.out.belowAll hb)
  have LB := hid (LB.out.belowAll hb)
  have HO := hid (HO.out.below hb)
  have HB := hid (HB.out.trans (hb.mono HB.out.size))
  have hsv7 : v6.heap.size ≤ v7.heap.size := hb.size
  clear hb hb1 hb2 kPB4
  have I0 := hid (show LateI w v7 v5.heap.size c now s 0 v7 from ⟨HB.out, Turns.refl _ _, by rw [lateS_zero]; have h := HO.out.pr; rw [HS.out] at h; exact h, .slice none 0 0, LB.out, ⟨rfl, .inl ⟨rfl, rfl⟩⟩⟩)
  go_wp2_with fail
  refine (wpIn_wide (n := 0)).1 ?_
  refine range_law (gf := 51) (lb := #[.pointer (some ⟨v6.heap.size, 0, none⟩), .pointer (some ⟨v6.heap.size + 1, 0, none⟩)]) rfl Try.entersThose1 c.pr.length (fun k => lateX now (c.pr.getD k Px.zero)) (fun k => #[.int .i64 (k : Nat), (c.pr.getD k Px.zero).val]) (fun _ => rfl)
    (LateI w v7 v5.heap.size c now s) ?put ?below ?skip I0.out ?call ?round ?done
  case put => exact fun k W l o o' h hl ho hc => h.put o' (by omega) hl ho hc
  case below => exact fun k W W' h hb => h.below hb
  case skip =>
    intro k W hk hb h
    obtain ⟨v, h1, h2⟩ := h.lb
    exact ⟨h.lo, h.rel, by rw [lateS_skip c now hk hb]; exact h.row, v, h1, by rw [lateI_no hb]; exact h2⟩
  case call =>
    intro l J W hI hJb hJs hY h0
    refine iter_any l v6.heap.size (v6.heap.size + 1) c.pr.length cpp 39 ap #[.pointer (some ⟨v1.heap.size, 0, none⟩)] (fun k => c.pr.getD k Px.zero) (fun k => lateX now (c.pr.getD k Px.zero)) J Try.entersLate1 (by have := HSm.out.pr; omega) (fun k W h => B1.out.turn (by unfold SL; decide) (hI k W h).rel) (fun k W h => B2.out.turn (by unfold SL; decide) (hI k W h).rel) (fun k W hk h => ?_) (fun k W hk h => late1_any _ _ _ _ (NB.out.turn (by unfold SL; decide) (hI k W h).rel)) hJb hJs hY W h0
    have hr := (hI k W h).row
    rw [HSV.out] at hr
    obtain ⟨g, cap, e, _, _, _, _⟩ := OP.form hr (by rw [lateS_len]; omega)
    rw [e] at hr
    have hx := OP.at hr k (by rw [lateS_len]; exact hk)
    rw [lateS_ge c now (Nat.le_refl k) (by omega)] at hx
    simp only [Sl.val, Value.slice.injEq] at e
    exact ⟨g, 0, e.1, by rw [Nat.zero_add]; exact hx⟩
  case done =>
    intro D W hD hI hK
    obtain ⟨v, hv1, hv2⟩ := hI.lb
    have LBf := hid hv1
    have HL := hid hv2
    have PB := hid (PB.out.turn (S := SL) (by unfold SL; decide) hI.rel)
    have RB := hid (RB.out.turn (S := SL) (by unfold SL; decide) hI.rel)
    have HOf := hid (show PaO W w.heap.size q1 (lateC c now) from by
      have hr := hI.row
      have h := HO.out.procs (S := SL) (by unfold SL; decide) (by unfold SL; decide) (by unfold SL; decide) (by unfold SL; decide) (by unfold SL; decide) (by unfold SL; decide) (by unfold SL; decide) (by unfold SL; decide) hI.rel _ c.nx (by rw [HS.out]; exact hr)
      rw [show ({ q1 with nx := c.nx } : PaV) = q1 from by rw [← HO.out.nx]] at h
      rw [← lateS_all]
      exact h)
    have HB := hid hI.lo
    have HK := hid hK
    have hDs : w.heap.size ≤ D := by omega
    have hrs : w.heap.size ≤ v2.heap.size := by omega
    have hWs := hI.lo.size
    obtain ⟨la, lc, hve, _, _, _⟩ := hv2.sees.form
    obtain ⟨n, hn⟩ : ∃ n, (lateI c now c.pr.length).length = n := ⟨_, rfl⟩
    rw [hn] at hve
    subst hve
    have HVw := hid (show w.heap.size ≤ v7.heap.size by omega)
    have hrl : v2.heap.size ≠ v5.heap.size := by omega
    have hrp : v2.heap.size ≠ w.heap.size := by omega
    clear hI hK hv1 hv2 hn
    go_wp2_with fail
    refine wp_calm ?_
    have LBf := hid (BoxAt.drew LBf.out)
    have PB := hid (BoxAt.drew PB.out)
    have RB := hid (BoxAt.drew RB.out)
    have HL := hid (HL.out.below ((Below.refl W.heap.size W).drew))
    have HOf := hid (HOf.out.below ((Below.refl W.heap.size W).drew))
    have HB := hid HB.out.drew
    have HK := hid (show W.drew.heap[D]? = some (.deferred (some [])) from HK.out)
    refine wp_region_held_drew (S := (fun V => BoxAt V v5.heap.size 26 #[.slice la n lc] ∧ BoxAt V w.heap.size 39 (PaV.cells q1).toArray)) (by kernel_rfl) (⟨LBf.out, PB.out⟩) (fun hHeld => ?_)
    refine wpAnyH_take (i := 0) (oi := { dst := some 27, op := Op.load 26 (Operand.tmp 7), type := 26, pos := "times.go:47", after := #[], guard := none }) (v := ?v1) rfl (by kernel_rfl) (by kernel_rfl) (by kernel_rfl) (fun _ _ _ h => h) (Or.inl ⟨by rfl, ?hy1⟩) (by assumption) ?rest1
    case hy1 => (intro V hSw; have c4 : V.cell? ⟨v5.heap.size, 0, none⟩ = some (.slice la n lc) := (BoxAt.cell hSw.1 0).trans rfl; clear hSw; go_simp; try with_reducible rfl)
    simp only [Act.put, List.setIfInBounds_toArray, List.set_cons_zero, List.set_cons_succ]
    refine wpAnyH_take (i := 1) (oi := { dst := some 28, op := Op.load 39 (Operand.tmp 2), type := 39, pos := "times.go:47", after := #[{ on := 2, ground := Ground.gcOnly Departure.lateStores }], guard := none }) (v := ?v2) rfl (by kernel_rfl) (by kernel_rfl) (by kernel_rfl) (fun _ _ _ h => h) (Or.inl ⟨by rfl, ?hy2⟩) (by assumption) ?rest2
    case hy2 => (intro V hSw; refine box_yields 39 (.tmp 2) ?_ (w.heap.size) ?_ (PaV.cells q1) 39 _ Try.underlying39 Try.infoPa hSw.2 <;> rfl)
    simp only [Act.put, List.setIfInBounds_toArray, List.set_cons_zero, List.set_cons_succ]
    refine wpAnyH_take (i := 2) (oi := { dst := some 4, op := Op.assign (Operand.tmp 27), type := 26, pos := "times.go:47", after := #[{ on := 0, ground := Ground.data }, { on := 0, ground := Ground.phase }, { on := 1, ground := Ground.textOnly Departure.lateStores }], guard := none }) (v := ?v3) rfl (by kernel_rfl) (by kernel_rfl) (by kernel_rfl) (fun _ _ _ h => h) (Or.inl ⟨by rfl, ?hy3⟩) (by assumption) ?rest3
    case hy3 => (intro w hSw; (try dsimp only at hSw); go_simp; try with_reducible rfl)
    simp only [Act.put, List.setIfInBounds_toArray, List.set_cons_zero, List.set_cons_succ]
    refine wpAnyH_ready (rs := [3]) (by kernel_rfl) (by simp) (AllReadyH.cons (o := { dst := none, op := Op.store 39 (Operand.tmp 5) (Operand.tmp 28), type := 0, pos := "times.go:47", after := #[{ on := 1, ground := Ground.data }, { on := 2, ground := Ground.chain }, { on := 0, ground := Ground.phase }, { on := 1, ground := Ground.phase }, { on := 2, ground := Ground.phase }], guard := none }) rfl (fun K4 hK4 => ?_) AllReadyH.nil)
    refine wp_store_whole 39 _ _ rfl (v2.heap.size) rfl (PaV.cells q1) rfl _ _ RB.out rfl Try.infoPa (PaV.one _) ?_
    intro z b gr hz
    have ht := Turns.grown (S := fun t => t = 39) RB.out b rfl gr
    have HOf := hid (HOf.out.turn ht)
    have HL := hid (OI.turn (S := fun t => t = 39) HL.out (by decide) ht)
    have HK := hid ((ht.others 0).same D _ (Nat.zero_le _) HK.out rfl)
    have hdz : W.drew.heap.size = W.heap.size := rfl
    have HB := hid (HB.out.trans (grown_below gr hrs (by omega)))
    have LBf := hid (LBf.out.grown gr (fun e => hrl (Option.some.inj e).symm))
    have PB := hid (PB.out.grown gr (fun e => hrp (Option.some.inj e).symm))
    have RB := hid (show BoxAt z (v2.heap.size) 39 (PaV.cells q1).toArray from b)
    clear b gr hz ht
    refine hK4.out _ _ (⟨LBf.out, PB.out⟩) (fun hHeld4 => ?_)
    clear hK4 K4
    try simp only [Act.put]
    refine wpAnyH_done (by kernel_rfl) ?_ _
    clear hHeld hHeld4
    go_wp2_with fail
    refine ⟨by simp, .inl ⟨_, _, rfl, run_takeDeferred HK.out, ?_⟩⟩
    have hk := KeptC.put HK.out rfl (.deferred none)
    refine ⟨_, results_tmp_box rfl _ _ (v2.heap.size) 39 _ (0, 0) _ rfl (RB.out.kept hk) Try.underlying39 rfl Try.infoPa, _, q1, rfl, ?_, HOf.out.kept hk, below_put HB.out hDs⟩
    exact (HL.out.mono HVw.out).kept hk
  case round =>
    intro l k W hl hk hbk hI hrl
    obtain ⟨x, hx⟩ : ∃ x, c.pr.getD k Px.zero = x := ⟨_, rfl⟩
    have HEs := hid (lateS_succ c now hk)
    have HEi := hid (lateI_yes hbk)
    have HTo := hid (show toldX now x = { x with du := -1 } from by unfold toldX; rw [if_pos (by rw [← hx]; exact hbk)])
    have HI := hid hI
    have HRl := hid hrl
    have HK9 := hid hk
    have hN9 := HSm.out.pr
    have HLn := hid (lateI_len c now k)
    rw [hx] at HEs ⊢
    have HRx := hid (lateS_ge c now (Nat.le_refl k) (show k ≤ c.pr.length by omega))
    rw [hx] at HRx
    have HRn := hid (lateS_len c now k)
    clear hI hrl hbk hx I0
    refine region_in l rfl shut_normal ?_
    go_wp2_with fail
    refine ⟨KeepsFrom.refl _ _, fun o' => ?_⟩
    obtain ⟨rl, hrl⟩ := HRl.out
    have hlW : l < W.heap.size := (Array.getElem?_eq_some_iff.1 hrl).1
    have HI2 := hid (HI.out.put o' (by omega) (by omega) hrl rfl)
    have hwl : w.heap.size ≤ W.heap.size := HI.out.lo.size
    have hUs0 : (W.putObj l o').heap.size = W.heap.size := by simp
    generalize W.putObj l o' = U at HI2 hUs0 ⊢
    clear HI HRl hrl
    obtain ⟨v, hv1, hv2⟩ := HI2.out.lb
    have LB2 := hid hv1
    have HL := hid hv2
    have PB2 := hid (PB.out.turn (S := SL) (by unfold SL; decide) HI2.out.rel)
    have HRel := hid HI2.out.rel
    have HLo := hid HI2.out.lo
    have hro := HI2.out.row
    obtain ⟨L, hL⟩ : ∃ L, (lateS c now k).pr = L := ⟨_, rfl⟩
    rw [hL] at HEs HRx HRn hro
    rw [HSV.out] at hro
    obtain ⟨g, cap, e, hg1, hg2, hg3, hg4⟩ := OP.form hro (by rw [HRn.out]; have := HK9.out; omega)
    have HRo := hid hro
    have hgV : g < v7.heap.size := by
      have h1 := HO.out.pr
      rw [HS.out, HSV.out] at h1
      have e2 : ap = some ⟨g, 0, none⟩ := by simp only [Sl.val, Value.slice.injEq] at e; exact e.1
      exact (h1.lt g (by rw [e2]; rfl)).2
    rw [e] at hro
    have HPw := hid (PW.start hro (show k < L.length by rw [HRn.out]; exact HK9.out))
    rw [HRx.out] at HPw
    have HTT := hid (Turns.refl SL U)
    have HVl := hid (show v7.heap.size ≤ U.heap.size by omega)
    obtain ⟨M, hM⟩ : ∃ M, lateI c now k = M := ⟨_, rfl⟩
    rw [hM] at HL HEi HLn
    have lb0 : U.cell? ⟨v5.heap.size, 0, none⟩ = some v := (LB2.out.cell 0).trans rfl
    have HLx := hid (HL.out.below ((Below.refl _ U).alloc (Nat.le_refl _) (.cells #[.int .i64 (k : Int)] 3)))
    have HSx := hid (show Sees (U.alloc (.cells #[.int .i64 (k : Int)] 3)) .i64 (.slice (some ⟨U.heap.size, 0, none⟩) 1 1) [(k : Int)] from Sees.box (ys := [(k : Int)]) (t := 3) (BoxAt.new U 3 #[.int .i64 (k : Int)]) (by simp))
    have hbx := ((Below.refl v7.heap.size U).alloc HVl.out (.cells #[.int .i64 (k : Int)] 3))
    have HOx := hid (show OI U v7.heap.size v M from HL.out)
    have HEe := hid (show Value.slice ap c.pr.length cpp = .slice (some ⟨g, 0, none⟩) L.length cap from e)
    have hpg : w.heap.size ≠ g := by obtain ⟨_, b0, _, _⟩ := HPw.out.box; exact box_ne PB2.out b0 (by decide)
    have hlg : v5.heap.size ≠ g := by obtain ⟨_, b0, _, _⟩ := HPw.out.box; exact box_ne LB2.out b0 (by decide)
    have HMx := hid (show M.length + [(k : Int)].length ≤ 1000000 by have := HLn.out; simp only [List.length_cons, List.length_nil]; omega)
    have LB2 := hid (LB2.out.alloc (.cells #[.int .i64 (k : Int)] 3))
    have PB2 := hid (PB2.out.alloc (.cells #[.int .i64 (k : Int)] 3))
    have HPw := hid (HPw.out.below ((Below.refl _ U).alloc (Nat.le_refl _) (.cells #[.int .i64 (k : Int)] 3)))
    have HBx := hid hbx
    have hsU : v7.heap.size ≤ (U.alloc (.cells #[.int .i64 (k : Int)] 3)).heap.size := by have := HVl.out; simp; omega
    have HVs := hid hsU
    clear hv1 hv2 hro hbx hM hL hsU hUs0
    refine wpIn_block ?_
    refine seq_in l rfl (shut_block shut_normal) (fun K hK => ?_)
    go_wp2_with (at_builtin; refine app_ints rfl _ _ rfl v7.heap.size _ M rfl HLx.out _ [(k : Int)] rfl HSx.out HMx.out HVs.out ?_)
    intro v2' U2 ho hg hb
    have hbU := HBx.out.trans hb
    have HRel := hid (HRel.out.go hbU)
    have HLo := hid (HLo.out.trans (hbU.mono (by omega)))
    have HOt := hid (((Turns.below (S := SL) ((Below.refl _ U).alloc (Nat.le_refl _) (.cells #[.int .i64 (k : Int)] 3))).others v7.heap.size).trans (owns_others (HLx.out) hg v7.heap.size))
    have PB2 := hid (PB2.out.below hb (show w.heap.size < v7.heap.size by omega))
    have LB2 := hid (LB2.out.below hb (show v5.heap.size < v7.heap.size by omega))
    have HPw := hid (HPw.out.low hb hgV)
    obtain ⟨M2, hM2⟩ : ∃ M2, M ++ [(k : Int)] = M2 := ⟨_, rfl⟩
    rw [hM2] at ho HEi
    obtain ⟨a2, c2, hv2, _, _, _⟩ := ho.sees.form
    obtain ⟨n2, hn2⟩ : ∃ n, M2.length = n := ⟨_, rfl⟩
    rw [hn2] at hv2
    subst hv2
    have HL := hid ho
    have hs2 : v7.heap.size ≤ U2.heap.size := by have h1 := hb.size; have h2 := HVs.out; omega
    clear ho hg hb hbU hM2 hn2 HLx HSx HMx HBx HVs HOx lb0
    go_wp2_with (first
      | (refine wpList_store_box rfl 26 _ _ rfl rfl (v5.heap.size) 0 (.slice a2 n2 c2) rfl rfl rfl rfl (by kernel_rfl) _ _ LB2.out (by simp) ?_
         intro U3 b gr z
         have ht := Turns.grown (S := SL) LB2.out b (.inr rfl) gr
         have HRel := hid (HRel.out.trans ht)
         have HOt := hid (HOt.out.trans (ht.others _))
         have HL := hid (OI.turn (S := SL) HL.out (by unfold SL; decide) ht)
         have HPw := hid (HPw.out.grown gr hlg)
         have PB2 := hid (PB2.out.grown gr (fun e => by have := Option.some.inj e; omega))
         have HLo := hid (HLo.out.trans (grown_below gr (by omega) (by omega)))
         have LB2 := hid (show BoxAt U3 (v5.heap.size) 26 #[.slice a2 n2 c2] from by simpa using b)
         clear b gr z ht)
      | fail)
    have kp4 : U3.cell? ⟨w.heap.size, 4, none⟩ = some (.slice (some ⟨g, 0, none⟩) L.length cap) := (BoxAt.cell PB2.out 4).trans (by show some q1.pr.val = _; rw [HS.out, HSV.out]; exact congrArg some HEe.out)
    have hkL : (k : Int) < (L.length : Int) := by have h1 := HRn.out; have h2 := HK9.out; omega
    refine region_in l rfl (shut_block shut_normal) ?_
    obtain ⟨N, hN⟩ : ∃ N, L.length = N := ⟨_, rfl⟩
    rw [hN] at kp4 hkL
    have HNe := hid hN
    clear hN
    go_wp2_with (first
      | (refine wpList_store_pw rfl 3 _ _ rfl rfl HPw.out 12 (by decide) (.int .i64 (-1)) rfl rfl rfl rfl (by kernel_rfl) { x with du := -1 } rfl ?_
         intro U4 hp gr z
         obtain ⟨ht, hbb⟩ := pw_turns HPw.out hp gr
         have HRel := hid (HRel.out.trans (ht.mono (fun t e => .inl e)))
         have HOt := hid (HOt.out.trans (ht.others _))
         have HL := hid (OI.turn (S := fun t => t = 57) HL.out (by decide) ht)
         have LB2 := hid (LB2.out.turn (S := fun t => t = 57) (by decide) ht)
         have HLo := hid (HLo.out.trans hbb)
         have HPw := hid hp
         clear hp gr z ht hbb)
      | fail)
    refine ⟨⟨HLo.out, HRel.out, ?_, _, LB2.out, ?_⟩, HOt.out⟩
    · rw [HEs.out, HTo.out, HSV.out]
      show OP U4 w.heap.size (.slice ap c.pr.length cpp) _
      rw [HEe.out]
      exact HPw.out.stop
    · rw [HEi.out]
      exact HL.out
end Go.Proofs.Ytdanfnbclbiidaa
