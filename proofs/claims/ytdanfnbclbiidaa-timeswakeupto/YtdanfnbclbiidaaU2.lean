/-
  What a partition becomes when all that has waited up to a tick goes on.
  What times' Period, Delay and Replenish return.
  What times' Period returns.
  Whose deadline went by, and a partition in which that is told: what times.Late returns.
-/
import Derived.Test.YtdanfnbclbiidaaU1
import Derived.Test.YtdanfnbclbiidaaUMath
import Derived.RangeFuncLeaves
import Derived.Deep.RegionHeld3
namespace Go.Proofs.Ytdanfnbclbiidaa
open Go.RowKit
set_option linter.unusedVariables false

/-- What holds ahead of round k. -/
structure WakeI (w : World) (CB P NB RB B1 B2 base : Nat) (qc : Pv) (cc : Pt) (c : Pa) (now : Int) (s : Sl) (k : Nat) (W : World) : Prop where
  lo : Below w.heap.size w W
  cb : BoxAt W CB 28 qc.cells.toArray
  nb : BoxAt W NB 3 #[.int .i64 now]
  rb : BoxAt W RB 39 (PaV.cells PaV.zero).toArray
  b1 : BoxAt W B1 29 #[.slice s.a c.pr.length s.c]
  b2 : BoxAt W B2 81 #[.func (.func 29) #[] #[.pointer (some ⟨NB, 0, none⟩)]]
  up : UP W base P s (wakeS cc c now k)
theorem WakeI.put {w : World} {CB P NB RB B1 B2 base : Nat} {qc : Pv} {cc : Pt} {c : Pa} {now : Int} {s : Sl} {k : Nat} {W : World} (h : WakeI w CB P NB RB B1 B2 base qc cc c now s k W) {l : Nat} {o : Obj} (o' : Obj) (hl : w.heap.size ≤ l) (ho : W.heap[l]? = some o) (hc : o.isCells = false) : WakeI w CB P NB RB B1 B2 base qc cc c now s k (W.putObj l o') :=
  have hk := KeptC.put ho hc o'
  ⟨below_put h.lo hl, h.cb.kept hk, h.nb.kept hk, h.rb.kept hk, h.b1.kept hk, h.b2.kept hk, h.up.kept hk⟩
theorem WakeI.below {w : World} {CB P NB RB B1 B2 base : Nat} {qc : Pv} {cc : Pt} {c : Pa} {now : Int} {s : Sl} {k : Nat} {W W' : World} (h : WakeI w CB P NB RB B1 B2 base qc cc c now s k W) (hb : Below W.heap.size W W') : WakeI w CB P NB RB B1 B2 base qc cc c now s k W' :=
  ⟨h.lo.trans (hb.mono h.lo.size), h.cb.belowAll hb, h.nb.belowAll hb, h.rb.belowAll hb, h.b1.belowAll hb, h.b2.belowAll hb, h.up.below hb⟩
/-- Behind what turned processes and partitions alone. -/
theorem WakeI.turned {w : World} {CB P NB RB B1 B2 base : Nat} {qc : Pv} {cc : Pt} {c : Pa} {now : Int} {s : Sl} {k : Nat} {W W' : World} (h : WakeI w CB P NB RB B1 B2 base qc cc c now s k W) {g : Nat} (ht : TwoT g P W W') (hb : Below w.heap.size W W') (h1 : RB ≠ g) (h2 : RB ≠ P) (hu : UP W' base P s (wakeS cc c now (k + 1))) :
    WakeI w CB P NB RB B1 B2 base qc cc c now s (k + 1) W' :=
  ⟨h.lo.trans hb, h.cb.turn (by unfold SP; decide) ht.t, h.nb.turn (by unfold SP; decide) ht.t, ht.box h.rb h1 h2, h.b1.turn (by unfold SP; decide) ht.t, h.b2.turn (by unfold SP; decide) ht.t, hu⟩

theorem wakeS_skip {f : Pt} {c : Pa} {now : Int} {k : Nat} (hk : k < c.pr.length) (h : ¬ overX now (c.pr.getD k Px.zero)) : wakeS f c now (k + 1) = wakeS f c now k :=
  wakeOne_idle (by rw [wakeS_ge f c now k k (by omega) (Nat.le_refl _)]; exact h)
theorem wakeS_does {f : Pt} {c : Pa} {now : Int} {k : Nat} {x : Px} (hk : k < c.pr.length) (hx : c.pr.getD k Px.zero = x) (h : overX now x) : wakeS f c now (k + 1) = relP f now k x (wentP (wakeS f c now k) k x) := by
  show wakeOne f now k (wakeS f c now k) = _
  unfold wakeOne
  rw [wakeS_ge f c now k k (by omega) (Nat.le_refl _), hx, if_pos h]
theorem UP.row {w : World} {base P : Nat} {s : Sl} {c : Pa} (h : UP w base P s c) {k : Nat} (hk : k < c.pr.length) : ∃ g cap, s = ⟨some ⟨g, 0, none⟩, c.pr.length, cap⟩ ∧ PxAt w g (0 + k * 18) (c.pr.getD k Px.zero) ∧ ∃ cs, BoxAt w g 57 cs := by
  obtain ⟨q, _, ho, hs⟩ := h
  have hp := ho.pr
  rw [hs] at hp
  obtain ⟨g, cap, e, _, _, _, _⟩ := OP.form hp (by omega)
  rw [e] at hp
  obtain ⟨a, n, c'⟩ := s
  simp only [Sl.val, Value.slice.injEq] at e
  obtain ⟨rfl, rfl, rfl⟩ := e
  exact ⟨g, c', rfl, by rw [Nat.zero_add]; exact OP.at hp k hk, let ⟨cs, b, _⟩ := owns_box hp; ⟨cs, b⟩⟩
/-- Who waited for a time, or has no release, goes on alone. -/
theorem went_plain {f : Pt} {now : Int} {C : Pa} {k : Nat} {x : Px} (hk : k < C.pr.length) (hx : C.pr.getD k Px.zero = x) (h : timed x) (h2 : x.ki ≠ 2 ∨ ¬ k < f.pc.length) : relP f now k x (wentP C k x) = goP C (k : Int) 0 0 := by
  have e : wentP C k x = goP C (k : Int) 0 0 := by
    unfold wentP codeX
    rw [if_pos h, if_pos h]
  rw [e]
  unfold relP relX
  rw [if_neg (fun hh => h2.elim (fun a => a hh.1) (fun a => a hh.2)), set_getD_self]
/-- Who waited for its release, and has one. -/
theorem went_release {f : Pt} {now : Int} {C : Pa} {k : Nat} {x : Px} (h : x.ki = 2) (hf : k < f.pc.length) : relP f now k x (wentP C k x) =
    { goP C (k : Int) 0 0 with pr := (goP C (k : Int) 0 0).pr.set k { (goP C (k : Int) 0 0).pr.getD k Px.zero with du := if 0 < (f.pc.getD k Pc.zero).li then wrap64 (now + (f.pc.getD k Pc.zero).li) else -1, ne := wrap64 (x.un + (f.pc.getD k Pc.zero).pe) } } := by
  have e : wentP C k x = goP C (k : Int) 0 0 := by
    unfold wentP codeX
    rw [if_pos (.inr h), if_pos (.inr h)]
  rw [e]
  unfold relP relX
  rw [if_pos ⟨h, hf⟩]
/-- Who waited for an object. -/
theorem went_other {f : Pt} {now : Int} {C : Pa} {k : Nat} {x : Px} (hk : k < C.pr.length) (hx : C.pr.getD k Px.zero = x) (h1 : ¬ x.ki = 1) (h2 : ¬ x.ki = 2) : relP f now k x (wentP C k x) = goP (leaveP C (isW (k : Int))) (k : Int) 5 0 := by
  have e : wentP C k x = goP (leaveP C (isW (k : Int))) (k : Int) 5 0 := by
    unfold wentP codeX
    rw [if_neg (fun h => h.elim h1 h2), if_neg (fun h => h.elim h1 h2)]
  rw [e]
  unfold relP relX
  rw [if_neg (fun hh => h2 hh.1), set_getD_self]
theorem pc_yields {o : Oper} {a : Act} (x : Operand) (ho : o.op = .load 60 x) (b off : Nat) (hx : a.eval x = .pointer (some ⟨b, off, none⟩)) (f : Pc) {w : World} (hc : w.rangeAt b off f.cells) :
    (execOp a.eval o).run Try.prog w = .ok (.value f.val) w := by
  unfold execOp
  simp only [ho, hx, Instr.loadAt, Instr.sureAddr, Sem.run_bind, Sem.run_pure, Result.andThen_ok, run_loadVar_mid w b off 60 f.cells _ hc Try.underlying60 rfl Try.infoPc]
  rfl
theorem Try.entersThose1 : ∀ args w, (callFunc 51 args).run Try.prog w = .ok (.enter 51 args) w := enters_of Try.func51 (by kernel_rfl) rfl
theorem Try.entersWake1 : ∀ args w, (callFunc 29 args).run Try.prog w = .ok (.enter 29 args) w := enters_of Try.func29 (by kernel_rfl) rfl

set_option maxRecDepth 100000 in
set_option maxHeartbeats 6400000 in
theorem wake_any {qc : Pv} {cc : Pt} {q : PaV} {c : Pa} {now : Int} {w : World} (hc : PtAt w qc cc) (ha : PaAt w q c) (hsm : c.small) :
    Calls Try.prog 12 #[qc.val, q.val, .int .i64 now] w fun e w' => ∃ q', e = .returned (PaV.val q') ∧ PaO w' w.heap.size q' (wakeP cc c now) ∧ Below w.heap.size w w' := by
  have hmf : ∀ (fn : Fn) (first cap : Array Value) (w : World), (Instr.makeFunc fn first cap).run Try.prog w = .ok (.func fn first cap) w := fun _ _ _ _ => rfl
  have HC := hid hc
  have HA := hid ha
  have HSm := hid hsm
  have HB := hid (Below.refl w.heap.size w)
  clear hc ha hsm
  refine (callsIn_wide (n := 0)).1 (callsIn_of_wp_marks Try.func12 rfl trivial (wpIn_wide.2 ?_) rfl)
  simp only [Try.ntmps12, List.size_toArray, List.length_cons, List.length_nil, Nat.reduceAdd, Nat.reduceSub, Array.replicate_succ, Array.replicate_zero, List.push_toArray, List.append_toArray, List.nil_append, List.cons_append]
  have FL1 := hid trivial
  have FL2 := hid trivial
  have FL3 := hid trivial
  have FL4 := hid trivial
  go_wp2_with (first
    | (have hfl := FL1.out
       refine wpList_box rfl 28 (.tmp 0) rfl (Pv.cells qc).toArray rfl ?_
       intro v1 b h z
       have CB := hid (show BoxAt v1 w.heap.size 28 (Pv.cells qc).toArray from b)
       have HB := hid (HB.out.trans (h.mono HB.out.size))
       have hsv1 : w.heap.size + 1 ≤ v1.heap.size := by omega
       clear b h z hfl FL1)
    | (have hfl := FL2.out
       refine wpList_box rfl 39 (.tmp 1) rfl (PaV.cells q).toArray rfl ?_
       intro v2 b h z
       have PB := hid (show BoxAt v2 v1.heap.size 39 (PaV.cells q).toArray from b)
       have CB := hid (CB.out.belowAll h)
       have HB := hid (HB.out.trans (h.mono HB.out.size))
       have hsv2 : v1.heap.size + 1 ≤ v2.heap.size := by omega
       clear b h z hfl FL2)
    | (have hfl := FL3.out
       refine wpList_box1 rfl 3 (.tmp 2) rfl (.int .i64 now) rfl rfl ?_
       intro v3 b h z
       have NB := hid (show BoxAt v3 v2.heap.size 3 #[.int .i64 now] from b)
       have CB := hid (CB.out.belowAll h)
       have PB := hid (PB.out.belowAll h)
       have HB := hid (HB.out.trans (h.mono HB.out.size))
       have hsv3 : v2.heap.size + 1 ≤ v3.heap.size := by omega
       clear b h z hfl FL3)
    | (have hfl := FL4.out
       refine wpList_new rfl 39 rfl _ Try.zeroPa ?_
       intro v4 b h z
       have RB := hid (show BoxAt v4 v3.heap.size 39 (PaV.cells PaV.zero).toArray from b)
       have CB := hid (CB.out.belowAll h)
       have PB := hid (PB.out.belowAll h)
       have NB := hid (NB.out.belowAll h)
       have HB := hid (HB.out.trans (h.mono HB.out.size))
       have hsv4 : v3.heap.size + 1 ≤ v4.heap.size := by omega
       clear b h z hfl FL4)
    | (refine wpList_load_box rfl 39 _ rfl v1.heap.size rfl _ _ PB.out _ Try.underlying39 Try.infoPa ?_)
    | fail)
  refine (own_any (HA.out.below HB.out) HSm.out).mono ?_
  rintro e v5 ⟨q1, rfl, ho, hb⟩
  have CB := hid (CB.out.belowAll hb)
  have PB := hid (PB.out.belowAll hb)
  have NB := hid (NB.out.belowAll hb)
  have RB := hid (RB.out.belowAll hb)
  have HB := hid (HB.out.trans (hb.mono HB.out.size))
  have hsv5 : v4.heap.size ≤ v5.heap.size := hb.size
  have HO := hid (ho.mono (show w.heap.size ≤ v4.heap.size by omega))
  clear ho
  clear hb
  obtain ⟨s, hs⟩ : ∃ s, q1.pr = s := ⟨_, rfl⟩
  have HS := hid hs
  obtain ⟨ap, cpp, hpv, hp1, hp2, _⟩ := HO.out.pr.sees.form
  have hsv : s = ⟨ap, c.pr.length, cpp⟩ := by have h := hpv; rw [hs] at h; obtain ⟨x, y, z⟩ := s; simp only [Sl.val, Value.slice.injEq] at h; rw [h.1, h.2.1, h.2.2]
  have HSV := hid hsv
  have HCap := hid (show cpp ≤ 9223372036854775807 from hp2)
  clear hs hpv hp1 hp2 hsv
  have FL5 := hid trivial
  go_wp2_with (first
    | (have hfl := FL5.out
       refine wpList_store_whole rfl 39 _ _ rfl rfl v1.heap.size rfl (PaV.cells q1) rfl _ _ PB.out rfl Try.infoPa (PaV.one _) ?_
       intro v6 b g z
       have hsv6 : v5.heap.size ≤ v6.heap.size := by omega
       have HO := hid (HO.out.turn (Turns.grown (S := fun t => t = 39) PB.out b rfl g))
       have PB := hid (show BoxAt v6 v1.heap.size 39 (PaV.cells q1).toArray from b)
       have CB := hid (CB.out.grown g (fun e => by have := Option.some.inj e; omega))
       have NB := hid (NB.out.grown g (fun e => by have := Option.some.inj e; omega))
       have RB := hid (RB.out.grown g (fun e => by have := Option.some.inj e; omega))
       have HB := hid (HB.out.trans (grown_below g (by omega) (by omega)))
       have kPB4 : v6.cell? ⟨v1.heap.size, 4, none⟩ = some (.slice ap c.pr.length cpp) := (BoxAt.cell PB.out 4).trans (by show some q1.pr.val = _; rw [HS.out, HSV.out]; rfl)
       clear b g z hfl FL5)
    | fail)
  refine (those_any ap c.pr.length cpp 29 #[.pointer (some ⟨v2.heap.size, 0, none⟩)] v6).mono ?_
  rintro e v7 ⟨rfl, hb1, hb2, hb⟩
  have B1 := hid hb1
  have B2 := hid hb2
  have CB := hid (CB.out.belowAll hb)
  have PB := hid (PB.out.belowAll hb)
  have NB := hid (NB.out.belowAll hb)
  have RB := hid (RB.out.belowAll hb)
  have HO := hid (HO.out.below hb)
  have HB := hid (HB.out.trans (hb.mono HB.out.size))
  have hsv7 : v6.heap.size ≤ v7.heap.size := hb.size
  clear hb hb1 hb2 kPB4
  have I0 := hid (show WakeI w w.heap.size v1.heap.size v2.heap.size v3.heap.size v6.heap.size (v6.heap.size + 1) w.heap.size qc cc c now s 0 v7 from ⟨HB.out, CB.out, NB.out, RB.out, by have h := B1.out; rw [HSV.out]; exact h, B2.out, ⟨q1, PB.out, HO.out, HS.out⟩⟩)
  go_wp2_with fail
  clear CB PB NB RB B1 B2 HO HB
  refine (wpIn_wide (n := 0)).1 ?_
  refine range_law (gf := 51) (lb := #[.pointer (some ⟨v6.heap.size, 0, none⟩), .pointer (some ⟨v6.heap.size + 1, 0, none⟩)]) rfl Try.entersThose1 c.pr.length (fun k => decide (overX now (c.pr.getD k Px.zero))) (fun k => #[.int .i64 (k : Nat), (c.pr.getD k Px.zero).val]) (fun _ => rfl)
    (WakeI w w.heap.size v1.heap.size v2.heap.size v3.heap.size v6.heap.size (v6.heap.size + 1) w.heap.size qc cc c now s) ?put ?below ?skip I0.out ?call ?round ?done
  case put => exact fun k W l o o' h hl ho hc => h.put o' (by omega) ho hc
  case below => exact fun k W W' h hb => h.below hb
  case skip =>
    intro k W hk hb h
    have e := wakeS_skip (f := cc) hk (of_decide_eq_false hb)
    exact ⟨h.lo, h.cb, h.nb, h.rb, h.b1, h.b2, by rw [e]; exact h.up⟩
  case call =>
    intro l J W hI hJb hJs hY h0
    refine iter_any l v6.heap.size (v6.heap.size + 1) c.pr.length s.c 29 s.a #[.pointer (some ⟨v2.heap.size, 0, none⟩)] (fun k => c.pr.getD k Px.zero) (fun k => decide (overX now (c.pr.getD k Px.zero))) J Try.entersWake1 (by have := HSm.out.pr; omega) (fun k W h => (hI k W h).b1) (fun k W h => (hI k W h).b2) (fun k W hk h => ?_) (fun k W hk h => over_any _ _ _ _ (hI k W h).nb) hJb hJs hY W h0
    obtain ⟨g, cap, e, hx, _⟩ := (hI k W h).up.row (show k < _ by rw [wakeS_len]; exact hk)
    rw [wakeS_ge cc c now k k (by omega) (Nat.le_refl _)] at hx
    exact ⟨g, 0, by rw [e], hx⟩
  case done =>
    intro D W hD hI hK
    obtain ⟨q2, hq2, ho2, hs2⟩ := hI.up
    have PB := hid hq2
    have RB := hid hI.rb
    have HO := hid ho2
    have HB := hid hI.lo
    have HK := hid hK
    have hDs : w.heap.size ≤ D := by omega
    have hrs : w.heap.size ≤ v3.heap.size := by omega
    have hWs := hI.lo.size
    clear hI hK hq2 ho2 hs2
    go_wp2_with (first
      | (refine wpList_load_box rfl 39 _ rfl v1.heap.size rfl _ _ PB.out _ Try.underlying39 Try.infoPa ?_)
      | (refine wpList_store_whole rfl 39 _ _ rfl rfl v3.heap.size rfl (PaV.cells q2) rfl _ _ RB.out rfl Try.infoPa (PaV.one _) ?_
         intro z b gr hz
         have ht := Turns.grown (S := fun t => t = 39) RB.out b rfl gr
         have HO := hid (HO.out.turn ht)
         have HK := hid ((ht.others 0).same D _ (Nat.zero_le _) HK.out rfl)
         have HB := hid (HB.out.trans (grown_below gr hrs (by omega)))
         have RB := hid (show BoxAt z v3.heap.size 39 (PaV.cells q2).toArray from b)
         clear b gr hz ht)
      | fail)
    refine ⟨by simp, .inl ⟨_, _, rfl, run_takeDeferred HK.out, ?_⟩⟩
    have hk := KeptC.put HK.out rfl (.deferred none)
    exact ⟨_, results_cell_row rfl _ _ (v3.heap.size) 39 _ (0, 0) _ rfl (RB.out.kept hk) Try.underlying39 rfl Try.infoPa, q2, rfl, HO.out.kept hk, below_put HB.out hDs⟩
  case round =>
    intro l k W hl hk hbk hI hrl
    obtain ⟨x, hx⟩ : ∃ x, c.pr.getD k Px.zero = x := ⟨_, rfl⟩
    have hov : overX now x := by rw [← hx]; exact of_decide_eq_true hbk
    have HE := hid (wakeS_does (f := cc) hk hx hov)
    have HI := hid hI
    have HRl := hid hrl
    have HK9 := hid hk
    have HGs := hid (show ∃ (g : Nat) (cap : Nat) (n : Nat), s = ⟨some ⟨g, 0, none⟩, n, cap⟩ ∧ g < W.heap.size from by
      obtain ⟨g, cap, e, _, cs, hb⟩ := hI.up.row (show k < _ by rw [wakeS_len]; exact hk)
      exact ⟨g, cap, _, e, hb.lt⟩)
    have hlw : v6.heap.size ≤ l := by omega
    rw [hx]
    have HX := hid hx
    have HOv := hid hov
    clear hI hrl hbk hx hov I0
    have HB := hid (Below.refl W.heap.size W)
    refine seq_in l rfl shut_normal (fun K hK => ?_)
    go_wp2_with fail
    refine region_in l rfl shut_normal ?_
    go_wp2_with (first
      | (refine wpList_new rfl 57 rfl _ Try.zeroPx ?_
         intro y1 b h z
         have OB := hid (show BoxAt y1 W.heap.size 57 (Px.cells Px.zero).toArray from b)
         have HB := hid (HB.out.trans h)
         have hy1 : W.heap.size + 1 ≤ y1.heap.size := by omega
         have HT := hid (Turns.below (S := SP) h)
         clear b h z)
      | (refine wpList_store_whole rfl 57 _ _ rfl rfl W.heap.size rfl (Px.cells x) rfl _ _ OB.out rfl Try.infoPx (Px.one _) ?_
         intro y2 b g z
         have HT := hid (HT.out.trans (Turns.grown (S := SP) OB.out b (.inl rfl) g))
         have OB := hid (show BoxAt y2 W.heap.size 57 (Px.cells x).toArray from b)
         have HB := hid (HB.out.trans (grown_below g (Nat.le_refl _) (by omega)))
         have hy2 : W.heap.size + 1 ≤ y2.heap.size := by omega
         clear b g z)
      | fail)
    refine ⟨HT.out.others _, fun o' => ?_⟩
    obtain ⟨rl, hrl⟩ := HRl.out
    have hlW : l < W.heap.size := (Array.getElem?_eq_some_iff.1 hrl).1
    have hrl2 := (HT.out.others 0).same l _ (Nat.zero_le _) hrl rfl
    have hkp := KeptC.put hrl2 rfl o'
    have HI2 := hid ((HI.out.below HB.out).put o' (by omega) hrl2 rfl)
    have OB := hid (OB.out.kept hkp)
    have hwl : w.heap.size ≤ W.heap.size := HI.out.lo.size
    generalize y2.putObj l o' = U at HI2 OB ⊢
    have hUs : W.heap.size < U.heap.size := OB.out.lt
    clear HT HB HI HRl hrl hrl2 hkp
    have HB := hid (Below.refl w.heap.size U)
    
    have j10 : U.cell? ⟨W.heap.size, 10, none⟩ = some (.int .i64 x.ki) := (OB.out.cell 10).trans rfl
    refine wpIn_block ?_
    
    have HCl := hid (wakeS_len cc c now k)
    have HCx := hid (show (wakeS cc c now k).pr.getD k Px.zero = x from by rw [wakeS_ge cc c now k k (by have := HK9.out; omega) (Nat.le_refl _)]; exact HX.out)
    have HCs := hid (wakeS_small (f := cc) (now := now) HSm.out k)
    have HU := hid HI2.out.up
    generalize wakeS cc c now k = C at HCl HCx HCs HU HE
    obtain ⟨g, cap, hse, _, gcs, hgb⟩ := HU.out.row (show k < C.pr.length by rw [HCl.out]; exact HK9.out)
    have HSe := hid hse
    have hrg : v3.heap.size ≠ g := box_ne HI2.out.rb hgb (by decide)
    have hrp : v3.heap.size ≠ v1.heap.size := by omega
    have HT := hid (TwoT.refl g (v1.heap.size) U)
    obtain ⟨g2, cap2, n2, e2, hgw⟩ := HGs.out
    have HGw := hid (show g < W.heap.size by rw [hse] at e2; simp only [Sl.mk.injEq, Option.some.injEq, Addr.mk.injEq, and_true] at e2; omega)
    have hpg : v1.heap.size ≠ g := by obtain ⟨_, hqx, _, _⟩ := HU.out; exact box_ne hqx hgb (by decide)
    have hcg : w.heap.size ≠ g := box_ne HI2.out.cb hgb (by decide)
    have hng : v2.heap.size ≠ g := box_ne HI2.out.nb hgb (by decide)
    clear hgb e2 hgw
    have hkC := hid (show k < C.pr.length by rw [HCl.out]; exact HK9.out)
    clear hse
    rw [HSe.out] at HU
    by_cases h1 : x.ki = 1
    · have t1 : (x.ki == 1) = true := by simpa using h1
      have HEx := hid (show relP cc now k x (wentP C k x) = goP C (k : Int) 0 0 from went_plain hkC.out HCx.out (.inl h1) (.inl (by omega)))
      clear h1
      refine seq_in l rfl (shut_block shut_normal) (fun K hK => ?_)
      go_wp2_with fail
      refine wpIn_block ?_
      refine seq_in l rfl (shut_block (shut_block shut_normal)) (fun K hK => ?_)
      go_wp2_with fail
      refine wpIn_cond_true rfl ?_
      refine region_in l rfl (shut_block (shut_block shut_normal)) ?_
      go_wp2_with fail
      refine (goon_any (n := w.heap.size) k 0 HU.out hkC.out HCs.out (by omega) (by omega) (Nat.le_refl _)).mono ?_
      rintro e U2 ⟨rfl, hup, ht, hb⟩
      have HUp := hid hup
      have HT := hid (HT.out.trans ht)
      have HB := hid (HB.out.trans hb)
      clear hup ht hb
      go_wp2_with fail
      refine ⟨HI2.out.turned HT.out HB.out hrg hrp (by rw [HE.out, HEx.out, HSe.out]; exact HUp.out), HT.out.t.others _⟩
    by_cases h2 : x.ki = 2
    · have hog : W.heap.size ≠ g := by have := HGw.out; omega
      have hop : W.heap.size ≠ v1.heap.size := by omega
      by_cases hkm : k < cc.pc.length
      · have t1 : (x.ki == 1) = false := by simpa using h1
        have t2 : (x.ki == 2) = true := by simpa using h2
        obtain ⟨ac, cpc, hcv, hc1, hc2, hccell⟩ := HC.out.pc.form
        have hmaxc : cpc ≤ 9223372036854775807 := hc2
        have HCv := hid hcv
        have HCc := hid hccell
        clear hcv hc2 hccell
        have HEx := hid (went_release (f := cc) (now := now) (C := C) (k := k) (x := x) h2 hkm)
        have HKm := hid hkm
        clear h1 h2 hkm
        refine seq_in l rfl (shut_block shut_normal) (fun K hK => ?_)
        go_wp2_with fail
        refine wpIn_block ?_
        refine seq_in l rfl (shut_block (shut_block shut_normal)) (fun K hK => ?_)
        go_wp2_with fail
        refine wpIn_cond_false rfl ?_
        refine seq_in l rfl (shut_block (shut_block shut_normal)) (fun K hK => ?_)
        go_wp2_with fail
        refine wpIn_cond_true rfl ?_
        refine seq_in l rfl (shut_block (shut_block shut_normal)) (fun K hK => ?_)
        go_wp2_with fail
        refine (goon_any (n := w.heap.size) k 0 HU.out hkC.out HCs.out (by omega) (by omega) (Nat.le_refl _)).mono ?_
        rintro e U2 ⟨rfl, hup, ht, hb⟩
        have HUp := hid hup
        have HT := hid (HT.out.trans ht)
        have HB := hid (HB.out.trans hb)
        have CB2 := hid (HI2.out.cb.turn (by unfold SP; decide) HT.out.t)
        have NB2 := hid (HI2.out.nb.turn (by unfold SP; decide) HT.out.t)
        have OB2 := hid (HT.out.box OB.out hog hop)
        have hU2s : U.heap.size ≤ U2.heap.size := ht.t.size
        clear hup ht hb j10
        have kc2 : U2.cell? ⟨w.heap.size, 2, none⟩ = some (.slice ac cc.pc.length cpc) := (CB2.out.cell 2).trans (by show some qc.v2.val = _; rw [HCv.out])
        go_wp2_with fail
        refine seq_in l rfl (shut_block (shut_block shut_normal)) (fun K hK => ?_)
        go_wp2_with fail
        refine (uthere_Pc _ _ _ _ _).mono ?_
        rintro e U3 ⟨rfl, rfl⟩
        rw [decide_eq_true (show (0 ≤ (k : Int) ∧ (k : Int) < (cc.pc.length : Int)) from by have := HKm.out; omega)]
        clear kc2
        go_wp2_with fail
        refine wpIn_cond_true rfl ?_
        have HGl := hid (show (goP C (k : Int) 0 0).pr.length = C.pr.length from go_len _ _ _ _)
        generalize goP C (k : Int) 0 0 = D at HUp HEx HGl
        obtain ⟨q3, hq3, ho3, hs3⟩ := HUp.out
        have hop3 := ho3.pr
        rw [hs3, ← HGl.out] at hop3
        have HOP := hid (show OP U3 w.heap.size (.slice (some ⟨g, 0, none⟩) D.pr.length cap) D.pr from hop3)
        have HO3 := hid ho3
        have HS3 := hid hs3
        have PB3 := hid hq3
        clear hq3 ho3 hs3 hop3 HUp
        obtain ⟨f, hf⟩ : ∃ f, cc.pc.getD k Pc.zero = f := ⟨_, rfl⟩
        obtain ⟨cb2, co2, hac, hcw, hccell⟩ := HCc.out (by have := HKm.out; omega)
        have HRg := hid (show w.rangeAt cb2 (co2 + k * 5) f.cells from by rw [← hf]; exact range_of _ (fun j hj => hccell k HKm.out j hj))
        rw [hf] at HEx
        subst hac
        clear hf hccell HCc
        obtain ⟨M, hM⟩ : ∃ M, cc.pc.length = M := ⟨_, rfl⟩
        obtain ⟨N, hN⟩ : ∃ N, C.pr.length = N := ⟨_, rfl⟩
        have hkM : (k : Int) < (M : Int) := by have := HKm.out; omega
        have hkN : (k : Int) < (N : Int) := by have := hkC.out; omega
        have hM9 : M ≤ 9223372036854775807 := by omega
        have HMe := hid hM
        have HNe := hid hN
        clear hM hN
        have HLo := hid (HI2.out.lo.trans HB.out)
        refine drawn_in_drew (S := (fun V => Below w.heap.size w V ∧ BoxAt V v1.heap.size 39 (PaV.cells q3).toArray ∧ BoxAt V w.heap.size 28 (Pv.cells qc).toArray ∧ BoxAt V W.heap.size 57 (Px.cells x).toArray ∧ BoxAt V v2.heap.size 3 #[.int .i64 now])) l (by kernel_rfl) rfl (shut_block (shut_block shut_normal)) (⟨HLo.out.drew, BoxAt.drew PB3.out, BoxAt.drew CB2.out, BoxAt.drew OB2.out, BoxAt.drew NB2.out⟩) (fun hHeld => ?_)
        refine wpAnyH_take (i := 0) (oi := { dst := some 37, op := Op.fieldAddr 39 (Operand.tmp 4) 4, type := 0, pos := "times.go:25", after := #[], guard := none }) (v := ?v1) rfl (by kernel_rfl) (by kernel_rfl) (by kernel_rfl) (fun _ _ _ h => h) (Or.inl ⟨by rfl, ?hy1⟩) (by assumption) ?rest1
        case hy1 => (intro w hSw; (try dsimp only at hSw); go_simp; try with_reducible rfl)
        simp only [Act.put, List.setIfInBounds_toArray, List.set_cons_zero, List.set_cons_succ]
        refine wpAnyH_take (i := 1) (oi := { dst := some 38, op := Op.load 29 (Operand.tmp 37), type := 29, pos := "times.go:25", after := #[{ on := 0, ground := Ground.data }], guard := none }) (v := ?v2) rfl (by kernel_rfl) (by kernel_rfl) (by kernel_rfl) (fun _ _ _ h => h) (Or.inl ⟨by rfl, ?hy2⟩) (by assumption) ?rest2
        case hy2 => (intro V hSw; have c4 : V.cell? ⟨v1.heap.size, 4, none⟩ = some (.slice (some ⟨g, 0, none⟩) N cap) := (BoxAt.cell hSw.2.1 4).trans (by show some q3.pr.val = _; rw [HS3.out, HNe.out]; rfl); clear hSw; go_simp; try with_reducible rfl)
        simp only [Act.put, List.setIfInBounds_toArray, List.set_cons_zero, List.set_cons_succ]
        refine wpAnyH_take (i := 2) (oi := { dst := some 39, op := Op.move (Operand.tmp 8), type := 3, pos := "times.go:25", after := #[], guard := none }) (v := ?v3) rfl (by kernel_rfl) (by kernel_rfl) (by kernel_rfl) (fun _ _ _ h => h) (Or.inl ⟨by rfl, ?hy3⟩) (by assumption) ?rest3
        case hy3 => (intro w hSw; (try dsimp only at hSw); go_simp; try with_reducible rfl)
        simp only [Act.put, List.setIfInBounds_toArray, List.set_cons_zero, List.set_cons_succ]
        refine wpAnyH_take (i := 3) (oi := { dst := some 40, op := Op.indexAddr 29 (Operand.tmp 38) (Operand.tmp 39), type := 0, pos := "times.go:25", after := #[{ on := 1, ground := Ground.data }, { on := 2, ground := Ground.data }], guard := none }) (v := ?v4) rfl (by kernel_rfl) (by kernel_rfl) (by kernel_rfl) (fun _ _ _ h => h) (Or.inl ⟨by rfl, ?hy4⟩) (by assumption) ?rest4
        case hy4 => (intro w hSw; (try dsimp only at hSw); go_simp; try with_reducible rfl)
        simp only [Act.put, List.setIfInBounds_toArray, List.set_cons_zero, List.set_cons_succ]
        refine wpAnyH_take (i := 4) (oi := { dst := some 41, op := Op.fieldAddr 28 (Operand.tmp 3) 2, type := 0, pos := "times.go:25", after := #[], guard := none }) (v := ?v5) rfl (by kernel_rfl) (by kernel_rfl) (by kernel_rfl) (fun _ _ _ h => h) (Or.inl ⟨by rfl, ?hy5⟩) (by assumption) ?rest5
        case hy5 => (intro w hSw; (try dsimp only at hSw); go_simp; try with_reducible rfl)
        simp only [Act.put, List.setIfInBounds_toArray, List.set_cons_zero, List.set_cons_succ]
        refine wpAnyH_take (i := 5) (oi := { dst := some 42, op := Op.load 23 (Operand.tmp 41), type := 23, pos := "times.go:25", after := #[{ on := 4, ground := Ground.data }], guard := none }) (v := ?v6) rfl (by kernel_rfl) (by kernel_rfl) (by kernel_rfl) (fun _ _ _ h => h) (Or.inl ⟨by rfl, ?hy6⟩) (by assumption) ?rest6
        case hy6 => (intro V hSw; have c4 : V.cell? ⟨w.heap.size, 2, none⟩ = some (.slice (some ⟨cb2, co2, none⟩) M cpc) := (BoxAt.cell hSw.2.2.1 2).trans (by show some qc.v2.val = _; rw [HCv.out, HMe.out]); clear hSw; go_simp; try with_reducible rfl)
        simp only [Act.put, List.setIfInBounds_toArray, List.set_cons_zero, List.set_cons_succ]
        refine wpAnyH_take (i := 6) (oi := { dst := some 43, op := Op.move (Operand.tmp 8), type := 3, pos := "times.go:25", after := #[], guard := none }) (v := ?v7) rfl (by kernel_rfl) (by kernel_rfl) (by kernel_rfl) (fun _ _ _ h => h) (Or.inl ⟨by rfl, ?hy7⟩) (by assumption) ?rest7
        case hy7 => (intro w hSw; (try dsimp only at hSw); go_simp; try with_reducible rfl)
        simp only [Act.put, List.setIfInBounds_toArray, List.set_cons_zero, List.set_cons_succ]
        refine wpAnyH_take (i := 7) (oi := { dst := some 44, op := Op.indexAddr 23 (Operand.tmp 42) (Operand.tmp 43), type := 0, pos := "times.go:25", after := #[{ on := 5, ground := Ground.data }, { on := 6, ground := Ground.data }], guard := none }) (v := ?v8) rfl (by kernel_rfl) (by kernel_rfl) (by kernel_rfl) (fun _ _ _ h => h) (Or.inl ⟨by rfl, ?hy8⟩) (by assumption) ?rest8
        case hy8 => (intro w hSw; (try dsimp only at hSw); go_simp; try with_reducible rfl)
        simp only [Act.put, List.setIfInBounds_toArray, List.set_cons_zero, List.set_cons_succ]
        refine wpAnyH_take (i := 8) (oi := { dst := some 45, op := Op.load 60 (Operand.tmp 44), type := 60, pos := "times.go:25", after := #[{ on := 7, ground := Ground.data }], guard := none }) (v := ?v9) rfl (by kernel_rfl) (by kernel_rfl) (by kernel_rfl) (fun _ _ _ h => h) (Or.inl ⟨by rfl, ?hy9⟩) (by assumption) ?rest9
        case hy9 => (intro V hSw; refine pc_yields (.tmp 44) ?_ cb2 (co2 + k * 5) ?_ f (fun j v hj => (hSw.1.cell (p := ⟨cb2, co2 + k * 5 + j, none⟩) hcw).trans (HRg.out j v hj)) <;> rfl)
        simp only [Act.put, List.setIfInBounds_toArray, List.set_cons_zero, List.set_cons_succ]
        refine wpAnyH_take (i := 9) (oi := { dst := some 46, op := Op.fieldAddr 57 (Operand.tmp 9) 5, type := 0, pos := "times.go:25", after := #[], guard := none }) (v := ?v10) rfl (by kernel_rfl) (by kernel_rfl) (by kernel_rfl) (fun _ _ _ h => h) (Or.inl ⟨by rfl, ?hy10⟩) (by assumption) ?rest10
        case hy10 => (intro w hSw; (try dsimp only at hSw); go_simp; try with_reducible rfl)
        simp only [Act.put, List.setIfInBounds_toArray, List.set_cons_zero, List.set_cons_succ]
        refine wpAnyH_take (i := 10) (oi := { dst := some 47, op := Op.load 3 (Operand.tmp 46), type := 3, pos := "times.go:25", after := #[{ on := 9, ground := Ground.data }], guard := none }) (v := ?v11) rfl (by kernel_rfl) (by kernel_rfl) (by kernel_rfl) (fun _ _ _ h => h) (Or.inl ⟨by rfl, ?hy11⟩) (by assumption) ?rest11
        case hy11 => (intro V hSw; have c4 : V.cell? ⟨W.heap.size, 9, none⟩ = some (.int .i64 x.un) := (BoxAt.cell hSw.2.2.2.1 9).trans rfl; clear hSw; go_simp; try with_reducible rfl)
        simp only [Act.put, List.setIfInBounds_toArray, List.set_cons_zero, List.set_cons_succ]
        refine wpAnyH_take (i := 11) (oi := { dst := some 48, op := Op.load 3 (Operand.tmp 5), type := 3, pos := "times.go:25", after := #[], guard := none }) (v := ?v12) rfl (by kernel_rfl) (by kernel_rfl) (by kernel_rfl) (fun _ _ _ h => h) (Or.inl ⟨by rfl, ?hy12⟩) (by assumption) ?rest12
        case hy12 => (intro V hSw; have c4 : V.cell? ⟨v2.heap.size, 0, none⟩ = some (.int .i64 now) := (BoxAt.cell hSw.2.2.2.2 0).trans rfl; clear hSw; go_simp; try with_reducible rfl)
        simp only [Act.put, List.setIfInBounds_toArray, List.set_cons_zero, List.set_cons_succ]
        refine wpAnyH_ready (rs := [12]) (by kernel_rfl) (by simp) (AllReadyH.cons (o := { dst := some 49, op := Op.call { callee := Callee.value (Operand.func 34), args := #[Operand.tmp 40, Operand.tmp 45, Operand.tmp 47, Operand.tmp 48], argTypes := #[89, 60, 3, 3] }, type := 0, pos := "times.go:25", after := #[{ on := 3, ground := Ground.data }, { on := 8, ground := Ground.data }, { on := 10, ground := Ground.data }, { on := 11, ground := Ground.data }], guard := none }) rfl (fun K13 hK13 => ?_) AllReadyH.nil)
        go_simp
        refine (release_any g k f x.un now (HOP.out.below ((Below.refl _ _).drew)) (by have := hkC.out; have := HGl.out; omega)).mono ?_
        rintro e U4 ⟨rfl, ho, ht, hb⟩
        have hds : U3.drew.heap.size = U3.heap.size := rfl
        have HLo := hid (HLo.out.drew.trans hb)
        have PB4 := hid (ht.box (BoxAt.drew PB3.out) hpg hpg)
        have CB4 := hid (ht.box (BoxAt.drew CB2.out) hcg hcg)
        have NB4 := hid (ht.box (BoxAt.drew NB2.out) hng hng)
        have OB4 := hid (ht.box (BoxAt.drew OB2.out) hog hog)
        have HUn := hid (show UP U4 w.heap.size v1.heap.size ⟨some ⟨g, 0, none⟩, C.pr.length, cap⟩ _ from ⟨q3, PB4.out, (by have h := (HO3.out.below ((Below.refl U3.heap.size U3).drew)).procs (S := SP) (by unfold SP; decide) (by unfold SP; decide) (by unfold SP; decide) (by unfold SP; decide) (by unfold SP; decide) (by unfold SP; decide) (by unfold SP; decide) (by unfold SP; decide) ht.t _ D.nx (by rw [HS3.out, ← HGl.out]; exact ho); rw [show ({ q3 with nx := D.nx } : PaV) = q3 from by rw [← HO3.out.nx]] at h; exact h), HS3.out⟩)
        have HT := hid (HT.out.trans ((TwoT.below ((Below.refl U3.heap.size U3).drew)).trans ⟨ht.t, fun k hk h1 _ => ht.b k hk h1 h1⟩))
        have HB := hid (HB.out.drew.trans hb)
        clear ho ht hb
        refine hK13.out _ _ (⟨HLo.out, PB4.out, CB4.out, OB4.out, NB4.out⟩) (fun hHeld13 => ?_)
        clear hK13 K13
        try simp only [Act.put, List.setIfInBounds_toArray, List.set_cons_zero, List.set_cons_succ]
        refine wpAnyH_done (by kernel_rfl) ?_ _
        refine ⟨HI2.out.turned HT.out HB.out hrg hrp (by rw [HE.out, HEx.out, HSe.out]; exact HUn.out), HT.out.t.others _⟩
      · have t1 : (x.ki == 1) = false := by simpa using h1
        have t2 : (x.ki == 2) = true := by simpa using h2
        obtain ⟨ac, cpc, hcv, hc1, hc2, hccell⟩ := HC.out.pc.form
        have hmaxc : cpc ≤ 9223372036854775807 := hc2
        have HCv := hid hcv
        have HCc := hid hccell
        clear hcv hc2 hccell
        have HEx := hid (show relP cc now k x (wentP C k x) = goP C (k : Int) 0 0 from went_plain hkC.out HCx.out (.inr h2) (.inr hkm))
        have HKm := hid hkm
        clear h1 h2 hkm
        refine seq_in l rfl (shut_block shut_normal) (fun K hK => ?_)
        go_wp2_with fail
        refine wpIn_block ?_
        refine seq_in l rfl (shut_block (shut_block shut_normal)) (fun K hK => ?_)
        go_wp2_with fail
        refine wpIn_cond_false rfl ?_
        refine seq_in l rfl (shut_block (shut_block shut_normal)) (fun K hK => ?_)
        go_wp2_with fail
        refine wpIn_cond_true rfl ?_
        refine seq_in l rfl (shut_block (shut_block shut_normal)) (fun K hK => ?_)
        go_wp2_with fail
        refine (goon_any (n := w.heap.size) k 0 HU.out hkC.out HCs.out (by omega) (by omega) (Nat.le_refl _)).mono ?_
        rintro e U2 ⟨rfl, hup, ht, hb⟩
        have HUp := hid hup
        have HT := hid (HT.out.trans ht)
        have HB := hid (HB.out.trans hb)
        have CB2 := hid (HI2.out.cb.turn (by unfold SP; decide) HT.out.t)
        have NB2 := hid (HI2.out.nb.turn (by unfold SP; decide) HT.out.t)
        have OB2 := hid (HT.out.box OB.out hog hop)
        have hU2s : U.heap.size ≤ U2.heap.size := ht.t.size
        clear hup ht hb j10
        have kc2 : U2.cell? ⟨w.heap.size, 2, none⟩ = some (.slice ac cc.pc.length cpc) := (CB2.out.cell 2).trans (by show some qc.v2.val = _; rw [HCv.out])
        go_wp2_with fail
        refine seq_in l rfl (shut_block (shut_block shut_normal)) (fun K hK => ?_)
        go_wp2_with fail
        refine (uthere_Pc _ _ _ _ _).mono ?_
        rintro e U3 ⟨rfl, rfl⟩
        rw [decide_eq_false (show ¬ (0 ≤ (k : Int) ∧ (k : Int) < (cc.pc.length : Int)) from fun h => HKm.out (by omega))]
        clear kc2
        go_wp2_with fail
        refine wpIn_cond_false rfl ?_
        refine wpIn_skip ?_
        refine ⟨HI2.out.turned HT.out HB.out hrg hrp (by rw [HE.out, HEx.out, HSe.out]; exact HUp.out), HT.out.t.others _⟩
    · have t1 : (x.ki == 1) = false := by simpa using h1
      have t2 : (x.ki == 2) = false := by simpa using h2
      have HEx := hid (went_other (f := cc) (now := now) hkC.out HCx.out h1 h2)
      clear h1 h2
      refine seq_in l rfl (shut_block shut_normal) (fun K hK => ?_)
      go_wp2_with fail
      refine wpIn_block ?_
      refine seq_in l rfl (shut_block (shut_block shut_normal)) (fun K hK => ?_)
      go_wp2_with fail
      refine wpIn_cond_false rfl ?_
      refine seq_in l rfl (shut_block (shut_block shut_normal)) (fun K hK => ?_)
      go_wp2_with fail
      refine wpIn_cond_false rfl ?_
      refine seq_in l rfl (shut_block (shut_block shut_normal)) (fun K hK => ?_)
      go_wp2_with fail
      refine (uleave_any (n := w.heap.size) g (k : Int) HU.out HCs.out (by omega) (by omega) (Nat.le_refl _)).mono ?_
      rintro e U2 ⟨rfl, hup, ht, hb⟩
      have HUp := hid hup
      have HT := hid (HT.out.trans ht)
      have HB := hid (HB.out.trans hb)
      have hU2s : U.heap.size ≤ U2.heap.size := ht.t.size
      clear hup ht hb j10
      go_wp2_with fail
      refine region_in l rfl (shut_block (shut_block shut_normal)) ?_
      go_wp2_with fail
      refine (goon_any (c := leaveP C (isW (k : Int))) (n := w.heap.size) k 5 HUp.out hkC.out (leave_small HCs.out _) (by omega) (by omega) (Nat.le_refl _)).mono ?_
      rintro e U3 ⟨rfl, hup, ht, hb⟩
      have HUq := hid hup
      have HT := hid (HT.out.trans ht)
      have HB := hid (HB.out.trans hb)
      clear hup ht hb
      go_wp2_with fail
      refine ⟨HI2.out.turned HT.out HB.out hrg hrp (by rw [HE.out, HEx.out, HSe.out]; exact HUq.out), HT.out.t.others _⟩

/-- A partition of the call's own, one of whose processes was written. -/
theorem PaO.wrote {w w' : World} {base g cap k : Nat} {q : PaV} {c : Pa} {r : Px} (h : PaO w base q c) (hs : q.pr = ⟨some ⟨g, 0, none⟩, c.pr.length, cap⟩) (ht : Turns (fun t => t = 57) w w') (hp : PW w' base g cap k c.pr r) : PaO w' base q { c with pr := c.pr.set k r } := by
  have h1 := h.procs (S := fun t => t = 57) (by decide) (by decide) (by decide) (by decide) (by decide) (by decide) (by decide) (by decide) ht (c.pr.set k r) c.nx (by rw [hs]; exact hp.stop)
  rw [show ({ q with nx := c.nx } : PaV) = q from by rw [← h.nx]] at h1
  exact h1
theorem PaO.next {w : World} {base : Nat} {q : PaV} {c : Pa} (h : PaO w base q c) (n : Int) : PaO w base { q with nx := n } { c with nx := n } :=
  ⟨h.md, h.bg, rfl, h.me, h.pr, h.bo, h.bu, h.se, h.ev, h.sa, h.qu, h.ld, h.ll, h.lx, h.gi⟩
theorem PaO.hdr {w : World} {base : Nat} {q : PaV} {c : Pa} (h : PaO w base q c) (hk : 0 < c.pr.length) : ∃ g cap, q.pr = ⟨some ⟨g, 0, none⟩, c.pr.length, cap⟩ ∧ base ≤ g ∧ g < w.heap.size ∧ c.pr.length ≤ cap ∧ cap ≤ 9223372036854775807 := by
  obtain ⟨g, cap, e, h1, h2, h3, h4⟩ := OP.form h.pr hk
  refine ⟨g, cap, ?_, h1, h2, h3, h4⟩
  obtain ⟨q1, q2, q3⟩ : ∃ a n, q.pr = ⟨a, n, q.pr.c⟩ := ⟨_, _, rfl⟩
  rw [q3] at e ⊢
  simp only [Sl.val, Value.slice.injEq] at e
  rw [e.1, e.2.1, e.2.2]

set_option maxRecDepth 100000 in
set_option maxHeartbeats 6400000 in
theorem queued1_any {q : PaV} {c : Pa} {w : World} {k : Nat} (hk : k < c.pr.length) (ha : PaAt w q c) (hsm : c.small) :
    Calls Try.prog 43 #[q.val, .int .i64 (k : Nat)] w fun e w' => ∃ q', e = .returned (PaV.val q') ∧ PaO w' w.heap.size q' ({ c with pr := c.pr.set k { c.pr.getD k Px.zero with si := c.nx }, nx := wrap64 (c.nx + 1) }) ∧ Below w.heap.size w w' := by
  have HA := hid ha
  have HSm := hid hsm
  have HB := hid (Below.refl w.heap.size w)
  obtain ⟨ap, cpp, hpv, hp1, hp2, hpcell⟩ := ha.pr.form
  have hmax : cpp ≤ 9223372036854775807 := hp2
  have HPv := hid hpv
  have HPc := hid hpcell
  clear ha hsm hpv hp2 hpcell
  obtain ⟨r, hr⟩ : ∃ r, c.pr.getD k Px.zero = r := ⟨_, rfl⟩
  have HR := hid hr
  have HK := hid hk
  rw [hr]
  clear hr
  go_enter Try.func43, Try.ntmps43
  have FL1 := hid trivial
  have FL2 := hid trivial
  go_wp2_with (first
    | (have hfl := FL1.out
       refine wpList_box rfl 39 (.tmp 0) rfl (PaV.cells q).toArray rfl ?_
       intro v1 b h z
       have PB := hid (show BoxAt v1 w.heap.size 39 (PaV.cells q).toArray from b)
       have HB := hid (HB.out.trans (h.mono HB.out.size))
       have hsv1 : w.heap.size + 1 ≤ v1.heap.size := by omega
       clear b h z hfl FL1)
    | (have hfl := FL2.out
       refine wpList_new rfl 39 rfl _ Try.zeroPa ?_
       intro v2 b h z
       have RB := hid (show BoxAt v2 v1.heap.size 39 (PaV.cells PaV.zero).toArray from b)
       have PB := hid (PB.out.belowAll h)
       have HB := hid (HB.out.trans (h.mono HB.out.size))
       have hsv2 : v1.heap.size + 1 ≤ v2.heap.size := by omega
       clear b h z hfl FL2)
    | (refine wpList_load_box rfl 39 _ rfl w.heap.size rfl _ _ PB.out _ Try.underlying39 Try.infoPa ?_)
    | fail)
  refine (own_any (HA.out.below HB.out) HSm.out).mono ?_
  rintro e v3 ⟨q1, rfl, ho, hb⟩
  have PB := hid (PB.out.belowAll hb)
  have RB := hid (RB.out.belowAll hb)
  have HB := hid (HB.out.trans (hb.mono HB.out.size))
  have hsv3 : v2.heap.size ≤ v3.heap.size := hb.size
  have HO := hid (ho.mono (show w.heap.size ≤ v2.heap.size by omega))
  clear ho
  clear hb
  obtain ⟨gq, cap, hq1, hg1, hg2, hg3, hg4⟩ := HO.out.hdr (by omega)
  have HQ := hid hq1
  have HNx := hid HO.out.nx
  clear hq1
  have hkI : (k : Int) < (c.pr.length : Int) := by omega
  have FL3 := hid trivial
  have FL4 := hid trivial
  have FL5 := hid trivial
  have FL6 := hid trivial
  go_wp2_with (first
    | (have hfl := FL3.out
       refine wpList_store_whole rfl 39 _ _ rfl rfl w.heap.size rfl (PaV.cells q1) rfl _ _ PB.out rfl Try.infoPa (PaV.one _) ?_
       intro v4 b g z
       have hsv4 : v3.heap.size ≤ v4.heap.size := by omega
       have HO := hid (HO.out.turn (Turns.grown (S := fun t => t = 39) PB.out b rfl g))
       have PB := hid (show BoxAt v4 w.heap.size 39 (PaV.cells q1).toArray from b)
       have RB := hid (RB.out.grown g (fun e => by have := Option.some.inj e; omega))
       have HB := hid (HB.out.trans (grown_below g (by omega) (by omega)))
       have kPB4 : v4.cell? ⟨w.heap.size, 4, none⟩ = some (.slice (some ⟨gq, 0, none⟩) c.pr.length cap) := (BoxAt.cell PB.out 4).trans (by show some q1.pr.val = _; rw [HQ.out]; rfl)
       have kPB2 : v4.cell? ⟨w.heap.size, 2, none⟩ = some (.int .i64 c.nx) := (BoxAt.cell PB.out 2).trans (by show some (Value.int .i64 q1.nx) = _; rw [HNx.out])
       clear b g z hfl FL3)
    | (have hfl := FL4.out
       have HPs := PW.start (base := w.heap.size) (show OP _ w.heap.size (.slice (some ⟨gq, 0, none⟩) c.pr.length cap) c.pr from by have h := HO.out.pr; rw [HQ.out] at h; exact h) HK.out
       rw [HR.out] at HPs
       refine wpList_store_pw rfl 3 _ _ rfl rfl HPs 8 (by decide) (.int .i64 c.nx) rfl rfl rfl rfl (by kernel_rfl) ({ r with si := c.nx }) rfl ?_
       intro v5 hp gr z
       obtain ⟨ht, hbb⟩ := pw_turns HPs hp gr
       have HO := hid (HO.out.wrote HQ.out ht hp)
       have PB := hid (PB.out.turn (S := fun t => t = 57) (by decide) ht)
       have RB := hid (RB.out.turn (S := fun t => t = 57) (by decide) ht)
       have HB := hid (HB.out.trans hbb)
       have hsv5 : v4.heap.size ≤ v5.heap.size := by omega
       clear kPB4
       have kPB4 : v5.cell? ⟨w.heap.size, 4, none⟩ = some (.slice (some ⟨gq, 0, none⟩) c.pr.length cap) := (BoxAt.cell PB.out 4).trans (by show some q1.pr.val = _; rw [HQ.out]; rfl)
       clear kPB2
       have kPB2 : v5.cell? ⟨w.heap.size, 2, none⟩ = some (.int .i64 c.nx) := (BoxAt.cell PB.out 2).trans (by show some (Value.int .i64 q1.nx) = _; rw [HNx.out])
       clear hp gr z ht hbb HPs hfl FL4)
    | (have hfl := FL5.out
       refine wpList_store_box rfl 3 _ _ rfl rfl w.heap.size 2 (.int .i64 (wrap64 (c.nx + 1))) rfl rfl rfl rfl (by kernel_rfl) _ _ PB.out (by simp [PaV.cells]) ?_
       intro v6 b g z
       have hsv6 : v5.heap.size ≤ v6.heap.size := by omega
       have HO := hid (HO.out.turn (Turns.grown (S := fun t => t = 39) PB.out b rfl g))
       have PB := hid (show BoxAt v6 w.heap.size 39 (PaV.cells { q1 with nx := wrap64 (c.nx + 1) }).toArray by simpa [PaV.cells] using b)
       have RB := hid (RB.out.grown g (fun e => by have := Option.some.inj e; omega))
       have HB := hid (HB.out.trans (grown_below g (by omega) (by omega)))
       clear b g z hfl FL5)
    | (refine wpList_load_box rfl 39 _ rfl w.heap.size rfl _ _ PB.out _ Try.underlying39 Try.infoPa ?_)
    | (have hfl := FL6.out
       refine wpList_store_whole rfl 39 _ _ rfl rfl v1.heap.size rfl (PaV.cells { q1 with nx := wrap64 (c.nx + 1) }) rfl _ _ RB.out rfl Try.infoPa (PaV.one _) ?_
       intro v7 b g z
       have hsv7 : v6.heap.size ≤ v7.heap.size := by omega
       have HO := hid (HO.out.turn (Turns.grown (S := fun t => t = 39) RB.out b rfl g))
       have RB := hid (show BoxAt v7 v1.heap.size 39 (PaV.cells { q1 with nx := wrap64 (c.nx + 1) }).toArray from b)
       have PB := hid (PB.out.grown g (fun e => by have := Option.some.inj e; omega))
       have HB := hid (HB.out.trans (grown_below g (by omega) (by omega)))
       clear b g z hfl FL6)
    | fail)
  refine bodyPost_ret (results_cell_row rfl _ _ (v1.heap.size) 39 _ (0, 0) _ rfl RB.out Try.underlying39 rfl Try.infoPa) rfl ?_
  exact ⟨{ q1 with nx := wrap64 (c.nx + 1) }, rfl, HO.out.next _, HB.out⟩

set_option maxRecDepth 100000 in
set_option maxHeartbeats 6400000 in
theorem delay_any {q : PaV} {c : Pa} {w : World} {i ticks now : Int} (ha : PaAt w q c) (hsm : c.small) :
    Calls Try.prog 19 #[q.val, .int .i64 i, .int .i64 ticks, .int .i64 now] w fun e w' => ∃ q', e = .returned (.tuple #[PaV.val q', .int .i64 (delayP c i ticks now).2]) ∧ PaO w' w.heap.size q' (delayP c i ticks now).1 ∧ Below w.heap.size w w' := by
  have HA := hid ha
  have HSm := hid hsm
  have HB := hid (Below.refl w.heap.size w)
  obtain ⟨ap, cpp, hpv, hp1, hp2, hpcell⟩ := ha.pr.form
  have hmax : cpp ≤ 9223372036854775807 := hp2
  have HPv := hid hpv
  have HPc := hid hpcell
  clear ha hsm hpv hp2 hpcell
  go_enter Try.func19, Try.ntmps19
  have FL1 := hid trivial
  have FL2 := hid trivial
  go_wp2_with (first
    | (have hfl := FL1.out
       refine wpList_box rfl 39 (.tmp 0) rfl (PaV.cells q).toArray rfl ?_
       intro v1 b h z
       have PB := hid (show BoxAt v1 w.heap.size 39 (PaV.cells q).toArray from b)
       have HB := hid (HB.out.trans (h.mono HB.out.size))
       have hsv1 : w.heap.size + 1 ≤ v1.heap.size := by omega
       clear b h z hfl FL1)
    | (have hfl := FL2.out
       refine wpList_new rfl 39 rfl _ Try.zeroPa ?_
       intro v2 b h z
       have RB := hid (show BoxAt v2 v1.heap.size 39 (PaV.cells PaV.zero).toArray from b)
       have PB := hid (PB.out.belowAll h)
       have HB := hid (HB.out.trans (h.mono HB.out.size))
       have hsv2 : v1.heap.size + 1 ≤ v2.heap.size := by omega
       have kPB4 : v2.cell? ⟨w.heap.size, 4, none⟩ = some (.slice ap c.pr.length cpp) := (BoxAt.cell PB.out 4).trans (by show some q.pr.val = _; rw [HPv.out])
       clear b h z hfl FL2)
    | fail)
  refine (uthere_Px _ _ _ _ _).mono ?_
  rintro e v2 ⟨rfl, rfl⟩
  by_cases hin : 0 ≤ i ∧ i < c.pr.length
  · rw [decide_eq_true hin]
    obtain ⟨k, hki⟩ : ∃ k : Nat, i = (k : Int) := ⟨i.toNat, by omega⟩
    have hk : k < c.pr.length := by omega
    subst hki
    clear hin
    by_cases h0 : ticks < 0
    · have d0 : decide (ticks < 0) = true := decide_eq_true h0
      have HH := hid h0
      clear h0
      go_wp2_with (first
        | (with_reducible refine wpList_dst 24 rfl ?_
           refine wpList_load_box rfl 39 _ rfl w.heap.size rfl _ _ PB.out _ Try.underlying39 Try.infoPa ?_)
        | fail)
      refine (own_any (HA.out.below HB.out) HSm.out).mono ?_
      rintro e v3 ⟨q', rfl, ho, hb⟩
      have PB := hid (PB.out.belowAll hb)
      have RB := hid (RB.out.belowAll hb)
      have HB := hid (HB.out.trans (hb.mono HB.out.size))
      have hsv3 : v2.heap.size ≤ v3.heap.size := hb.size
      have HO := hid (ho.mono (show w.heap.size ≤ v2.heap.size by omega))
      clear ho
      clear hb
      have FL3 := hid trivial
      go_wp2_with (first
        | (have hfl := FL3.out
           refine wpList_store_whole rfl 39 _ _ rfl rfl v1.heap.size rfl (PaV.cells q') rfl _ _ RB.out rfl Try.infoPa (PaV.one _) ?_
           intro v4 b g z
           have hsv4 : v3.heap.size ≤ v4.heap.size := by omega
           have HO := hid (HO.out.turn (Turns.grown (S := fun t => t = 39) RB.out b rfl g))
           have RB := hid (show BoxAt v4 v1.heap.size 39 (PaV.cells q').toArray from b)
           have PB := hid (PB.out.grown g (fun e => by have := Option.some.inj e; omega))
           have HB := hid (HB.out.trans (grown_below g (by omega) (by omega)))
           clear b g z hfl FL3)
        | fail)
      refine bodyPost_ret (results_box_tmp rfl _ _ (v1.heap.size) 39 _ (0, 0) _ rfl RB.out Try.underlying39 rfl Try.infoPa) rfl ?_
      rw [show delayP c (k : Int) ticks now = (c, 3) from by unfold delayP; rw [if_neg (fun h => by have := HH.out; omega)]]
      exact ⟨q', rfl, HO.out, HB.out⟩
    · have d0 : decide (ticks < 0) = false := decide_eq_false h0
      by_cases h1 : 4096 < ticks
      · have d1 : decide (4096 < ticks) = true := decide_eq_true h1
        have HH := hid h1
        clear h0 h1
        go_wp2_with (first
          | (with_reducible refine wpList_dst 24 rfl ?_
             refine wpList_load_box rfl 39 _ rfl w.heap.size rfl _ _ PB.out _ Try.underlying39 Try.infoPa ?_)
          | fail)
        refine (own_any (HA.out.below HB.out) HSm.out).mono ?_
        rintro e v5 ⟨q', rfl, ho, hb⟩
        have PB := hid (PB.out.belowAll hb)
        have RB := hid (RB.out.belowAll hb)
        have HB := hid (HB.out.trans (hb.mono HB.out.size))
        have hsv5 : v2.heap.size ≤ v5.heap.size := hb.size
        have HO := hid (ho.mono (show w.heap.size ≤ v2.heap.size by omega))
        clear ho
        clear hb
        have FL4 := hid trivial
        go_wp2_with (first
          | (have hfl := FL4.out
             refine wpList_store_whole rfl 39 _ _ rfl rfl v1.heap.size rfl (PaV.cells q') rfl _ _ RB.out rfl Try.infoPa (PaV.one _) ?_
             intro v6 b g z
             have hsv6 : v5.heap.size ≤ v6.heap.size := by omega
             have HO := hid (HO.out.turn (Turns.grown (S := fun t => t = 39) RB.out b rfl g))
             have RB := hid (show BoxAt v6 v1.heap.size 39 (PaV.cells q').toArray from b)
             have PB := hid (PB.out.grown g (fun e => by have := Option.some.inj e; omega))
             have HB := hid (HB.out.trans (grown_below g (by omega) (by omega)))
             clear b g z hfl FL4)
          | fail)
        refine bodyPost_ret (results_box_tmp rfl _ _ (v1.heap.size) 39 _ (0, 0) _ rfl RB.out Try.underlying39 rfl Try.infoPa) rfl ?_
        rw [show delayP c (k : Int) ticks now = (c, 3) from by unfold delayP; rw [if_neg (fun h => by have := HH.out; omega)]]
        exact ⟨q', rfl, HO.out, HB.out⟩
      · have d1 : decide (4096 < ticks) = false := decide_eq_false h1
        have HT := hid (show 0 ≤ (k : Int) ∧ (k : Int) < c.pr.length ∧ 0 ≤ ticks ∧ ticks ≤ 4096 by omega)
        clear h0 h1
        obtain ⟨b1, off, hap, hbw, hpx⟩ := HPc.out (by omega)
        subst hap
        have HP0 := hid (show PxAt w b1 (off + k * 18) (c.pr.getD k Px.zero) from fun j hj => hpx k hk j hj)
        clear hpx
        obtain ⟨r, hr⟩ : ∃ r, c.pr.getD k Px.zero = r := ⟨_, rfl⟩
        rw [hr] at HP0
        have HR := hid hr
        have HK := hid hk
        clear hr
        clear kPB4
        have kPB4 : v2.cell? ⟨w.heap.size, 4, none⟩ = some (.slice (some ⟨b1, off, none⟩) c.pr.length cpp) := (BoxAt.cell PB.out 4).trans (by show some q.pr.val = _; rw [HPv.out])
        have kS : v2.cell? ⟨b1, off + k * 18, none⟩ = some (.int .i64 r.st) := (HP0.out.below HB.out hbw).st
        have hkI : (k : Int) < (c.pr.length : Int) := by have := HK.out; omega
        by_cases hst : r.st ≠ 1
        · have t1 : (r.st != 1) = true := by simpa using hst
          have HS := hid hst
          clear hst
          go_wp2_with (first
            | (with_reducible refine wpList_dst 34 rfl ?_
               refine wpList_load_box rfl 39 _ rfl w.heap.size rfl _ _ PB.out _ Try.underlying39 Try.infoPa ?_)
            | fail)
          refine (own_any (HA.out.below HB.out) HSm.out).mono ?_
          rintro e v7 ⟨q', rfl, ho, hb⟩
          have PB := hid (PB.out.belowAll hb)
          have RB := hid (RB.out.belowAll hb)
          have HB := hid (HB.out.trans (hb.mono HB.out.size))
          have hsv7 : v2.heap.size ≤ v7.heap.size := hb.size
          have HO := hid (ho.mono (show w.heap.size ≤ v2.heap.size by omega))
          clear ho
          clear hb
          have FL5 := hid trivial
          go_wp2_with (first
            | (have hfl := FL5.out
               refine wpList_store_whole rfl 39 _ _ rfl rfl v1.heap.size rfl (PaV.cells q') rfl _ _ RB.out rfl Try.infoPa (PaV.one _) ?_
               intro v8 b g z
               have hsv8 : v7.heap.size ≤ v8.heap.size := by omega
               have HO := hid (HO.out.turn (Turns.grown (S := fun t => t = 39) RB.out b rfl g))
               have RB := hid (show BoxAt v8 v1.heap.size 39 (PaV.cells q').toArray from b)
               have PB := hid (PB.out.grown g (fun e => by have := Option.some.inj e; omega))
               have HB := hid (HB.out.trans (grown_below g (by omega) (by omega)))
               clear b g z hfl FL5)
            | fail)
          refine bodyPost_ret (results_box_tmp rfl _ _ (v1.heap.size) 39 _ (0, 0) _ rfl RB.out Try.underlying39 rfl Try.infoPa) rfl ?_
          rw [show delayP c (k : Int) ticks now = (c, 4) from by unfold delayP; rw [if_pos HT.out, if_pos (by rw [Int.toNat_natCast, HR.out]; exact HS.out)]]
          exact ⟨q', rfl, HO.out, HB.out⟩
        · have hst1 : r.st = 1 := Decidable.not_not.1 hst
          have t1 : (r.st != 1) = false := by simpa using hst1
          have HS := hid hst1
          clear hst hst1
          by_cases h2 : ticks = 0
          · subst h2
            go_wp2_with (first
              | (with_reducible refine wpList_dst 39 rfl ?_
                 refine wpList_load_box rfl 39 _ rfl w.heap.size rfl _ _ PB.out _ Try.underlying39 Try.infoPa ?_)
              | fail)
            refine (queued1_any HK.out (HA.out.below HB.out) HSm.out).mono ?_
            rintro e v9 ⟨q', rfl, ho, hb⟩
            have PB := hid (PB.out.belowAll hb)
            have RB := hid (RB.out.belowAll hb)
            have HB := hid (HB.out.trans (hb.mono HB.out.size))
            have hsv9 : v2.heap.size ≤ v9.heap.size := hb.size
            have HO := hid (ho.mono (show w.heap.size ≤ v2.heap.size by omega))
            clear ho
            clear hb
            have FL6 := hid trivial
            go_wp2_with (first
              | (have hfl := FL6.out
                 refine wpList_store_whole rfl 39 _ _ rfl rfl v1.heap.size rfl (PaV.cells q') rfl _ _ RB.out rfl Try.infoPa (PaV.one _) ?_
                 intro v10 b g z
                 have hsv10 : v9.heap.size ≤ v10.heap.size := by omega
                 have HO := hid (HO.out.turn (Turns.grown (S := fun t => t = 39) RB.out b rfl g))
                 have RB := hid (show BoxAt v10 v1.heap.size 39 (PaV.cells q').toArray from b)
                 have PB := hid (PB.out.grown g (fun e => by have := Option.some.inj e; omega))
                 have HB := hid (HB.out.trans (grown_below g (by omega) (by omega)))
                 clear b g z hfl FL6)
              | fail)
            refine bodyPost_ret (results_box_tmp rfl _ _ (v1.heap.size) 39 _ (0, 0) _ rfl RB.out Try.underlying39 rfl Try.infoPa) rfl ?_
            rw [show delayP c (k : Int) 0 now = ({ c with pr := c.pr.set k { c.pr.getD k Px.zero with si := c.nx }, nx := wrap64 (c.nx + 1) }, 0) from by unfold delayP; rw [if_pos HT.out, Int.toNat_natCast, if_neg (by rw [HR.out, HS.out]; simp), if_pos rfl]]
            exact ⟨q', rfl, HO.out, HB.out⟩
          · have t2 : (ticks == 0) = false := by simpa using h2
            have H2 := hid h2
            clear h2
            go_wp2_with (first
              | (with_reducible refine wpList_dst 42 rfl ?_
                 refine wpList_load_box rfl 39 _ rfl w.heap.size rfl _ _ PB.out _ Try.underlying39 Try.infoPa ?_)
              | fail)
            refine (block_api (i := (k : Int)) (ki := 1) (ob := 0) (un := wrap64 (now + ticks)) (ca := 7) (HA.out.below HB.out) HSm.out).mono ?_
            rintro e v11 ⟨q', rfl, ho, hb⟩
            have PB := hid (PB.out.belowAll hb)
            have RB := hid (RB.out.belowAll hb)
            have HB := hid (HB.out.trans (hb.mono HB.out.size))
            have hsv11 : v2.heap.size ≤ v11.heap.size := hb.size
            have HO := hid (ho.mono (show w.heap.size ≤ v2.heap.size by omega))
            clear ho
            clear hb
            have FL7 := hid trivial
            go_wp2_with (first
              | (have hfl := FL7.out
                 refine wpList_store_whole rfl 39 _ _ rfl rfl v1.heap.size rfl (PaV.cells q') rfl _ _ RB.out rfl Try.infoPa (PaV.one _) ?_
                 intro v12 b g z
                 have hsv12 : v11.heap.size ≤ v12.heap.size := by omega
                 have HO := hid (HO.out.turn (Turns.grown (S := fun t => t = 39) RB.out b rfl g))
                 have RB := hid (show BoxAt v12 v1.heap.size 39 (PaV.cells q').toArray from b)
                 have PB := hid (PB.out.grown g (fun e => by have := Option.some.inj e; omega))
                 have HB := hid (HB.out.trans (grown_below g (by omega) (by omega)))
                 clear b g z hfl FL7)
              | fail)
            refine bodyPost_ret (results_box_tmp rfl _ _ (v1.heap.size) 39 _ (0, 0) _ rfl RB.out Try.underlying39 rfl Try.infoPa) rfl ?_
            rw [show delayP c (k : Int) ticks now = (blockP c (k : Int) 1 0 (wrap64 (now + ticks)) 7, 6) from by unfold delayP; rw [if_pos HT.out, Int.toNat_natCast, if_neg (by rw [HR.out, HS.out]; simp), if_neg H2.out]]
            exact ⟨q', rfl, HO.out, HB.out⟩
  · have HIn := hid hin
    rw [decide_eq_false hin]
    clear hin
    go_wp2_with (first
      | (with_reducible refine wpList_dst 24 rfl ?_
         refine wpList_load_box rfl 39 _ rfl w.heap.size rfl _ _ PB.out _ Try.underlying39 Try.infoPa ?_)
      | fail)
    refine (own_any (HA.out.below HB.out) HSm.out).mono ?_
    rintro e v13 ⟨q', rfl, ho, hb⟩
    have PB := hid (PB.out.belowAll hb)
    have RB := hid (RB.out.belowAll hb)
    have HB := hid (HB.out.trans (hb.mono HB.out.size))
    have hsv13 : v2.heap.size ≤ v13.heap.size := hb.size
    have HO := hid (ho.mono (show w.heap.size ≤ v2.heap.size by omega))
    clear ho
    clear hb
    have FL8 := hid trivial
    go_wp2_with (first
      | (have hfl := FL8.out
         refine wpList_store_whole rfl 39 _ _ rfl rfl v1.heap.size rfl (PaV.cells q') rfl _ _ RB.out rfl Try.infoPa (PaV.one _) ?_
         intro v14 b g z
         have hsv14 : v13.heap.size ≤ v14.heap.size := by omega
         have HO := hid (HO.out.turn (Turns.grown (S := fun t => t = 39) RB.out b rfl g))
         have RB := hid (show BoxAt v14 v1.heap.size 39 (PaV.cells q').toArray from b)
         have PB := hid (PB.out.grown g (fun e => by have := Option.some.inj e; omega))
         have HB := hid (HB.out.trans (grown_below g (by omega) (by omega)))
         clear b g z hfl FL8)
      | fail)
    refine bodyPost_ret (results_box_tmp rfl _ _ (v1.heap.size) 39 _ (0, 0) _ rfl RB.out Try.underlying39 rfl Try.infoPa) rfl ?_
    rw [show delayP c i ticks now = (c, 3) from by unfold delayP; rw [if_neg (fun h => HIn.out ⟨h.1, h.2.1⟩)]]
    exact ⟨q', rfl, HO.out, HB.out⟩

set_option maxRecDepth 100000 in
set_option maxHeartbeats 6400000 in
theorem repl_any {qc : Pv} {cc : Pt} {q : PaV} {c : Pa} {w : World} {i ticks now : Int} (hc : PtAt w qc cc) (ha : PaAt w q c) (hsm : c.small) :
    Calls Try.prog 21 #[qc.val, q.val, .int .i64 i, .int .i64 ticks, .int .i64 now] w fun e w' => ∃ q', e = .returned (.tuple #[PaV.val q', .int .i64 (replP cc c i ticks now).2]) ∧ PaO w' w.heap.size q' (replP cc c i ticks now).1 ∧ Below w.heap.size w w' := by
  have HA := hid ha
  have HSm := hid hsm
  have HB := hid (Below.refl w.heap.size w)
  obtain ⟨ap, cpp, hpv, hp1, hp2, hpcell⟩ := ha.pr.form
  have hmax : cpp ≤ 9223372036854775807 := hp2
  have HPv := hid hpv
  have HPc := hid hpcell
  clear ha hsm hpv hp2 hpcell
  obtain ⟨ac, cpc, hcv, hc1, hc2, hccell⟩ := hc.pc.form
  have hmaxc : cpc ≤ 9223372036854775807 := hc2
  have HCv := hid hcv
  have HCc := hid hccell
  clear hc hcv hc2 hccell
  go_enter Try.func21, Try.ntmps21
  have FL1 := hid trivial
  have FL2 := hid trivial
  have FL3 := hid trivial
  go_wp2_with (first
    | (have hfl := FL1.out
       refine wpList_box rfl 28 (.tmp 0) rfl (Pv.cells qc).toArray rfl ?_
       intro v1 b h z
       have CB := hid (show BoxAt v1 w.heap.size 28 (Pv.cells qc).toArray from b)
       have HB := hid (HB.out.trans (h.mono HB.out.size))
       have hsv1 : w.heap.size + 1 ≤ v1.heap.size := by omega
       clear b h z hfl FL1)
    | (have hfl := FL2.out
       refine wpList_box rfl 39 (.tmp 1) rfl (PaV.cells q).toArray rfl ?_
       intro v2 b h z
       have PB := hid (show BoxAt v2 v1.heap.size 39 (PaV.cells q).toArray from b)
       have CB := hid (CB.out.belowAll h)
       have HB := hid (HB.out.trans (h.mono HB.out.size))
       have hsv2 : v1.heap.size + 1 ≤ v2.heap.size := by omega
       clear b h z hfl FL2)
    | (have hfl := FL3.out
       refine wpList_new rfl 39 rfl _ Try.zeroPa ?_
       intro v3 b h z
       have RB := hid (show BoxAt v3 v2.heap.size 39 (PaV.cells PaV.zero).toArray from b)
       have CB := hid (CB.out.belowAll h)
       have PB := hid (PB.out.belowAll h)
       have HB := hid (HB.out.trans (h.mono HB.out.size))
       have hsv3 : v2.heap.size + 1 ≤ v3.heap.size := by omega
       clear b h z hfl FL3)
    | (refine wpList_load_box rfl 39 _ rfl v1.heap.size rfl _ _ PB.out _ Try.underlying39 Try.infoPa ?_)
    | fail)
  refine (own_any (HA.out.below HB.out) HSm.out).mono ?_
  rintro e v4 ⟨q1, rfl, ho, hb⟩
  have CB := hid (CB.out.belowAll hb)
  have PB := hid (PB.out.belowAll hb)
  have RB := hid (RB.out.belowAll hb)
  have HB := hid (HB.out.trans (hb.mono HB.out.size))
  have hsv4 : v3.heap.size ≤ v4.heap.size := hb.size
  have HO := hid (ho.mono (show w.heap.size ≤ v3.heap.size by omega))
  clear ho
  have kCB2 : v4.cell? ⟨w.heap.size, 2, none⟩ = some (.slice ac cc.pc.length cpc) := (BoxAt.cell CB.out 2).trans (by show some qc.v2.val = _; rw [HCv.out])
  clear hb
  obtain ⟨a1, cp1, hpv1, _, hm1, _⟩ := HO.out.pr.sees.form
  have HPv1 := hid hpv1
  clear hpv1
  have FL4 := hid trivial
  go_wp2_with (first
    | (have hfl := FL4.out
       refine wpList_store_whole rfl 39 _ _ rfl rfl v1.heap.size rfl (PaV.cells q1) rfl _ _ PB.out rfl Try.infoPa (PaV.one _) ?_
       intro v5 b g z
       have hsv5 : v4.heap.size ≤ v5.heap.size := by omega
       have HO := hid (HO.out.turn (Turns.grown (S := fun t => t = 39) PB.out b rfl g))
       have PB := hid (show BoxAt v5 v1.heap.size 39 (PaV.cells q1).toArray from b)
       have CB := hid (CB.out.grown g (fun e => by have := Option.some.inj e; omega))
       have RB := hid (RB.out.grown g (fun e => by have := Option.some.inj e; omega))
       have HB := hid (HB.out.trans (grown_below g (by omega) (by omega)))
       clear kCB2
       have kCB2 : v5.cell? ⟨w.heap.size, 2, none⟩ = some (.slice ac cc.pc.length cpc) := (BoxAt.cell CB.out 2).trans (by show some qc.v2.val = _; rw [HCv.out])
       have kPB4 : v5.cell? ⟨v1.heap.size, 4, none⟩ = some (.slice a1 c.pr.length cp1) := (BoxAt.cell PB.out 4).trans (by show some q1.pr.val = _; rw [HPv1.out])
       clear b g z hfl FL4)
    | fail)
  refine (uthere_Px _ _ _ _ _).mono ?_
  rintro e v5 ⟨rfl, rfl⟩
  by_cases hin : 0 ≤ i ∧ i < c.pr.length
  · rw [decide_eq_true hin]
    obtain ⟨k, hki⟩ : ∃ k : Nat, i = (k : Int) := ⟨i.toNat, by omega⟩
    have hk : k < c.pr.length := by omega
    subst hki
    clear hin
    go_wp2_with fail
    refine (uthere_Pc _ _ _ _ _).mono ?_
    rintro e v5 ⟨rfl, rfl⟩
    by_cases hinc : 0 ≤ (k : Int) ∧ (k : Int) < cc.pc.length
    · rw [decide_eq_true hinc]
      have hkc : k < cc.pc.length := by omega
      clear hinc
      by_cases h0 : ticks < 1
      · have d0 : decide (ticks < 1) = true := decide_eq_true h0
        have HH := hid h0
        clear h0
        have FL5 := hid trivial
        go_wp2_with (first
          | (with_reducible refine wpList_dst 35 rfl ?_
             refine wpList_load_box rfl 39 _ rfl v1.heap.size rfl _ _ PB.out _ Try.underlying39 Try.infoPa ?_)
          | (have hfl := FL5.out
             refine wpList_store_whole rfl 39 _ _ rfl rfl v2.heap.size rfl (PaV.cells q1) rfl _ _ RB.out rfl Try.infoPa (PaV.one _) ?_
             intro v6 b g z
             have hsv6 : v5.heap.size ≤ v6.heap.size := by omega
             have HO := hid (HO.out.turn (Turns.grown (S := fun t => t = 39) RB.out b rfl g))
             have RB := hid (show BoxAt v6 v2.heap.size 39 (PaV.cells q1).toArray from b)
             have CB := hid (CB.out.grown g (fun e => by have := Option.some.inj e; omega))
             have PB := hid (PB.out.grown g (fun e => by have := Option.some.inj e; omega))
             have HB := hid (HB.out.trans (grown_below g (by omega) (by omega)))
             clear b g z hfl FL5)
          | fail)
        refine bodyPost_ret (results_box_tmp rfl _ _ (v2.heap.size) 39 _ (0, 0) _ rfl RB.out Try.underlying39 rfl Try.infoPa) rfl ?_
        rw [show replP cc c (k : Int) ticks now = (c, 3) from by unfold replP; rw [if_neg (fun h => by have := HH.out; omega)]]
        exact ⟨q1, rfl, HO.out, HB.out⟩
      · have d0 : decide (ticks < 1) = false := decide_eq_false h0
        by_cases h1 : 4096 < ticks
        · have d1 : decide (4096 < ticks) = true := decide_eq_true h1
          have HH := hid h1
          clear h0 h1
          have FL6 := hid trivial
          go_wp2_with (first
            | (with_reducible refine wpList_dst 35 rfl ?_
               refine wpList_load_box rfl 39 _ rfl v1.heap.size rfl _ _ PB.out _ Try.underlying39 Try.infoPa ?_)
            | (have hfl := FL6.out
               refine wpList_store_whole rfl 39 _ _ rfl rfl v2.heap.size rfl (PaV.cells q1) rfl _ _ RB.out rfl Try.infoPa (PaV.one _) ?_
               intro v7 b g z
               have hsv7 : v5.heap.size ≤ v7.heap.size := by omega
               have HO := hid (HO.out.turn (Turns.grown (S := fun t => t = 39) RB.out b rfl g))
               have RB := hid (show BoxAt v7 v2.heap.size 39 (PaV.cells q1).toArray from b)
               have CB := hid (CB.out.grown g (fun e => by have := Option.some.inj e; omega))
               have PB := hid (PB.out.grown g (fun e => by have := Option.some.inj e; omega))
               have HB := hid (HB.out.trans (grown_below g (by omega) (by omega)))
               clear b g z hfl FL6)
            | fail)
          refine bodyPost_ret (results_box_tmp rfl _ _ (v2.heap.size) 39 _ (0, 0) _ rfl RB.out Try.underlying39 rfl Try.infoPa) rfl ?_
          rw [show replP cc c (k : Int) ticks now = (c, 3) from by unfold replP; rw [if_neg (fun h => by have := HH.out; omega)]]
          exact ⟨q1, rfl, HO.out, HB.out⟩
        · have d1 : decide (4096 < ticks) = false := decide_eq_false h1
          have HT := hid (show 0 ≤ (k : Int) ∧ (k : Int) < c.pr.length ∧ (k : Int) < cc.pc.length ∧ 1 ≤ ticks ∧ ticks ≤ 4096 by omega)
          have hkI : (k : Int) < (c.pr.length : Int) := by omega
          have hkM : (k : Int) < (cc.pc.length : Int) := by omega
          clear h0 h1
          obtain ⟨gq, cap, hq1, hg1, hg2, hg3, hg4⟩ := HO.out.hdr (by omega)
          have HQ := hid hq1
          have HNx := hid HO.out.nx
          clear hq1
          obtain ⟨b2, of2, hac, hcw, hccell⟩ := HCc.out (by omega)
          subst hac
          obtain ⟨f, hf⟩ : ∃ f, cc.pc.getD k Pc.zero = f := ⟨_, rfl⟩
          have HFc := hid (show w.cell? ⟨b2, of2 + k * 5 + 2, none⟩ = some (.int .i64 f.li) from by rw [← hf]; exact hccell k hkc 2 (by decide))
          have HF := hid hf
          clear hf hccell HCc
          obtain ⟨r, hr⟩ : ∃ r, c.pr.getD k Px.zero = r := ⟨_, rfl⟩
          have HR := hid hr
          have HK := hid hk
          clear hr
          have HS0 := hid (show v5.cell? ⟨gq, k * 18, none⟩ = some (.int .i64 r.st) from by have h := HO.out.pr; rw [HQ.out] at h; rw [← HR.out]; exact (OP.at (show OP v5 w.heap.size (.slice (some ⟨gq, 0, none⟩) c.pr.length cap) c.pr from h) k HK.out).st)
          clear kCB2
          have kCB2 : v5.cell? ⟨w.heap.size, 2, none⟩ = some (.slice (some ⟨b2, of2, none⟩) cc.pc.length cpc) := (BoxAt.cell CB.out 2).trans (by show some qc.v2.val = _; rw [HCv.out])
          clear kPB4
          have kPB4 : v5.cell? ⟨v1.heap.size, 4, none⟩ = some (.slice (some ⟨gq, 0, none⟩) c.pr.length cap) := (BoxAt.cell PB.out 4).trans (by show some q1.pr.val = _; rw [HQ.out]; rfl)
          have kL : v5.cell? ⟨b2, of2 + k * 5 + 2, none⟩ = some (.int .i64 f.li) := (HB.out.cell (p := ⟨b2, of2 + k * 5 + 2, none⟩) hcw).trans HFc.out
          have kS := HS0.out
          by_cases hl : f.li = 0
          · have t1 : (f.li == 0) = true := by simpa using hl
            have HL := hid hl
            clear hl kS
            have FL7 := hid trivial
            go_wp2_with (first
              | (with_reducible refine wpList_dst 53 rfl ?_
                 refine wpList_load_box rfl 39 _ rfl v1.heap.size rfl _ _ PB.out _ Try.underlying39 Try.infoPa ?_)
              | (have hfl := FL7.out
                 refine wpList_store_whole rfl 39 _ _ rfl rfl v2.heap.size rfl (PaV.cells q1) rfl _ _ RB.out rfl Try.infoPa (PaV.one _) ?_
                 intro v8 b g z
                 have hsv8 : v5.heap.size ≤ v8.heap.size := by omega
                 have HO := hid (HO.out.turn (Turns.grown (S := fun t => t = 39) RB.out b rfl g))
                 have RB := hid (show BoxAt v8 v2.heap.size 39 (PaV.cells q1).toArray from b)
                 have CB := hid (CB.out.grown g (fun e => by have := Option.some.inj e; omega))
                 have PB := hid (PB.out.grown g (fun e => by have := Option.some.inj e; omega))
                 have HB := hid (HB.out.trans (grown_below g (by omega) (by omega)))
                 clear b g z hfl FL7)
              | fail)
            refine bodyPost_ret (results_box_tmp rfl _ _ (v2.heap.size) 39 _ (0, 0) _ rfl RB.out Try.underlying39 rfl Try.infoPa) rfl ?_
            rw [show replP cc c (k : Int) ticks now = (c, 1) from by unfold replP; rw [if_pos HT.out, if_pos (by rw [Int.toNat_natCast, HF.out]; exact .inl HL.out)]]
            exact ⟨q1, rfl, HO.out, HB.out⟩
          · have t1 : (f.li == 0) = false := by simpa using hl
            have HL := hid hl
            clear hl
            by_cases hst : r.st = 0
            · have t2 : (r.st == 0) = true := by simpa using hst
              have HS := hid hst
              clear hst
              have FL8 := hid trivial
              go_wp2_with (first
                | (with_reducible refine wpList_dst 53 rfl ?_
                   refine wpList_load_box rfl 39 _ rfl v1.heap.size rfl _ _ PB.out _ Try.underlying39 Try.infoPa ?_)
                | (have hfl := FL8.out
                   refine wpList_store_whole rfl 39 _ _ rfl rfl v2.heap.size rfl (PaV.cells q1) rfl _ _ RB.out rfl Try.infoPa (PaV.one _) ?_
                   intro v9 b g z
                   have hsv9 : v5.heap.size ≤ v9.heap.size := by omega
                   have HO := hid (HO.out.turn (Turns.grown (S := fun t => t = 39) RB.out b rfl g))
                   have RB := hid (show BoxAt v9 v2.heap.size 39 (PaV.cells q1).toArray from b)
                   have CB := hid (CB.out.grown g (fun e => by have := Option.some.inj e; omega))
                   have PB := hid (PB.out.grown g (fun e => by have := Option.some.inj e; omega))
                   have HB := hid (HB.out.trans (grown_below g (by omega) (by omega)))
                   clear b g z hfl FL8)
                | fail)
              refine bodyPost_ret (results_box_tmp rfl _ _ (v2.heap.size) 39 _ (0, 0) _ rfl RB.out Try.underlying39 rfl Try.infoPa) rfl ?_
              rw [show replP cc c (k : Int) ticks now = (c, 1) from by unfold replP; rw [if_pos HT.out, if_pos (by rw [Int.toNat_natCast, HR.out]; exact .inr HS.out)]]
              exact ⟨q1, rfl, HO.out, HB.out⟩
            · have t2 : (r.st == 0) = false := by simpa using hst
              have HS := hid hst
              clear hst
              have FL9 := hid trivial
              have FL10 := hid trivial
              go_wp2_with (first
                | (have hfl := FL9.out
                   have HPs := PW.start (base := w.heap.size) (show OP _ w.heap.size (.slice (some ⟨gq, 0, none⟩) c.pr.length cap) c.pr from by have h := HO.out.pr; rw [HQ.out] at h; exact h) HK.out
                   rw [HR.out] at HPs
                   refine wpList_store_pw rfl 3 _ _ rfl rfl HPs 12 (by decide) (.int .i64 (wrap64 (now + ticks))) rfl rfl rfl rfl (by kernel_rfl) ({ r with du := wrap64 (now + ticks) }) rfl ?_
                   intro v10 hp gr z
                   obtain ⟨ht, hbb⟩ := pw_turns HPs hp gr
                   have HO := hid (HO.out.wrote HQ.out ht hp)
                   have CB := hid (CB.out.turn (S := fun t => t = 57) (by decide) ht)
                   have PB := hid (PB.out.turn (S := fun t => t = 57) (by decide) ht)
                   have RB := hid (RB.out.turn (S := fun t => t = 57) (by decide) ht)
                   have HB := hid (HB.out.trans hbb)
                   have hsv10 : v5.heap.size ≤ v10.heap.size := by omega
                   clear hp gr z ht hbb HPs hfl FL9)
                | (with_reducible refine wpList_dst 62 rfl ?_
                   refine wpList_load_box rfl 39 _ rfl v1.heap.size rfl _ _ PB.out _ Try.underlying39 Try.infoPa ?_)
                | (have hfl := FL10.out
                   refine wpList_store_whole rfl 39 _ _ rfl rfl v2.heap.size rfl (PaV.cells q1) rfl _ _ RB.out rfl Try.infoPa (PaV.one _) ?_
                   intro v11 b g z
                   have hsv11 : v10.heap.size ≤ v11.heap.size := by omega
                   have HO := hid (HO.out.turn (Turns.grown (S := fun t => t = 39) RB.out b rfl g))
                   have RB := hid (show BoxAt v11 v2.heap.size 39 (PaV.cells q1).toArray from b)
                   have CB := hid (CB.out.grown g (fun e => by have := Option.some.inj e; omega))
                   have PB := hid (PB.out.grown g (fun e => by have := Option.some.inj e; omega))
                   have HB := hid (HB.out.trans (grown_below g (by omega) (by omega)))
                   clear b g z hfl FL10)
                | fail)
              refine bodyPost_ret (results_box_tmp rfl _ _ (v2.heap.size) 39 _ (0, 0) _ rfl RB.out Try.underlying39 rfl Try.infoPa) rfl ?_
              rw [show replP cc c (k : Int) ticks now = ({ c with pr := c.pr.set k { r with du := wrap64 (now + ticks) } }, 0) from by unfold replP; rw [if_pos HT.out, Int.toNat_natCast, if_neg (by rw [HR.out, HF.out]; exact fun h => h.elim HL.out HS.out), HR.out]]
              exact ⟨q1, rfl, HO.out, HB.out⟩
    · have HH := hid hinc
      rw [decide_eq_false hinc]
      clear hinc
      have FL11 := hid trivial
      go_wp2_with (first
        | (with_reducible refine wpList_dst 35 rfl ?_
           refine wpList_load_box rfl 39 _ rfl v1.heap.size rfl _ _ PB.out _ Try.underlying39 Try.infoPa ?_)
        | (have hfl := FL11.out
           refine wpList_store_whole rfl 39 _ _ rfl rfl v2.heap.size rfl (PaV.cells q1) rfl _ _ RB.out rfl Try.infoPa (PaV.one _) ?_
           intro v12 b g z
           have hsv12 : v5.heap.size ≤ v12.heap.size := by omega
           have HO := hid (HO.out.turn (Turns.grown (S := fun t => t = 39) RB.out b rfl g))
           have RB := hid (show BoxAt v12 v2.heap.size 39 (PaV.cells q1).toArray from b)
           have CB := hid (CB.out.grown g (fun e => by have := Option.some.inj e; omega))
           have PB := hid (PB.out.grown g (fun e => by have := Option.some.inj e; omega))
           have HB := hid (HB.out.trans (grown_below g (by omega) (by omega)))
           clear b g z hfl FL11)
        | fail)
      refine bodyPost_ret (results_box_tmp rfl _ _ (v2.heap.size) 39 _ (0, 0) _ rfl RB.out Try.underlying39 rfl Try.infoPa) rfl ?_
      rw [show replP cc c (k : Int) ticks now = (c, 3) from by unfold replP; rw [if_neg (fun h => HH.out ⟨h.1, h.2.2.1⟩)]]
      exact ⟨q1, rfl, HO.out, HB.out⟩
  · have HH := hid hin
    rw [decide_eq_false hin]
    clear hin
    have FL12 := hid trivial
    go_wp2_with (first
      | (with_reducible refine wpList_dst 35 rfl ?_
         refine wpList_load_box rfl 39 _ rfl v1.heap.size rfl _ _ PB.out _ Try.underlying39 Try.infoPa ?_)
      | (have hfl := FL12.out
         refine wpList_store_whole rfl 39 _ _ rfl rfl v2.heap.size rfl (PaV.cells q1) rfl _ _ RB.out rfl Try.infoPa (PaV.one _) ?_
         intro v13 b g z
         have hsv13 : v5.heap.size ≤ v13.heap.size := by omega
         have HO := hid (HO.out.turn (Turns.grown (S := fun t => t = 39) RB.out b rfl g))
         have RB := hid (show BoxAt v13 v2.heap.size 39 (PaV.cells q1).toArray from b)
         have CB := hid (CB.out.grown g (fun e => by have := Option.some.inj e; omega))
         have PB := hid (PB.out.grown g (fun e => by have := Option.some.inj e; omega))
         have HB := hid (HB.out.trans (grown_below g (by omega) (by omega)))
         clear b g z hfl FL12)
      | fail)
    refine bodyPost_ret (results_box_tmp rfl _ _ (v2.heap.size) 39 _ (0, 0) _ rfl RB.out Try.underlying39 rfl Try.infoPa) rfl ?_
    rw [show replP cc c i ticks now = (c, 3) from by unfold replP; rw [if_neg (fun h => HH.out ⟨h.1, h.2.1⟩)]]
    exact ⟨q1, rfl, HO.out, HB.out⟩

set_option maxRecDepth 100000 in
set_option maxHeartbeats 6400000 in
theorem period_any {qc : Pv} {cc : Pt} {q : PaV} {c : Pa} {w : World} {i : Int} (hc : PtAt w qc cc) (ha : PaAt w q c) (hsm : c.small) :
    Calls Try.prog 17 #[qc.val, q.val, .int .i64 i] w fun e w' => ∃ q', e = .returned (.tuple #[PaV.val q', .int .i64 (periodP cc c i).2]) ∧ PaO w' w.heap.size q' (periodP cc c i).1 ∧ Below w.heap.size w w' := by
  have HA := hid ha
  have HSm := hid hsm
  have HB := hid (Below.refl w.heap.size w)
  obtain ⟨ap, cpp, hpv, hp1, hp2, hpcell⟩ := ha.pr.form
  have hmax : cpp ≤ 9223372036854775807 := hp2
  have HPv := hid hpv
  have HPc := hid hpcell
  clear ha hsm hpv hp2 hpcell
  obtain ⟨ac, cpc, hcv, hc1, hc2, hccell⟩ := hc.pc.form
  have hmaxc : cpc ≤ 9223372036854775807 := hc2
  have HCv := hid hcv
  have HCc := hid hccell
  clear hc hcv hc2 hccell
  go_enter Try.func17, Try.ntmps17
  have FL1 := hid trivial
  have FL2 := hid trivial
  have FL3 := hid trivial
  go_wp2_with (first
    | (have hfl := FL1.out
       refine wpList_box rfl 28 (.tmp 0) rfl (Pv.cells qc).toArray rfl ?_
       intro v1 b h z
       have CB := hid (show BoxAt v1 w.heap.size 28 (Pv.cells qc).toArray from b)
       have HB := hid (HB.out.trans (h.mono HB.out.size))
       have hsv1 : w.heap.size + 1 ≤ v1.heap.size := by omega
       clear b h z hfl FL1)
    | (have hfl := FL2.out
       refine wpList_box rfl 39 (.tmp 1) rfl (PaV.cells q).toArray rfl ?_
       intro v2 b h z
       have PB := hid (show BoxAt v2 v1.heap.size 39 (PaV.cells q).toArray from b)
       have CB := hid (CB.out.belowAll h)
       have HB := hid (HB.out.trans (h.mono HB.out.size))
       have hsv2 : v1.heap.size + 1 ≤ v2.heap.size := by omega
       clear b h z hfl FL2)
    | (have hfl := FL3.out
       refine wpList_new rfl 39 rfl _ Try.zeroPa ?_
       intro v3 b h z
       have RB := hid (show BoxAt v3 v2.heap.size 39 (PaV.cells PaV.zero).toArray from b)
       have CB := hid (CB.out.belowAll h)
       have PB := hid (PB.out.belowAll h)
       have HB := hid (HB.out.trans (h.mono HB.out.size))
       have hsv3 : v2.heap.size + 1 ≤ v3.heap.size := by omega
       have kPB4 : v3.cell? ⟨v1.heap.size, 4, none⟩ = some (.slice ap c.pr.length cpp) := (BoxAt.cell PB.out 4).trans (by show some q.pr.val = _; rw [HPv.out])
       clear b h z hfl FL3)
    | fail)
  refine (uthere_Px _ _ _ _ _).mono ?_
  rintro e v3 ⟨rfl, rfl⟩
  by_cases hin : 0 ≤ i ∧ i < c.pr.length
  · rw [decide_eq_true hin]
    obtain ⟨k, hki⟩ : ∃ k : Nat, i = (k : Int) := ⟨i.toNat, by omega⟩
    have hk : k < c.pr.length := by omega
    subst hki
    clear hin
    have kCB2 : v3.cell? ⟨w.heap.size, 2, none⟩ = some (.slice ac cc.pc.length cpc) := (BoxAt.cell CB.out 2).trans (by show some qc.v2.val = _; rw [HCv.out])
    clear kPB4
    have kPB4 : v3.cell? ⟨v1.heap.size, 4, none⟩ = some (.slice ap c.pr.length cpp) := (BoxAt.cell PB.out 4).trans (by show some q.pr.val = _; rw [HPv.out])
    go_wp2_with fail
    refine (uthere_Pc _ _ _ _ _).mono ?_
    rintro e v3 ⟨rfl, rfl⟩
    by_cases hinc : 0 ≤ (k : Int) ∧ (k : Int) < cc.pc.length
    · rw [decide_eq_true hinc]
      have hkc : k < cc.pc.length := by omega
      clear hinc
      have HT := hid (show 0 ≤ (k : Int) ∧ (k : Int) < c.pr.length ∧ (k : Int) < cc.pc.length by omega)
      have hkI : (k : Int) < (c.pr.length : Int) := by omega
      have hkM : (k : Int) < (cc.pc.length : Int) := by omega
      obtain ⟨b2, of2, hac, hcw, hccell⟩ := HCc.out (by omega)
      subst hac
      obtain ⟨f, hf⟩ : ∃ f, cc.pc.getD k Pc.zero = f := ⟨_, rfl⟩
      have HFc := hid (show w.cell? ⟨b2, of2 + k * 5 + 1, none⟩ = some (.int .i64 f.pe) from by rw [← hf]; exact hccell k hkc 1 (by decide))
      have HF := hid hf
      clear hf hccell HCc
      obtain ⟨b1, off, hap, hbw, hpx⟩ := HPc.out (by omega)
      subst hap
      have HP0 := hid (show PxAt w b1 (off + k * 18) (c.pr.getD k Px.zero) from fun j hj => hpx k hk j hj)
      clear hpx
      obtain ⟨r, hr⟩ : ∃ r, c.pr.getD k Px.zero = r := ⟨_, rfl⟩
      rw [hr] at HP0
      have HR := hid hr
      have HK := hid hk
      clear hr
      clear kCB2
      have kCB2 : v3.cell? ⟨w.heap.size, 2, none⟩ = some (.slice (some ⟨b2, of2, none⟩) cc.pc.length cpc) := (BoxAt.cell CB.out 2).trans (by show some qc.v2.val = _; rw [HCv.out])
      clear kPB4
      have kPB4 : v3.cell? ⟨v1.heap.size, 4, none⟩ = some (.slice (some ⟨b1, off, none⟩) c.pr.length cpp) := (BoxAt.cell PB.out 4).trans (by show some q.pr.val = _; rw [HPv.out])
      have kL : v3.cell? ⟨b2, of2 + k * 5 + 1, none⟩ = some (.int .i64 f.pe) := (HB.out.cell (p := ⟨b2, of2 + k * 5 + 1, none⟩) hcw).trans HFc.out
      by_cases hp : f.pe = 0
      · have t1 : (f.pe == 0) = true := by simpa using hp
        have HL := hid hp
        clear hp
        have FL4 := hid trivial
        have FL5 := hid trivial
        go_wp2_with (first
          | (refine wpList_load_px rfl _ rfl b1 (off + k * 18) rfl r (HP0.out.below HB.out hbw) ?_)
          | (have hfl := FL4.out
             refine wpList_new rfl 57 rfl _ Try.zeroPx ?_
             intro v4 b h z
             have XB := hid (show BoxAt v4 v3.heap.size 57 (Px.cells Px.zero).toArray from b)
             have CB := hid (CB.out.belowAll h)
             have PB := hid (PB.out.belowAll h)
             have RB := hid (RB.out.belowAll h)
             have HB := hid (HB.out.trans (h.mono HB.out.size))
             have hsv4 : v3.heap.size + 1 ≤ v4.heap.size := by omega
             clear kCB2
             have kCB2 : v4.cell? ⟨w.heap.size, 2, none⟩ = some (.slice (some ⟨b2, of2, none⟩) cc.pc.length cpc) := (BoxAt.cell CB.out 2).trans (by show some qc.v2.val = _; rw [HCv.out])
             clear kPB4
             have kPB4 : v4.cell? ⟨v1.heap.size, 4, none⟩ = some (.slice (some ⟨b1, off, none⟩) c.pr.length cpp) := (BoxAt.cell PB.out 4).trans (by show some q.pr.val = _; rw [HPv.out])
             clear kL
             have kL : v4.cell? ⟨b2, of2 + k * 5 + 1, none⟩ = some (.int .i64 f.pe) := (HB.out.cell (p := ⟨b2, of2 + k * 5 + 1, none⟩) hcw).trans HFc.out
             clear b h z hfl FL4)
          | (have hfl := FL5.out
             refine wpList_store_whole rfl 57 _ _ rfl rfl v3.heap.size rfl (Px.cells r) rfl _ _ XB.out rfl Try.infoPx (Px.one _) ?_
             intro v5 b g z
             have hsv5 : v4.heap.size ≤ v5.heap.size := by omega
             have XB := hid (show BoxAt v5 v3.heap.size 57 (Px.cells r).toArray from b)
             have CB := hid (CB.out.grown g (fun e => by have := Option.some.inj e; omega))
             have PB := hid (PB.out.grown g (fun e => by have := Option.some.inj e; omega))
             have RB := hid (RB.out.grown g (fun e => by have := Option.some.inj e; omega))
             have HB := hid (HB.out.trans (grown_below g (by omega) (by omega)))
             clear kCB2
             have kCB2 : v5.cell? ⟨w.heap.size, 2, none⟩ = some (.slice (some ⟨b2, of2, none⟩) cc.pc.length cpc) := (BoxAt.cell CB.out 2).trans (by show some qc.v2.val = _; rw [HCv.out])
             clear kPB4
             have kPB4 : v5.cell? ⟨v1.heap.size, 4, none⟩ = some (.slice (some ⟨b1, off, none⟩) c.pr.length cpp) := (BoxAt.cell PB.out 4).trans (by show some q.pr.val = _; rw [HPv.out])
             have kXB0 : v5.cell? ⟨v3.heap.size, 0, none⟩ = some (.int .i64 r.st) := (BoxAt.cell XB.out 0).trans rfl
             clear kL
             have kL : v5.cell? ⟨b2, of2 + k * 5 + 1, none⟩ = some (.int .i64 f.pe) := (HB.out.cell (p := ⟨b2, of2 + k * 5 + 1, none⟩) hcw).trans HFc.out
             clear b g z hfl FL5)
          | (with_reducible refine wpList_dst 40 rfl ?_
             refine wpList_load_box rfl 39 _ rfl v1.heap.size rfl _ _ PB.out _ Try.underlying39 Try.infoPa ?_)
          | fail)
        refine (own_any (HA.out.below HB.out) HSm.out).mono ?_
        rintro e v6 ⟨q', rfl, ho, hb⟩
        have CB := hid (CB.out.belowAll hb)
        have PB := hid (PB.out.belowAll hb)
        have RB := hid (RB.out.belowAll hb)
        have XB := hid (XB.out.belowAll hb)
        have HB := hid (HB.out.trans (hb.mono HB.out.size))
        have hsv6 : v5.heap.size ≤ v6.heap.size := hb.size
        have HO := hid (ho.mono (show w.heap.size ≤ v5.heap.size by omega))
        clear ho
        clear hb
        have FL6 := hid trivial
        go_wp2_with (first
          | (have hfl := FL6.out
             refine wpList_store_whole rfl 39 _ _ rfl rfl v2.heap.size rfl (PaV.cells q') rfl _ _ RB.out rfl Try.infoPa (PaV.one _) ?_
             intro v7 b g z
             have hsv7 : v6.heap.size ≤ v7.heap.size := by omega
             have HO := hid (HO.out.turn (Turns.grown (S := fun t => t = 39) RB.out b rfl g))
             have RB := hid (show BoxAt v7 v2.heap.size 39 (PaV.cells q').toArray from b)
             have CB := hid (CB.out.grown g (fun e => by have := Option.some.inj e; omega))
             have PB := hid (PB.out.grown g (fun e => by have := Option.some.inj e; omega))
             have XB := hid (XB.out.grown g (fun e => by have := Option.some.inj e; omega))
             have HB := hid (HB.out.trans (grown_below g (by omega) (by omega)))
             clear b g z hfl FL6)
          | fail)
        refine bodyPost_ret (results_box_tmp rfl _ _ (v2.heap.size) 39 _ (0, 0) _ rfl RB.out Try.underlying39 rfl Try.infoPa) rfl ?_
        rw [show periodP cc c (k : Int) = (c, 4) from by unfold periodP; rw [if_pos HT.out, if_pos (by rw [Int.toNat_natCast, HF.out]; exact .inl HL.out)]]
        exact ⟨q', rfl, HO.out, HB.out⟩
      · have t1 : (f.pe == 0) = false := by simpa using hp
        have HL := hid hp
        clear hp
        by_cases hst : r.st ≠ 1
        · have t2 : (r.st != 1) = true := by simpa using hst
          have HS := hid hst
          clear hst
          have FL7 := hid trivial
          have FL8 := hid trivial
          go_wp2_with (first
            | (refine wpList_load_px rfl _ rfl b1 (off + k * 18) rfl r (HP0.out.below HB.out hbw) ?_)
            | (have hfl := FL7.out
               refine wpList_new rfl 57 rfl _ Try.zeroPx ?_
               intro v8 b h z
               have XB := hid (show BoxAt v8 v3.heap.size 57 (Px.cells Px.zero).toArray from b)
               have CB := hid (CB.out.belowAll h)
               have PB := hid (PB.out.belowAll h)
               have RB := hid (RB.out.belowAll h)
               have HB := hid (HB.out.trans (h.mono HB.out.size))
               have hsv8 : v3.heap.size + 1 ≤ v8.heap.size := by omega
               clear kCB2
               have kCB2 : v8.cell? ⟨w.heap.size, 2, none⟩ = some (.slice (some ⟨b2, of2, none⟩) cc.pc.length cpc) := (BoxAt.cell CB.out 2).trans (by show some qc.v2.val = _; rw [HCv.out])
               clear kPB4
               have kPB4 : v8.cell? ⟨v1.heap.size, 4, none⟩ = some (.slice (some ⟨b1, off, none⟩) c.pr.length cpp) := (BoxAt.cell PB.out 4).trans (by show some q.pr.val = _; rw [HPv.out])
               clear kL
               have kL : v8.cell? ⟨b2, of2 + k * 5 + 1, none⟩ = some (.int .i64 f.pe) := (HB.out.cell (p := ⟨b2, of2 + k * 5 + 1, none⟩) hcw).trans HFc.out
               clear b h z hfl FL7)
            | (have hfl := FL8.out
               refine wpList_store_whole rfl 57 _ _ rfl rfl v3.heap.size rfl (Px.cells r) rfl _ _ XB.out rfl Try.infoPx (Px.one _) ?_
               intro v9 b g z
               have hsv9 : v8.heap.size ≤ v9.heap.size := by omega
               have XB := hid (show BoxAt v9 v3.heap.size 57 (Px.cells r).toArray from b)
               have CB := hid (CB.out.grown g (fun e => by have := Option.some.inj e; omega))
               have PB := hid (PB.out.grown g (fun e => by have := Option.some.inj e; omega))
               have RB := hid (RB.out.grown g (fun e => by have := Option.some.inj e; omega))
               have HB := hid (HB.out.trans (grown_below g (by omega) (by omega)))
               clear kCB2
               have kCB2 : v9.cell? ⟨w.heap.size, 2, none⟩ = some (.slice (some ⟨b2, of2, none⟩) cc.pc.length cpc) := (BoxAt.cell CB.out 2).trans (by show some qc.v2.val = _; rw [HCv.out])
               clear kPB4
               have kPB4 : v9.cell? ⟨v1.heap.size, 4, none⟩ = some (.slice (some ⟨b1, off, none⟩) c.pr.length cpp) := (BoxAt.cell PB.out 4).trans (by show some q.pr.val = _; rw [HPv.out])
               have kXB0 : v9.cell? ⟨v3.heap.size, 0, none⟩ = some (.int .i64 r.st) := (BoxAt.cell XB.out 0).trans rfl
               clear kL
               have kL : v9.cell? ⟨b2, of2 + k * 5 + 1, none⟩ = some (.int .i64 f.pe) := (HB.out.cell (p := ⟨b2, of2 + k * 5 + 1, none⟩) hcw).trans HFc.out
               clear b g z hfl FL8)
            | (with_reducible refine wpList_dst 40 rfl ?_
               refine wpList_load_box rfl 39 _ rfl v1.heap.size rfl _ _ PB.out _ Try.underlying39 Try.infoPa ?_)
            | fail)
          refine (own_any (HA.out.below HB.out) HSm.out).mono ?_
          rintro e v10 ⟨q', rfl, ho, hb⟩
          have CB := hid (CB.out.belowAll hb)
          have PB := hid (PB.out.belowAll hb)
          have RB := hid (RB.out.belowAll hb)
          have XB := hid (XB.out.belowAll hb)
          have HB := hid (HB.out.trans (hb.mono HB.out.size))
          have hsv10 : v9.heap.size ≤ v10.heap.size := hb.size
          have HO := hid (ho.mono (show w.heap.size ≤ v9.heap.size by omega))
          clear ho
          clear hb
          have FL9 := hid trivial
          go_wp2_with (first
            | (have hfl := FL9.out
               refine wpList_store_whole rfl 39 _ _ rfl rfl v2.heap.size rfl (PaV.cells q') rfl _ _ RB.out rfl Try.infoPa (PaV.one _) ?_
               intro v11 b g z
               have hsv11 : v10.heap.size ≤ v11.heap.size := by omega
               have HO := hid (HO.out.turn (Turns.grown (S := fun t => t = 39) RB.out b rfl g))
               have RB := hid (show BoxAt v11 v2.heap.size 39 (PaV.cells q').toArray from b)
               have CB := hid (CB.out.grown g (fun e => by have := Option.some.inj e; omega))
               have PB := hid (PB.out.grown g (fun e => by have := Option.some.inj e; omega))
               have XB := hid (XB.out.grown g (fun e => by have := Option.some.inj e; omega))
               have HB := hid (HB.out.trans (grown_below g (by omega) (by omega)))
               clear b g z hfl FL9)
            | fail)
          refine bodyPost_ret (results_box_tmp rfl _ _ (v2.heap.size) 39 _ (0, 0) _ rfl RB.out Try.underlying39 rfl Try.infoPa) rfl ?_
          rw [show periodP cc c (k : Int) = (c, 4) from by unfold periodP; rw [if_pos HT.out, if_pos (by rw [Int.toNat_natCast, HR.out]; exact .inr HS.out)]]
          exact ⟨q', rfl, HO.out, HB.out⟩
        · have hs1 : r.st = 1 := Decidable.not_not.1 hst
          have t2 : (r.st != 1) = false := by simpa using hs1
          have HS := hid hs1
          clear hst hs1
          have FL10 := hid trivial
          have FL11 := hid trivial
          go_wp2_with (first
            | (refine wpList_load_px rfl _ rfl b1 (off + k * 18) rfl r (HP0.out.below HB.out hbw) ?_)
            | (have hfl := FL10.out
               refine wpList_new rfl 57 rfl _ Try.zeroPx ?_
               intro v12 b h z
               have XB := hid (show BoxAt v12 v3.heap.size 57 (Px.cells Px.zero).toArray from b)
               have CB := hid (CB.out.belowAll h)
               have PB := hid (PB.out.belowAll h)
               have RB := hid (RB.out.belowAll h)
               have HB := hid (HB.out.trans (h.mono HB.out.size))
               have hsv12 : v3.heap.size + 1 ≤ v12.heap.size := by omega
               clear kCB2
               have kCB2 : v12.cell? ⟨w.heap.size, 2, none⟩ = some (.slice (some ⟨b2, of2, none⟩) cc.pc.length cpc) := (BoxAt.cell CB.out 2).trans (by show some qc.v2.val = _; rw [HCv.out])
               clear kPB4
               have kPB4 : v12.cell? ⟨v1.heap.size, 4, none⟩ = some (.slice (some ⟨b1, off, none⟩) c.pr.length cpp) := (BoxAt.cell PB.out 4).trans (by show some q.pr.val = _; rw [HPv.out])
               clear kL
               have kL : v12.cell? ⟨b2, of2 + k * 5 + 1, none⟩ = some (.int .i64 f.pe) := (HB.out.cell (p := ⟨b2, of2 + k * 5 + 1, none⟩) hcw).trans HFc.out
               clear b h z hfl FL10)
            | (have hfl := FL11.out
               refine wpList_store_whole rfl 57 _ _ rfl rfl v3.heap.size rfl (Px.cells r) rfl _ _ XB.out rfl Try.infoPx (Px.one _) ?_
               intro v13 b g z
               have hsv13 : v12.heap.size ≤ v13.heap.size := by omega
               have XB := hid (show BoxAt v13 v3.heap.size 57 (Px.cells r).toArray from b)
               have CB := hid (CB.out.grown g (fun e => by have := Option.some.inj e; omega))
               have PB := hid (PB.out.grown g (fun e => by have := Option.some.inj e; omega))
               have RB := hid (RB.out.grown g (fun e => by have := Option.some.inj e; omega))
               have HB := hid (HB.out.trans (grown_below g (by omega) (by omega)))
               clear kCB2
               have kCB2 : v13.cell? ⟨w.heap.size, 2, none⟩ = some (.slice (some ⟨b2, of2, none⟩) cc.pc.length cpc) := (BoxAt.cell CB.out 2).trans (by show some qc.v2.val = _; rw [HCv.out])
               clear kPB4
               have kPB4 : v13.cell? ⟨v1.heap.size, 4, none⟩ = some (.slice (some ⟨b1, off, none⟩) c.pr.length cpp) := (BoxAt.cell PB.out 4).trans (by show some q.pr.val = _; rw [HPv.out])
               have kXB0 : v13.cell? ⟨v3.heap.size, 0, none⟩ = some (.int .i64 r.st) := (BoxAt.cell XB.out 0).trans rfl
               have kXB13 : v13.cell? ⟨v3.heap.size, 13, none⟩ = some (.int .i64 r.ne) := (BoxAt.cell XB.out 13).trans rfl
               clear kL
               have kL : v13.cell? ⟨b2, of2 + k * 5 + 1, none⟩ = some (.int .i64 f.pe) := (HB.out.cell (p := ⟨b2, of2 + k * 5 + 1, none⟩) hcw).trans HFc.out
               clear b g z hfl FL11)
            | (with_reducible refine wpList_dst 42 rfl ?_
               refine wpList_load_box rfl 39 _ rfl v1.heap.size rfl _ _ PB.out _ Try.underlying39 Try.infoPa ?_)
            | fail)
          refine (block_api (i := (k : Int)) (ki := 2) (ob := 0) (un := r.ne) (ca := 6) (HA.out.below HB.out) HSm.out).mono ?_
          rintro e v14 ⟨q2, rfl, ho, hb⟩
          have CB := hid (CB.out.belowAll hb)
          have PB := hid (PB.out.belowAll hb)
          have RB := hid (RB.out.belowAll hb)
          have XB := hid (XB.out.belowAll hb)
          have HB := hid (HB.out.trans (hb.mono HB.out.size))
          have hsv14 : v13.heap.size ≤ v14.heap.size := hb.size
          have HO := hid (ho.mono (show w.heap.size ≤ v13.heap.size by omega))
          clear ho
          clear hb
          obtain ⟨y, hy⟩ : ∃ y : Px, { r with st := 2, ki := 2, ob := 0, un := r.ne, ca := 6 } = y := ⟨_, rfl⟩
          have HY := hid hy
          clear hy
          have HBk := hid (show blockP c (k : Int) 2 0 r.ne 6 = { c with pr := c.pr.set k y } from by unfold blockP; rw [deed_does HK.out _ (y := y) (by unfold blockD; rw [HR.out, if_pos HS.out, HY.out])])
          obtain ⟨C2, hC2⟩ : ∃ C2 : Pa, { c with pr := c.pr.set k y } = C2 := ⟨_, rfl⟩
          rw [HBk.out, hC2] at HO
          have HC2 := hid hC2
          have HK2 := hid (show k < C2.pr.length by rw [← hC2]; simpa using HK.out)
          have HR2 := hid (show C2.pr.getD k Px.zero = y by rw [← hC2]; exact getD_set_self HK.out _)
          clear hC2
          obtain ⟨gq, cap, hq1, hg1, hg2, hg3, hg4⟩ := HO.out.hdr (by have := HK2.out; omega)
          have HQ := hid hq1
          clear hq1
          have hk2 : (k : Int) < (C2.pr.length : Int) := by have := HK2.out; omega
          have FL12 := hid trivial
          have FL13 := hid trivial
          have FL14 := hid trivial
          go_wp2_with (first
            | (have hfl := FL12.out
               refine wpList_store_whole rfl 39 _ _ rfl rfl v1.heap.size rfl (PaV.cells q2) rfl _ _ PB.out rfl Try.infoPa (PaV.one _) ?_
               intro v15 b g z
               have hsv15 : v14.heap.size ≤ v15.heap.size := by omega
               have HO := hid (HO.out.turn (Turns.grown (S := fun t => t = 39) PB.out b rfl g))
               have PB := hid (show BoxAt v15 v1.heap.size 39 (PaV.cells q2).toArray from b)
               have CB := hid (CB.out.grown g (fun e => by have := Option.some.inj e; omega))
               have RB := hid (RB.out.grown g (fun e => by have := Option.some.inj e; omega))
               have HB := hid (HB.out.trans (grown_below g (by omega) (by omega)))
               clear kPB4
               have kPB4 : v15.cell? ⟨v1.heap.size, 4, none⟩ = some (.slice (some ⟨gq, 0, none⟩) C2.pr.length cap) := (BoxAt.cell PB.out 4).trans (by show some q2.pr.val = _; rw [HQ.out]; rfl)
               clear b g z hfl FL12)
            | (have hfl := FL13.out
               have HPs := PW.start (base := w.heap.size) (show OP _ w.heap.size (.slice (some ⟨gq, 0, none⟩) C2.pr.length cap) C2.pr from by have h := HO.out.pr; rw [HQ.out] at h; exact h) HK2.out
               rw [HR2.out] at HPs
               refine wpList_store_pw rfl 3 _ _ rfl rfl HPs 12 (by decide) (.int .i64 (-1)) rfl rfl rfl rfl (by kernel_rfl) ({ y with du := -1 }) rfl ?_
               intro v16 hp gr z
               obtain ⟨ht, hbb⟩ := pw_turns HPs hp gr
               have HO := hid (HO.out.wrote HQ.out ht hp)
               have CB := hid (CB.out.turn (S := fun t => t = 57) (by decide) ht)
               have PB := hid (PB.out.turn (S := fun t => t = 57) (by decide) ht)
               have RB := hid (RB.out.turn (S := fun t => t = 57) (by decide) ht)
               have HB := hid (HB.out.trans hbb)
               have hsv16 : v15.heap.size ≤ v16.heap.size := by omega
               clear kPB4
               have kPB4 : v16.cell? ⟨v1.heap.size, 4, none⟩ = some (.slice (some ⟨gq, 0, none⟩) C2.pr.length cap) := (BoxAt.cell PB.out 4).trans (by show some q2.pr.val = _; rw [HQ.out]; rfl)
               clear hp gr z ht hbb HPs hfl FL13)
            | (with_reducible refine wpList_dst 52 rfl ?_
               refine wpList_load_box rfl 39 _ rfl v1.heap.size rfl _ _ PB.out _ Try.underlying39 Try.infoPa ?_)
            | (have hfl := FL14.out
               refine wpList_store_whole rfl 39 _ _ rfl rfl v2.heap.size rfl (PaV.cells q2) rfl _ _ RB.out rfl Try.infoPa (PaV.one _) ?_
               intro v17 b g z
               have hsv17 : v16.heap.size ≤ v17.heap.size := by omega
               have HO := hid (HO.out.turn (Turns.grown (S := fun t => t = 39) RB.out b rfl g))
               have RB := hid (show BoxAt v17 v2.heap.size 39 (PaV.cells q2).toArray from b)
               have CB := hid (CB.out.grown g (fun e => by have := Option.some.inj e; omega))
               have PB := hid (PB.out.grown g (fun e => by have := Option.some.inj e; omega))
               have HB := hid (HB.out.trans (grown_below g (by omega) (by omega)))
               clear kPB4
               have kPB4 : v17.cell? ⟨v1.heap.size, 4, none⟩ = some (.slice (some ⟨gq, 0, none⟩) C2.pr.length cap) := (BoxAt.cell PB.out 4).trans (by show some q2.pr.val = _; rw [HQ.out]; rfl)
               clear b g z hfl FL14)
            | fail)
          refine bodyPost_ret (results_box_tmp rfl _ _ (v2.heap.size) 39 _ (0, 0) _ rfl RB.out Try.underlying39 rfl Try.infoPa) rfl ?_
          rw [show periodP cc c (k : Int) = ({ C2 with pr := C2.pr.set k { y with du := -1 } }, 6) from by unfold periodP; rw [if_pos HT.out, Int.toNat_natCast, if_neg (by rw [HR.out, HF.out]; exact fun h => h.elim HL.out (fun h => h HS.out)), HR.out, ← HC2.out, ← HY.out]; simp only [List.set_set]]
          exact ⟨q2, rfl, HO.out, HB.out⟩
    · have HH := hid hinc
      rw [decide_eq_false hinc]
      clear hinc
      go_wp2_with (first
        | (with_reducible refine wpList_dst 21 rfl ?_
           refine wpList_load_box rfl 39 _ rfl v1.heap.size rfl _ _ PB.out _ Try.underlying39 Try.infoPa ?_)
        | fail)
      refine (own_any (HA.out.below HB.out) HSm.out).mono ?_
      rintro e v18 ⟨q', rfl, ho, hb⟩
      have CB := hid (CB.out.belowAll hb)
      have PB := hid (PB.out.belowAll hb)
      have RB := hid (RB.out.belowAll hb)
      have HB := hid (HB.out.trans (hb.mono HB.out.size))
      have hsv18 : v3.heap.size ≤ v18.heap.size := hb.size
      have HO := hid (ho.mono (show w.heap.size ≤ v3.heap.size by omega))
      clear ho
      clear hb
      have FL15 := hid trivial
      go_wp2_with (first
        | (have hfl := FL15.out
           refine wpList_store_whole rfl 39 _ _ rfl rfl v2.heap.size rfl (PaV.cells q') rfl _ _ RB.out rfl Try.infoPa (PaV.one _) ?_
           intro v19 b g z
           have hsv19 : v18.heap.size ≤ v19.heap.size := by omega
           have HO := hid (HO.out.turn (Turns.grown (S := fun t => t = 39) RB.out b rfl g))
           have RB := hid (show BoxAt v19 v2.heap.size 39 (PaV.cells q').toArray from b)
           have CB := hid (CB.out.grown g (fun e => by have := Option.some.inj e; omega))
           have PB := hid (PB.out.grown g (fun e => by have := Option.some.inj e; omega))
           have HB := hid (HB.out.trans (grown_below g (by omega) (by omega)))
           clear b g z hfl FL15)
        | fail)
      refine bodyPost_ret (results_box_tmp rfl _ _ (v2.heap.size) 39 _ (0, 0) _ rfl RB.out Try.underlying39 rfl Try.infoPa) rfl ?_
      rw [show periodP cc c (k : Int) = (c, 3) from by unfold periodP; rw [if_neg (fun h => HH.out ⟨h.1, h.2.2⟩)]]
      exact ⟨q', rfl, HO.out, HB.out⟩
  · have HH := hid hin
    rw [decide_eq_false hin]
    clear hin
    go_wp2_with (first
      | (with_reducible refine wpList_dst 21 rfl ?_
         refine wpList_load_box rfl 39 _ rfl v1.heap.size rfl _ _ PB.out _ Try.underlying39 Try.infoPa ?_)
      | fail)
    refine (own_any (HA.out.below HB.out) HSm.out).mono ?_
    rintro e v20 ⟨q', rfl, ho, hb⟩
    have CB := hid (CB.out.belowAll hb)
    have PB := hid (PB.out.belowAll hb)
    have RB := hid (RB.out.belowAll hb)
    have HB := hid (HB.out.trans (hb.mono HB.out.size))
    have hsv20 : v3.heap.size ≤ v20.heap.size := hb.size
    have HO := hid (ho.mono (show w.heap.size ≤ v3.heap.size by omega))
    clear ho
    clear hb
    have FL16 := hid trivial
    go_wp2_with (first
      | (have hfl := FL16.out
         refine wpList_store_whole rfl 39 _ _ rfl rfl v2.heap.size rfl (PaV.cells q') rfl _ _ RB.out rfl Try.infoPa (PaV.one _) ?_
         intro v21 b g z
         have hsv21 : v20.heap.size ≤ v21.heap.size := by omega
         have HO := hid (HO.out.turn (Turns.grown (S := fun t => t = 39) RB.out b rfl g))
         have RB := hid (show BoxAt v21 v2.heap.size 39 (PaV.cells q').toArray from b)
         have CB := hid (CB.out.grown g (fun e => by have := Option.some.inj e; omega))
         have PB := hid (PB.out.grown g (fun e => by have := Option.some.inj e; omega))
         have HB := hid (HB.out.trans (grown_below g (by omega) (by omega)))
         clear b g z hfl FL16)
      | fail)
    refine bodyPost_ret (results_box_tmp rfl _ _ (v2.heap.size) 39 _ (0, 0) _ rfl RB.out Try.underlying39 rfl Try.infoPa) rfl ?_
    rw [show periodP cc c i = (c, 3) from by unfold periodP; rw [if_neg (fun h => HH.out ⟨h.1, h.2.1⟩)]]
    exact ⟨q', rfl, HO.out, HB.out⟩

/-- What Late writes into. -/
def SL (t : TypeId) : Prop := t = 57 ∨ t = 26
theorem Turns.go {S : TypeId → Prop} {a b c : World} (h : Turns S a b) (k : Below a.heap.size b c) : Turns S a c :=
  ⟨k.os.trans h.os, k.tape.trans h.tape, k.output.trans h.output, Nat.le_trans h.size k.size, fun i hi ht => (k.block i hi).trans (h.block i hi ht), fun i t hi ⟨cs, fr, e⟩ => h.tag i t hi ⟨cs, fr, by rw [← k.block i hi]; exact e⟩⟩
/-- The numbers of the late ones among the first k. -/
def lateI (c : Pa) (now : Int) (k : Nat) : List Int := ((List.range k).filter fun i => lateX now (c.pr.getD i Px.zero)).map fun i : Nat => (i : Int)
theorem lateI_len (c : Pa) (now : Int) (k : Nat) : (lateI c now k).length ≤ k := by
  unfold lateI
  rw [List.length_map]
  exact Nat.le_trans (List.length_filter_le _ _) (by simp)
theorem lateI_yes {c : Pa} {now : Int} {k : Nat} (h : lateX now (c.pr.getD k Px.zero) = true) : lateI c now (k + 1) = lateI c now k ++ [(k : Int)] := by
  unfold lateI
  rw [List.range_succ, List.filter_append, List.map_append]
  simp [List.getD] at h
  simp [h]
theorem lateI_no {c : Pa} {now : Int} {k : Nat} (h : lateX now (c.pr.getD k Px.zero) = false) : lateI c now (k + 1) = lateI c now k := by
  unfold lateI
  rw [List.range_succ, List.filter_append, List.map_append]
  simp [List.getD] at h
  simp [h]
theorem lateI_all (c : Pa) (now : Int) : lateI c now c.pr.length = (lateL c now).map fun i : Nat => (i : Int) := rfl
theorem lateS_len (c : Pa) (now : Int) (k : Nat) : (lateS c now k).pr.length = c.pr.length := by
  unfold lateS
  simp
  omega
theorem lateS_ge (c : Pa) (now : Int) {k j : Nat} (h : k ≤ j) (hk : k ≤ c.pr.length) : (lateS c now k).pr.getD j Px.zero = c.pr.getD j Px.zero := by
  unfold lateS
  simp only [List.getD]
  rw [List.getElem?_append_right (by simp; omega)]
  simp only [List.length_map, List.length_take, List.getElem?_drop]
  rw [show k + (j - min k c.pr.length) = j by omega]
theorem lateS_succ (c : Pa) (now : Int) {k : Nat} (hk : k < c.pr.length) : (lateS c now (k + 1)).pr = (lateS c now k).pr.set k (toldX now (c.pr.getD k Px.zero)) := by
  unfold lateS
  apply List.ext_getElem?
  intro j
  simp only [List.getElem?_set, List.getElem?_append, List.length_map, List.length_take, List.length_append, List.length_drop, List.getElem?_map, List.getElem?_take, List.getElem?_drop, List.getD]
  rcases Nat.lt_trichotomy j k with h | h | h
  · rw [if_pos (by omega), if_pos (by omega), if_neg (by omega), if_pos (by omega), if_pos (by omega)]
  · subst h
    rw [if_pos (by omega), if_pos (by omega), if_pos rfl, if_pos (by omega)]
    simp [hk]
  · rw [if_neg (by omega), if_neg (by omega), if_neg (by omega)]
    congr 1
    omega
theorem lateS_skip (c : Pa) (now : Int) {k : Nat} (hk : k < c.pr.length) (h : lateX now (c.pr.getD k Px.zero) = false) : (lateS c now (k + 1)).pr = (lateS c now k).pr := by
  rw [lateS_succ c now hk]
  unfold toldX
  rw [if_neg (by rw [h]; simp), ← lateS_ge c now (Nat.le_refl k) (by omega), set_getD_self]

/-- What holds ahead of round k. -/
structure LateI (w V : World) (LB : Nat) (c : Pa) (now : Int) (s : Sl) (k : Nat) (W : World) : Prop where
  lo : Below w.heap.size w W
  rel : Turns SL V W
  row : OP W w.heap.size s.val (lateS c now k).pr
  lb : ∃ v, BoxAt W LB 26 #[v] ∧ OI W V.heap.size v (lateI c now k)
theorem LateI.put {w V : World} {LB : Nat} {c : Pa} {now : Int} {s : Sl} {k : Nat} {W : World} (h : LateI w V LB c now s k W) {l : Nat} {o : Obj} (o' : Obj) (hw : w.heap.size ≤ V.heap.size) (hl : V.heap.size ≤ l) (ho : W.heap[l]? = some o) (hc : o.isCells = false) : LateI w V LB c now s k (W.putObj l o') := by
  have hk := KeptC.put ho hc o'
  obtain ⟨v, h1, h2⟩ := h.lb
  exact ⟨below_put h.lo (by omega), h.rel.go (below_put (Below.refl _ _) hl), h.row.kept hk, v, h1.kept hk, h2.kept hk⟩
theorem LateI.below {w V : World} {LB : Nat} {c : Pa} {now : Int} {s : Sl} {k : Nat} {W W' : World} (h : LateI w V LB c now s k W) (hb : Below W.heap.size W W') : LateI w V LB c now s k W' := by
  obtain ⟨v, h1, h2⟩ := h.lb
  exact ⟨h.lo.trans (hb.mono h.lo.size), h.rel.go (hb.mono h.rel.size), h.row.below hb, v, h1.belowAll hb, h2.below hb⟩
/-- A walk that lets nothing out. -/
theorem wp_calm {P : Program} {c : Code} {K : Act → World → Prop} {Q : Exit → Act → World → Prop} {a : Act} {w : World} (h : c.wp P (Exit.then K (fun _ _ _ => False)) a w) : c.wp P (Exit.then K Q) a w :=
  Code.wp_mono (fun e a w q => by cases e <;> first | exact q | exact q.elim) h
theorem owns_low {w w' : World} {B base g n cap k : Nat} {e : TypeId} {size : Nat} {xs : List Value} (h : w.ownsRow base e size (.slice (some ⟨g, 0, none⟩) n cap) k xs) (hb : Below B w w') (hg : g < B) : w'.ownsRow base e size (.slice (some ⟨g, 0, none⟩) n cap) k xs := by
  refine ⟨h.1, ?_⟩
  rcases h.2 with h | ⟨g', cap', cur, hv, hg', hh, hrest⟩
  · exact .inl h
  · have e : g = g' := by simp only [Value.slice.injEq, Option.some.injEq, Addr.mk.injEq] at hv; exact hv.1.1
    subst e
    exact .inr ⟨g, cap', cur, hv, hg', (hb.block g hg).trans hh, hrest⟩
theorem PW.low {w w' : World} {B base g cap i : Nat} {L : List Px} {r : Px} (h : PW w base g cap i L r) (hb : Below B w w') (hg : g < B) : PW w' base g cap i L r := ⟨owns_low h.op hb hg, h.lt⟩
theorem owns_others {w w' : World} {base n : Nat} {e : TypeId} {size : Nat} {v : Value} {xs : List Value} (h : w.ownsRow base e size v n xs) (hg : w.grownBy w' v.ownBlock) (B : Nat) : Others B w w' := by
  refine ⟨hg.size, fun k o _ hk ho => (hg.block k (Array.getElem?_eq_some_iff.1 hk).1 (fun e => ?_)).trans hk⟩
  rcases h.2 with ⟨rfl, _⟩ | ⟨g', cap', cur, rfl, hg', hh, hrest⟩
  · simp [Value.ownBlock] at e
  · simp only [Value.ownBlock, Option.some.injEq] at e
    subst e
    rw [hk] at hh
    injection hh with hh
    subst hh
    cases ho
theorem Try.entersLate1 : ∀ args w, (callFunc 39 args).run Try.prog w = .ok (.enter 39 args) w := enters_of Try.func39 (by kernel_rfl) rfl
theorem Try.zeroInts : (Try.prog.info? 26).bind (·.zero) = some (.slice none 0 0) := by kernel_rfl
theorem results_tmp_box {P : Program} {fn : Func} {p u : Tmp} {ty : TypeId} (h : fn.results = #[.tmp u, .cell p ty]) (tmps : Array Value) (w : World) (g : Nat) (t : TypeId) (cs : Array Value) (fr : Nat × Nat) (d : TypeDesc)
    (hp : tmps.getD p undef = .pointer (some ⟨g, 0, none⟩)) (hg : w.heap[g]? = some (.cells cs t fr))
    (hu : P.underlying ty = some d) (hd : (match d with | .struct _ | .array _ _ => true | _ => false) = true) (hi : (P.info? ty).map (·.size) = some cs.size) :
    (results fn tmps).run P w = .ok (.tuple #[tmps.getD u undef, .agg cs]) w := by
  have hp' : tmps[p]?.getD undef = .pointer (some ⟨g, 0, none⟩) := by simpa using hp
  simp [results, h, hp', asAddr, run_loadVar_row w g t ty cs fr d hg hu hd hi]

set_option maxRecDepth 100000 in
set_option maxHeartbeats 6400000 in
theorem late_any {q : PaV} {c : Pa} {now : Int} {w : World} (ha : PaAt w q c) (hsm : c.small) :
    Calls Try.prog 14 #[q.val, .int .i64 now] w fun e w' => ∃ v q', e = .returned (.tuple #[v, PaV.val q']) ∧ OI w' w.heap.size v ((lateL c now).map fun i : Nat => (i : Int)) ∧ PaO w' w.heap.size q' (lateC c now) ∧ Below w.heap.size w w' := by
  have hmf : ∀ (fn : Fn) (first cap : Array Value) (w : World), (Instr.makeFunc fn first cap).run Try.prog w = .ok (.func fn first cap) w := fun _ _ _ _ => rfl
  have HA := hid ha
  have HSm := hid hsm
  have HB := hid (Below.refl w.heap.size w)
  clear ha hsm
  refine (callsIn_wide (n := 0)).1 (callsIn_of_wp_marks Try.func14 rfl trivial (wpIn_wide.2 ?_) rfl)
  simp only [Try.ntmps14, List.size_toArray, List.length_cons, List.length_nil, Nat.reduceAdd, Nat.reduceSub, Array.replicate_succ, Array.replicate_zero, List.push_toArray, List.append_toArray, List.nil_append, List.cons_append]
  have FL1 := hid trivial
  have FL2 := hid trivial
  have FL3 := hid trivial
  go_wp2_with (first
    | (have hfl := FL1.out
       refine wpList_box rfl 39 (.tmp 0) rfl (PaV.cells q).toArray rfl ?_
       intro v1 b h z
       have PB := hid (show BoxAt v1 w.heap.size 39 (PaV.cells q).toArray from b)
       have HB := hid (HB.out.trans (h.mono HB.out.size))
       have hsv1 : w.heap.size + 1 ≤ v1.heap.size := by omega
       clear b h z hfl FL1)
    | (have hfl := FL2.out
       refine wpList_box1 rfl 3 (.tmp 1) rfl (.int .i64 now) rfl rfl ?_
       intro v2 b h z
       have NB := hid (show BoxAt v2 v1.heap.size 3 #[.int .i64 now] from b)
       have PB := hid (PB.out.belowAll h)
       have HB := hid (HB.out.trans (h.mono HB.out.size))
       have hsv2 : v1.heap.size + 1 ≤ v2.heap.size := by omega
       clear b h z hfl FL2)
    | (have hfl := FL3.out
       refine wpList_new rfl 39 rfl _ Try.zeroPa ?_
       intro v3 b h z
       have RB := hid (show BoxAt v3 v2.heap.size 39 (PaV.cells PaV.zero).toArray from b)
       have PB := hid (PB.out.belowAll h)
       have NB := hid (NB.out.belowAll h)
       have HB := hid (HB.out.trans (h.mono HB.out.size))
       have hsv3 : v2.heap.size + 1 ≤ v3.heap.size := by omega
       clear b h z hfl FL3)
    | (refine wpList_load_box rfl 39 _ rfl w.heap.size rfl _ _ PB.out _ Try.underlying39 Try.infoPa ?_)
    | fail)
  refine (own_any (HA.out.below HB.out) HSm.out).mono ?_
  rintro e v4 ⟨q1, rfl, ho, hb⟩
  have PB := hid (PB.out.belowAll hb)
  have NB := hid (NB.out.belowAll hb)
  have RB := hid (RB.out.belowAll hb)
  have HB := hid (HB.out.trans (hb.mono HB.out.size))
  have hsv4 : v3.heap.size ≤ v4.heap.size := hb.size
  have HO := hid (ho.mono (show w.heap.size ≤ v3.heap.size by omega))
  clear ho
  clear hb
  obtain ⟨s, hs⟩ : ∃ s, q1.pr = s := ⟨_, rfl⟩
  have HS := hid hs
  obtain ⟨ap, cpp, hpv, hp1, hp2, _⟩ := HO.out.pr.sees.form
  have hsv : s = ⟨ap, c.pr.length, cpp⟩ := by have h := hpv; rw [hs] at h; obtain ⟨x, y, z⟩ := s; simp only [Sl.val, Value.slice.injEq] at h; rw [h.1, h.2.1, h.2.2]
  have HSV := hid hsv
  have HCap := hid (show cpp ≤ 9223372036854775807 from hp2)
  clear hs hpv hp1 hp2 hsv
  have FL4 := hid trivial
  have FL5 := hid trivial
  go_wp2_with (first
    | (have hfl := FL4.out
       refine wpList_store_whole rfl 39 _ _ rfl rfl w.heap.size rfl (PaV.cells q1) rfl _ _ PB.out rfl Try.infoPa (PaV.one _) ?_
       intro v5 b g z
       have hsv5 : v4.heap.size ≤ v5.heap.size := by omega
       have HO := hid (HO.out.turn (Turns.grown (S := fun t => t = 39) PB.out b rfl g))
       have PB := hid (show BoxAt v5 w.heap.size 39 (PaV.cells q1).toArray from b)
       have NB := hid (NB.out.grown g (fun e => by have := Option.some.inj e; omega))
       have RB := hid (RB.out.grown g (fun e => by have := Option.some.inj e; omega))
       have HB := hid (HB.out.trans (grown_below g (by omega) (by omega)))
       have kPB4 : v5.cell? ⟨w.heap.size, 4, none⟩ = some (.slice ap c.pr.length cpp) := (BoxAt.cell PB.out 4).trans (by show some q1.pr.val = _; rw [HS.out, HSV.out]; rfl)
       clear b g z hfl FL4)
    | (have hfl := FL5.out
       refine wpList_new1 rfl 26 rfl (.slice none 0 0) rfl Try.zeroInts ?_
       intro v6 b h z
       have LB := hid (show BoxAt v6 v5.heap.size 26 #[.slice none 0 0] from b)
       have PB := hid (PB.out.belowAll h)
       have NB := hid (NB.out.belowAll h)
       have RB := hid (RB.out.belowAll h)
       have HO := hid (HO.out.below h)
       have HB := hid (HB.out.trans (h.mono HB.out.size))
       have hsv6 : v5.heap.size + 1 ≤ v6.heap.size := by omega
       clear kPB4
       have kPB4 : v6.cell? ⟨w.heap.size, 4, none⟩ = some (.slice ap c.pr.length cpp) := (BoxAt.cell PB.out 4).trans (by show some q1.pr.val = _; rw [HS.out, HSV.out]; rfl)
       clear b h z hfl FL5)
    | fail)
  refine (those_any ap c.pr.length cpp 39 #[.pointer (some ⟨v1.heap.size, 0, none⟩)] v6).mono ?_
  rintro e v7 ⟨rfl, hb1, hb2, hb⟩
  have B1 := hid hb1
  have B2 := hid hb2
  have PB := hid (PB.out.belowAll hb)
  have NB := hid (NB.out.belowAll hb)
  have RB := hid (RB.out.belowAll hb)
  have LB := hid (LB.out.belowAll hb)
  have HO := hid (HO.out.below hb)
  have HB := hid (HB.out.trans (hb.mono HB.out.size))
  have hsv7 : v6.heap.size ≤ v7.heap.size := hb.size
  clear hb hb1 hb2 kPB4
  have I0 := hid (show LateI w v7 v5.heap.size c now s 0 v7 from ⟨HB.out, Turns.refl _ _, by rw [lateS_zero]; have h := HO.out.pr; rw [HS.out] at h; exact h, .slice none 0 0, LB.out, ⟨rfl, .inl ⟨rfl, rfl⟩⟩⟩)
  go_wp2_with fail
  refine (wpIn_wide (n := 0)).1 ?_
  refine range_law (gf := 51) (lb := #[.pointer (some ⟨v6.heap.size, 0, none⟩), .pointer (some ⟨v6.heap.size + 1, 0, none⟩)]) rfl Try.entersThose1 c.pr.length (fun k => lateX now (c.pr.getD k Px.zero)) (fun k => #[.int .i64 (k : Nat), (c.pr.getD k Px.zero).val]) (fun _ => rfl)
    (LateI w v7 v5.heap.size c now s) ?put ?below ?skip I0.out ?call ?round ?done
  case put => exact fun k W l o o' h hl ho hc => h.put o' (by omega) hl ho hc
  case below => exact fun k W W' h hb => h.below hb
  case skip =>
    intro k W hk hb h
    obtain ⟨v, h1, h2⟩ := h.lb
    exact ⟨h.lo, h.rel, by rw [lateS_skip c now hk hb]; exact h.row, v, h1, by rw [lateI_no hb]; exact h2⟩
  case call =>
    intro l J W hI hJb hJs hY h0
    refine iter_any l v6.heap.size (v6.heap.size + 1) c.pr.length cpp 39 ap #[.pointer (some ⟨v1.heap.size, 0, none⟩)] (fun k => c.pr.getD k Px.zero) (fun k => lateX now (c.pr.getD k Px.zero)) J Try.entersLate1 (by have := HSm.out.pr; omega) (fun k W h => B1.out.turn (by unfold SL; decide) (hI k W h).rel) (fun k W h => B2.out.turn (by unfold SL; decide) (hI k W h).rel) (fun k W hk h => ?_) (fun k W hk h => late1_any _ _ _ _ (NB.out.turn (by unfold SL; decide) (hI k W h).rel)) hJb hJs hY W h0
    have hr := (hI k W h).row
    rw [HSV.out] at hr
    obtain ⟨g, cap, e, _, _, _, _⟩ := OP.form hr (by rw [lateS_len]; omega)
    rw [e] at hr
    have hx := OP.at hr k (by rw [lateS_len]; exact hk)
    rw [lateS_ge c now (Nat.le_refl k) (by omega)] at hx
    simp only [Sl.val, Value.slice.injEq] at e
    exact ⟨g, 0, e.1, by rw [Nat.zero_add]; exact hx⟩
  case done =>
    intro D W hD hI hK
    obtain ⟨v, hv1, hv2⟩ := hI.lb
    have LBf := hid hv1
    have HL := hid hv2
    have PB := hid (PB.out.turn (S := SL) (by unfold SL; decide) hI.rel)
    have RB := hid (RB.out.turn (S := SL) (by unfold SL; decide) hI.rel)
    have HOf := hid (show PaO W w.heap.size q1 (lateC c now) from by
      have hr := hI.row
      have h := HO.out.procs (S := SL) (by unfold SL; decide) (by unfold SL; decide) (by unfold SL; decide) (by unfold SL; decide) (by unfold SL; decide) (by unfold SL; decide) (by unfold SL; decide) (by unfold SL; decide) hI.rel _ c.nx (by rw [HS.out]; exact hr)
      rw [show ({ q1 with nx := c.nx } : PaV) = q1 from by rw [← HO.out.nx]] at h
      rw [← lateS_all]
      exact h)
    have HB := hid hI.lo
    have HK := hid hK
    have hDs : w.heap.size ≤ D := by omega
    have hrs : w.heap.size ≤ v2.heap.size := by omega
    have hWs := hI.lo.size
    obtain ⟨la, lc, hve, _, _, _⟩ := hv2.sees.form
    obtain ⟨n, hn⟩ : ∃ n, (lateI c now c.pr.length).length = n := ⟨_, rfl⟩
    rw [hn] at hve
    subst hve
    have HVw := hid (show w.heap.size ≤ v7.heap.size by omega)
    have hrl : v2.heap.size ≠ v5.heap.size := by omega
    have hrp : v2.heap.size ≠ w.heap.size := by omega
    clear hI hK hv1 hv2 hn
    go_wp2_with fail
    refine wp_calm ?_
    have LBf := hid (BoxAt.drew LBf.out)
    have PB := hid (BoxAt.drew PB.out)
    have RB := hid (BoxAt.drew RB.out)
    have HL := hid (HL.out.below ((Below.refl W.heap.size W).drew))
    have HOf := hid (HOf.out.below ((Below.refl W.heap.size W).drew))
    have HB := hid HB.out.drew
    have HK := hid (show W.drew.heap[D]? = some (.deferred (some [])) from HK.out)
    refine wp_region_held_drew (S := (fun V => BoxAt V v5.heap.size 26 #[.slice la n lc] ∧ BoxAt V w.heap.size 39 (PaV.cells q1).toArray)) (by kernel_rfl) (⟨LBf.out, PB.out⟩) (fun hHeld => ?_)
    refine wpAnyH_take (i := 0) (oi := { dst := some 27, op := Op.load 26 (Operand.tmp 7), type := 26, pos := "times.go:47", after := #[], guard := none }) (v := ?v1) rfl (by kernel_rfl) (by kernel_rfl) (by kernel_rfl) (fun _ _ _ h => h) (Or.inl ⟨by rfl, ?hy1⟩) (by assumption) ?rest1
    case hy1 => (intro V hSw; have c4 : V.cell? ⟨v5.heap.size, 0, none⟩ = some (.slice la n lc) := (BoxAt.cell hSw.1 0).trans rfl; clear hSw; go_simp; try with_reducible rfl)
    simp only [Act.put, List.setIfInBounds_toArray, List.set_cons_zero, List.set_cons_succ]
    refine wpAnyH_take (i := 1) (oi := { dst := some 28, op := Op.load 39 (Operand.tmp 2), type := 39, pos := "times.go:47", after := #[{ on := 2, ground := Ground.gcOnly Departure.lateStores }], guard := none }) (v := ?v2) rfl (by kernel_rfl) (by kernel_rfl) (by kernel_rfl) (fun _ _ _ h => h) (Or.inl ⟨by rfl, ?hy2⟩) (by assumption) ?rest2
    case hy2 => (intro V hSw; refine box_yields 39 (.tmp 2) ?_ (w.heap.size) ?_ (PaV.cells q1) 39 _ Try.underlying39 Try.infoPa hSw.2 <;> rfl)
    simp only [Act.put, List.setIfInBounds_toArray, List.set_cons_zero, List.set_cons_succ]
    refine wpAnyH_take (i := 2) (oi := { dst := some 4, op := Op.assign (Operand.tmp 27), type := 26, pos := "times.go:47", after := #[{ on := 0, ground := Ground.data }, { on := 0, ground := Ground.phase }, { on := 1, ground := Ground.textOnly Departure.lateStores }], guard := none }) (v := ?v3) rfl (by kernel_rfl) (by kernel_rfl) (by kernel_rfl) (fun _ _ _ h => h) (Or.inl ⟨by rfl, ?hy3⟩) (by assumption) ?rest3
    case hy3 => (intro w hSw; (try dsimp only at hSw); go_simp; try with_reducible rfl)
    simp only [Act.put, List.setIfInBounds_toArray, List.set_cons_zero, List.set_cons_succ]
    refine wpAnyH_ready (rs := [3]) (by kernel_rfl) (by simp) (AllReadyH.cons (o := { dst := none, op := Op.store 39 (Operand.tmp 5) (Operand.tmp 28), type := 0, pos := "times.go:47", after := #[{ on := 1, ground := Ground.data }, { on := 2, ground := Ground.chain }, { on := 0, ground := Ground.phase }, { on := 1, ground := Ground.phase }, { on := 2, ground := Ground.phase }], guard := none }) rfl (fun K4 hK4 => ?_) AllReadyH.nil)
    refine wp_store_whole 39 _ _ rfl (v2.heap.size) rfl (PaV.cells q1) rfl _ _ RB.out rfl Try.infoPa (PaV.one _) ?_
    intro z b gr hz
    have ht := Turns.grown (S := fun t => t = 39) RB.out b rfl gr
    have HOf := hid (HOf.out.turn ht)
    have HL := hid (OI.turn (S := fun t => t = 39) HL.out (by decide) ht)
    have HK := hid ((ht.others 0).same D _ (Nat.zero_le _) HK.out rfl)
    have hdz : W.drew.heap.size = W.heap.size := rfl
    have HB := hid (HB.out.trans (grown_below gr hrs (by omega)))
    have LBf := hid (LBf.out.grown gr (fun e => hrl (Option.some.inj e).symm))
    have PB := hid (PB.out.grown gr (fun e => hrp (Option.some.inj e).symm))
    have RB := hid (show BoxAt z (v2.heap.size) 39 (PaV.cells q1).toArray from b)
    clear b gr hz ht
    refine hK4.out _ _ (⟨LBf.out, PB.out⟩) (fun hHeld4 => ?_)
    clear hK4 K4
    try simp only [Act.put]
    refine wpAnyH_done (by kernel_rfl) ?_ _
    clear hHeld hHeld4
    go_wp2_with fail
    refine ⟨by simp, .inl ⟨_, _, rfl, run_takeDeferred HK.out, ?_⟩⟩
    have hk := KeptC.put HK.out rfl (.deferred none)
    refine ⟨_, results_tmp_box rfl _ _ (v2.heap.size) 39 _ (0, 0) _ rfl (RB.out.kept hk) Try.underlying39 rfl Try.infoPa, _, q1, rfl, ?_, HOf.out.kept hk, below_put HB.out hDs⟩
    exact (HL.out.mono HVw.out).kept hk
  case round =>
    intro l k W hl hk hbk hI hrl
    obtain ⟨x, hx⟩ : ∃ x, c.pr.getD k Px.zero = x := ⟨_, rfl⟩
    have HEs := hid (lateS_succ c now hk)
    have HEi := hid (lateI_yes hbk)
    have HTo := hid (show toldX now x = { x with du := -1 } from by unfold toldX; rw [if_pos (by rw [← hx]; exact hbk)])
    have HI := hid hI
    have HRl := hid hrl
    have HK9 := hid hk
    have hN9 := HSm.out.pr
    have HLn := hid (lateI_len c now k)
    rw [hx] at HEs ⊢
    have HRx := hid (lateS_ge c now (Nat.le_refl k) (show k ≤ c.pr.length by omega))
    rw [hx] at HRx
    have HRn := hid (lateS_len c now k)
    clear hI hrl hbk hx I0
    refine region_in l rfl shut_normal ?_
    go_wp2_with fail
    refine ⟨KeepsFrom.refl _ _, fun o' => ?_⟩
    obtain ⟨rl, hrl⟩ := HRl.out
    have hlW : l < W.heap.size := (Array.getElem?_eq_some_iff.1 hrl).1
    have HI2 := hid (HI.out.put o' (by omega) (by omega) hrl rfl)
    have hwl : w.heap.size ≤ W.heap.size := HI.out.lo.size
    have hUs0 : (W.putObj l o').heap.size = W.heap.size := by simp
    generalize W.putObj l o' = U at HI2 hUs0 ⊢
    clear HI HRl hrl
    obtain ⟨v, hv1, hv2⟩ := HI2.out.lb
    have LB2 := hid hv1
    have HL := hid hv2
    have PB2 := hid (PB.out.turn (S := SL) (by unfold SL; decide) HI2.out.rel)
    have HRel := hid HI2.out.rel
    have HLo := hid HI2.out.lo
    have hro := HI2.out.row
    obtain ⟨L, hL⟩ : ∃ L, (lateS c now k).pr = L := ⟨_, rfl⟩
    rw [hL] at HEs HRx HRn hro
    rw [HSV.out] at hro
    obtain ⟨g, cap, e, hg1, hg2, hg3, hg4⟩ := OP.form hro (by rw [HRn.out]; have := HK9.out; omega)
    have HRo := hid hro
    have hgV : g < v7.heap.size := by
      have h1 := HO.out.pr
      rw [HS.out, HSV.out] at h1
      have e2 : ap = some ⟨g, 0, none⟩ := by simp only [Sl.val, Value.slice.injEq] at e; exact e.1
      exact (h1.lt g (by rw [e2]; rfl)).2
    rw [e] at hro
    have HPw := hid (PW.start hro (show k < L.length by rw [HRn.out]; exact HK9.out))
    rw [HRx.out] at HPw
    have HTT := hid (Turns.refl SL U)
    have HVl := hid (show v7.heap.size ≤ U.heap.size by omega)
    obtain ⟨M, hM⟩ : ∃ M, lateI c now k = M := ⟨_, rfl⟩
    rw [hM] at HL HEi HLn
    have lb0 : U.cell? ⟨v5.heap.size, 0, none⟩ = some v := (LB2.out.cell 0).trans rfl
    have HLx := hid (HL.out.below ((Below.refl _ U).alloc (Nat.le_refl _) (.cells #[.int .i64 (k : Int)] 3)))
    have HSx := hid (show Sees (U.alloc (.cells #[.int .i64 (k : Int)] 3)) .i64 (.slice (some ⟨U.heap.size, 0, none⟩) 1 1) [(k : Int)] from Sees.box (ys := [(k : Int)]) (t := 3) (BoxAt.new U 3 #[.int .i64 (k : Int)]) (by simp))
    have hbx := ((Below.refl v7.heap.size U).alloc HVl.out (.cells #[.int .i64 (k : Int)] 3))
    have HOx := hid (show OI U v7.heap.size v M from HL.out)
    have HEe := hid (show Value.slice ap c.pr.length cpp = .slice (some ⟨g, 0, none⟩) L.length cap from e)
    have hpg : w.heap.size ≠ g := by obtain ⟨_, b0, _, _⟩ := HPw.out.box; exact box_ne PB2.out b0 (by decide)
    have hlg : v5.heap.size ≠ g := by obtain ⟨_, b0, _, _⟩ := HPw.out.box; exact box_ne LB2.out b0 (by decide)
    have HMx := hid (show M.length + [(k : Int)].length ≤ 1000000 by have := HLn.out; simp only [List.length_cons, List.length_nil]; omega)
    have LB2 := hid (LB2.out.alloc (.cells #[.int .i64 (k : Int)] 3))
    have PB2 := hid (PB2.out.alloc (.cells #[.int .i64 (k : Int)] 3))
    have HPw := hid (HPw.out.below ((Below.refl _ U).alloc (Nat.le_refl _) (.cells #[.int .i64 (k : Int)] 3)))
    have HBx := hid hbx
    have hsU : v7.heap.size ≤ (U.alloc (.cells #[.int .i64 (k : Int)] 3)).heap.size := by have := HVl.out; simp; omega
    have HVs := hid hsU
    clear hv1 hv2 hro hbx hM hL hsU hUs0
    refine wpIn_block ?_
    refine seq_in l rfl (shut_block shut_normal) (fun K hK => ?_)
    go_wp2_with (at_builtin; refine app_ints rfl _ _ rfl v7.heap.size _ M rfl HLx.out _ [(k : Int)] rfl HSx.out HMx.out HVs.out ?_)
    intro v2' U2 ho hg hb
    have hbU := HBx.out.trans hb
    have HRel := hid (HRel.out.go hbU)
    have HLo := hid (HLo.out.trans (hbU.mono (by omega)))
    have HOt := hid (((Turns.below (S := SL) ((Below.refl _ U).alloc (Nat.le_refl _) (.cells #[.int .i64 (k : Int)] 3))).others v7.heap.size).trans (owns_others (HLx.out) hg v7.heap.size))
    have PB2 := hid (PB2.out.below hb (show w.heap.size < v7.heap.size by omega))
    have LB2 := hid (LB2.out.below hb (show v5.heap.size < v7.heap.size by omega))
    have HPw := hid (HPw.out.low hb hgV)
    obtain ⟨M2, hM2⟩ : ∃ M2, M ++ [(k : Int)] = M2 := ⟨_, rfl⟩
    rw [hM2] at ho HEi
    obtain ⟨a2, c2, hv2, _, _, _⟩ := ho.sees.form
    obtain ⟨n2, hn2⟩ : ∃ n, M2.length = n := ⟨_, rfl⟩
    rw [hn2] at hv2
    subst hv2
    have HL := hid ho
    have hs2 : v7.heap.size ≤ U2.heap.size := by have h1 := hb.size; have h2 := HVs.out; omega
    clear ho hg hb hbU hM2 hn2 HLx HSx HMx HBx HVs HOx lb0
    go_wp2_with (first
      | (refine wpList_store_box rfl 26 _ _ rfl rfl (v5.heap.size) 0 (.slice a2 n2 c2) rfl rfl rfl rfl (by kernel_rfl) _ _ LB2.out (by simp) ?_
         intro U3 b gr z
         have ht := Turns.grown (S := SL) LB2.out b (.inr rfl) gr
         have HRel := hid (HRel.out.trans ht)
         have HOt := hid (HOt.out.trans (ht.others _))
         have HL := hid (OI.turn (S := SL) HL.out (by unfold SL; decide) ht)
         have HPw := hid (HPw.out.grown gr hlg)
         have PB2 := hid (PB2.out.grown gr (fun e => by have := Option.some.inj e; omega))
         have HLo := hid (HLo.out.trans (grown_below gr (by omega) (by omega)))
         have LB2 := hid (show BoxAt U3 (v5.heap.size) 26 #[.slice a2 n2 c2] from by simpa using b)
         clear b gr z ht)
      | fail)
    have kp4 : U3.cell? ⟨w.heap.size, 4, none⟩ = some (.slice (some ⟨g, 0, none⟩) L.length cap) := (BoxAt.cell PB2.out 4).trans (by show some q1.pr.val = _; rw [HS.out, HSV.out]; exact congrArg some HEe.out)
    have hkL : (k : Int) < (L.length : Int) := by have h1 := HRn.out; have h2 := HK9.out; omega
    refine region_in l rfl (shut_block shut_normal) ?_
    obtain ⟨N, hN⟩ : ∃ N, L.length = N := ⟨_, rfl⟩
    rw [hN] at kp4 hkL
    have HNe := hid hN
    clear hN
    go_wp2_with (first
      | (refine wpList_store_pw rfl 3 _ _ rfl rfl HPw.out 12 (by decide) (.int .i64 (-1)) rfl rfl rfl rfl (by kernel_rfl) { x with du := -1 } rfl ?_
         intro U4 hp gr z
         obtain ⟨ht, hbb⟩ := pw_turns HPw.out hp gr
         have HRel := hid (HRel.out.trans (ht.mono (fun t e => .inl e)))
         have HOt := hid (HOt.out.trans (ht.others _))
         have HL := hid (OI.turn (S := fun t => t = 57) HL.out (by decide) ht)
         have LB2 := hid (LB2.out.turn (S := fun t => t = 57) (by decide) ht)
         have HLo := hid (HLo.out.trans hbb)
         have HPw := hid hp
         clear hp gr z ht hbb)
      | fail)
    refine ⟨⟨HLo.out, HRel.out, ?_, _, LB2.out, ?_⟩, HOt.out⟩
    · rw [HEs.out, HTo.out, HSV.out]
      show OP U4 w.heap.size (.slice ap c.pr.length cpp) _
      rw [HEe.out]
      exact HPw.out.stop
    · rw [HEi.out]
      exact HL.out
end Go.Proofs.Ytdanfnbclbiidaa
