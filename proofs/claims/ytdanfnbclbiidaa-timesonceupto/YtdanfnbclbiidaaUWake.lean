/-
  What a partition becomes when all that has waited up to a tick goes on.
-/
import Derived.Test.YtdanfnbclbiidaaUGo
import Derived.Test.YtdanfnbclbiidaaUFacts
import Derived.RangeFuncLeaves
import Derived.Deep.RegionHeld3
namespace Go.Proofs.Ytdanfnbclbiidaa
open Go.RowKit
set_option linter.unusedVariables false

/-- What holds ahead of round k. -/
structure WakeI (w : World) (CB P NB RB B1 B2 base : Nat) (qc : Pv) (cc : Pt) (c : Pa) (now : Int) (s : Sl) (k : Nat) (W : World) : Prop where
  lo : Below w.heap.size w W
  cb : BoxAt W CB 28 qc.cells.toArray
  nb : BoxAt W NB 3 #[.int .i64 now]
  rb : BoxAt W RB 39 (PaV.cells PaV.zero).toArray
  b1 : BoxAt W B1 29 #[.slice s.a c.pr.length s.c]
  b2 : BoxAt W B2 81 #[.func (.func 29) #[] #[.pointer (some ⟨NB, 0, none⟩)]]
  up : UP W base P s (wakeS cc c now k)
theorem WakeI.put {w : World} {CB P NB RB B1 B2 base : Nat} {qc : Pv} {cc : Pt} {c : Pa} {now : Int} {s : Sl} {k : Nat} {W : World} (h : WakeI w CB P NB RB B1 B2 base qc cc c now s k W) {l : Nat} {o : Obj} (o' : Obj) (hl : w.heap.size ≤ l) (ho : W.heap[l]? = some o) (hc : o.isCells = false) : WakeI w CB P NB RB B1 B2 base qc cc c now s k (W.putObj l o') :=
  have hk := KeptC.put ho hc o'
  ⟨below_put h.lo hl, h.cb.kept hk, h.nb.kept hk, h.rb.kept hk, h.b1.kept hk, h.b2.kept hk, h.up.kept hk⟩
theorem WakeI.below {w : World} {CB P NB RB B1 B2 base : Nat} {qc : Pv} {cc : Pt} {c : Pa} {now : Int} {s : Sl} {k : Nat} {W W' : World} (h : WakeI w CB P NB RB B1 B2 base qc cc c now s k W) (hb : Below W.heap.size W W') : WakeI w CB P NB RB B1 B2 base qc cc c now s k W' :=
  ⟨h.lo.trans (hb.mono h.lo.size), h.cb.belowAll hb, h.nb.belowAll hb, h.rb.belowAll hb, h.b1.belowAll hb, h.b2.belowAll hb, h.up.below hb⟩
/-- Behind what turned processes and partitions alone. -/
theorem WakeI.turned {w : World} {CB P NB RB B1 B2 base : Nat} {qc : Pv} {cc : Pt} {c : Pa} {now : Int} {s : Sl} {k : Nat} {W W' : World} (h : WakeI w CB P NB RB B1 B2 base qc cc c now s k W) {g : Nat} (ht : TwoT g P W W') (hb : Below w.heap.size W W') (h1 : RB ≠ g) (h2 : RB ≠ P) (hu : UP W' base P s (wakeS cc c now (k + 1))) :
    WakeI w CB P NB RB B1 B2 base qc cc c now s (k + 1) W' :=
  ⟨h.lo.trans hb, h.cb.turn (by unfold SP; decide) ht.t, h.nb.turn (by unfold SP; decide) ht.t, ht.box h.rb h1 h2, h.b1.turn (by unfold SP; decide) ht.t, h.b2.turn (by unfold SP; decide) ht.t, hu⟩

theorem wakeS_skip {f : Pt} {c : Pa} {now : Int} {k : Nat} (hk : k < c.pr.length) (h : ¬ overX now (c.pr.getD k Px.zero)) : wakeS f c now (k + 1) = wakeS f c now k :=
  wakeOne_idle (by rw [wakeS_ge f c now k k (by omega) (Nat.le_refl _)]; exact h)
theorem wakeS_does {f : Pt} {c : Pa} {now : Int} {k : Nat} {x : Px} (hk : k < c.pr.length) (hx : c.pr.getD k Px.zero = x) (h : overX now x) : wakeS f c now (k + 1) = relP f now k x (wentP (wakeS f c now k) k x) := by
  show wakeOne f now k (wakeS f c now k) = _
  unfold wakeOne
  rw [wakeS_ge f c now k k (by omega) (Nat.le_refl _), hx, if_pos h]
theorem UP.row {w : World} {base P : Nat} {s : Sl} {c : Pa} (h : UP w base P s c) {k : Nat} (hk : k < c.pr.length) : ∃ g cap, s = ⟨some ⟨g, 0, none⟩, c.pr.length, cap⟩ ∧ PxAt w g (0 + k * 18) (c.pr.getD k Px.zero) ∧ ∃ cs, BoxAt w g 57 cs := by
  obtain ⟨q, _, ho, hs⟩ := h
  have hp := ho.pr
  rw [hs] at hp
  obtain ⟨g, cap, e, _, _, _, _⟩ := OP.form hp (by omega)
  rw [e] at hp
  obtain ⟨a, n, c'⟩ := s
  simp only [Sl.val, Value.slice.injEq] at e
  obtain ⟨rfl, rfl, rfl⟩ := e
  exact ⟨g, c', rfl, by rw [Nat.zero_add]; exact OP.at hp k hk, let ⟨cs, b, _⟩ := owns_box hp; ⟨cs, b⟩⟩
/-- Who waited for a time, or has no release, goes on alone. -/
theorem went_plain {f : Pt} {now : Int} {C : Pa} {k : Nat} {x : Px} (hk : k < C.pr.length) (hx : C.pr.getD k Px.zero = x) (h : timed x) (h2 : x.ki ≠ 2 ∨ ¬ k < f.pc.length) : relP f now k x (wentP C k x) = goP C (k : Int) 0 0 := by
  have e : wentP C k x = goP C (k : Int) 0 0 := by
    unfold wentP codeX
    rw [if_pos h, if_pos h]
  rw [e]
  unfold relP relX
  rw [if_neg (fun hh => h2.elim (fun a => a hh.1) (fun a => a hh.2)), set_getD_self]
/-- Who waited for its release, and has one. -/
theorem went_release {f : Pt} {now : Int} {C : Pa} {k : Nat} {x : Px} (h : x.ki = 2) (hf : k < f.pc.length) : relP f now k x (wentP C k x) =
    { goP C (k : Int) 0 0 with pr := (goP C (k : Int) 0 0).pr.set k { (goP C (k : Int) 0 0).pr.getD k Px.zero with du := if 0 < (f.pc.getD k Pc.zero).li then wrap64 (now + (f.pc.getD k Pc.zero).li) else -1, ne := wrap64 (x.un + (f.pc.getD k Pc.zero).pe) } } := by
  have e : wentP C k x = goP C (k : Int) 0 0 := by
    unfold wentP codeX
    rw [if_pos (.inr h), if_pos (.inr h)]
  rw [e]
  unfold relP relX
  rw [if_pos ⟨h, hf⟩]
/-- Who waited for an object. -/
theorem went_other {f : Pt} {now : Int} {C : Pa} {k : Nat} {x : Px} (hk : k < C.pr.length) (hx : C.pr.getD k Px.zero = x) (h1 : ¬ x.ki = 1) (h2 : ¬ x.ki = 2) : relP f now k x (wentP C k x) = goP (leaveP C (isW (k : Int))) (k : Int) 5 0 := by
  have e : wentP C k x = goP (leaveP C (isW (k : Int))) (k : Int) 5 0 := by
    unfold wentP codeX
    rw [if_neg (fun h => h.elim h1 h2), if_neg (fun h => h.elim h1 h2)]
  rw [e]
  unfold relP relX
  rw [if_neg (fun hh => h2 hh.1), set_getD_self]
theorem pc_yields {o : Oper} {a : Act} (x : Operand) (ho : o.op = .load 60 x) (b off : Nat) (hx : a.eval x = .pointer (some ⟨b, off, none⟩)) (f : Pc) {w : World} (hc : w.rangeAt b off f.cells) :
    (execOp a.eval o).run Try.prog w = .ok (.value f.val) w := by
  unfold execOp
  simp only [ho, hx, Instr.loadAt, Instr.sureAddr, Sem.run_bind, Sem.run_pure, Result.andThen_ok, run_loadVar_mid w b off 60 f.cells _ hc Try.underlying60 rfl Try.infoPc]
  rfl
theorem Try.entersThose1 : ∀ args w, (callFunc 51 args).run Try.prog w = .ok (.enter 51 args) w := enters_of Try.func51 (by kernel_rfl) rfl
theorem Try.entersWake1 : ∀ args w, (callFunc 29 args).run Try.prog w = .ok (.enter 29 args) w := enters_of Try.func29 (by kernel_rfl) rfl

set_option maxRecDepth 100000 in
set_option maxHeartbeats 6400000 in
theorem wake_any {qc : Pv} {cc : Pt} {q : PaV} {c : Pa} {now : Int} {w : World} (hc : PtAt w qc cc) (ha : PaAt w q c) (hsm : c.small) :
    Calls Try.prog 12 #[qc.val, q.val, .int .i64 now] w fun e w' => ∃ q', e = .returned (PaV.val q') ∧ PaO w' w.heap.size q' (wakeP cc c now) ∧ Below w.heap.size w w' := by
  have hmf : ∀ (fn : Fn) (first cap : Array Value) (w : World), (Instr.makeFunc fn first cap).run Try.prog w = .ok (.func fn first cap) w := fun _ _ _ _ => rfl
  have HC := hid hc
  have HA := hid ha
  have HSm := hid hsm
  have HB := hid (Below.refl w.heap.size w)
  clear hc ha hsm
  refine (callsIn_wide (n := 0)).1 (callsIn_of_wp_marks Try.func12 rfl trivial (wpIn_wide.2 ?_) rfl)
  simp only [Try.ntmps12, List.size_toArray, List.length_cons, List.length_nil, Nat.reduceAdd, Nat.reduceSub, Array.replicate_succ, Array.replicate_zero, List.push_toArray, List.append_toArray, List.nil_append, List.cons_append]
  have FL1 := hid trivial
  have FL2 := hid trivial
  have FL3 := hid trivial
  have FL4 := hid trivial
  go_wp2_with (first
    | (have hfl := FL1.out
       refine wpList_box rfl 28 (.tmp 0) rfl (Pv.cells qc).toArray rfl ?_
       intro v1 b h z
       have CB := hid (show BoxAt v1 w.heap.size 28 (Pv.cells qc).toArray from b)
       have HB := hid (HB.out.trans (h.mono HB.out.size))
       have hsv1 : w.heap.size + 1 ≤ v1.heap.size := by omega
       clear b h z hfl FL1)
    | (have hfl := FL2.out
       refine wpList_box rfl 39 (.tmp 1) rfl (PaV.cells q).toArray rfl ?_
       intro v2 b h z
       have PB := hid (show BoxAt v2 v1.heap.size 39 (PaV.cells q).toArray from b)
       have CB := hid (CB.out.belowAll h)
       have HB := hid (HB.out.trans (h.mono HB.out.size))
       have hsv2 : v1.heap.size + 1 ≤ v2.heap.size := by omega
       clear b h z hfl FL2)
    | (have hfl := FL3.out
       refine wpList_box1 rfl 3 (.tmp 2) rfl (.int .i64 now) rfl rfl ?_
       intro v3 b h z
       have NB := hid (show BoxAt v3 v2.heap.size 3 #[.int .i64 now] from b)
       have CB := hid (CB.out.belowAll h)
       have PB := hid (PB.out.belowAll h)
       have HB := hid (HB.out.trans (h.mono HB.out.size))
       have hsv3 : v2.heap.size + 1 ≤ v3.heap.size := by omega
       clear b h z hfl FL3)
    | (have hfl := FL4.out
       refine wpList_new rfl 39 rfl _ Try.zeroPa ?_
       intro v4 b h z
       have RB := hid (show BoxAt v4 v3.heap.size 39 (PaV.cells PaV.zero).toArray from b)
       have CB := hid (CB.out.belowAll h)
       have PB := hid (PB.out.belowAll h)
       have NB := hid (NB.out.belowAll h)
       have HB := hid (HB.out.trans (h.mono HB.out.size))
       have hsv4 : v3.heap.size + 1 ≤ v4.heap.size := by omega
       clear b h z hfl FL4)
    | (refine wpList_load_box rfl 39 _ rfl v1.heap.size rfl _ _ PB.out _ Try.underlying39 Try.infoPa ?_)
    | fail)
  refine (own_any (HA.out.below HB.out) HSm.out).mono ?_
  rintro e v5 ⟨q1, rfl, ho, hb⟩
  have CB := hid (CB.out.belowAll hb)
  have PB := hid (PB.out.belowAll hb)
  have NB := hid (NB.out.belowAll hb)
  have RB := hid (RB.out.belowAll hb)
  have HB := hid (HB.out.trans (hb.mono HB.out.size))
  have hsv5 : v4.heap.size ≤ v5.heap.size := hb.size
  have HO := hid (ho.mono (show w.heap.size ≤ v4.heap.size by omega))
  clear ho
  clear hb
  obtain ⟨s, hs⟩ : ∃ s, q1.pr = s := ⟨_, rfl⟩
  have HS := hid hs
  obtain ⟨ap, cpp, hpv, hp1, hp2, _⟩ := HO.out.pr.sees.form
  have hsv : s = ⟨ap, c.pr.length, cpp⟩ := by have h := hpv; rw [hs] at h; obtain ⟨x, y, z⟩ := s; simp only [Sl.val, Value.slice.injEq] at h; rw [h.1, h.2.1, h.2.2]
  have HSV := hid hsv
  have HCap := hid (show cpp ≤ 9223372036854775807 from hp2)
  clear hs hpv hp1 hp2 hsv
  have FL5 := hid trivial
  go_wp2_with (first
    | (have hfl := FL5.out
       refine wpList_store_whole rfl 39 _ _ rfl rfl v1.heap.size rfl (PaV.cells q1) rfl _ _ PB.out rfl Try.infoPa (PaV.one _) ?_
       intro v6 b g z
       have hsv6 : v5.heap.size ≤ v6.heap.size := by omega
       have HO := hid (HO.out.turn (Turns.grown (S := fun t => t = 39) PB.out b rfl g))
       have PB := hid (show BoxAt v6 v1.heap.size 39 (PaV.cells q1).toArray from b)
       have CB := hid (CB.out.grown g (fun e => by have := Option.some.inj e; omega))
       have NB := hid (NB.out.grown g (fun e => by have := Option.some.inj e; omega))
       have RB := hid (RB.out.grown g (fun e => by have := Option.some.inj e; omega))
       have HB := hid (HB.out.trans (grown_below g (by omega) (by omega)))
       have kPB4 : v6.cell? ⟨v1.heap.size, 4, none⟩ = some (.slice ap c.pr.length cpp) := (BoxAt.cell PB.out 4).trans (by show some q1.pr.val = _; rw [HS.out, HSV.out]; rfl)
       clear b g z hfl FL5)
    | fail)
  refine (those_any ap c.pr.length cpp 29 #[.pointer (some ⟨v2.heap.size, 0, none⟩)] v6).mono ?_
  rintro e v7 ⟨rfl, hb1, hb2, hb⟩
  have B1 := hid hb1
  have B2 := hid hb2
  have CB := hid (CB.out.belowAll hb)
  have PB := hid (PB.out.belowAll hb)
  have NB := hid (NB.out.belowAll hb)
  have RB := hid (RB.out.belowAll hb)
  have HO := hid (HO.out.below hb)
  have HB := hid (HB.out.trans (hb.mono HB.out.size))
  have hsv7 : v6.heap.size ≤ v7.heap.size := hb.size
  clear hb hb1 hb2 kPB4
  have I0 := hid (show WakeI w w.heap.size v1.heap.size v2.heap.size v3.heap.size v6.heap.size (v6.heap.size + 1) w.heap.size qc cc c now s 0 v7 from ⟨HB.out, CB.out, NB.out, RB.out, by have h := B1.out; rw [HSV.out]; exact h, B2.out, ⟨q1, PB.out, HO.out, HS.out⟩⟩)
  go_wp2_with fail
  clear CB PB NB RB B1 B2 HO HB
  refine (wpIn_wide (n := 0)).1 ?_
  refine range_law (gf := 51) (lb := #[.pointer (some ⟨v6.heap.size, 0, none⟩), .pointer (some ⟨v6.heap.size + 1, 0, none⟩)]) rfl Try.entersThose1 c.pr.length (fun k => decide (overX now (c.pr.getD k Px.zero))) (fun k => #[.int .i64 (k : Nat), (c.pr.getD k Px.zero).val]) (fun _ => rfl)
    (WakeI w w.heap.size v1.heap.size v2.heap.size v3.heap.size v6.heap.size (v6.heap.size + 1) w.heap.size qc cc c now s) ?put ?below ?skip I0.out ?call ?round ?done
  case put => exact fun k W l o o' h hl ho hc => h.put o' (by omega) ho hc
  case below => exact fun k W W' h hb => h.below hb
  case skip =>
    intro k W hk hb h
    have e := wakeS_skip (f := cc) hk (of_decide_eq_false hb)
    exact ⟨h.lo, h.cb, h.nb, h.rb, h.b1, h.b2, by rw [e]; exact h.up⟩
  case call =>
    intro l J W hI hJb hJs hY h0
    refine iter_any l v6.heap.size (v6.heap.size + 1) c.pr.length s.c 29 s.a #[.pointer (some ⟨v2.heap.size, 0, none⟩)] (fun k => c.pr.getD k Px.zero) (fun k => decide (overX now (c.pr.getD k Px.zero))) J Try.entersWake1 (by have := HSm.out.pr; omega) (fun k W h => (hI k W h).b1) (fun k W h => (hI k W h).b2) (fun k W hk h => ?_) (fun k W hk h => over_any _ _ _ _ (hI k W h).nb) hJb hJs hY W h0
    obtain ⟨g, cap, e, hx, _⟩ := (hI k W h).up.row (show k < _ by rw [wakeS_len]; exact hk)
    rw [wakeS_ge cc c now k k (by omega) (Nat.le_refl _)] at hx
    exact ⟨g, 0, by rw [e], hx⟩
  case done =>
    intro D W hD hI hK
    obtain ⟨q2, hq2, ho2, hs2⟩ := hI.up
    have PB := hid hq2
    have RB := hid hI.rb
    have HO := hid ho2
    have HB := hid hI.lo
    have HK := hid hK
    have hDs : w.heap.size ≤ D := by omega
    have hrs : w.heap.size ≤ v3.heap.size := by omega
    have hWs := hI.lo.size
    clear hI hK hq2 ho2 hs2
    go_wp2_with (first
      | (refine wpList_load_box rfl 39 _ rfl v1.heap.size rfl _ _ PB.out _ Try.underlying39 Try.infoPa ?_)
      | (refine wpList_store_whole rfl 39 _ _ rfl rfl v3.heap.size rfl (PaV.cells q2) rfl _ _ RB.out rfl Try.infoPa (PaV.one _) ?_
         intro z b gr hz
         have ht := Turns.grown (S := fun t => t = 39) RB.out b rfl gr
         have HO := hid (HO.out.turn ht)
         have HK := hid ((ht.others 0).same D _ (Nat.zero_le _) HK.out rfl)
         have HB := hid (HB.out.trans (grown_below gr hrs (by omega)))
         have RB := hid (show BoxAt z v3.heap.size 39 (PaV.cells q2).toArray from b)
         clear b gr hz ht)
      | fail)
    refine ⟨by simp, .inl ⟨_, _, rfl, run_takeDeferred HK.out, ?_⟩⟩
    have hk := KeptC.put HK.out rfl (.deferred none)
    exact ⟨_, results_cell_row rfl _ _ (v3.heap.size) 39 _ (0, 0) _ rfl (RB.out.kept hk) Try.underlying39 rfl Try.infoPa, q2, rfl, HO.out.kept hk, below_put HB.out hDs⟩
  case round =>
    intro l k W hl hk hbk hI hrl
    obtain ⟨x, hx⟩ : ∃ x, c.pr.getD k Px.zero = x := ⟨_, rfl⟩
    have hov : overX now x := by rw [← hx]; exact of_decide_eq_true hbk
    have HE := hid (wakeS_does (f := cc) hk hx hov)
    have HI := hid hI
    have HRl := hid hrl
    have HK9 := hid hk
    have HGs := hid (show ∃ (g : Nat) (cap : Nat) (n : Nat), s = ⟨some ⟨g, 0, none⟩, n, cap⟩ ∧ g < W.heap.size from by
      obtain ⟨g, cap, e, _, cs, hb⟩ := hI.up.row (show k < _ by rw [wakeS_len]; exact hk)
      exact ⟨g, cap, _, e, hb.lt⟩)
    have hlw : v6.heap.size ≤ l := by omega
    rw [hx]
    have HX := hid hx
    have HOv := hid hov
    clear hI hrl hbk hx hov I0
    have HB := hid (Below.refl W.heap.size W)
    refine seq_in l rfl shut_normal (fun K hK => ?_)
    go_wp2_with fail
    refine region_in l rfl shut_normal ?_
    go_wp2_with (first
      | (refine wpList_new rfl 57 rfl _ Try.zeroPx ?_
         intro y1 b h z
         have OB := hid (show BoxAt y1 W.heap.size 57 (Px.cells Px.zero).toArray from b)
         have HB := hid (HB.out.trans h)
         have hy1 : W.heap.size + 1 ≤ y1.heap.size := by omega
         have HT := hid (Turns.below (S := SP) h)
         clear b h z)
      | (refine wpList_store_whole rfl 57 _ _ rfl rfl W.heap.size rfl (Px.cells x) rfl _ _ OB.out rfl Try.infoPx (Px.one _) ?_
         intro y2 b g z
         have HT := hid (HT.out.trans (Turns.grown (S := SP) OB.out b (.inl rfl) g))
         have OB := hid (show BoxAt y2 W.heap.size 57 (Px.cells x).toArray from b)
         have HB := hid (HB.out.trans (grown_below g (Nat.le_refl _) (by omega)))
         have hy2 : W.heap.size + 1 ≤ y2.heap.size := by omega
         clear b g z)
      | fail)
    refine ⟨HT.out.others _, fun o' => ?_⟩
    obtain ⟨rl, hrl⟩ := HRl.out
    have hlW : l < W.heap.size := (Array.getElem?_eq_some_iff.1 hrl).1
    have hrl2 := (HT.out.others 0).same l _ (Nat.zero_le _) hrl rfl
    have hkp := KeptC.put hrl2 rfl o'
    have HI2 := hid ((HI.out.below HB.out).put o' (by omega) hrl2 rfl)
    have OB := hid (OB.out.kept hkp)
    have hwl : w.heap.size ≤ W.heap.size := HI.out.lo.size
    generalize y2.putObj l o' = U at HI2 OB ⊢
    have hUs : W.heap.size < U.heap.size := OB.out.lt
    clear HT HB HI HRl hrl hrl2 hkp
    have HB := hid (Below.refl w.heap.size U)
    
    have j10 : U.cell? ⟨W.heap.size, 10, none⟩ = some (.int .i64 x.ki) := (OB.out.cell 10).trans rfl
    refine wpIn_block ?_
    
    have HCl := hid (wakeS_len cc c now k)
    have HCx := hid (show (wakeS cc c now k).pr.getD k Px.zero = x from by rw [wakeS_ge cc c now k k (by have := HK9.out; omega) (Nat.le_refl _)]; exact HX.out)
    have HCs := hid (wakeS_small (f := cc) (now := now) HSm.out k)
    have HU := hid HI2.out.up
    generalize wakeS cc c now k = C at HCl HCx HCs HU HE
    obtain ⟨g, cap, hse, _, gcs, hgb⟩ := HU.out.row (show k < C.pr.length by rw [HCl.out]; exact HK9.out)
    have HSe := hid hse
    have hrg : v3.heap.size ≠ g := box_ne HI2.out.rb hgb (by decide)
    have hrp : v3.heap.size ≠ v1.heap.size := by omega
    have HT := hid (TwoT.refl g (v1.heap.size) U)
    obtain ⟨g2, cap2, n2, e2, hgw⟩ := HGs.out
    have HGw := hid (show g < W.heap.size by rw [hse] at e2; simp only [Sl.mk.injEq, Option.some.injEq, Addr.mk.injEq, and_true] at e2; omega)
    have hpg : v1.heap.size ≠ g := by obtain ⟨_, hqx, _, _⟩ := HU.out; exact box_ne hqx hgb (by decide)
    have hcg : w.heap.size ≠ g := box_ne HI2.out.cb hgb (by decide)
    have hng : v2.heap.size ≠ g := box_ne HI2.out.nb hgb (by decide)
    clear hgb e2 hgw
    have hkC := hid (show k < C.pr.length by rw [HCl.out]; exact HK9.out)
    clear hse
    rw [HSe.out] at HU
    by_cases h1 : x.ki = 1
    · have t1 : (x.ki == 1) = true := by simpa using h1
      have HEx := hid (show relP cc now k x (wentP C k x) = goP C (k : Int) 0 0 from went_plain hkC.out HCx.out (.inl h1) (.inl (by omega)))
      clear h1
      refine seq_in l rfl (shut_block shut_normal) (fun K hK => ?_)
      go_wp2_with fail
      refine wpIn_block ?_
      refine seq_in l rfl (shut_block (shut_block shut_normal)) (fun K hK => ?_)
      go_wp2_with fail
      refine wpIn_cond_true rfl ?_
      refine region_in l rfl (shut_block (shut_block shut_normal)) ?_
      go_wp2_with fail
      refine (goon_any (n := w.heap.size) k 0 HU.out hkC.out HCs.out (by omega) (by omega) (Nat.le_refl _)).mono ?_
      rintro e U2 ⟨rfl, hup, ht, hb⟩
      have HUp := hid hup
      have HT := hid (HT.out.trans ht)
      have HB := hid (HB.out.trans hb)
      clear hup ht hb
      go_wp2_with fail
      refine ⟨HI2.out.turned HT.out HB.out hrg hrp (by rw [HE.out, HEx.out, HSe.out]; exact HUp.out), HT.out.t.others _⟩
    by_cases h2 : x.ki = 2
    · have hog : W.heap.size ≠ g := by have := HGw.out; omega
      have hop : W.heap.size ≠ v1.heap.size := by omega
      by_cases hkm : k < cc.pc.length
      · have t1 : (x.ki == 1) = false := by simpa using h1
        have t2 : (x.ki == 2) = true := by simpa using h2
        obtain ⟨ac, cpc, hcv, hc1, hc2, hccell⟩ := HC.out.pc.form
        have hmaxc : cpc ≤ 9223372036854775807 := hc2
        have HCv := hid hcv
        have HCc := hid hccell
        clear hcv hc2 hccell
        have HEx := hid (went_release (f := cc) (now := now) (C := C) (k := k) (x := x) h2 hkm)
        have HKm := hid hkm
        clear h1 h2 hkm
        refine seq_in l rfl (shut_block shut_normal) (fun K hK => ?_)
        go_wp2_with fail
        refine wpIn_block ?_
        refine seq_in l rfl (shut_block (shut_block shut_normal)) (fun K hK => ?_)
        go_wp2_with fail
        refine wpIn_cond_false rfl ?_
        refine seq_in l rfl (shut_block (shut_block shut_normal)) (fun K hK => ?_)
        go_wp2_with fail
        refine wpIn_cond_true rfl ?_
        refine seq_in l rfl (shut_block (shut_block shut_normal)) (fun K hK => ?_)
        go_wp2_with fail
        refine (goon_any (n := w.heap.size) k 0 HU.out hkC.out HCs.out (by omega) (by omega) (Nat.le_refl _)).mono ?_
        rintro e U2 ⟨rfl, hup, ht, hb⟩
        have HUp := hid hup
        have HT := hid (HT.out.trans ht)
        have HB := hid (HB.out.trans hb)
        have CB2 := hid (HI2.out.cb.turn (by unfold SP; decide) HT.out.t)
        have NB2 := hid (HI2.out.nb.turn (by unfold SP; decide) HT.out.t)
        have OB2 := hid (HT.out.box OB.out hog hop)
        have hU2s : U.heap.size ≤ U2.heap.size := ht.t.size
        clear hup ht hb j10
        have kc2 : U2.cell? ⟨w.heap.size, 2, none⟩ = some (.slice ac cc.pc.length cpc) := (CB2.out.cell 2).trans (by show some qc.v2.val = _; rw [HCv.out])
        go_wp2_with fail
        refine seq_in l rfl (shut_block (shut_block shut_normal)) (fun K hK => ?_)
        go_wp2_with fail
        refine (uthere_Pc _ _ _ _ _).mono ?_
        rintro e U3 ⟨rfl, rfl⟩
        rw [decide_eq_true (show (0 ≤ (k : Int) ∧ (k : Int) < (cc.pc.length : Int)) from by have := HKm.out; omega)]
        clear kc2
        go_wp2_with fail
        refine wpIn_cond_true rfl ?_
        have HGl := hid (show (goP C (k : Int) 0 0).pr.length = C.pr.length from go_len _ _ _ _)
        generalize goP C (k : Int) 0 0 = D at HUp HEx HGl
        obtain ⟨q3, hq3, ho3, hs3⟩ := HUp.out
        have hop3 := ho3.pr
        rw [hs3, ← HGl.out] at hop3
        have HOP := hid (show OP U3 w.heap.size (.slice (some ⟨g, 0, none⟩) D.pr.length cap) D.pr from hop3)
        have HO3 := hid ho3
        have HS3 := hid hs3
        have PB3 := hid hq3
        clear hq3 ho3 hs3 hop3 HUp
        obtain ⟨f, hf⟩ : ∃ f, cc.pc.getD k Pc.zero = f := ⟨_, rfl⟩
        obtain ⟨cb2, co2, hac, hcw, hccell⟩ := HCc.out (by have := HKm.out; omega)
        have HRg := hid (show w.rangeAt cb2 (co2 + k * 5) f.cells from by rw [← hf]; exact range_of _ (fun j hj => hccell k HKm.out j hj))
        rw [hf] at HEx
        subst hac
        clear hf hccell HCc
        obtain ⟨M, hM⟩ : ∃ M, cc.pc.length = M := ⟨_, rfl⟩
        obtain ⟨N, hN⟩ : ∃ N, C.pr.length = N := ⟨_, rfl⟩
        have hkM : (k : Int) < (M : Int) := by have := HKm.out; omega
        have hkN : (k : Int) < (N : Int) := by have := hkC.out; omega
        have hM9 : M ≤ 9223372036854775807 := by omega
        have HMe := hid hM
        have HNe := hid hN
        clear hM hN
        have HLo := hid (HI2.out.lo.trans HB.out)
        refine drawn_in_drew (S := (fun V => Below w.heap.size w V ∧ BoxAt V v1.heap.size 39 (PaV.cells q3).toArray ∧ BoxAt V w.heap.size 28 (Pv.cells qc).toArray ∧ BoxAt V W.heap.size 57 (Px.cells x).toArray ∧ BoxAt V v2.heap.size 3 #[.int .i64 now])) l (by kernel_rfl) rfl (shut_block (shut_block shut_normal)) (⟨HLo.out.drew, BoxAt.drew PB3.out, BoxAt.drew CB2.out, BoxAt.drew OB2.out, BoxAt.drew NB2.out⟩) (fun hHeld => ?_)
        refine wpAnyH_take (i := 0) (oi := { dst := some 37, op := Op.fieldAddr 39 (Operand.tmp 4) 4, type := 0, pos := "times.go:25", after := #[], guard := none }) (v := ?v1) rfl (by kernel_rfl) (by kernel_rfl) (by kernel_rfl) (fun _ _ _ h => h) (Or.inl ⟨by rfl, ?hy1⟩) (by assumption) ?rest1
        case hy1 => (intro w hSw; (try dsimp only at hSw); go_simp; try with_reducible rfl)
        simp only [Act.put, List.setIfInBounds_toArray, List.set_cons_zero, List.set_cons_succ]
        refine wpAnyH_take (i := 1) (oi := { dst := some 38, op := Op.load 29 (Operand.tmp 37), type := 29, pos := "times.go:25", after := #[{ on := 0, ground := Ground.data }], guard := none }) (v := ?v2) rfl (by kernel_rfl) (by kernel_rfl) (by kernel_rfl) (fun _ _ _ h => h) (Or.inl ⟨by rfl, ?hy2⟩) (by assumption) ?rest2
        case hy2 => (intro V hSw; have c4 : V.cell? ⟨v1.heap.size, 4, none⟩ = some (.slice (some ⟨g, 0, none⟩) N cap) := (BoxAt.cell hSw.2.1 4).trans (by show some q3.pr.val = _; rw [HS3.out, HNe.out]; rfl); clear hSw; go_simp; try with_reducible rfl)
        simp only [Act.put, List.setIfInBounds_toArray, List.set_cons_zero, List.set_cons_succ]
        refine wpAnyH_take (i := 2) (oi := { dst := some 39, op := Op.move (Operand.tmp 8), type := 3, pos := "times.go:25", after := #[], guard := none }) (v := ?v3) rfl (by kernel_rfl) (by kernel_rfl) (by kernel_rfl) (fun _ _ _ h => h) (Or.inl ⟨by rfl, ?hy3⟩) (by assumption) ?rest3
        case hy3 => (intro w hSw; (try dsimp only at hSw); go_simp; try with_reducible rfl)
        simp only [Act.put, List.setIfInBounds_toArray, List.set_cons_zero, List.set_cons_succ]
        refine wpAnyH_take (i := 3) (oi := { dst := some 40, op := Op.indexAddr 29 (Operand.tmp 38) (Operand.tmp 39), type := 0, pos := "times.go:25", after := #[{ on := 1, ground := Ground.data }, { on := 2, ground := Ground.data }], guard := none }) (v := ?v4) rfl (by kernel_rfl) (by kernel_rfl) (by kernel_rfl) (fun _ _ _ h => h) (Or.inl ⟨by rfl, ?hy4⟩) (by assumption) ?rest4
        case hy4 => (intro w hSw; (try dsimp only at hSw); go_simp; try with_reducible rfl)
        simp only [Act.put, List.setIfInBounds_toArray, List.set_cons_zero, List.set_cons_succ]
        refine wpAnyH_take (i := 4) (oi := { dst := some 41, op := Op.fieldAddr 28 (Operand.tmp 3) 2, type := 0, pos := "times.go:25", after := #[], guard := none }) (v := ?v5) rfl (by kernel_rfl) (by kernel_rfl) (by kernel_rfl) (fun _ _ _ h => h) (Or.inl ⟨by rfl, ?hy5⟩) (by assumption) ?rest5
        case hy5 => (intro w hSw; (try dsimp only at hSw); go_simp; try with_reducible rfl)
        simp only [Act.put, List.setIfInBounds_toArray, List.set_cons_zero, List.set_cons_succ]
        refine wpAnyH_take (i := 5) (oi := { dst := some 42, op := Op.load 23 (Operand.tmp 41), type := 23, pos := "times.go:25", after := #[{ on := 4, ground := Ground.data }], guard := none }) (v := ?v6) rfl (by kernel_rfl) (by kernel_rfl) (by kernel_rfl) (fun _ _ _ h => h) (Or.inl ⟨by rfl, ?hy6⟩) (by assumption) ?rest6
        case hy6 => (intro V hSw; have c4 : V.cell? ⟨w.heap.size, 2, none⟩ = some (.slice (some ⟨cb2, co2, none⟩) M cpc) := (BoxAt.cell hSw.2.2.1 2).trans (by show some qc.v2.val = _; rw [HCv.out, HMe.out]); clear hSw; go_simp; try with_reducible rfl)
        simp only [Act.put, List.setIfInBounds_toArray, List.set_cons_zero, List.set_cons_succ]
        refine wpAnyH_take (i := 6) (oi := { dst := some 43, op := Op.move (Operand.tmp 8), type := 3, pos := "times.go:25", after := #[], guard := none }) (v := ?v7) rfl (by kernel_rfl) (by kernel_rfl) (by kernel_rfl) (fun _ _ _ h => h) (Or.inl ⟨by rfl, ?hy7⟩) (by assumption) ?rest7
        case hy7 => (intro w hSw; (try dsimp only at hSw); go_simp; try with_reducible rfl)
        simp only [Act.put, List.setIfInBounds_toArray, List.set_cons_zero, List.set_cons_succ]
        refine wpAnyH_take (i := 7) (oi := { dst := some 44, op := Op.indexAddr 23 (Operand.tmp 42) (Operand.tmp 43), type := 0, pos := "times.go:25", after := #[{ on := 5, ground := Ground.data }, { on := 6, ground := Ground.data }], guard := none }) (v := ?v8) rfl (by kernel_rfl) (by kernel_rfl) (by kernel_rfl) (fun _ _ _ h => h) (Or.inl ⟨by rfl, ?hy8⟩) (by assumption) ?rest8
        case hy8 => (intro w hSw; (try dsimp only at hSw); go_simp; try with_reducible rfl)
        simp only [Act.put, List.setIfInBounds_toArray, List.set_cons_zero, List.set_cons_succ]
        refine wpAnyH_take (i := 8) (oi := { dst := some 45, op := Op.load 60 (Operand.tmp 44), type := 60, pos := "times.go:25", after := #[{ on := 7, ground := Ground.data }], guard := none }) (v := ?v9) rfl (by kernel_rfl) (by kernel_rfl) (by kernel_rfl) (fun _ _ _ h => h) (Or.inl ⟨by rfl, ?hy9⟩) (by assumption) ?rest9
        case hy9 => (intro V hSw; refine pc_yields (.tmp 44) ?_ cb2 (co2 + k * 5) ?_ f (fun j v hj => (hSw.1.cell (p := ⟨cb2, co2 + k * 5 + j, none⟩) hcw).trans (HRg.out j v hj)) <;> rfl)
        simp only [Act.put, List.setIfInBounds_toArray, List.set_cons_zero, List.set_cons_succ]
        refine wpAnyH_take (i := 9) (oi := { dst := some 46, op := Op.fieldAddr 57 (Operand.tmp 9) 5, type := 0, pos := "times.go:25", after := #[], guard := none }) (v := ?v10) rfl (by kernel_rfl) (by kernel_rfl) (by kernel_rfl) (fun _ _ _ h => h) (Or.inl ⟨by rfl, ?hy10⟩) (by assumption) ?rest10
        case hy10 => (intro w hSw; (try dsimp only at hSw); go_simp; try with_reducible rfl)
        simp only [Act.put, List.setIfInBounds_toArray, List.set_cons_zero, List.set_cons_succ]
        refine wpAnyH_take (i := 10) (oi := { dst := some 47, op := Op.load 3 (Operand.tmp 46), type := 3, pos := "times.go:25", after := #[{ on := 9, ground := Ground.data }], guard := none }) (v := ?v11) rfl (by kernel_rfl) (by kernel_rfl) (by kernel_rfl) (fun _ _ _ h => h) (Or.inl ⟨by rfl, ?hy11⟩) (by assumption) ?rest11
        case hy11 => (intro V hSw; have c4 : V.cell? ⟨W.heap.size, 9, none⟩ = some (.int .i64 x.un) := (BoxAt.cell hSw.2.2.2.1 9).trans rfl; clear hSw; go_simp; try with_reducible rfl)
        simp only [Act.put, List.setIfInBounds_toArray, List.set_cons_zero, List.set_cons_succ]
        refine wpAnyH_take (i := 11) (oi := { dst := some 48, op := Op.load 3 (Operand.tmp 5), type := 3, pos := "times.go:25", after := #[], guard := none }) (v := ?v12) rfl (by kernel_rfl) (by kernel_rfl) (by kernel_rfl) (fun _ _ _ h => h) (Or.inl ⟨by rfl, ?hy12⟩) (by assumption) ?rest12
        case hy12 => (intro V hSw; have c4 : V.cell? ⟨v2.heap.size, 0, none⟩ = some (.int .i64 now) := (BoxAt.cell hSw.2.2.2.2 0).trans rfl; clear hSw; go_simp; try with_reducible rfl)
        simp only [Act.put, List.setIfInBounds_toArray, List.set_cons_zero, List.set_cons_succ]
        refine wpAnyH_ready (rs := [12]) (by kernel_rfl) (by simp) (AllReadyH.cons (o := { dst := some 49, op := Op.call { callee := Callee.value (Operand.func 34), args := #[Operand.tmp 40, Operand.tmp 45, Operand.tmp 47, Operand.tmp 48], argTypes := #[89, 60, 3, 3] }, type := 0, pos := "times.go:25", after := #[{ on := 3, ground := Ground.data }, { on := 8, ground := Ground.data }, { on := 10, ground := Ground.data }, { on := 11, ground := Ground.data }], guard := none }) rfl (fun K13 hK13 => ?_) AllReadyH.nil)
        go_simp
        refine (release_any g k f x.un now (HOP.out.below ((Below.refl _ _).drew)) (by have := hkC.out; have := HGl.out; omega)).mono ?_
        rintro e U4 ⟨rfl, ho, ht, hb⟩
        have hds : U3.drew.heap.size = U3.heap.size := rfl
        have HLo := hid (HLo.out.drew.trans hb)
        have PB4 := hid (ht.box (BoxAt.drew PB3.out) hpg hpg)
        have CB4 := hid (ht.box (BoxAt.drew CB2.out) hcg hcg)
        have NB4 := hid (ht.box (BoxAt.drew NB2.out) hng hng)
        have OB4 := hid (ht.box (BoxAt.drew OB2.out) hog hog)
        have HUn := hid (show UP U4 w.heap.size v1.heap.size ⟨some ⟨g, 0, none⟩, C.pr.length, cap⟩ _ from ⟨q3, PB4.out, (by have h := (HO3.out.below ((Below.refl U3.heap.size U3).drew)).procs (S := SP) (by unfold SP; decide) (by unfold SP; decide) (by unfold SP; decide) (by unfold SP; decide) (by unfold SP; decide) (by unfold SP; decide) (by unfold SP; decide) (by unfold SP; decide) ht.t _ D.nx (by rw [HS3.out, ← HGl.out]; exact ho); rw [show ({ q3 with nx := D.nx } : PaV) = q3 from by rw [← HO3.out.nx]] at h; exact h), HS3.out⟩)
        have HT := hid (HT.out.trans ((TwoT.below ((Below.refl U3.heap.size U3).drew)).trans ⟨ht.t, fun k hk h1 _ => ht.b k hk h1 h1⟩))
        have HB := hid (HB.out.drew.trans hb)
        clear ho ht hb
        refine hK13.out _ _ (⟨HLo.out, PB4.out, CB4.out, OB4.out, NB4.out⟩) (fun hHeld13 => ?_)
        clear hK13 K13
        try simp only [Act.put, List.setIfInBounds_toArray, List.set_cons_zero, List.set_cons_succ]
        refine wpAnyH_done (by kernel_rfl) ?_ _
        refine ⟨HI2.out.turned HT.out HB.out hrg hrp (by rw [HE.out, HEx.out, HSe.out]; exact HUn.out), HT.out.t.others _⟩
      · have t1 : (x.ki == 1) = false := by simpa using h1
        have t2 : (x.ki == 2) = true := by simpa using h2
        obtain ⟨ac, cpc, hcv, hc1, hc2, hccell⟩ := HC.out.pc.form
        have hmaxc : cpc ≤ 9223372036854775807 := hc2
        have HCv := hid hcv
        have HCc := hid hccell
        clear hcv hc2 hccell
        have HEx := hid (show relP cc now k x (wentP C k x) = goP C (k : Int) 0 0 from went_plain hkC.out HCx.out (.inr h2) (.inr hkm))
        have HKm := hid hkm
        clear h1 h2 hkm
        refine seq_in l rfl (shut_block shut_normal) (fun K hK => ?_)
        go_wp2_with fail
        refine wpIn_block ?_
        refine seq_in l rfl (shut_block (shut_block shut_normal)) (fun K hK => ?_)
        go_wp2_with fail
        refine wpIn_cond_false rfl ?_
        refine seq_in l rfl (shut_block (shut_block shut_normal)) (fun K hK => ?_)
        go_wp2_with fail
        refine wpIn_cond_true rfl ?_
        refine seq_in l rfl (shut_block (shut_block shut_normal)) (fun K hK => ?_)
        go_wp2_with fail
        refine (goon_any (n := w.heap.size) k 0 HU.out hkC.out HCs.out (by omega) (by omega) (Nat.le_refl _)).mono ?_
        rintro e U2 ⟨rfl, hup, ht, hb⟩
        have HUp := hid hup
        have HT := hid (HT.out.trans ht)
        have HB := hid (HB.out.trans hb)
        have CB2 := hid (HI2.out.cb.turn (by unfold SP; decide) HT.out.t)
        have NB2 := hid (HI2.out.nb.turn (by unfold SP; decide) HT.out.t)
        have OB2 := hid (HT.out.box OB.out hog hop)
        have hU2s : U.heap.size ≤ U2.heap.size := ht.t.size
        clear hup ht hb j10
        have kc2 : U2.cell? ⟨w.heap.size, 2, none⟩ = some (.slice ac cc.pc.length cpc) := (CB2.out.cell 2).trans (by show some qc.v2.val = _; rw [HCv.out])
        go_wp2_with fail
        refine seq_in l rfl (shut_block (shut_block shut_normal)) (fun K hK => ?_)
        go_wp2_with fail
        refine (uthere_Pc _ _ _ _ _).mono ?_
        rintro e U3 ⟨rfl, rfl⟩
        rw [decide_eq_false (show ¬ (0 ≤ (k : Int) ∧ (k : Int) < (cc.pc.length : Int)) from fun h => HKm.out (by omega))]
        clear kc2
        go_wp2_with fail
        refine wpIn_cond_false rfl ?_
        refine wpIn_skip ?_
        refine ⟨HI2.out.turned HT.out HB.out hrg hrp (by rw [HE.out, HEx.out, HSe.out]; exact HUp.out), HT.out.t.others _⟩
    · have t1 : (x.ki == 1) = false := by simpa using h1
      have t2 : (x.ki == 2) = false := by simpa using h2
      have HEx := hid (went_other (f := cc) (now := now) hkC.out HCx.out h1 h2)
      clear h1 h2
      refine seq_in l rfl (shut_block shut_normal) (fun K hK => ?_)
      go_wp2_with fail
      refine wpIn_block ?_
      refine seq_in l rfl (shut_block (shut_block shut_normal)) (fun K hK => ?_)
      go_wp2_with fail
      refine wpIn_cond_false rfl ?_
      refine seq_in l rfl (shut_block (shut_block shut_normal)) (fun K hK => ?_)
      go_wp2_with fail
      refine wpIn_cond_false rfl ?_
      refine seq_in l rfl (shut_block (shut_block shut_normal)) (fun K hK => ?_)
      go_wp2_with fail
      refine (uleave_any (n := w.heap.size) g (k : Int) HU.out HCs.out (by omega) (by omega) (Nat.le_refl _)).mono ?_
      rintro e U2 ⟨rfl, hup, ht, hb⟩
      have HUp := hid hup
      have HT := hid (HT.out.trans ht)
      have HB := hid (HB.out.trans hb)
      have hU2s : U.heap.size ≤ U2.heap.size := ht.t.size
      clear hup ht hb j10
      go_wp2_with fail
      refine region_in l rfl (shut_block (shut_block shut_normal)) ?_
      go_wp2_with fail
      refine (goon_any (c := leaveP C (isW (k : Int))) (n := w.heap.size) k 5 HUp.out hkC.out (leave_small HCs.out _) (by omega) (by omega) (Nat.le_refl _)).mono ?_
      rintro e U3 ⟨rfl, hup, ht, hb⟩
      have HUq := hid hup
      have HT := hid (HT.out.trans ht)
      have HB := hid (HB.out.trans hb)
      clear hup ht hb
      go_wp2_with fail
      refine ⟨HI2.out.turned HT.out HB.out hrg hrp (by rw [HE.out, HEx.out, HSe.out]; exact HUq.out), HT.out.t.others _⟩
end Go.Proofs.Ytdanfnbclbiidaa
