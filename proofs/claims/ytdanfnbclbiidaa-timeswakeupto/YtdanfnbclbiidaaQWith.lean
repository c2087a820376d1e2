/-
  What procs.without, Own, Leave return: a partition all of whose lists are the call's own, without the waits of who leaves.
-/
import Derived.Test.YtdanfnbclbiidaaQEach
namespace Go.Proofs.Ytdanfnbclbiidaa
open Go.RowKit
set_option linter.unusedVariables false

/-- No list of a partition is too long. -/
structure Pa.small (c : Pa) : Prop where
  me : c.me.length ≤ 900000
  pr : c.pr.length ≤ 900000
  bo : c.bo.length ≤ 900000
  bu : c.bu.length ≤ 900000
  se : c.se.length ≤ 900000
  ev : c.ev.length ≤ 900000
  sa : c.sa.length ≤ 900000
  qu : c.qu.length ≤ 900000
  ll : c.ll.length ≤ 900000
  gi : c.gi.length ≤ 900000
  bol : ∀ x ∈ c.bo, x.l.length ≤ 900000
  bul : ∀ x ∈ c.bu, x.l.length ≤ 900000 ∧ x.vs.length ≤ 900000
  sel : ∀ x ∈ c.se, x.l.length ≤ 900000
  evl : ∀ x ∈ c.ev, x.l.length ≤ 900000
  qul : ∀ x ∈ c.qu, x.vs.length ≤ 900000

/-- A partition's value, the first n of whose lists are the call's own. -/
structure PaM (n : Nat) (w : World) (base : Nat) (q : PaV) (c : Pa) : Prop where
  md : q.md = c.md
  bg : q.bg = c.bg
  nx : q.nx = c.nx
  ld : q.ld = c.ld
  lx : q.lx = c.lx
  me : 0 < n → OI w base q.me.val c.me
  pr : 1 < n → OP w base q.pr.val c.pr
  bo : 2 < n → OBd w base q.bo.val c.bo
  bu : 3 < n → OBf w base q.bu.val c.bu
  se : 4 < n → OSe w base q.se.val c.se
  ev : 5 < n → OEv w base q.ev.val c.ev
  sa : 6 < n → OSp w base q.sa.val c.sa
  qu : 7 < n → OQu w base q.qu.val c.qu
  ll : 8 < n → OI w base q.ll.val c.ll
  gi : 9 < n → OI w base q.gi.val c.gi
theorem PaM.below {n : Nat} {w w' : World} {base : Nat} {q : PaV} {c : Pa} (h : PaM n w base q c) (hb : Below w.heap.size w w') : PaM n w' base q c :=
  ⟨h.md, h.bg, h.nx, h.ld, h.lx, fun a => (h.me a).below hb, fun a => (h.pr a).below hb, fun a => (h.bo a).below hb, fun a => (h.bu a).below hb, fun a => (h.se a).below hb, fun a => (h.ev a).below hb, fun a => (h.sa a).below hb, fun a => (h.qu a).below hb, fun a => (h.ll a).below hb, fun a => (h.gi a).below hb⟩
theorem PaM.turn {n : Nat} {w w' : World} {base : Nat} {q : PaV} {c : Pa} (h : PaM n w base q c) (ht : Turns (fun t => t = 39) w w') : PaM n w' base q c :=
  ⟨h.md, h.bg, h.nx, h.ld, h.lx, fun a => (h.me a).turn (by decide) ht, fun a => (h.pr a).turn (by decide) ht, fun a => (h.bo a).turn (by decide) (by decide) ht, fun a => (h.bu a).turn (by decide) (by decide) (by decide) ht, fun a => (h.se a).turn (by decide) (by decide) ht, fun a => (h.ev a).turn (by decide) (by decide) ht, fun a => (h.sa a).turn (by decide) ht, fun a => (h.qu a).turn (by decide) (by decide) ht, fun a => (h.ll a).turn (by decide) ht, fun a => (h.gi a).turn (by decide) ht⟩
theorem PaO.turn {w w' : World} {base : Nat} {q : PaV} {c : Pa} (h : PaO w base q c) (ht : Turns (fun t => t = 39) w w') : PaO w' base q c :=
  ⟨h.md, h.bg, h.nx, h.me.turn (by decide) ht, h.pr.turn (by decide) ht, h.bo.turn (by decide) (by decide) ht, h.bu.turn (by decide) (by decide) (by decide) ht, h.se.turn (by decide) (by decide) ht, h.ev.turn (by decide) (by decide) ht, h.sa.turn (by decide) ht, h.qu.turn (by decide) (by decide) ht, h.ld, h.ll.turn (by decide) ht, h.lx, h.gi.turn (by decide) ht⟩
theorem PaM.all {w : World} {base : Nat} {q : PaV} {c : Pa} (h : PaM 10 w base q c) : PaO w base q c :=
  ⟨h.md, h.bg, h.nx, h.me (by decide), h.pr (by decide), h.bo (by decide), h.bu (by decide), h.se (by decide), h.ev (by decide), h.sa (by decide), h.qu (by decide), h.ld, h.ll (by decide), h.lx, h.gi (by decide)⟩

theorem PaM.put_me {w : World} {base : Nat} {q : PaV} {c : Pa} (h : PaM 0 w base q c) (s : Sl) (ho : OI w base s.val c.me) : PaM 1 w base { q with me := s } c :=
  ⟨h.md, h.bg, h.nx, h.ld, h.lx, fun _ => ho, fun hh => absurd hh (by decide), fun hh => absurd hh (by decide), fun hh => absurd hh (by decide), fun hh => absurd hh (by decide), fun hh => absurd hh (by decide), fun hh => absurd hh (by decide), fun hh => absurd hh (by decide), fun hh => absurd hh (by decide), fun hh => absurd hh (by decide)⟩

theorem PaM.put_pr {w : World} {base : Nat} {q : PaV} {c : Pa} (h : PaM 1 w base q c) (s : Sl) (ho : OP w base s.val c.pr) : PaM 2 w base { q with pr := s } c :=
  ⟨h.md, h.bg, h.nx, h.ld, h.lx, fun _ => h.me (by decide), fun _ => ho, fun hh => absurd hh (by decide), fun hh => absurd hh (by decide), fun hh => absurd hh (by decide), fun hh => absurd hh (by decide), fun hh => absurd hh (by decide), fun hh => absurd hh (by decide), fun hh => absurd hh (by decide), fun hh => absurd hh (by decide)⟩

theorem PaM.put_bo {w : World} {base : Nat} {q : PaV} {c : Pa} (h : PaM 2 w base q c) (s : Sl) (ho : OBd w base s.val c.bo) : PaM 3 w base { q with bo := s } c :=
  ⟨h.md, h.bg, h.nx, h.ld, h.lx, fun _ => h.me (by decide), fun _ => h.pr (by decide), fun _ => ho, fun hh => absurd hh (by decide), fun hh => absurd hh (by decide), fun hh => absurd hh (by decide), fun hh => absurd hh (by decide), fun hh => absurd hh (by decide), fun hh => absurd hh (by decide), fun hh => absurd hh (by decide)⟩

theorem PaM.put_bu {w : World} {base : Nat} {q : PaV} {c : Pa} (h : PaM 3 w base q c) (s : Sl) (ho : OBf w base s.val c.bu) : PaM 4 w base { q with bu := s } c :=
  ⟨h.md, h.bg, h.nx, h.ld, h.lx, fun _ => h.me (by decide), fun _ => h.pr (by decide), fun _ => h.bo (by decide), fun _ => ho, fun hh => absurd hh (by decide), fun hh => absurd hh (by decide), fun hh => absurd hh (by decide), fun hh => absurd hh (by decide), fun hh => absurd hh (by decide), fun hh => absurd hh (by decide)⟩

theorem PaM.put_se {w : World} {base : Nat} {q : PaV} {c : Pa} (h : PaM 4 w base q c) (s : Sl) (ho : OSe w base s.val c.se) : PaM 5 w base { q with se := s } c :=
  ⟨h.md, h.bg, h.nx, h.ld, h.lx, fun _ => h.me (by decide), fun _ => h.pr (by decide), fun _ => h.bo (by decide), fun _ => h.bu (by decide), fun _ => ho, fun hh => absurd hh (by decide), fun hh => absurd hh (by decide), fun hh => absurd hh (by decide), fun hh => absurd hh (by decide), fun hh => absurd hh (by decide)⟩

theorem PaM.put_ev {w : World} {base : Nat} {q : PaV} {c : Pa} (h : PaM 5 w base q c) (s : Sl) (ho : OEv w base s.val c.ev) : PaM 6 w base { q with ev := s } c :=
  ⟨h.md, h.bg, h.nx, h.ld, h.lx, fun _ => h.me (by decide), fun _ => h.pr (by decide), fun _ => h.bo (by decide), fun _ => h.bu (by decide), fun _ => h.se (by decide), fun _ => ho, fun hh => absurd hh (by decide), fun hh => absurd hh (by decide), fun hh => absurd hh (by decide), fun hh => absurd hh (by decide)⟩

theorem PaM.put_sa {w : World} {base : Nat} {q : PaV} {c : Pa} (h : PaM 6 w base q c) (s : Sl) (ho : OSp w base s.val c.sa) : PaM 7 w base { q with sa := s } c :=
  ⟨h.md, h.bg, h.nx, h.ld, h.lx, fun _ => h.me (by decide), fun _ => h.pr (by decide), fun _ => h.bo (by decide), fun _ => h.bu (by decide), fun _ => h.se (by decide), fun _ => h.ev (by decide), fun _ => ho, fun hh => absurd hh (by decide), fun hh => absurd hh (by decide), fun hh => absurd hh (by decide)⟩

theorem PaM.put_qu {w : World} {base : Nat} {q : PaV} {c : Pa} (h : PaM 7 w base q c) (s : Sl) (ho : OQu w base s.val c.qu) : PaM 8 w base { q with qu := s } c :=
  ⟨h.md, h.bg, h.nx, h.ld, h.lx, fun _ => h.me (by decide), fun _ => h.pr (by decide), fun _ => h.bo (by decide), fun _ => h.bu (by decide), fun _ => h.se (by decide), fun _ => h.ev (by decide), fun _ => h.sa (by decide), fun _ => ho, fun hh => absurd hh (by decide), fun hh => absurd hh (by decide)⟩

theorem PaM.put_ll {w : World} {base : Nat} {q : PaV} {c : Pa} (h : PaM 8 w base q c) (s : Sl) (ho : OI w base s.val c.ll) : PaM 9 w base { q with ll := s } c :=
  ⟨h.md, h.bg, h.nx, h.ld, h.lx, fun _ => h.me (by decide), fun _ => h.pr (by decide), fun _ => h.bo (by decide), fun _ => h.bu (by decide), fun _ => h.se (by decide), fun _ => h.ev (by decide), fun _ => h.sa (by decide), fun _ => h.qu (by decide), fun _ => ho, fun hh => absurd hh (by decide)⟩

theorem PaM.put_gi {w : World} {base : Nat} {q : PaV} {c : Pa} (h : PaM 9 w base q c) (s : Sl) (ho : OI w base s.val c.gi) : PaM 10 w base { q with gi := s } c :=
  ⟨h.md, h.bg, h.nx, h.ld, h.lx, fun _ => h.me (by decide), fun _ => h.pr (by decide), fun _ => h.bo (by decide), fun _ => h.bu (by decide), fun _ => h.se (by decide), fun _ => h.ev (by decide), fun _ => h.sa (by decide), fun _ => h.qu (by decide), fun _ => h.ll (by decide), fun _ => ho⟩

theorem Try.entersBd : ∀ args w, (callFunc 67 args).run Try.prog w = .ok (.enter 67 args) w := enters_of Try.func67 (by kernel_rfl) rfl
theorem Try.entersBf : ∀ args w, (callFunc 69 args).run Try.prog w = .ok (.enter 69 args) w := enters_of Try.func69 (by kernel_rfl) rfl
theorem Try.entersSe : ∀ args w, (callFunc 71 args).run Try.prog w = .ok (.enter 71 args) w := enters_of Try.func71 (by kernel_rfl) rfl
theorem Try.entersEv : ∀ args w, (callFunc 73 args).run Try.prog w = .ok (.enter 73 args) w := enters_of Try.func73 (by kernel_rfl) rfl
theorem Try.entersQu : ∀ args w, (callFunc 76 args).run Try.prog w = .ok (.enter 76 args) w := enters_of Try.func76 (by kernel_rfl) rfl

set_option maxRecDepth 100000 in
set_option maxHeartbeats 4000000 in
theorem without_any {q : PaV} {c : Pa} {w : World} (gl : Nat) (cs : Array Value) (f : Wt → Bool) (eg : ∀ args w, (callFunc gl args).run Try.prog w = .ok (.enter gl args) w) (ha : PaAt w q c) (hn : c.small) (hp : TellsW gl cs f w.heap.size w) :
    Calls Try.prog 49 #[q.val, .func (.func gl) #[] cs] w fun e w' => ∃ q', e = .returned (PaV.val q') ∧ PaO w' w.heap.size q' (leaveP c f) ∧ Below w.heap.size w w' := by
  have HA := hid ha
  have HN := hid hn
  have HP := hid hp
  have HM : Hid (PaM 0 w w.heap.size q (leaveP c f)) := hid ⟨ha.md, ha.bg, ha.nx, ha.ld, ha.lx, fun h => absurd h (by decide), fun h => absurd h (by decide), fun h => absurd h (by decide), fun h => absurd h (by decide), fun h => absurd h (by decide), fun h => absurd h (by decide), fun h => absurd h (by decide), fun h => absurd h (by decide), fun h => absurd h (by decide), fun h => absurd h (by decide)⟩
  clear ha hn hp
  go_enter Try.func49, Try.ntmps49
  go_wp2_with (first
  | (refine wpList_box rfl 39 _ rfl q.cells.toArray rfl ?_
     intro w1 b1 h1 z1
     have PB := hid (show PaB w1 w.heap.size q from b1)
     have HBc := hid h1
     have HM := hid (HM.out.below h1)
     clear b1 h1)
  | (refine wpList_box1 rfl 105 _ rfl (.func (.func gl) #[] cs) rfl rfl ?_
     intro w2 b2 h2 z2
     rw [z1] at b2
     have LB := hid b2
     have PB := hid (show PaB w2 w.heap.size q from BoxAt.belowAll PB.out h2)
     have HBc := hid (HBc.out.trans (h2.mono (by omega)))
     have HM := hid (HM.out.below h2)
     clear b2 h2)
  | (refine wpList_new rfl 39 rfl _ Try.zeroPa ?_
     intro w3 b3 h3 z3
     rw [z2, z1] at b3
     have RB := hid b3
     have LB := hid (LB.out.belowAll h3)
     have PB := hid (show PaB w3 w.heap.size q from BoxAt.belowAll PB.out h3)
     have HBc := hid (HBc.out.trans (h3.mono (by omega)))
     have HM := hid (HM.out.below h3)
     clear b3 h3)
  | (refine wpList_new1 rfl 112 rfl .nilFunc rfl (by kernel_rfl) ?_
     intro w4 b4 h4 z4
     have SB := hid b4
     have RB := hid (RB.out.belowAll h4)
     have LB := hid (LB.out.belowAll h4)
     have PB := hid (show PaB w4 w.heap.size q from BoxAt.belowAll PB.out h4)
     have HBc := hid (HBc.out.trans (h4.mono (by omega)))
     have HM := hid (HM.out.below h4)
     clear b4 h4)
  | (refine wpList_store_box rfl 112 _ _ rfl rfl w3.heap.size 0 (.func (.func 61) #[] #[.pointer (some ⟨w.heap.size + 1, 0, none⟩)]) rfl rfl rfl rfl (by kernel_rfl) _ _ SB.out (by decide) ?_
     intro w5 b5 g5 z5
     have kc : w5.cell? ⟨w.heap.size, 3, none⟩ = some (.slice q.me.a q.me.n q.me.c) := (BoxAt.cell (BoxAt.grown PB.out g5 (fun e => by have := Option.some.inj e; omega)) 3).trans rfl)
  | fail)
  simp only [z3, z2, z1] at b5 g5
  have SB := hid (show BoxAt w5 (w.heap.size + 3) 112 #[.func (.func 61) #[] #[.pointer (some ⟨w.heap.size + 1, 0, none⟩)]] by simpa using b5)
  have RB := hid (RB.out.grown g5 (fun e => by have := Option.some.inj e; omega))
  have LB := hid (LB.out.grown g5 (fun e => by have := Option.some.inj e; omega))
  have PB := hid (show PaB w5 w.heap.size q from BoxAt.grown PB.out g5 (fun e => by have := Option.some.inj e; omega))
  have hb5 := grown_below (B := w.heap.size) g5 (by omega) (by omega)
  have HBc := hid (HBc.out.trans hb5)
  have HM : Hid (PaM 0 w5 w.heap.size q (leaveP c f)) := hid ⟨HM.out.md, HM.out.bg, HM.out.nx, HM.out.ld, HM.out.lx, fun h => absurd h (by decide), fun h => absurd h (by decide), fun h => absurd h (by decide), fun h => absurd h (by decide), fun h => absurd h (by decide), fun h => absurd h (by decide), fun h => absurd h (by decide), fun h => absurd h (by decide), fun h => absurd h (by decide), fun h => absurd h (by decide)⟩
  have HS := hid (show StayB w5 (w.heap.size + 3) (w.heap.size + 1) gl cs f from ⟨SB.out, LB.out, (HP.out.on HBc.out).mono HBc.out.size⟩)
  have hsz : w.heap.size + 4 ≤ w5.heap.size := by omega
  clear b5 g5 hb5 z1 z2 z3 z4 z5 SB
  -- me
  refine (qclone_int (HA.out.below HBc.out).me HN.out.me).mono ?_
  rintro e wc0 ⟨u, rfl, ho, hb⟩
  obtain ⟨a0, cap0, rfl, _, _, _⟩ := ho.sees.form
  have HM := hid ((HM.out.below hb).put_me ⟨a0, c.me.length, cap0⟩ ((ho.mono HBc.out.size)))
  have HS := hid (HS.out.below hb)
  have RB := hid (RB.out.belowAll hb)
  have PB := hid (show PaB wc0 w.heap.size q from BoxAt.belowAll PB.out hb)
  have HBc := hid (HBc.out.trans (hb.mono HBc.out.size))
  have hsz : w.heap.size + 4 ≤ wc0.heap.size := by have := hb.size; omega
  clear ho hb kc
  go_wp2_with (first
  | (refine wpList_store_box rfl 26 _ _ rfl rfl w.heap.size 3 (.slice a0 c.me.length cap0) rfl rfl rfl rfl (by kernel_rfl) _ _ PB.out (by simp [PaV.cells]) ?_
     intro ws0 b g z
     have HT := hid (Turns.grown (S := fun t => t = 39) PB.out b rfl g)
     have PB := hid (show PaB ws0 w.heap.size { q with me := ⟨a0, c.me.length, cap0⟩ } by simpa [PaB, PaV.cells] using b)
     have HBc := hid (HBc.out.trans (grown_below g (Nat.le_refl _) (by omega)))
     have HM := hid (HM.out.turn HT.out)
     have RB := hid (RB.out.grown g (fun e => by have := Option.some.inj e; omega))
     have HS : Hid (StayB ws0 (w.heap.size + 3) (w.heap.size + 1) gl cs f) := hid ⟨HS.out.st.turn (by decide) HT.out, HS.out.lv.turn (by decide) HT.out, (HP.out.on HBc.out).mono HBc.out.size⟩
     have kc : ws0.cell? ⟨w.heap.size, 4, none⟩ = some (.slice q.pr.a q.pr.n q.pr.c) := (BoxAt.cell PB.out 4).trans rfl
     have hsz : w.heap.size + 4 ≤ ws0.heap.size := by omega
     clear b g z HT))
  -- pr
  refine (qclone_Px (HA.out.below HBc.out).pr HN.out.pr).mono ?_
  rintro e wc1 ⟨u, rfl, ho, hb⟩
  obtain ⟨a1, cap1, rfl, _, _, _⟩ := ho.sees.form
  have HM := hid ((HM.out.below hb).put_pr ⟨a1, c.pr.length, cap1⟩ ((ho.mono HBc.out.size)))
  have HS := hid (HS.out.below hb)
  have RB := hid (RB.out.belowAll hb)
  have PB := hid (show PaB wc1 w.heap.size ({ q with me := ⟨a0, c.me.length, cap0⟩ }) from BoxAt.belowAll PB.out hb)
  have HBc := hid (HBc.out.trans (hb.mono HBc.out.size))
  have hsz : w.heap.size + 4 ≤ wc1.heap.size := by have := hb.size; omega
  clear ho hb kc
  go_wp2_with (first
  | (refine wpList_store_box rfl 29 _ _ rfl rfl w.heap.size 4 (.slice a1 c.pr.length cap1) rfl rfl rfl rfl (by kernel_rfl) _ _ PB.out (by simp [PaV.cells]) ?_
     intro ws1 b g z
     have HT := hid (Turns.grown (S := fun t => t = 39) PB.out b rfl g)
     have PB := hid (show PaB ws1 w.heap.size { q with me := ⟨a0, c.me.length, cap0⟩, pr := ⟨a1, c.pr.length, cap1⟩ } by simpa [PaB, PaV.cells] using b)
     have HBc := hid (HBc.out.trans (grown_below g (Nat.le_refl _) (by omega)))
     have HM := hid (HM.out.turn HT.out)
     have RB := hid (RB.out.grown g (fun e => by have := Option.some.inj e; omega))
     have HS : Hid (StayB ws1 (w.heap.size + 3) (w.heap.size + 1) gl cs f) := hid ⟨HS.out.st.turn (by decide) HT.out, HS.out.lv.turn (by decide) HT.out, (HP.out.on HBc.out).mono HBc.out.size⟩
     have kc : ws1.cell? ⟨w.heap.size, 5, none⟩ = some (.slice q.bo.a q.bo.n q.bo.c) := (BoxAt.cell PB.out 5).trans rfl
     have hsz : w.heap.size + 4 ≤ ws1.heap.size := by omega
     clear b g z HT))
  -- bo
  refine (each_Bd 67 #[.pointer (some ⟨w.heap.size + 3, 0, none⟩)] (fun x => { x with l := x.l.filter fun y => !f y }) Try.entersBd (HA.out.below HBc.out).bo HN.out.bo (fun W hW q x hx hat => become_Bd (w.heap.size + 3) (w.heap.size + 1) gl cs f eg (HS.out.below hW) hat (HN.out.bol x hx))).mono ?_
  rintro e wc2 ⟨u, rfl, ho, hb⟩
  obtain ⟨rs2, ho0, ho1, ho2⟩ := ho
  obtain ⟨a2, cap2, rfl, _, _, _⟩ := ho0.sees.form
  have ho := (show OBd wc2 _ _ _ from ⟨rs2, ho0, ho1, ho2⟩)
  have HM := hid ((HM.out.below hb).put_bo ⟨a2, rs2.length, cap2⟩ ((ho.mono HBc.out.size)))
  have HS := hid (HS.out.below hb)
  have RB := hid (RB.out.belowAll hb)
  have PB := hid (show PaB wc2 w.heap.size ({ q with me := ⟨a0, c.me.length, cap0⟩, pr := ⟨a1, c.pr.length, cap1⟩ }) from BoxAt.belowAll PB.out hb)
  have HBc := hid (HBc.out.trans (hb.mono HBc.out.size))
  have hsz : w.heap.size + 4 ≤ wc2.heap.size := by have := hb.size; omega
  clear ho hb kc ho0 ho1 ho2
  go_wp2_with (first
  | (refine wpList_store_box rfl 30 _ _ rfl rfl w.heap.size 5 (.slice a2 rs2.length cap2) rfl rfl rfl rfl (by kernel_rfl) _ _ PB.out (by simp [PaV.cells]) ?_
     intro ws2 b g z
     have HT := hid (Turns.grown (S := fun t => t = 39) PB.out b rfl g)
     have PB := hid (show PaB ws2 w.heap.size { q with me := ⟨a0, c.me.length, cap0⟩, pr := ⟨a1, c.pr.length, cap1⟩, bo := ⟨a2, rs2.length, cap2⟩ } by simpa [PaB, PaV.cells] using b)
     have HBc := hid (HBc.out.trans (grown_below g (Nat.le_refl _) (by omega)))
     have HM := hid (HM.out.turn HT.out)
     have RB := hid (RB.out.grown g (fun e => by have := Option.some.inj e; omega))
     have HS : Hid (StayB ws2 (w.heap.size + 3) (w.heap.size + 1) gl cs f) := hid ⟨HS.out.st.turn (by decide) HT.out, HS.out.lv.turn (by decide) HT.out, (HP.out.on HBc.out).mono HBc.out.size⟩
     have kc : ws2.cell? ⟨w.heap.size, 6, none⟩ = some (.slice q.bu.a q.bu.n q.bu.c) := (BoxAt.cell PB.out 6).trans rfl
     have hsz : w.heap.size + 4 ≤ ws2.heap.size := by omega
     clear b g z HT))
  -- bu
  refine (each_Bf 69 #[.pointer (some ⟨w.heap.size + 3, 0, none⟩)] (fun x => { x with l := x.l.filter fun y => !f y }) Try.entersBf (HA.out.below HBc.out).bu HN.out.bu (fun W hW q x hx hat => become_Bf (w.heap.size + 3) (w.heap.size + 1) gl cs f eg (HS.out.below hW) hat (HN.out.bul x hx))).mono ?_
  rintro e wc3 ⟨u, rfl, ho, hb⟩
  obtain ⟨rs3, ho0, ho1, ho2⟩ := ho
  obtain ⟨a3, cap3, rfl, _, _, _⟩ := ho0.sees.form
  have ho := (show OBf wc3 _ _ _ from ⟨rs3, ho0, ho1, ho2⟩)
  have HM := hid ((HM.out.below hb).put_bu ⟨a3, rs3.length, cap3⟩ ((ho.mono HBc.out.size)))
  have HS := hid (HS.out.below hb)
  have RB := hid (RB.out.belowAll hb)
  have PB := hid (show PaB wc3 w.heap.size ({ q with me := ⟨a0, c.me.length, cap0⟩, pr := ⟨a1, c.pr.length, cap1⟩, bo := ⟨a2, rs2.length, cap2⟩ }) from BoxAt.belowAll PB.out hb)
  have HBc := hid (HBc.out.trans (hb.mono HBc.out.size))
  have hsz : w.heap.size + 4 ≤ wc3.heap.size := by have := hb.size; omega
  clear ho hb kc ho0 ho1 ho2
  go_wp2_with (first
  | (refine wpList_store_box rfl 31 _ _ rfl rfl w.heap.size 6 (.slice a3 rs3.length cap3) rfl rfl rfl rfl (by kernel_rfl) _ _ PB.out (by simp [PaV.cells]) ?_
     intro ws3 b g z
     have HT := hid (Turns.grown (S := fun t => t = 39) PB.out b rfl g)
     have PB := hid (show PaB ws3 w.heap.size { q with me := ⟨a0, c.me.length, cap0⟩, pr := ⟨a1, c.pr.length, cap1⟩, bo := ⟨a2, rs2.length, cap2⟩, bu := ⟨a3, rs3.length, cap3⟩ } by simpa [PaB, PaV.cells] using b)
     have HBc := hid (HBc.out.trans (grown_below g (Nat.le_refl _) (by omega)))
     have HM := hid (HM.out.turn HT.out)
     have RB := hid (RB.out.grown g (fun e => by have := Option.some.inj e; omega))
     have HS : Hid (StayB ws3 (w.heap.size + 3) (w.heap.size + 1) gl cs f) := hid ⟨HS.out.st.turn (by decide) HT.out, HS.out.lv.turn (by decide) HT.out, (HP.out.on HBc.out).mono HBc.out.size⟩
     have kc : ws3.cell? ⟨w.heap.size, 7, none⟩ = some (.slice q.se.a q.se.n q.se.c) := (BoxAt.cell PB.out 7).trans rfl
     have hsz : w.heap.size + 4 ≤ ws3.heap.size := by omega
     clear b g z HT))
  -- se
  refine (each_Se 71 #[.pointer (some ⟨w.heap.size + 3, 0, none⟩)] (fun x => { x with l := x.l.filter fun y => !f y }) Try.entersSe (HA.out.below HBc.out).se HN.out.se (fun W hW q x hx hat => become_Se (w.heap.size + 3) (w.heap.size + 1) gl cs f eg (HS.out.below hW) hat (HN.out.sel x hx))).mono ?_
  rintro e wc4 ⟨u, rfl, ho, hb⟩
  obtain ⟨rs4, ho0, ho1, ho2⟩ := ho
  obtain ⟨a4, cap4, rfl, _, _, _⟩ := ho0.sees.form
  have ho := (show OSe wc4 _ _ _ from ⟨rs4, ho0, ho1, ho2⟩)
  have HM := hid ((HM.out.below hb).put_se ⟨a4, rs4.length, cap4⟩ ((ho.mono HBc.out.size)))
  have HS := hid (HS.out.below hb)
  have RB := hid (RB.out.belowAll hb)
  have PB := hid (show PaB wc4 w.heap.size ({ q with me := ⟨a0, c.me.length, cap0⟩, pr := ⟨a1, c.pr.length, cap1⟩, bo := ⟨a2, rs2.length, cap2⟩, bu := ⟨a3, rs3.length, cap3⟩ }) from BoxAt.belowAll PB.out hb)
  have HBc := hid (HBc.out.trans (hb.mono HBc.out.size))
  have hsz : w.heap.size + 4 ≤ wc4.heap.size := by have := hb.size; omega
  clear ho hb kc ho0 ho1 ho2
  go_wp2_with (first
  | (refine wpList_store_box rfl 32 _ _ rfl rfl w.heap.size 7 (.slice a4 rs4.length cap4) rfl rfl rfl rfl (by kernel_rfl) _ _ PB.out (by simp [PaV.cells]) ?_
     intro ws4 b g z
     have HT := hid (Turns.grown (S := fun t => t = 39) PB.out b rfl g)
     have PB := hid (show PaB ws4 w.heap.size { q with me := ⟨a0, c.me.length, cap0⟩, pr := ⟨a1, c.pr.length, cap1⟩, bo := ⟨a2, rs2.length, cap2⟩, bu := ⟨a3, rs3.length, cap3⟩, se := ⟨a4, rs4.length, cap4⟩ } by simpa [PaB, PaV.cells] using b)
     have HBc := hid (HBc.out.trans (grown_below g (Nat.le_refl _) (by omega)))
     have HM := hid (HM.out.turn HT.out)
     have RB := hid (RB.out.grown g (fun e => by have := Option.some.inj e; omega))
     have HS : Hid (StayB ws4 (w.heap.size + 3) (w.heap.size + 1) gl cs f) := hid ⟨HS.out.st.turn (by decide) HT.out, HS.out.lv.turn (by decide) HT.out, (HP.out.on HBc.out).mono HBc.out.size⟩
     have kc : ws4.cell? ⟨w.heap.size, 8, none⟩ = some (.slice q.ev.a q.ev.n q.ev.c) := (BoxAt.cell PB.out 8).trans rfl
     have hsz : w.heap.size + 4 ≤ ws4.heap.size := by omega
     clear b g z HT))
  -- ev
  refine (each_Ev 73 #[.pointer (some ⟨w.heap.size + 3, 0, none⟩)] (fun x => { x with l := x.l.filter fun y => !f y }) Try.entersEv (HA.out.below HBc.out).ev HN.out.ev (fun W hW q x hx hat => become_Ev (w.heap.size + 3) (w.heap.size + 1) gl cs f eg (HS.out.below hW) hat (HN.out.evl x hx))).mono ?_
  rintro e wc5 ⟨u, rfl, ho, hb⟩
  obtain ⟨rs5, ho0, ho1, ho2⟩ := ho
  obtain ⟨a5, cap5, rfl, _, _, _⟩ := ho0.sees.form
  have ho := (show OEv wc5 _ _ _ from ⟨rs5, ho0, ho1, ho2⟩)
  have HM := hid ((HM.out.below hb).put_ev ⟨a5, rs5.length, cap5⟩ ((ho.mono HBc.out.size)))
  have HS := hid (HS.out.below hb)
  have RB := hid (RB.out.belowAll hb)
  have PB := hid (show PaB wc5 w.heap.size ({ q with me := ⟨a0, c.me.length, cap0⟩, pr := ⟨a1, c.pr.length, cap1⟩, bo := ⟨a2, rs2.length, cap2⟩, bu := ⟨a3, rs3.length, cap3⟩, se := ⟨a4, rs4.length, cap4⟩ }) from BoxAt.belowAll PB.out hb)
  have HBc := hid (HBc.out.trans (hb.mono HBc.out.size))
  have hsz : w.heap.size + 4 ≤ wc5.heap.size := by have := hb.size; omega
  clear ho hb kc ho0 ho1 ho2
  go_wp2_with (first
  | (refine wpList_store_box rfl 33 _ _ rfl rfl w.heap.size 8 (.slice a5 rs5.length cap5) rfl rfl rfl rfl (by kernel_rfl) _ _ PB.out (by simp [PaV.cells]) ?_
     intro ws5 b g z
     have HT := hid (Turns.grown (S := fun t => t = 39) PB.out b rfl g)
     have PB := hid (show PaB ws5 w.heap.size { q with me := ⟨a0, c.me.length, cap0⟩, pr := ⟨a1, c.pr.length, cap1⟩, bo := ⟨a2, rs2.length, cap2⟩, bu := ⟨a3, rs3.length, cap3⟩, se := ⟨a4, rs4.length, cap4⟩, ev := ⟨a5, rs5.length, cap5⟩ } by simpa [PaB, PaV.cells] using b)
     have HBc := hid (HBc.out.trans (grown_below g (Nat.le_refl _) (by omega)))
     have HM := hid (HM.out.turn HT.out)
     have RB := hid (RB.out.grown g (fun e => by have := Option.some.inj e; omega))
     have HS : Hid (StayB ws5 (w.heap.size + 3) (w.heap.size + 1) gl cs f) := hid ⟨HS.out.st.turn (by decide) HT.out, HS.out.lv.turn (by decide) HT.out, (HP.out.on HBc.out).mono HBc.out.size⟩
     have kc : ws5.cell? ⟨w.heap.size, 9, none⟩ = some (.slice q.sa.a q.sa.n q.sa.c) := (BoxAt.cell PB.out 9).trans rfl
     have hsz : w.heap.size + 4 ≤ ws5.heap.size := by omega
     clear b g z HT))
  -- sa
  refine (qclone_Sp (HA.out.below HBc.out).sa HN.out.sa).mono ?_
  rintro e wc6 ⟨u, rfl, ho, hb⟩
  obtain ⟨a6, cap6, rfl, _, _, _⟩ := ho.sees.form
  have HM := hid ((HM.out.below hb).put_sa ⟨a6, c.sa.length, cap6⟩ ((ho.mono HBc.out.size)))
  have HS := hid (HS.out.below hb)
  have RB := hid (RB.out.belowAll hb)
  have PB := hid (show PaB wc6 w.heap.size ({ q with me := ⟨a0, c.me.length, cap0⟩, pr := ⟨a1, c.pr.length, cap1⟩, bo := ⟨a2, rs2.length, cap2⟩, bu := ⟨a3, rs3.length, cap3⟩, se := ⟨a4, rs4.length, cap4⟩, ev := ⟨a5, rs5.length, cap5⟩ }) from BoxAt.belowAll PB.out hb)
  have HBc := hid (HBc.out.trans (hb.mono HBc.out.size))
  have hsz : w.heap.size + 4 ≤ wc6.heap.size := by have := hb.size; omega
  clear ho hb kc
  go_wp2_with (first
  | (refine wpList_store_box rfl 34 _ _ rfl rfl w.heap.size 9 (.slice a6 c.sa.length cap6) rfl rfl rfl rfl (by kernel_rfl) _ _ PB.out (by simp [PaV.cells]) ?_
     intro ws6 b g z
     have HT := hid (Turns.grown (S := fun t => t = 39) PB.out b rfl g)
     have PB := hid (show PaB ws6 w.heap.size { q with me := ⟨a0, c.me.length, cap0⟩, pr := ⟨a1, c.pr.length, cap1⟩, bo := ⟨a2, rs2.length, cap2⟩, bu := ⟨a3, rs3.length, cap3⟩, se := ⟨a4, rs4.length, cap4⟩, ev := ⟨a5, rs5.length, cap5⟩, sa := ⟨a6, c.sa.length, cap6⟩ } by simpa [PaB, PaV.cells] using b)
     have HBc := hid (HBc.out.trans (grown_below g (Nat.le_refl _) (by omega)))
     have HM := hid (HM.out.turn HT.out)
     have RB := hid (RB.out.grown g (fun e => by have := Option.some.inj e; omega))
     have HS : Hid (StayB ws6 (w.heap.size + 3) (w.heap.size + 1) gl cs f) := hid ⟨HS.out.st.turn (by decide) HT.out, HS.out.lv.turn (by decide) HT.out, (HP.out.on HBc.out).mono HBc.out.size⟩
     have kc : ws6.cell? ⟨w.heap.size, 10, none⟩ = some (.slice q.qu.a q.qu.n q.qu.c) := (BoxAt.cell PB.out 10).trans rfl
     have hsz : w.heap.size + 4 ≤ ws6.heap.size := by omega
     clear b g z HT))
  -- qu
  refine (each_Qu 76 #[] (fun x => x) Try.entersQu (HA.out.below HBc.out).qu HN.out.qu (fun W hW q x hx hat => become_Qu hat (HN.out.qul x hx))).mono ?_
  rintro e wc7 ⟨u, rfl, ho, hb⟩
  rw [show c.qu.map (fun x => x) = c.qu from List.map_id' _] at ho
  obtain ⟨rs7, ho0, ho1, ho2⟩ := ho
  obtain ⟨a7, cap7, rfl, _, _, _⟩ := ho0.sees.form
  have ho := (show OQu wc7 _ _ _ from ⟨rs7, ho0, ho1, ho2⟩)
  have HM := hid ((HM.out.below hb).put_qu ⟨a7, rs7.length, cap7⟩ ((ho.mono HBc.out.size)))
  have HS := hid (HS.out.below hb)
  have RB := hid (RB.out.belowAll hb)
  have PB := hid (show PaB wc7 w.heap.size ({ q with me := ⟨a0, c.me.length, cap0⟩, pr := ⟨a1, c.pr.length, cap1⟩, bo := ⟨a2, rs2.length, cap2⟩, bu := ⟨a3, rs3.length, cap3⟩, se := ⟨a4, rs4.length, cap4⟩, ev := ⟨a5, rs5.length, cap5⟩, sa := ⟨a6, c.sa.length, cap6⟩ }) from BoxAt.belowAll PB.out hb)
  have HBc := hid (HBc.out.trans (hb.mono HBc.out.size))
  have hsz : w.heap.size + 4 ≤ wc7.heap.size := by have := hb.size; omega
  clear ho hb kc ho0 ho1 ho2
  go_wp2_with (first
  | (refine wpList_store_box rfl 35 _ _ rfl rfl w.heap.size 10 (.slice a7 rs7.length cap7) rfl rfl rfl rfl (by kernel_rfl) _ _ PB.out (by simp [PaV.cells]) ?_
     intro ws7 b g z
     have HT := hid (Turns.grown (S := fun t => t = 39) PB.out b rfl g)
     have PB := hid (show PaB ws7 w.heap.size { q with me := ⟨a0, c.me.length, cap0⟩, pr := ⟨a1, c.pr.length, cap1⟩, bo := ⟨a2, rs2.length, cap2⟩, bu := ⟨a3, rs3.length, cap3⟩, se := ⟨a4, rs4.length, cap4⟩, ev := ⟨a5, rs5.length, cap5⟩, sa := ⟨a6, c.sa.length, cap6⟩, qu := ⟨a7, rs7.length, cap7⟩ } by simpa [PaB, PaV.cells] using b)
     have HBc := hid (HBc.out.trans (grown_below g (Nat.le_refl _) (by omega)))
     have HM := hid (HM.out.turn HT.out)
     have RB := hid (RB.out.grown g (fun e => by have := Option.some.inj e; omega))
     have HS : Hid (StayB ws7 (w.heap.size + 3) (w.heap.size + 1) gl cs f) := hid ⟨HS.out.st.turn (by decide) HT.out, HS.out.lv.turn (by decide) HT.out, (HP.out.on HBc.out).mono HBc.out.size⟩
     have kc : ws7.cell? ⟨w.heap.size, 12, none⟩ = some (.slice q.ll.a q.ll.n q.ll.c) := (BoxAt.cell PB.out 12).trans rfl
     have hsz : w.heap.size + 4 ≤ ws7.heap.size := by omega
     clear b g z HT))
  -- ll
  refine (qclone_int (HA.out.below HBc.out).ll HN.out.ll).mono ?_
  rintro e wc8 ⟨u, rfl, ho, hb⟩
  obtain ⟨a8, cap8, rfl, _, _, _⟩ := ho.sees.form
  have HM := hid ((HM.out.below hb).put_ll ⟨a8, c.ll.length, cap8⟩ ((ho.mono HBc.out.size)))
  have HS := hid (HS.out.below hb)
  have RB := hid (RB.out.belowAll hb)
  have PB := hid (show PaB wc8 w.heap.size ({ q with me := ⟨a0, c.me.length, cap0⟩, pr := ⟨a1, c.pr.length, cap1⟩, bo := ⟨a2, rs2.length, cap2⟩, bu := ⟨a3, rs3.length, cap3⟩, se := ⟨a4, rs4.length, cap4⟩, ev := ⟨a5, rs5.length, cap5⟩, sa := ⟨a6, c.sa.length, cap6⟩, qu := ⟨a7, rs7.length, cap7⟩ }) from BoxAt.belowAll PB.out hb)
  have HBc := hid (HBc.out.trans (hb.mono HBc.out.size))
  have hsz : w.heap.size + 4 ≤ wc8.heap.size := by have := hb.size; omega
  clear ho hb kc
  go_wp2_with (first
  | (refine wpList_store_box rfl 26 _ _ rfl rfl w.heap.size 12 (.slice a8 c.ll.length cap8) rfl rfl rfl rfl (by kernel_rfl) _ _ PB.out (by simp [PaV.cells]) ?_
     intro ws8 b g z
     have HT := hid (Turns.grown (S := fun t => t = 39) PB.out b rfl g)
     have PB := hid (show PaB ws8 w.heap.size { q with me := ⟨a0, c.me.length, cap0⟩, pr := ⟨a1, c.pr.length, cap1⟩, bo := ⟨a2, rs2.length, cap2⟩, bu := ⟨a3, rs3.length, cap3⟩, se := ⟨a4, rs4.length, cap4⟩, ev := ⟨a5, rs5.length, cap5⟩, sa := ⟨a6, c.sa.length, cap6⟩, qu := ⟨a7, rs7.length, cap7⟩, ll := ⟨a8, c.ll.length, cap8⟩ } by simpa [PaB, PaV.cells] using b)
     have HBc := hid (HBc.out.trans (grown_below g (Nat.le_refl _) (by omega)))
     have HM := hid (HM.out.turn HT.out)
     have RB := hid (RB.out.grown g (fun e => by have := Option.some.inj e; omega))
     have HS : Hid (StayB ws8 (w.heap.size + 3) (w.heap.size + 1) gl cs f) := hid ⟨HS.out.st.turn (by decide) HT.out, HS.out.lv.turn (by decide) HT.out, (HP.out.on HBc.out).mono HBc.out.size⟩
     have kc : ws8.cell? ⟨w.heap.size, 14, none⟩ = some (.slice q.gi.a q.gi.n q.gi.c) := (BoxAt.cell PB.out 14).trans rfl
     have hsz : w.heap.size + 4 ≤ ws8.heap.size := by omega
     clear b g z HT))
  -- gi
  refine (qclone_int (HA.out.below HBc.out).gi HN.out.gi).mono ?_
  rintro e wc9 ⟨u, rfl, ho, hb⟩
  obtain ⟨a9, cap9, rfl, _, _, _⟩ := ho.sees.form
  have HM := hid ((HM.out.below hb).put_gi ⟨a9, c.gi.length, cap9⟩ ((ho.mono HBc.out.size)))
  have HS := hid (HS.out.below hb)
  have RB := hid (RB.out.belowAll hb)
  have PB := hid (show PaB wc9 w.heap.size ({ q with me := ⟨a0, c.me.length, cap0⟩, pr := ⟨a1, c.pr.length, cap1⟩, bo := ⟨a2, rs2.length, cap2⟩, bu := ⟨a3, rs3.length, cap3⟩, se := ⟨a4, rs4.length, cap4⟩, ev := ⟨a5, rs5.length, cap5⟩, sa := ⟨a6, c.sa.length, cap6⟩, qu := ⟨a7, rs7.length, cap7⟩, ll := ⟨a8, c.ll.length, cap8⟩ }) from BoxAt.belowAll PB.out hb)
  have HBc := hid (HBc.out.trans (hb.mono HBc.out.size))
  have hsz : w.heap.size + 4 ≤ wc9.heap.size := by have := hb.size; omega
  clear ho hb kc
  go_wp2_with (first
  | (refine wpList_store_box rfl 26 _ _ rfl rfl w.heap.size 14 (.slice a9 c.gi.length cap9) rfl rfl rfl rfl (by kernel_rfl) _ _ PB.out (by simp [PaV.cells]) ?_
     intro ws9 b g z
     have HT := hid (Turns.grown (S := fun t => t = 39) PB.out b rfl g)
     have PB := hid (show PaB ws9 w.heap.size { q with me := ⟨a0, c.me.length, cap0⟩, pr := ⟨a1, c.pr.length, cap1⟩, bo := ⟨a2, rs2.length, cap2⟩, bu := ⟨a3, rs3.length, cap3⟩, se := ⟨a4, rs4.length, cap4⟩, ev := ⟨a5, rs5.length, cap5⟩, sa := ⟨a6, c.sa.length, cap6⟩, qu := ⟨a7, rs7.length, cap7⟩, ll := ⟨a8, c.ll.length, cap8⟩, gi := ⟨a9, c.gi.length, cap9⟩ } by simpa [PaB, PaV.cells] using b)
     have HBc := hid (HBc.out.trans (grown_below g (Nat.le_refl _) (by omega)))
     have HM := hid (HM.out.turn HT.out)
     have RB := hid (RB.out.grown g (fun e => by have := Option.some.inj e; omega))
     have HS : Hid (StayB ws9 (w.heap.size + 3) (w.heap.size + 1) gl cs f) := hid ⟨HS.out.st.turn (by decide) HT.out, HS.out.lv.turn (by decide) HT.out, (HP.out.on HBc.out).mono HBc.out.size⟩
     have kc := trivial
     have hsz : w.heap.size + 4 ≤ ws9.heap.size := by omega
     clear b g z HT)
  | (refine wpList_load_box rfl 39 _ rfl w.heap.size rfl _ _ PB.out _ Try.underlying39 Try.infoPa ?_)
  | (refine wpList_store_whole rfl 39 _ _ rfl rfl (w.heap.size + 2) rfl (PaV.cells { q with me := ⟨a0, c.me.length, cap0⟩, pr := ⟨a1, c.pr.length, cap1⟩, bo := ⟨a2, rs2.length, cap2⟩, bu := ⟨a3, rs3.length, cap3⟩, se := ⟨a4, rs4.length, cap4⟩, ev := ⟨a5, rs5.length, cap5⟩, sa := ⟨a6, c.sa.length, cap6⟩, qu := ⟨a7, rs7.length, cap7⟩, ll := ⟨a8, c.ll.length, cap8⟩, gi := ⟨a9, c.gi.length, cap9⟩ }) rfl _ _ RB.out rfl Try.infoPa (PaV.one _) ?_
     intro wz b g z
     have HT := hid (Turns.grown (S := fun t => t = 39) RB.out b rfl g)
     have RB := hid b
     have HBc := hid (HBc.out.trans (grown_below g (by omega) (by omega)))
     have HM := hid (HM.out.turn HT.out)
     clear b g z))
  refine bodyPost_ret (results_cell_row rfl _ _ (w.heap.size + 2) 39 _ (0, 0) _ rfl RB.out Try.underlying39 rfl Try.infoPa) rfl ?_
  exact ⟨{ q with me := ⟨a0, c.me.length, cap0⟩, pr := ⟨a1, c.pr.length, cap1⟩, bo := ⟨a2, rs2.length, cap2⟩, bu := ⟨a3, rs3.length, cap3⟩, se := ⟨a4, rs4.length, cap4⟩, ev := ⟨a5, rs5.length, cap5⟩, sa := ⟨a6, c.sa.length, cap6⟩, qu := ⟨a7, rs7.length, cap7⟩, ll := ⟨a8, c.ll.length, cap8⟩, gi := ⟨a9, c.gi.length, cap9⟩ }, rfl, HM.out.all, HBc.out⟩

theorem Try.entersOwn : ∀ args w, (callFunc 50 args).run Try.prog w = .ok (.enter 50 args) w := enters_of Try.func50 (by kernel_rfl) rfl
theorem Try.entersLeave : ∀ args w, (callFunc 78 args).run Try.prog w = .ok (.enter 78 args) w := enters_of Try.func78 (by kernel_rfl) rfl

set_option maxRecDepth 100000 in
set_option maxHeartbeats 400000 in
theorem tells_own (B : Nat) (w : World) (hB : B ≤ w.heap.size) : TellsW 50 #[] (fun _ => false) B w := by
  rintro W hW ⟨p, r, v⟩
  unfold Wt.val
  show Calls Try.prog 50 #[.agg #[.int .i64 p, .int .i64 r, .int .i64 v]] W _
  clear hW
  go_enter Try.func50, Try.ntmps50
  go_wp2
  go_ret
  exact ⟨rfl, (Below.refl _ _).alloc (Nat.le_refl _) _⟩

set_option maxRecDepth 100000 in
set_option maxHeartbeats 400000 in
theorem tells_leave (B : Nat) (w : World) (hB : B ≤ w.heap.size) (I : Nat) (i : Int) (hI : BoxAt w I 3 #[.int .i64 i]) (hlt : I < B) : TellsW 78 #[.pointer (some ⟨I, 0, none⟩)] (isW i) B w := by
  rintro W hW ⟨p, r, v⟩
  have b0 := hI.below hW hlt
  have hsz : I < W.heap.size := b0.lt
  have c0 : W.cell? ⟨I, 0, none⟩ = some (.int .i64 i) := (b0.cell 0).trans rfl
  have c1 := cellA c0
  unfold Wt.val
  show Calls Try.prog 78 #[.agg #[.int .i64 p, .int .i64 r, .int .i64 v], .pointer (some ⟨I, 0, none⟩)] W _
  clear hW hI b0
  go_enter Try.func78, Try.ntmps78
  go_wp2
  go_ret
  exact ⟨rfl, (Below.refl _ _).alloc (Nat.le_refl _) _⟩

set_option maxRecDepth 100000 in
set_option maxHeartbeats 800000 in
theorem own_any {q : PaV} {c : Pa} {w : World} (ha : PaAt w q c) (hn : c.small) :
    Calls Try.prog 28 #[q.val] w fun e w' => ∃ q', e = .returned (PaV.val q') ∧ PaO w' w.heap.size q' c ∧ Below w.heap.size w w' := by
  have HA := hid ha
  have HN := hid hn
  clear ha hn
  go_enter Try.func28, Try.ntmps28
  go_wp2_with (first
  | (refine wpList_box rfl 39 _ rfl q.cells.toArray rfl ?_
     intro w1 b1 h1 z1
     have PB := hid (show PaB w1 w.heap.size q from b1)
     have HBc := hid h1
     clear b1 h1)
  | (refine wpList_new rfl 39 rfl _ Try.zeroPa ?_
     intro w3 b3 h3 z3
     rw [z1] at b3
     have RB := hid b3
     have PB := hid (show PaB w3 w.heap.size q from BoxAt.belowAll PB.out h3)
     have HBc := hid (HBc.out.trans (h3.mono (by omega)))
     clear b3 h3)
  | (refine wpList_load_box rfl 39 _ rfl w.heap.size rfl _ _ PB.out _ Try.underlying39 Try.infoPa ?_)
  | fail)
  refine (without_any 50 #[] (fun _ => false) Try.entersOwn (HA.out.below HBc.out) HN.out (tells_own _ _ (Nat.le_refl _))).mono ?_
  rintro e w4 ⟨q', rfl, ho, hb⟩
  rw [leaveP_none] at ho
  have HO := hid (ho.mono HBc.out.size)
  have RB := hid (RB.out.belowAll hb)
  have hsz : w.heap.size + 2 ≤ w4.heap.size := by have := hb.size; omega
  have HBc := hid (HBc.out.trans (hb.mono HBc.out.size))
  clear ho hb z1 z3
  go_wp2_with (first
  | (refine wpList_store_whole rfl 39 _ _ rfl rfl (w.heap.size + 1) rfl (PaV.cells q') rfl _ _ RB.out rfl Try.infoPa (PaV.one _) ?_
     intro wz b g z
     have HT := hid (Turns.grown (S := fun t => t = 39) RB.out b rfl g)
     have RB := hid b
     have HBc := hid (HBc.out.trans (grown_below g (by omega) (by omega)))
     have HO := hid (HO.out.turn HT.out)
     clear b g z))
  refine bodyPost_ret (results_cell_row rfl _ _ (w.heap.size + 1) 39 _ (0, 0) _ rfl RB.out Try.underlying39 rfl Try.infoPa) rfl ?_
  exact ⟨q', rfl, HO.out, HBc.out⟩

set_option maxRecDepth 100000 in
set_option maxHeartbeats 800000 in
theorem leave_any {q : PaV} {c : Pa} {i : Int} {w : World} (ha : PaAt w q c) (hn : c.small) :
    Calls Try.prog 53 #[q.val, .int .i64 i] w fun e w' => ∃ q', e = .returned (PaV.val q') ∧ PaO w' w.heap.size q' (leaveP c (isW i)) ∧ Below w.heap.size w w' := by
  have HA := hid ha
  have HN := hid hn
  clear ha hn
  go_enter Try.func53, Try.ntmps53
  go_wp2_with (first
  | (refine wpList_box rfl 39 _ rfl q.cells.toArray rfl ?_
     intro w1 b1 h1 z1
     have PB := hid (show PaB w1 w.heap.size q from b1)
     have HBc := hid h1
     clear b1 h1)
  | (refine wpList_box1 rfl 3 _ rfl (.int .i64 i) rfl rfl ?_
     intro w2 b2 h2 z2
     rw [z1] at b2
     have IB := hid b2
     have PB := hid (show PaB w2 w.heap.size q from BoxAt.belowAll PB.out h2)
     have HBc := hid (HBc.out.trans (h2.mono (by omega)))
     clear b2 h2)
  | (refine wpList_new rfl 39 rfl _ Try.zeroPa ?_
     intro w3 b3 h3 z3
     rw [z2, z1] at b3
     have RB := hid b3
     have IB := hid (IB.out.belowAll h3)
     have PB := hid (show PaB w3 w.heap.size q from BoxAt.belowAll PB.out h3)
     have HBc := hid (HBc.out.trans (h3.mono (by omega)))
     clear b3 h3)
  | (refine wpList_load_box rfl 39 _ rfl w.heap.size rfl _ _ PB.out _ Try.underlying39 Try.infoPa ?_)
  | fail)
  refine (without_any 78 #[.pointer (some ⟨w.heap.size + 1, 0, none⟩)] (isW i) Try.entersLeave (HA.out.below HBc.out) HN.out (tells_leave _ _ (Nat.le_refl _) (w.heap.size + 1) i IB.out IB.out.lt)).mono ?_
  rintro e w4 ⟨q', rfl, ho, hb⟩
  have HO := hid (ho.mono HBc.out.size)
  have RB := hid (RB.out.belowAll hb)
  have hsz : w.heap.size + 3 ≤ w4.heap.size := by have := hb.size; omega
  have HBc := hid (HBc.out.trans (hb.mono HBc.out.size))
  clear ho hb z1 z2 z3
  go_wp2_with (first
  | (refine wpList_store_whole rfl 39 _ _ rfl rfl (w.heap.size + 2) rfl (PaV.cells q') rfl _ _ RB.out rfl Try.infoPa (PaV.one _) ?_
     intro wz b g z
     have HT := hid (Turns.grown (S := fun t => t = 39) RB.out b rfl g)
     have RB := hid b
     have HBc := hid (HBc.out.trans (grown_below g (by omega) (by omega)))
     have HO := hid (HO.out.turn HT.out)
     clear b g z))
  refine bodyPost_ret (results_cell_row rfl _ _ (w.heap.size + 2) 39 _ (0, 0) _ rfl RB.out Try.underlying39 rfl Try.infoPa) rfl ?_
  exact ⟨q', rfl, HO.out, HBc.out⟩

end Go.Proofs.Ytdanfnbclbiidaa
