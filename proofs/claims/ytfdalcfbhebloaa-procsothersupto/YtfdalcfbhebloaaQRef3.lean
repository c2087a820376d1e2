/-
  What the document's Resume and Prio return.
-/
import Derived.Test.YtfdalcfbhebloaaQRef2
import Derived.Test.YtfdalcfbhebloaaQFacts2
namespace Go.Proofs.Ytfdalcfbhebloaa
open Go.RowKit
set_option linter.unusedVariables false

/-- What reads as a partition, whatever turns from n on in blocks of partitions alone. -/
def PaS (n : Nat) (w : World) (q : PaV) (c : Pa) : Prop := ∀ W, Below n w W → Turns (fun t => t = 39) w W → PaAt W q c
theorem PaS.from {w0 w : World} {q : PaV} {c : Pa} (h : PaAt w0 q c) (hb : Below w0.heap.size w0 w) : PaS w0.heap.size w q c := fun W hW _ => h.below (hb.trans hW)
theorem PaS.at {n : Nat} {w : World} {q : PaV} {c : Pa} (h : PaS n w q c) : PaAt w q c := h w (Below.refl n w) (Turns.refl _ w)
theorem PaS.go {n : Nat} {w w' : World} {q : PaV} {c : Pa} (h : PaS n w q c) (hb : Below n w w') (ht : Turns (fun t => t = 39) w w') : PaS n w' q c := fun W hW hT => h W (hb.trans hW) (ht.trans hT)
theorem PaS.below {n : Nat} {w w' : World} {q : PaV} {c : Pa} (h : PaS n w q c) (hn : n ≤ w.heap.size) (hb : Below w.heap.size w w') : PaS n w' q c := h.go (hb.mono hn) (Turns.below hb)
theorem PaS.put {n g : Nat} {w w' : World} {q : PaV} {c : Pa} {cs cs' : Array Value} (h : PaS n w q c) (hn : n ≤ g) (hs : n ≤ w.heap.size) (hg : w.grownBy w' (some g)) (h1 : BoxAt w g 39 cs) (h2 : BoxAt w' g 39 cs') : PaS n w' q c :=
  h.go (grown_below hg hn hs) (Turns.grown (S := fun t => t = 39) h1 h2 rfl hg)
theorem PaS.pr {n base : Nat} {w w' : World} {q : PaV} {c : Pa} {s : Sl} {l : List Px} (h : PaS n w q c) (hn : n ≤ w.heap.size) (hb : Below w.heap.size w w') (ho : OP w' base s.val l) : PaS n w' { q with pr := s } { c with pr := l } := fun W hW hT => by
  have h1 := (h.below hn hb) W hW hT
  exact ⟨h1.md, h1.bg, h1.nx, h1.me, (ho.turn (by decide) hT).sees, h1.bo, h1.bu, h1.se, h1.ev, h1.sa, h1.qu, h1.ld, h1.ll, h1.lx, h1.gi⟩
theorem PaS.nx {n : Nat} {w : World} {q : PaV} {c : Pa} (x : Int) (h : PaS n w q c) : PaS n w { q with nx := x } { c with nx := x } := fun W hW hT => by
  have h1 := h W hW hT
  exact ⟨h1.md, h1.bg, rfl, h1.me, h1.pr, h1.bo, h1.bu, h1.se, h1.ev, h1.sa, h1.qu, h1.ld, h1.ll, h1.lx, h1.gi⟩

/-- with. -/
theorem rwith_s {n : Nat} {q : PaV} {c : Pa} {w : World} (k : Nat) (r : Px) (hs : PaS n w q c) (hn : n ≤ w.heap.size) (hlen : c.pr.length ≤ 900000) (hk : k < c.pr.length) :
    Calls Try.prog 40 #[q.val, .int .i64 k, r.val] w fun e w' => ∃ q', e = .returned (PaV.val q') ∧ PaS n w' q' { c with pr := c.pr.set k r } ∧ Below w.heap.size w w' := by
  refine (rwith_own k r hs.at hlen hk).mono ?_
  rintro e w' ⟨s, rfl, ho, hb⟩
  exact ⟨_, rfl, hs.pr hn hb ho, hb⟩
/-- queued. -/
theorem rqueued_s {q : PaV} {nx : Int} {w : World} (x : Px) (hq : q.nx = nx) :
    Calls Try.prog 42 #[q.val, x.val] w fun e w' => ∃ q' y, e = .returned (.tuple #[PaV.val q', Px.val y]) ∧ y = { x with si := nx } ∧ q' = { q with nx := wrap64 (nx + 1) } ∧ Below w.heap.size w w' := by
  refine (rqueued_any q x w).mono ?_
  rintro e w' ⟨rfl, hb⟩
  subst hq
  exact ⟨_, _, rfl, rfl, rfl, hb⟩

theorem deed_in {c : Pa} {k : Nat} (hk : k < c.pr.length) (f : Px → Dd) : deedP c (k : Int) f = ({ c with pr := c.pr.set k ((f (c.pr.getD k Px.zero)).out c.nx), nx := (f (c.pr.getD k Px.zero)).nxt c.nx }, (f (c.pr.getD k Px.zero)).k) := by
  unfold deedP
  rw [if_pos ⟨by omega, by omega⟩]
  rfl
theorem deed_idle {c : Pa} {k : Nat} (hk : k < c.pr.length) (f : Px → Dd) {t : Int} (h : f (c.pr.getD k Px.zero) = ⟨c.pr.getD k Px.zero, false, t⟩) : deedP c (k : Int) f = (c, t) := by
  rw [deed_in hk, h]
  unfold Dd.out Dd.nxt
  simp only [if_neg Bool.false_ne_true, set_getD_self]
theorem deed_does {c : Pa} {k : Nat} (hk : k < c.pr.length) (f : Px → Dd) {y : Px} (h : f (c.pr.getD k Px.zero) = ⟨y, false, 0⟩) : deedP c (k : Int) f = ({ c with pr := c.pr.set k y }, 0) := by
  rw [deed_in hk, h]
  rfl
theorem deed_does_q {c : Pa} {k : Nat} (hk : k < c.pr.length) (f : Px → Dd) {y : Px} (h : f (c.pr.getD k Px.zero) = ⟨y, true, 0⟩) : deedP c (k : Int) f = ({ c with pr := c.pr.set k { y with si := c.nx }, nx := wrap64 (c.nx + 1) }, 0) := by
  rw [deed_in hk, h]
  rfl
theorem deed_out {c : Pa} {i : Int} (h : ¬ (0 ≤ i ∧ i < c.pr.length)) (f : Px → Dd) : deedP c i f = (c, 3) := by
  unfold deedP
  rw [if_neg h]

set_option maxRecDepth 100000 in
set_option maxHeartbeats 6400000 in
theorem rresume_any {q : PaV} {c : Pa} {w0 w : World} {i : Int} (ha : PaAt w0 q c) (h0 : Below w0.heap.size w0 w) (hsm : c.small) :
    Calls Try.prog 33 #[q.val, .int .i64 i] w fun e w' => ∃ q', e = .returned (.tuple #[PaV.val q', .int .i64 (resP c i).2]) ∧ PaS w0.heap.size w' q' (resP c i).1 ∧ Below w.heap.size w w' := by
  have HA0 := hid ha
  have HA := hid (ha.below h0)
  have H0 := hid h0
  have h0s : w0.heap.size ≤ w.heap.size := h0.size
  have HSm := hid hsm
  have HB := hid (Below.refl w.heap.size w)
  obtain ⟨ap, cpp, hpv, hp1, hp2, hpcell⟩ := HA.out.pr.form
  have hmax : cpp ≤ 9223372036854775807 := hp2
  have HPv := hid hpv
  have HPc := hid hpcell
  clear ha h0 hsm hpv hp2 hpcell
  go_enter Try.func33, Try.ntmps33
  have FL1 := hid trivial
  have FL2 := hid trivial
  go_wp2_with (first
    | (have hfl := FL1.out
       refine wpList_box rfl 39 (.tmp 0) rfl (PaV.cells q).toArray rfl ?_
       intro v1 b h z
       have PB := hid (show BoxAt v1 w.heap.size 39 (PaV.cells q).toArray from b)
       have HB := hid (HB.out.trans (h.mono HB.out.size))
       have hsv1 : w.heap.size + 1 ≤ v1.heap.size := by omega
       clear b h z hfl FL1)
    | (have hfl := FL2.out
       refine wpList_new rfl 39 rfl _ Try.zeroPa ?_
       intro v2 b h z
       have RB := hid (show BoxAt v2 v1.heap.size 39 (PaV.cells PaV.zero).toArray from b)
       have PB := hid (PB.out.belowAll h)
       have HB := hid (HB.out.trans (h.mono HB.out.size))
       have hsv2 : v1.heap.size + 1 ≤ v2.heap.size := by omega
       clear b h z hfl FL2)
    | (refine wpList_load_box rfl 39 _ rfl w.heap.size rfl _ _ PB.out _ Try.underlying39 Try.infoPa ?_)
    | fail)
  refine (rthere_any i (HA.out.below HB.out)).mono ?_
  rintro e v3 ⟨rfl, hb⟩
  have PB := hid (PB.out.belowAll hb)
  have RB := hid (RB.out.belowAll hb)
  have HB := hid (HB.out.trans (hb.mono HB.out.size))
  have hsv3 : v2.heap.size ≤ v3.heap.size := hb.size
  clear hb
  by_cases hin : 0 ≤ i ∧ i < c.pr.length
  rotate_left
  · have HIn := hid hin
    rw [decide_eq_false hin]
    clear hin
    have FL3 := hid trivial
    go_wp2_with (first
      | (refine wpList_load_box rfl 39 _ rfl w.heap.size rfl _ _ PB.out _ Try.underlying39 Try.infoPa ?_)
      | (have hfl := FL3.out
         refine wpList_store_whole rfl 39 _ _ rfl rfl v1.heap.size rfl (PaV.cells q) rfl _ _ RB.out rfl Try.infoPa (PaV.one _) ?_
         intro v4 b g z
         have hsv4 : v3.heap.size ≤ v4.heap.size := by omega
         have RB := hid (show BoxAt v4 v1.heap.size 39 (PaV.cells q).toArray from b)
         have PB := hid (PB.out.grown g (fun e => by have := Option.some.inj e; omega))
         have HB := hid (HB.out.trans (grown_below g (by omega) (by omega)))
         clear b g z hfl FL3)
      | fail)
    refine bodyPost_ret (results_box_tmp rfl _ _ (v1.heap.size) 39 _ (0, 0) _ rfl RB.out Try.underlying39 rfl Try.infoPa) rfl ?_
    rw [show resP c i = (c, 3) from deed_out HIn.out _]
    exact ⟨q, rfl, PaS.from HA0.out (H0.out.trans (HB.out.mono h0s)), HB.out⟩
  rw [decide_eq_true hin]
  obtain ⟨k, hki⟩ : ∃ k : Nat, i = (k : Int) := ⟨(i).toNat, by omega⟩
  have hk : k < c.pr.length := by omega
  clear hin
  subst hki
  obtain ⟨b1, off, rfl, hbw, hpx⟩ := HPc.out (by omega)
  have HP0 := hid (show PxAt w b1 (off + k * 18) (c.pr.getD k Px.zero) from fun j hj => hpx k hk j hj)
  clear hpx
  obtain ⟨r, hr⟩ : ∃ r, c.pr.getD k Px.zero = r := ⟨_, rfl⟩
  rw [hr] at HP0
  have HR := hid hr
  have HK := hid hk
  clear hr
  have kPB4 : v3.cell? ⟨w.heap.size, 4, none⟩ = some (.slice (some ⟨b1, off, none⟩) c.pr.length cpp) := (BoxAt.cell PB.out 4).trans (by show some q.pr.val = _; rw [HPv.out])
  by_cases hst : r.st = 0
  · have HD := hid (show resD r = ⟨r, false, 4⟩ from by unfold resD; rw [if_pos hst])
    have FL4 := hid trivial
    have FL5 := hid trivial
    have FL6 := hid trivial
    go_wp2_with (first
      | (refine wpList_load_px rfl _ rfl b1 (off + k * 18) rfl r (HP0.out.below HB.out hbw) ?_)
      | (have hfl := FL4.out
         refine wpList_new rfl 58 rfl _ Try.zeroPx ?_
         intro v5 b h z
         have XB := hid (show BoxAt v5 v3.heap.size 58 (Px.cells Px.zero).toArray from b)
         have PB := hid (PB.out.belowAll h)
         have RB := hid (RB.out.belowAll h)
         have HB := hid (HB.out.trans (h.mono HB.out.size))
         have hsv5 : v3.heap.size + 1 ≤ v5.heap.size := by omega
         clear kPB4
         have kPB4 : v5.cell? ⟨w.heap.size, 4, none⟩ = some (.slice (some ⟨b1, off, none⟩) c.pr.length cpp) := (BoxAt.cell PB.out 4).trans (by show some q.pr.val = _; rw [HPv.out])
         clear b h z hfl FL4)
      | (have hfl := FL5.out
         refine wpList_store_whole rfl 58 _ _ rfl rfl v3.heap.size rfl (Px.cells r) rfl _ _ XB.out rfl Try.infoPx (Px.one _) ?_
         intro v6 b g z
         have hsv6 : v5.heap.size ≤ v6.heap.size := by omega
         have XB := hid (show BoxAt v6 v3.heap.size 58 (Px.cells r).toArray from b)
         have PB := hid (PB.out.grown g (fun e => by have := Option.some.inj e; omega))
         have RB := hid (RB.out.grown g (fun e => by have := Option.some.inj e; omega))
         have HB := hid (HB.out.trans (grown_below g (by omega) (by omega)))
         clear kPB4
         have kPB4 : v6.cell? ⟨w.heap.size, 4, none⟩ = some (.slice (some ⟨b1, off, none⟩) c.pr.length cpp) := (BoxAt.cell PB.out 4).trans (by show some q.pr.val = _; rw [HPv.out])
         have kXB0 : v6.cell? ⟨v3.heap.size, 0, none⟩ = some (.int .i64 r.st) := (BoxAt.cell XB.out 0).trans rfl
         clear b g z hfl FL5)
      | (refine wpList_load_box rfl 39 _ rfl w.heap.size rfl _ _ PB.out _ Try.underlying39 Try.infoPa ?_)
      | (have hfl := FL6.out
         refine wpList_store_whole rfl 39 _ _ rfl rfl v1.heap.size rfl (PaV.cells q) rfl _ _ RB.out rfl Try.infoPa (PaV.one _) ?_
         intro v7 b g z
         have hsv7 : v6.heap.size ≤ v7.heap.size := by omega
         have RB := hid (show BoxAt v7 v1.heap.size 39 (PaV.cells q).toArray from b)
         have PB := hid (PB.out.grown g (fun e => by have := Option.some.inj e; omega))
         have XB := hid (XB.out.grown g (fun e => by have := Option.some.inj e; omega))
         have HB := hid (HB.out.trans (grown_below g (by omega) (by omega)))
         clear kPB4
         have kPB4 : v7.cell? ⟨w.heap.size, 4, none⟩ = some (.slice (some ⟨b1, off, none⟩) c.pr.length cpp) := (BoxAt.cell PB.out 4).trans (by show some q.pr.val = _; rw [HPv.out])
         clear kXB0
         have kXB0 : v7.cell? ⟨v3.heap.size, 0, none⟩ = some (.int .i64 r.st) := (BoxAt.cell XB.out 0).trans rfl
         clear b g z hfl FL6)
      | fail)
    refine bodyPost_ret (results_box_tmp rfl _ _ (v1.heap.size) 39 _ (0, 0) _ rfl RB.out Try.underlying39 rfl Try.infoPa) rfl ?_
    rw [show resP c (k : Int) = (c, 4) from deed_idle HK.out _ (by rw [HR.out]; exact HD.out)]
    exact ⟨q, rfl, PaS.from HA0.out (H0.out.trans (HB.out.mono h0s)), HB.out⟩
  · have thst : (r.st == 0) = false := by simpa using hst
    rcases hsu : r.su with _ | _
    · have HD := hid (show resD r = ⟨r, false, 1⟩ from by unfold resD; rw [if_neg hst, hsu]; rfl)
      have HSu := hid hsu
      clear hst hsu
      have FL7 := hid trivial
      have FL8 := hid trivial
      have FL9 := hid trivial
      go_wp2_with (first
        | (refine wpList_load_px rfl _ rfl b1 (off + k * 18) rfl r (HP0.out.below HB.out hbw) ?_)
        | (have hfl := FL7.out
           refine wpList_new rfl 58 rfl _ Try.zeroPx ?_
           intro v8 b h z
           have XB := hid (show BoxAt v8 v3.heap.size 58 (Px.cells Px.zero).toArray from b)
           have PB := hid (PB.out.belowAll h)
           have RB := hid (RB.out.belowAll h)
           have HB := hid (HB.out.trans (h.mono HB.out.size))
           have hsv8 : v3.heap.size + 1 ≤ v8.heap.size := by omega
           clear kPB4
           have kPB4 : v8.cell? ⟨w.heap.size, 4, none⟩ = some (.slice (some ⟨b1, off, none⟩) c.pr.length cpp) := (BoxAt.cell PB.out 4).trans (by show some q.pr.val = _; rw [HPv.out])
           clear b h z hfl FL7)
        | (have hfl := FL8.out
           refine wpList_store_whole rfl 58 _ _ rfl rfl v3.heap.size rfl (Px.cells r) rfl _ _ XB.out rfl Try.infoPx (Px.one _) ?_
           intro v9 b g z
           have hsv9 : v8.heap.size ≤ v9.heap.size := by omega
           have XB := hid (show BoxAt v9 v3.heap.size 58 (Px.cells r).toArray from b)
           have PB := hid (PB.out.grown g (fun e => by have := Option.some.inj e; omega))
           have RB := hid (RB.out.grown g (fun e => by have := Option.some.inj e; omega))
           have HB := hid (HB.out.trans (grown_below g (by omega) (by omega)))
           clear kPB4
           have kPB4 : v9.cell? ⟨w.heap.size, 4, none⟩ = some (.slice (some ⟨b1, off, none⟩) c.pr.length cpp) := (BoxAt.cell PB.out 4).trans (by show some q.pr.val = _; rw [HPv.out])
           have kXB0 : v9.cell? ⟨v3.heap.size, 0, none⟩ = some (.int .i64 r.st) := (BoxAt.cell XB.out 0).trans rfl
           have kXB2 : v9.cell? ⟨v3.heap.size, 2, none⟩ = some (.bool false) := (BoxAt.cell XB.out 2).trans (by show some (Value.bool r.su) = _; rw [HSu.out])
           clear b g z hfl FL8)
        | (refine wpList_load_box rfl 39 _ rfl w.heap.size rfl _ _ PB.out _ Try.underlying39 Try.infoPa ?_)
        | (have hfl := FL9.out
           refine wpList_store_whole rfl 39 _ _ rfl rfl v1.heap.size rfl (PaV.cells q) rfl _ _ RB.out rfl Try.infoPa (PaV.one _) ?_
           intro v10 b g z
           have hsv10 : v9.heap.size ≤ v10.heap.size := by omega
           have RB := hid (show BoxAt v10 v1.heap.size 39 (PaV.cells q).toArray from b)
           have PB := hid (PB.out.grown g (fun e => by have := Option.some.inj e; omega))
           have XB := hid (XB.out.grown g (fun e => by have := Option.some.inj e; omega))
           have HB := hid (HB.out.trans (grown_below g (by omega) (by omega)))
           clear kPB4
           have kPB4 : v10.cell? ⟨w.heap.size, 4, none⟩ = some (.slice (some ⟨b1, off, none⟩) c.pr.length cpp) := (BoxAt.cell PB.out 4).trans (by show some q.pr.val = _; rw [HPv.out])
           clear kXB0
           have kXB0 : v10.cell? ⟨v3.heap.size, 0, none⟩ = some (.int .i64 r.st) := (BoxAt.cell XB.out 0).trans rfl
           clear kXB2
           have kXB2 : v10.cell? ⟨v3.heap.size, 2, none⟩ = some (.bool false) := (BoxAt.cell XB.out 2).trans (by show some (Value.bool r.su) = _; rw [HSu.out])
           clear b g z hfl FL9)
        | fail)
      refine bodyPost_ret (results_box_tmp rfl _ _ (v1.heap.size) 39 _ (0, 0) _ rfl RB.out Try.underlying39 rfl Try.infoPa) rfl ?_
      rw [show resP c (k : Int) = (c, 1) from deed_idle HK.out _ (by rw [HR.out]; exact HD.out)]
      exact ⟨q, rfl, PaS.from HA0.out (H0.out.trans (HB.out.mono h0s)), HB.out⟩
    · have HSu := hid hsu
      clear hsu
      by_cases h1 : r.st = 1
      · obtain ⟨x1, hx1⟩ : ∃ x : Px, { r with su := false } = x := ⟨_, rfl⟩
        have HX1 := hid hx1
        clear hx1
        have HD := hid (show resD r = ⟨x1, true, 0⟩ from by unfold resD; rw [if_neg hst, HSu.out, if_pos rfl, decide_eq_true h1, HX1.out])
        clear hst
        have FL10 := hid trivial
        have FL11 := hid trivial
        have FL12 := hid trivial
        go_wp2_with (first
          | (refine wpList_load_px rfl _ rfl b1 (off + k * 18) rfl r (HP0.out.below HB.out hbw) ?_)
          | (have hfl := FL10.out
             refine wpList_new rfl 58 rfl _ Try.zeroPx ?_
             intro v11 b h z
             have XB := hid (show BoxAt v11 v3.heap.size 58 (Px.cells Px.zero).toArray from b)
             have PB := hid (PB.out.belowAll h)
             have RB := hid (RB.out.belowAll h)
             have HB := hid (HB.out.trans (h.mono HB.out.size))
             have hsv11 : v3.heap.size + 1 ≤ v11.heap.size := by omega
             clear kPB4
             have kPB4 : v11.cell? ⟨w.heap.size, 4, none⟩ = some (.slice (some ⟨b1, off, none⟩) c.pr.length cpp) := (BoxAt.cell PB.out 4).trans (by show some q.pr.val = _; rw [HPv.out])
             clear b h z hfl FL10)
          | (have hfl := FL11.out
             refine wpList_store_whole rfl 58 _ _ rfl rfl v3.heap.size rfl (Px.cells r) rfl _ _ XB.out rfl Try.infoPx (Px.one _) ?_
             intro v12 b g z
             have hsv12 : v11.heap.size ≤ v12.heap.size := by omega
             have XB := hid (show BoxAt v12 v3.heap.size 58 (Px.cells r).toArray from b)
             have PB := hid (PB.out.grown g (fun e => by have := Option.some.inj e; omega))
             have RB := hid (RB.out.grown g (fun e => by have := Option.some.inj e; omega))
             have HB := hid (HB.out.trans (grown_below g (by omega) (by omega)))
             clear kPB4
             have kPB4 : v12.cell? ⟨w.heap.size, 4, none⟩ = some (.slice (some ⟨b1, off, none⟩) c.pr.length cpp) := (BoxAt.cell PB.out 4).trans (by show some q.pr.val = _; rw [HPv.out])
             have kXB0 : v12.cell? ⟨v3.heap.size, 0, none⟩ = some (.int .i64 r.st) := (BoxAt.cell XB.out 0).trans rfl
             have kXB2 : v12.cell? ⟨v3.heap.size, 2, none⟩ = some (.bool true) := (BoxAt.cell XB.out 2).trans (by show some (Value.bool r.su) = _; rw [HSu.out])
             clear b g z hfl FL11)
          | (have hfl := FL12.out
             refine wpList_store_box rfl 4 _ _ rfl rfl v3.heap.size 2 (.bool false) rfl rfl rfl rfl (by kernel_rfl) _ _ XB.out (by simp [Px.cells]) ?_
             intro v13 b g z
             have hsv13 : v12.heap.size ≤ v13.heap.size := by omega
             have XB := hid (show BoxAt v13 v3.heap.size 58 (Px.cells x1).toArray by rw [← HX1.out]; simpa [Px.cells] using b)
             have PB := hid (PB.out.grown g (fun e => by have := Option.some.inj e; omega))
             have RB := hid (RB.out.grown g (fun e => by have := Option.some.inj e; omega))
             have HB := hid (HB.out.trans (grown_below g (by omega) (by omega)))
             clear kPB4
             have kPB4 : v13.cell? ⟨w.heap.size, 4, none⟩ = some (.slice (some ⟨b1, off, none⟩) c.pr.length cpp) := (BoxAt.cell PB.out 4).trans (by show some q.pr.val = _; rw [HPv.out])
             clear kXB0
             have kXB0 : v13.cell? ⟨v3.heap.size, 0, none⟩ = some (.int .i64 r.st) := (BoxAt.cell XB.out 0).trans (by rw [← HX1.out]; rfl)
             clear b g z hfl FL12)
          | (refine wpList_load_box rfl 39 _ rfl w.heap.size rfl _ _ PB.out _ Try.underlying39 Try.infoPa ?_)
          | (refine wpList_load_box rfl 58 _ rfl v3.heap.size rfl _ _ XB.out _ Try.underlying58 Try.infoPx ?_)
          | fail)
        refine (rqueued_s (x1) HA.out.nx).mono ?_
        rintro e v14 ⟨q2, y, rfl, hy, hq, hb⟩
        have PB := hid (PB.out.belowAll hb)
        have RB := hid (RB.out.belowAll hb)
        have XB := hid (XB.out.belowAll hb)
        have HB := hid (HB.out.trans (hb.mono HB.out.size))
        have hsv14 : v13.heap.size ≤ v14.heap.size := hb.size
        have HQ := hid hq
        have HY := hid hy
        clear hy hq
        clear kPB4
        have kPB4 : v14.cell? ⟨w.heap.size, 4, none⟩ = some (.slice (some ⟨b1, off, none⟩) c.pr.length cpp) := (BoxAt.cell PB.out 4).trans (by show some q.pr.val = _; rw [HPv.out])
        clear kXB0
        have kXB0 : v14.cell? ⟨v3.heap.size, 0, none⟩ = some (.int .i64 r.st) := (BoxAt.cell XB.out 0).trans (by rw [← HX1.out]; rfl)
        clear hb
        have FL13 := hid trivial
        have FL14 := hid trivial
        have FL15 := hid trivial
        have FL16 := hid trivial
        have FL17 := hid trivial
        have FL18 := hid trivial
        go_wp2_with (first
          | (have hfl := FL13.out
             refine wpList_new rfl 39 rfl _ Try.zeroPa ?_
             intro v15 b h z
             have QB := hid (show BoxAt v15 v14.heap.size 39 (PaV.cells PaV.zero).toArray from b)
             have PB := hid (PB.out.belowAll h)
             have RB := hid (RB.out.belowAll h)
             have XB := hid (XB.out.belowAll h)
             have HB := hid (HB.out.trans (h.mono HB.out.size))
             have hsv15 : v14.heap.size + 1 ≤ v15.heap.size := by omega
             clear b h z hfl FL13)
          | (have hfl := FL14.out
             refine wpList_new rfl 58 rfl _ Try.zeroPx ?_
             intro v16 b h z
             have YB := hid (show BoxAt v16 v15.heap.size 58 (Px.cells Px.zero).toArray from b)
             have PB := hid (PB.out.belowAll h)
             have RB := hid (RB.out.belowAll h)
             have XB := hid (XB.out.belowAll h)
             have QB := hid (QB.out.belowAll h)
             have HB := hid (HB.out.trans (h.mono HB.out.size))
             have hsv16 : v15.heap.size + 1 ≤ v16.heap.size := by omega
             clear b h z hfl FL14)
          | (have hfl := FL15.out
             refine wpList_store_whole rfl 39 _ _ rfl rfl v14.heap.size rfl (PaV.cells q2) rfl _ _ QB.out rfl Try.infoPa (PaV.one _) ?_
             intro v17 b g z
             have hsv17 : v16.heap.size ≤ v17.heap.size := by omega
             have QB := hid (show BoxAt v17 v14.heap.size 39 (PaV.cells q2).toArray from b)
             have PB := hid (PB.out.grown g (fun e => by have := Option.some.inj e; omega))
             have RB := hid (RB.out.grown g (fun e => by have := Option.some.inj e; omega))
             have XB := hid (XB.out.grown g (fun e => by have := Option.some.inj e; omega))
             have YB := hid (YB.out.grown g (fun e => by have := Option.some.inj e; omega))
             have HB := hid (HB.out.trans (grown_below g (by omega) (by omega)))
             clear b g z hfl FL15)
          | (have hfl := FL16.out
             refine wpList_store_whole rfl 58 _ _ rfl rfl v15.heap.size rfl (Px.cells y) rfl _ _ YB.out rfl Try.infoPx (Px.one _) ?_
             intro v18 b g z
             have hsv18 : v17.heap.size ≤ v18.heap.size := by omega
             have YB := hid (show BoxAt v18 v15.heap.size 58 (Px.cells y).toArray from b)
             have PB := hid (PB.out.grown g (fun e => by have := Option.some.inj e; omega))
             have RB := hid (RB.out.grown g (fun e => by have := Option.some.inj e; omega))
             have XB := hid (XB.out.grown g (fun e => by have := Option.some.inj e; omega))
             have QB := hid (QB.out.grown g (fun e => by have := Option.some.inj e; omega))
             have HB := hid (HB.out.trans (grown_below g (by omega) (by omega)))
             clear b g z hfl FL16)
          | (refine wpList_load_box rfl 39 _ rfl v14.heap.size rfl _ _ QB.out _ Try.underlying39 Try.infoPa ?_)
          | (have hfl := FL17.out
             refine wpList_store_whole rfl 39 _ _ rfl rfl w.heap.size rfl (PaV.cells q2) rfl _ _ PB.out rfl Try.infoPa (PaV.one _) ?_
             intro v19 b g z
             have hsv19 : v18.heap.size ≤ v19.heap.size := by omega
             have PB := hid (show BoxAt v19 w.heap.size 39 (PaV.cells q2).toArray from b)
             have RB := hid (RB.out.grown g (fun e => by have := Option.some.inj e; omega))
             have XB := hid (XB.out.grown g (fun e => by have := Option.some.inj e; omega))
             have QB := hid (QB.out.grown g (fun e => by have := Option.some.inj e; omega))
             have YB := hid (YB.out.grown g (fun e => by have := Option.some.inj e; omega))
             have HB := hid (HB.out.trans (grown_below g (by omega) (by omega)))
             clear b g z hfl FL17)
          | (refine wpList_load_box rfl 58 _ rfl v15.heap.size rfl _ _ YB.out _ Try.underlying58 Try.infoPx ?_)
          | (have hfl := FL18.out
             refine wpList_store_whole rfl 58 _ _ rfl rfl v3.heap.size rfl (Px.cells y) rfl _ _ XB.out rfl Try.infoPx (Px.one _) ?_
             intro v20 b g z
             have hsv20 : v19.heap.size ≤ v20.heap.size := by omega
             have XB := hid (show BoxAt v20 v3.heap.size 58 (Px.cells y).toArray from b)
             have PB := hid (PB.out.grown g (fun e => by have := Option.some.inj e; omega))
             have RB := hid (RB.out.grown g (fun e => by have := Option.some.inj e; omega))
             have QB := hid (QB.out.grown g (fun e => by have := Option.some.inj e; omega))
             have YB := hid (YB.out.grown g (fun e => by have := Option.some.inj e; omega))
             have HB := hid (HB.out.trans (grown_below g (by omega) (by omega)))
             clear b g z hfl FL18)
          | (refine wpList_load_box rfl 39 _ rfl w.heap.size rfl _ _ PB.out _ Try.underlying39 Try.infoPa ?_)
          | (refine wpList_load_box rfl 58 _ rfl v3.heap.size rfl _ _ XB.out _ Try.underlying58 Try.infoPx ?_)
          | fail)
        refine (rwith_s (n := w0.heap.size) (c := { c with nx := wrap64 (c.nx + 1) }) k (y) (by rw [HQ.out]; exact PaS.nx _ (PaS.from HA0.out (H0.out.trans (HB.out.mono h0s)))) (by omega) HSm.out.pr HK.out).mono ?_
        rintro e v21 ⟨q', rfl, ho, hb⟩
        have PB := hid (PB.out.belowAll hb)
        have RB := hid (RB.out.belowAll hb)
        have XB := hid (XB.out.belowAll hb)
        have QB := hid (QB.out.belowAll hb)
        have YB := hid (YB.out.belowAll hb)
        have HB := hid (HB.out.trans (hb.mono HB.out.size))
        have hsv21 : v20.heap.size ≤ v21.heap.size := hb.size
        rw [HY.out] at ho
        have HO := hid ho
        clear ho
        clear hb
        have FL19 := hid trivial
        go_wp2_with (first
          | (have hfl := FL19.out
             refine wpList_store_whole rfl 39 _ _ rfl rfl v1.heap.size rfl (PaV.cells q') rfl _ _ RB.out rfl Try.infoPa (PaV.one _) ?_
             intro v22 b g z
             have hsv22 : v21.heap.size ≤ v22.heap.size := by omega
             have HO := hid (HO.out.put (by omega) (by omega) g RB.out b)
             have RB := hid (show BoxAt v22 v1.heap.size 39 (PaV.cells q').toArray from b)
             have PB := hid (PB.out.grown g (fun e => by have := Option.some.inj e; omega))
             have XB := hid (XB.out.grown g (fun e => by have := Option.some.inj e; omega))
             have QB := hid (QB.out.grown g (fun e => by have := Option.some.inj e; omega))
             have YB := hid (YB.out.grown g (fun e => by have := Option.some.inj e; omega))
             have HB := hid (HB.out.trans (grown_below g (by omega) (by omega)))
             clear b g z hfl FL19)
          | fail)
        refine bodyPost_ret (results_box_tmp rfl _ _ (v1.heap.size) 39 _ (0, 0) _ rfl RB.out Try.underlying39 rfl Try.infoPa) rfl ?_
        rw [show resP c (k : Int) = ({ c with pr := c.pr.set k { x1 with si := c.nx }, nx := wrap64 (c.nx + 1) }, 0) from deed_does_q HK.out _ (by rw [HR.out]; exact HD.out)]
        exact ⟨q', rfl, HO.out, HB.out⟩
      · obtain ⟨x1, hx1⟩ : ∃ x : Px, { r with su := false } = x := ⟨_, rfl⟩
        have HX1 := hid hx1
        clear hx1
        have HD := hid (show resD r = ⟨x1, false, 0⟩ from by unfold resD; rw [if_neg hst, HSu.out, if_pos rfl, decide_eq_false h1, HX1.out])
        have th1 : (r.st == 1) = false := by simpa using h1
        clear hst h1
        have FL20 := hid trivial
        have FL21 := hid trivial
        have FL22 := hid trivial
        go_wp2_with (first
          | (refine wpList_load_px rfl _ rfl b1 (off + k * 18) rfl r (HP0.out.below HB.out hbw) ?_)
          | (have hfl := FL20.out
             refine wpList_new rfl 58 rfl _ Try.zeroPx ?_
             intro v23 b h z
             have XB := hid (show BoxAt v23 v3.heap.size 58 (Px.cells Px.zero).toArray from b)
             have PB := hid (PB.out.belowAll h)
             have RB := hid (RB.out.belowAll h)
             have HB := hid (HB.out.trans (h.mono HB.out.size))
             have hsv23 : v3.heap.size + 1 ≤ v23.heap.size := by omega
             clear kPB4
             have kPB4 : v23.cell? ⟨w.heap.size, 4, none⟩ = some (.slice (some ⟨b1, off, none⟩) c.pr.length cpp) := (BoxAt.cell PB.out 4).trans (by show some q.pr.val = _; rw [HPv.out])
             clear b h z hfl FL20)
          | (have hfl := FL21.out
             refine wpList_store_whole rfl 58 _ _ rfl rfl v3.heap.size rfl (Px.cells r) rfl _ _ XB.out rfl Try.infoPx (Px.one _) ?_
             intro v24 b g z
             have hsv24 : v23.heap.size ≤ v24.heap.size := by omega
             have XB := hid (show BoxAt v24 v3.heap.size 58 (Px.cells r).toArray from b)
             have PB := hid (PB.out.grown g (fun e => by have := Option.some.inj e; omega))
             have RB := hid (RB.out.grown g (fun e => by have := Option.some.inj e; omega))
             have HB := hid (HB.out.trans (grown_below g (by omega) (by omega)))
             clear kPB4
             have kPB4 : v24.cell? ⟨w.heap.size, 4, none⟩ = some (.slice (some ⟨b1, off, none⟩) c.pr.length cpp) := (BoxAt.cell PB.out 4).trans (by show some q.pr.val = _; rw [HPv.out])
             have kXB0 : v24.cell? ⟨v3.heap.size, 0, none⟩ = some (.int .i64 r.st) := (BoxAt.cell XB.out 0).trans rfl
             have kXB2 : v24.cell? ⟨v3.heap.size, 2, none⟩ = some (.bool true) := (BoxAt.cell XB.out 2).trans (by show some (Value.bool r.su) = _; rw [HSu.out])
             clear b g z hfl FL21)
          | (have hfl := FL22.out
             refine wpList_store_box rfl 4 _ _ rfl rfl v3.heap.size 2 (.bool false) rfl rfl rfl rfl (by kernel_rfl) _ _ XB.out (by simp [Px.cells]) ?_
             intro v25 b g z
             have hsv25 : v24.heap.size ≤ v25.heap.size := by omega
             have XB := hid (show BoxAt v25 v3.heap.size 58 (Px.cells x1).toArray by rw [← HX1.out]; simpa [Px.cells] using b)
             have PB := hid (PB.out.grown g (fun e => by have := Option.some.inj e; omega))
             have RB := hid (RB.out.grown g (fun e => by have := Option.some.inj e; omega))
             have HB := hid (HB.out.trans (grown_below g (by omega) (by omega)))
             clear kPB4
             have kPB4 : v25.cell? ⟨w.heap.size, 4, none⟩ = some (.slice (some ⟨b1, off, none⟩) c.pr.length cpp) := (BoxAt.cell PB.out 4).trans (by show some q.pr.val = _; rw [HPv.out])
             clear kXB0
             have kXB0 : v25.cell? ⟨v3.heap.size, 0, none⟩ = some (.int .i64 r.st) := (BoxAt.cell XB.out 0).trans (by rw [← HX1.out]; rfl)
             clear b g z hfl FL22)
          | (refine wpList_load_box rfl 39 _ rfl w.heap.size rfl _ _ PB.out _ Try.underlying39 Try.infoPa ?_)
          | (refine wpList_load_box rfl 58 _ rfl v3.heap.size rfl _ _ XB.out _ Try.underlying58 Try.infoPx ?_)
          | fail)
        refine (rwith_s (n := w0.heap.size) k (x1) (PaS.from HA0.out (H0.out.trans (HB.out.mono h0s))) (by omega) HSm.out.pr HK.out).mono ?_
        rintro e v26 ⟨q', rfl, ho, hb⟩
        have PB := hid (PB.out.belowAll hb)
        have RB := hid (RB.out.belowAll hb)
        have XB := hid (XB.out.belowAll hb)
        have HB := hid (HB.out.trans (hb.mono HB.out.size))
        have hsv26 : v25.heap.size ≤ v26.heap.size := hb.size
        have HO := hid ho
        clear ho
        clear kPB4
        have kPB4 : v26.cell? ⟨w.heap.size, 4, none⟩ = some (.slice (some ⟨b1, off, none⟩) c.pr.length cpp) := (BoxAt.cell PB.out 4).trans (by show some q.pr.val = _; rw [HPv.out])
        clear kXB0
        have kXB0 : v26.cell? ⟨v3.heap.size, 0, none⟩ = some (.int .i64 r.st) := (BoxAt.cell XB.out 0).trans (by rw [← HX1.out]; rfl)
        clear hb
        have FL23 := hid trivial
        go_wp2_with (first
          | (have hfl := FL23.out
             refine wpList_store_whole rfl 39 _ _ rfl rfl v1.heap.size rfl (PaV.cells q') rfl _ _ RB.out rfl Try.infoPa (PaV.one _) ?_
             intro v27 b g z
             have hsv27 : v26.heap.size ≤ v27.heap.size := by omega
             have HO := hid (HO.out.put (by omega) (by omega) g RB.out b)
             have RB := hid (show BoxAt v27 v1.heap.size 39 (PaV.cells q').toArray from b)
             have PB := hid (PB.out.grown g (fun e => by have := Option.some.inj e; omega))
             have XB := hid (XB.out.grown g (fun e => by have := Option.some.inj e; omega))
             have HB := hid (HB.out.trans (grown_below g (by omega) (by omega)))
             clear kPB4
             have kPB4 : v27.cell? ⟨w.heap.size, 4, none⟩ = some (.slice (some ⟨b1, off, none⟩) c.pr.length cpp) := (BoxAt.cell PB.out 4).trans (by show some q.pr.val = _; rw [HPv.out])
             clear kXB0
             have kXB0 : v27.cell? ⟨v3.heap.size, 0, none⟩ = some (.int .i64 r.st) := (BoxAt.cell XB.out 0).trans (by rw [← HX1.out]; rfl)
             clear b g z hfl FL23)
          | fail)
        refine bodyPost_ret (results_box_tmp rfl _ _ (v1.heap.size) 39 _ (0, 0) _ rfl RB.out Try.underlying39 rfl Try.infoPa) rfl ?_
        rw [show resP c (k : Int) = ({ c with pr := c.pr.set k x1 }, 0) from deed_does HK.out _ (by rw [HR.out]; exact HD.out)]
        exact ⟨q', rfl, HO.out, HB.out⟩

set_option maxRecDepth 100000 in
set_option maxHeartbeats 6400000 in
theorem rprio_any {q : PaV} {c : Pa} {w0 w : World} {i n : Int} (ha : PaAt w0 q c) (h0 : Below w0.heap.size w0 w) (hsm : c.small) :
    Calls Try.prog 34 #[q.val, .int .i64 i, .int .i64 n] w fun e w' => ∃ q', e = .returned (.tuple #[PaV.val q', .int .i64 (prioP c i n).2]) ∧ PaS w0.heap.size w' q' (prioP c i n).1 ∧ Below w.heap.size w w' := by
  have HA0 := hid ha
  have HA := hid (ha.below h0)
  have H0 := hid h0
  have h0s : w0.heap.size ≤ w.heap.size := h0.size
  have HSm := hid hsm
  have HB := hid (Below.refl w.heap.size w)
  obtain ⟨ap, cpp, hpv, hp1, hp2, hpcell⟩ := HA.out.pr.form
  have hmax : cpp ≤ 9223372036854775807 := hp2
  have HPv := hid hpv
  have HPc := hid hpcell
  clear ha h0 hsm hpv hp2 hpcell
  go_enter Try.func34, Try.ntmps34
  have FL1 := hid trivial
  have FL2 := hid trivial
  go_wp2_with (first
    | (have hfl := FL1.out
       refine wpList_box rfl 39 (.tmp 0) rfl (PaV.cells q).toArray rfl ?_
       intro v1 b h z
       have PB := hid (show BoxAt v1 w.heap.size 39 (PaV.cells q).toArray from b)
       have HB := hid (HB.out.trans (h.mono HB.out.size))
       have hsv1 : w.heap.size + 1 ≤ v1.heap.size := by omega
       clear b h z hfl FL1)
    | (have hfl := FL2.out
       refine wpList_new rfl 39 rfl _ Try.zeroPa ?_
       intro v2 b h z
       have RB := hid (show BoxAt v2 v1.heap.size 39 (PaV.cells PaV.zero).toArray from b)
       have PB := hid (PB.out.belowAll h)
       have HB := hid (HB.out.trans (h.mono HB.out.size))
       have hsv2 : v1.heap.size + 1 ≤ v2.heap.size := by omega
       clear b h z hfl FL2)
    | (refine wpList_load_box rfl 39 _ rfl w.heap.size rfl _ _ PB.out _ Try.underlying39 Try.infoPa ?_)
    | fail)
  refine (rthere_any i (HA.out.below HB.out)).mono ?_
  rintro e v3 ⟨rfl, hb⟩
  have PB := hid (PB.out.belowAll hb)
  have RB := hid (RB.out.belowAll hb)
  have HB := hid (HB.out.trans (hb.mono HB.out.size))
  have hsv3 : v2.heap.size ≤ v3.heap.size := hb.size
  clear hb
  by_cases hin : 0 ≤ i ∧ i < c.pr.length
  rotate_left
  · have HIn := hid hin
    rw [decide_eq_false hin]
    clear hin
    have FL3 := hid trivial
    go_wp2_with (first
      | (refine wpList_load_box rfl 39 _ rfl w.heap.size rfl _ _ PB.out _ Try.underlying39 Try.infoPa ?_)
      | (have hfl := FL3.out
         refine wpList_store_whole rfl 39 _ _ rfl rfl v1.heap.size rfl (PaV.cells q) rfl _ _ RB.out rfl Try.infoPa (PaV.one _) ?_
         intro v4 b g z
         have hsv4 : v3.heap.size ≤ v4.heap.size := by omega
         have RB := hid (show BoxAt v4 v1.heap.size 39 (PaV.cells q).toArray from b)
         have PB := hid (PB.out.grown g (fun e => by have := Option.some.inj e; omega))
         have HB := hid (HB.out.trans (grown_below g (by omega) (by omega)))
         clear b g z hfl FL3)
      | fail)
    refine bodyPost_ret (results_box_tmp rfl _ _ (v1.heap.size) 39 _ (0, 0) _ rfl RB.out Try.underlying39 rfl Try.infoPa) rfl ?_
    rw [show prioP c i n = (c, 3) from deed_out HIn.out _]
    exact ⟨q, rfl, PaS.from HA0.out (H0.out.trans (HB.out.mono h0s)), HB.out⟩
  rw [decide_eq_true hin]
  obtain ⟨k, hki⟩ : ∃ k : Nat, i = (k : Int) := ⟨i.toNat, by omega⟩
  have hk : k < c.pr.length := by omega
  clear hin
  subst hki
  by_cases hpr : n < 0 ∨ 15 < n
  · have HD := hid (show deedP c (k : Int) (prioD n) = (c, 3) from deed_idle hk _ (by unfold prioD; rw [if_pos hpr]))
    rcases hpr with hpr | hpr
    all_goals
      have FL4 := hid trivial
      go_wp2_with (first
        | (refine wpList_load_box rfl 39 _ rfl w.heap.size rfl _ _ PB.out _ Try.underlying39 Try.infoPa ?_)
        | (have hfl := FL4.out
           refine wpList_store_whole rfl 39 _ _ rfl rfl v1.heap.size rfl (PaV.cells q) rfl _ _ RB.out rfl Try.infoPa (PaV.one _) ?_
           intro v5 b g z
           have hsv5 : v3.heap.size ≤ v5.heap.size := by omega
           have RB := hid (show BoxAt v5 v1.heap.size 39 (PaV.cells q).toArray from b)
           have PB := hid (PB.out.grown g (fun e => by have := Option.some.inj e; omega))
           have HB := hid (HB.out.trans (grown_below g (by omega) (by omega)))
           clear b g z hfl FL4)
        | fail)
      refine bodyPost_ret (results_box_tmp rfl _ _ (v1.heap.size) 39 _ (0, 0) _ rfl RB.out Try.underlying39 rfl Try.infoPa) rfl ?_
      rw [show prioP c (k : Int) n = (c, 3) from HD.out]
      exact ⟨q, rfl, PaS.from HA0.out (H0.out.trans (HB.out.mono h0s)), HB.out⟩
  · have HPr := hid hpr
    have tn : decide (n < 0) = false := decide_eq_false (fun h => hpr (.inl h))
    have tm : decide ((15 : Int) < n) = false := decide_eq_false (fun h => hpr (.inr h))
    clear hpr
    obtain ⟨b1, off, rfl, hbw, hpx⟩ := HPc.out (by omega)
    have HP0 := hid (show PxAt w b1 (off + k * 18) (c.pr.getD k Px.zero) from fun j hj => hpx k hk j hj)
    clear hpx
    obtain ⟨r, hr⟩ : ∃ r, c.pr.getD k Px.zero = r := ⟨_, rfl⟩
    rw [hr] at HP0
    have HR := hid hr
    have HK := hid hk
    clear hr
    have kPB4 : v3.cell? ⟨w.heap.size, 4, none⟩ = some (.slice (some ⟨b1, off, none⟩) c.pr.length cpp) := (BoxAt.cell PB.out 4).trans (by show some q.pr.val = _; rw [HPv.out])
    by_cases hst : r.st = 0
    · have HD := hid (show (prioD n) r = ⟨r, false, 4⟩ from by unfold prioD; rw [if_neg HPr.out, if_pos hst])
      have FL5 := hid trivial
      have FL6 := hid trivial
      have FL7 := hid trivial
      go_wp2_with (first
        | (refine wpList_load_px rfl _ rfl b1 (off + k * 18) rfl r (HP0.out.below HB.out hbw) ?_)
        | (have hfl := FL5.out
           refine wpList_new rfl 58 rfl _ Try.zeroPx ?_
           intro v6 b h z
           have XB := hid (show BoxAt v6 v3.heap.size 58 (Px.cells Px.zero).toArray from b)
           have PB := hid (PB.out.belowAll h)
           have RB := hid (RB.out.belowAll h)
           have HB := hid (HB.out.trans (h.mono HB.out.size))
           have hsv6 : v3.heap.size + 1 ≤ v6.heap.size := by omega
           clear kPB4
           have kPB4 : v6.cell? ⟨w.heap.size, 4, none⟩ = some (.slice (some ⟨b1, off, none⟩) c.pr.length cpp) := (BoxAt.cell PB.out 4).trans (by show some q.pr.val = _; rw [HPv.out])
           clear b h z hfl FL5)
        | (have hfl := FL6.out
           refine wpList_store_whole rfl 58 _ _ rfl rfl v3.heap.size rfl (Px.cells r) rfl _ _ XB.out rfl Try.infoPx (Px.one _) ?_
           intro v7 b g z
           have hsv7 : v6.heap.size ≤ v7.heap.size := by omega
           have XB := hid (show BoxAt v7 v3.heap.size 58 (Px.cells r).toArray from b)
           have PB := hid (PB.out.grown g (fun e => by have := Option.some.inj e; omega))
           have RB := hid (RB.out.grown g (fun e => by have := Option.some.inj e; omega))
           have HB := hid (HB.out.trans (grown_below g (by omega) (by omega)))
           clear kPB4
           have kPB4 : v7.cell? ⟨w.heap.size, 4, none⟩ = some (.slice (some ⟨b1, off, none⟩) c.pr.length cpp) := (BoxAt.cell PB.out 4).trans (by show some q.pr.val = _; rw [HPv.out])
           have kXB0 : v7.cell? ⟨v3.heap.size, 0, none⟩ = some (.int .i64 r.st) := (BoxAt.cell XB.out 0).trans rfl
           clear b g z hfl FL6)
        | (refine wpList_load_box rfl 39 _ rfl w.heap.size rfl _ _ PB.out _ Try.underlying39 Try.infoPa ?_)
        | (have hfl := FL7.out
           refine wpList_store_whole rfl 39 _ _ rfl rfl v1.heap.size rfl (PaV.cells q) rfl _ _ RB.out rfl Try.infoPa (PaV.one _) ?_
           intro v8 b g z
           have hsv8 : v7.heap.size ≤ v8.heap.size := by omega
           have RB := hid (show BoxAt v8 v1.heap.size 39 (PaV.cells q).toArray from b)
           have PB := hid (PB.out.grown g (fun e => by have := Option.some.inj e; omega))
           have XB := hid (XB.out.grown g (fun e => by have := Option.some.inj e; omega))
           have HB := hid (HB.out.trans (grown_below g (by omega) (by omega)))
           clear kPB4
           have kPB4 : v8.cell? ⟨w.heap.size, 4, none⟩ = some (.slice (some ⟨b1, off, none⟩) c.pr.length cpp) := (BoxAt.cell PB.out 4).trans (by show some q.pr.val = _; rw [HPv.out])
           clear kXB0
           have kXB0 : v8.cell? ⟨v3.heap.size, 0, none⟩ = some (.int .i64 r.st) := (BoxAt.cell XB.out 0).trans rfl
           clear b g z hfl FL7)
        | fail)
      refine bodyPost_ret (results_box_tmp rfl _ _ (v1.heap.size) 39 _ (0, 0) _ rfl RB.out Try.underlying39 rfl Try.infoPa) rfl ?_
      rw [show prioP c (k : Int) n = (c, 4) from deed_idle HK.out _ (by rw [HR.out]; exact HD.out)]
      exact ⟨q, rfl, PaS.from HA0.out (H0.out.trans (HB.out.mono h0s)), HB.out⟩
    · have thst : (r.st == 0) = false := by simpa using hst
      by_cases h1 : r.st = 1
      · obtain ⟨x1, hx1⟩ : ∃ x : Px, { r with pr := n } = x := ⟨_, rfl⟩
        have HX1 := hid hx1
        clear hx1
        have HD := hid (show (prioD n) r = ⟨x1, true, 0⟩ from by unfold prioD; rw [if_neg HPr.out, if_neg hst, decide_eq_true h1, HX1.out])
        clear hst
        have FL8 := hid trivial
        have FL9 := hid trivial
        have FL10 := hid trivial
        go_wp2_with (first
          | (refine wpList_load_px rfl _ rfl b1 (off + k * 18) rfl r (HP0.out.below HB.out hbw) ?_)
          | (have hfl := FL8.out
             refine wpList_new rfl 58 rfl _ Try.zeroPx ?_
             intro v9 b h z
             have XB := hid (show BoxAt v9 v3.heap.size 58 (Px.cells Px.zero).toArray from b)
             have PB := hid (PB.out.belowAll h)
             have RB := hid (RB.out.belowAll h)
             have HB := hid (HB.out.trans (h.mono HB.out.size))
             have hsv9 : v3.heap.size + 1 ≤ v9.heap.size := by omega
             clear kPB4
             have kPB4 : v9.cell? ⟨w.heap.size, 4, none⟩ = some (.slice (some ⟨b1, off, none⟩) c.pr.length cpp) := (BoxAt.cell PB.out 4).trans (by show some q.pr.val = _; rw [HPv.out])
             clear b h z hfl FL8)
          | (have hfl := FL9.out
             refine wpList_store_whole rfl 58 _ _ rfl rfl v3.heap.size rfl (Px.cells r) rfl _ _ XB.out rfl Try.infoPx (Px.one _) ?_
             intro v10 b g z
             have hsv10 : v9.heap.size ≤ v10.heap.size := by omega
             have XB := hid (show BoxAt v10 v3.heap.size 58 (Px.cells r).toArray from b)
             have PB := hid (PB.out.grown g (fun e => by have := Option.some.inj e; omega))
             have RB := hid (RB.out.grown g (fun e => by have := Option.some.inj e; omega))
             have HB := hid (HB.out.trans (grown_below g (by omega) (by omega)))
             clear kPB4
             have kPB4 : v10.cell? ⟨w.heap.size, 4, none⟩ = some (.slice (some ⟨b1, off, none⟩) c.pr.length cpp) := (BoxAt.cell PB.out 4).trans (by show some q.pr.val = _; rw [HPv.out])
             have kXB0 : v10.cell? ⟨v3.heap.size, 0, none⟩ = some (.int .i64 r.st) := (BoxAt.cell XB.out 0).trans rfl
             clear b g z hfl FL9)
          | (have hfl := FL10.out
             refine wpList_store_box rfl 3 _ _ rfl rfl v3.heap.size 1 (.int .i64 n) rfl rfl rfl rfl (by kernel_rfl) _ _ XB.out (by simp [Px.cells]) ?_
             intro v11 b g z
             have hsv11 : v10.heap.size ≤ v11.heap.size := by omega
             have XB := hid (show BoxAt v11 v3.heap.size 58 (Px.cells x1).toArray by rw [← HX1.out]; simpa [Px.cells] using b)
             have PB := hid (PB.out.grown g (fun e => by have := Option.some.inj e; omega))
             have RB := hid (RB.out.grown g (fun e => by have := Option.some.inj e; omega))
             have HB := hid (HB.out.trans (grown_below g (by omega) (by omega)))
             clear kPB4
             have kPB4 : v11.cell? ⟨w.heap.size, 4, none⟩ = some (.slice (some ⟨b1, off, none⟩) c.pr.length cpp) := (BoxAt.cell PB.out 4).trans (by show some q.pr.val = _; rw [HPv.out])
             clear kXB0
             have kXB0 : v11.cell? ⟨v3.heap.size, 0, none⟩ = some (.int .i64 r.st) := (BoxAt.cell XB.out 0).trans (by rw [← HX1.out]; rfl)
             clear b g z hfl FL10)
          | (refine wpList_load_box rfl 39 _ rfl w.heap.size rfl _ _ PB.out _ Try.underlying39 Try.infoPa ?_)
          | (refine wpList_load_box rfl 58 _ rfl v3.heap.size rfl _ _ XB.out _ Try.underlying58 Try.infoPx ?_)
          | fail)
        refine (rqueued_s (x1) HA.out.nx).mono ?_
        rintro e v12 ⟨q2, y, rfl, hy, hq, hb⟩
        have PB := hid (PB.out.belowAll hb)
        have RB := hid (RB.out.belowAll hb)
        have XB := hid (XB.out.belowAll hb)
        have HB := hid (HB.out.trans (hb.mono HB.out.size))
        have hsv12 : v11.heap.size ≤ v12.heap.size := hb.size
        have HQ := hid hq
        have HY := hid hy
        clear hy hq
        clear kPB4
        have kPB4 : v12.cell? ⟨w.heap.size, 4, none⟩ = some (.slice (some ⟨b1, off, none⟩) c.pr.length cpp) := (BoxAt.cell PB.out 4).trans (by show some q.pr.val = _; rw [HPv.out])
        clear kXB0
        have kXB0 : v12.cell? ⟨v3.heap.size, 0, none⟩ = some (.int .i64 r.st) := (BoxAt.cell XB.out 0).trans (by rw [← HX1.out]; rfl)
        clear hb
        have FL11 := hid trivial
        have FL12 := hid trivial
        have FL13 := hid trivial
        have FL14 := hid trivial
        have FL15 := hid trivial
        have FL16 := hid trivial
        go_wp2_with (first
          | (have hfl := FL11.out
             refine wpList_new rfl 39 rfl _ Try.zeroPa ?_
             intro v13 b h z
             have QB := hid (show BoxAt v13 v12.heap.size 39 (PaV.cells PaV.zero).toArray from b)
             have PB := hid (PB.out.belowAll h)
             have RB := hid (RB.out.belowAll h)
             have XB := hid (XB.out.belowAll h)
             have HB := hid (HB.out.trans (h.mono HB.out.size))
             have hsv13 : v12.heap.size + 1 ≤ v13.heap.size := by omega
             clear b h z hfl FL11)
          | (have hfl := FL12.out
             refine wpList_new rfl 58 rfl _ Try.zeroPx ?_
             intro v14 b h z
             have YB := hid (show BoxAt v14 v13.heap.size 58 (Px.cells Px.zero).toArray from b)
             have PB := hid (PB.out.belowAll h)
             have RB := hid (RB.out.belowAll h)
             have XB := hid (XB.out.belowAll h)
             have QB := hid (QB.out.belowAll h)
             have HB := hid (HB.out.trans (h.mono HB.out.size))
             have hsv14 : v13.heap.size + 1 ≤ v14.heap.size := by omega
             clear b h z hfl FL12)
          | (have hfl := FL13.out
             refine wpList_store_whole rfl 39 _ _ rfl rfl v12.heap.size rfl (PaV.cells q2) rfl _ _ QB.out rfl Try.infoPa (PaV.one _) ?_
             intro v15 b g z
             have hsv15 : v14.heap.size ≤ v15.heap.size := by omega
             have QB := hid (show BoxAt v15 v12.heap.size 39 (PaV.cells q2).toArray from b)
             have PB := hid (PB.out.grown g (fun e => by have := Option.some.inj e; omega))
             have RB := hid (RB.out.grown g (fun e => by have := Option.some.inj e; omega))
             have XB := hid (XB.out.grown g (fun e => by have := Option.some.inj e; omega))
             have YB := hid (YB.out.grown g (fun e => by have := Option.some.inj e; omega))
             have HB := hid (HB.out.trans (grown_below g (by omega) (by omega)))
             clear b g z hfl FL13)
          | (have hfl := FL14.out
             refine wpList_store_whole rfl 58 _ _ rfl rfl v13.heap.size rfl (Px.cells y) rfl _ _ YB.out rfl Try.infoPx (Px.one _) ?_
             intro v16 b g z
             have hsv16 : v15.heap.size ≤ v16.heap.size := by omega
             have YB := hid (show BoxAt v16 v13.heap.size 58 (Px.cells y).toArray from b)
             have PB := hid (PB.out.grown g (fun e => by have := Option.some.inj e; omega))
             have RB := hid (RB.out.grown g (fun e => by have := Option.some.inj e; omega))
             have XB := hid (XB.out.grown g (fun e => by have := Option.some.inj e; omega))
             have QB := hid (QB.out.grown g (fun e => by have := Option.some.inj e; omega))
             have HB := hid (HB.out.trans (grown_below g (by omega) (by omega)))
             clear b g z hfl FL14)
          | (refine wpList_load_box rfl 39 _ rfl v12.heap.size rfl _ _ QB.out _ Try.underlying39 Try.infoPa ?_)
          | (have hfl := FL15.out
             refine wpList_store_whole rfl 39 _ _ rfl rfl w.heap.size rfl (PaV.cells q2) rfl _ _ PB.out rfl Try.infoPa (PaV.one _) ?_
             intro v17 b g z
             have hsv17 : v16.heap.size ≤ v17.heap.size := by omega
             have PB := hid (show BoxAt v17 w.heap.size 39 (PaV.cells q2).toArray from b)
             have RB := hid (RB.out.grown g (fun e => by have := Option.some.inj e; omega))
             have XB := hid (XB.out.grown g (fun e => by have := Option.some.inj e; omega))
             have QB := hid (QB.out.grown g (fun e => by have := Option.some.inj e; omega))
             have YB := hid (YB.out.grown g (fun e => by have := Option.some.inj e; omega))
             have HB := hid (HB.out.trans (grown_below g (by omega) (by omega)))
             clear b g z hfl FL15)
          | (refine wpList_load_box rfl 58 _ rfl v13.heap.size rfl _ _ YB.out _ Try.underlying58 Try.infoPx ?_)
          | (have hfl := FL16.out
             refine wpList_store_whole rfl 58 _ _ rfl rfl v3.heap.size rfl (Px.cells y) rfl _ _ XB.out rfl Try.infoPx (Px.one _) ?_
             intro v18 b g z
             have hsv18 : v17.heap.size ≤ v18.heap.size := by omega
             have XB := hid (show BoxAt v18 v3.heap.size 58 (Px.cells y).toArray from b)
             have PB := hid (PB.out.grown g (fun e => by have := Option.some.inj e; omega))
             have RB := hid (RB.out.grown g (fun e => by have := Option.some.inj e; omega))
             have QB := hid (QB.out.grown g (fun e => by have := Option.some.inj e; omega))
             have YB := hid (YB.out.grown g (fun e => by have := Option.some.inj e; omega))
             have HB := hid (HB.out.trans (grown_below g (by omega) (by omega)))
             clear b g z hfl FL16)
          | (refine wpList_load_box rfl 39 _ rfl w.heap.size rfl _ _ PB.out _ Try.underlying39 Try.infoPa ?_)
          | (refine wpList_load_box rfl 58 _ rfl v3.heap.size rfl _ _ XB.out _ Try.underlying58 Try.infoPx ?_)
          | fail)
        refine (rwith_s (n := w0.heap.size) (c := { c with nx := wrap64 (c.nx + 1) }) k (y) (by rw [HQ.out]; exact PaS.nx _ (PaS.from HA0.out (H0.out.trans (HB.out.mono h0s)))) (by omega) HSm.out.pr HK.out).mono ?_
        rintro e v19 ⟨q', rfl, ho, hb⟩
        have PB := hid (PB.out.belowAll hb)
        have RB := hid (RB.out.belowAll hb)
        have XB := hid (XB.out.belowAll hb)
        have QB := hid (QB.out.belowAll hb)
        have YB := hid (YB.out.belowAll hb)
        have HB := hid (HB.out.trans (hb.mono HB.out.size))
        have hsv19 : v18.heap.size ≤ v19.heap.size := hb.size
        rw [HY.out] at ho
        have HO := hid ho
        clear ho
        clear hb
        have FL17 := hid trivial
        go_wp2_with (first
          | (have hfl := FL17.out
             refine wpList_store_whole rfl 39 _ _ rfl rfl v1.heap.size rfl (PaV.cells q') rfl _ _ RB.out rfl Try.infoPa (PaV.one _) ?_
             intro v20 b g z
             have hsv20 : v19.heap.size ≤ v20.heap.size := by omega
             have HO := hid (HO.out.put (by omega) (by omega) g RB.out b)
             have RB := hid (show BoxAt v20 v1.heap.size 39 (PaV.cells q').toArray from b)
             have PB := hid (PB.out.grown g (fun e => by have := Option.some.inj e; omega))
             have XB := hid (XB.out.grown g (fun e => by have := Option.some.inj e; omega))
             have QB := hid (QB.out.grown g (fun e => by have := Option.some.inj e; omega))
             have YB := hid (YB.out.grown g (fun e => by have := Option.some.inj e; omega))
             have HB := hid (HB.out.trans (grown_below g (by omega) (by omega)))
             clear b g z hfl FL17)
          | fail)
        refine bodyPost_ret (results_box_tmp rfl _ _ (v1.heap.size) 39 _ (0, 0) _ rfl RB.out Try.underlying39 rfl Try.infoPa) rfl ?_
        rw [show prioP c (k : Int) n = ({ c with pr := c.pr.set k { x1 with si := c.nx }, nx := wrap64 (c.nx + 1) }, 0) from deed_does_q HK.out _ (by rw [HR.out]; exact HD.out)]
        exact ⟨q', rfl, HO.out, HB.out⟩
      · obtain ⟨x1, hx1⟩ : ∃ x : Px, { r with pr := n } = x := ⟨_, rfl⟩
        have HX1 := hid hx1
        clear hx1
        have HD := hid (show (prioD n) r = ⟨x1, false, 0⟩ from by unfold prioD; rw [if_neg HPr.out, if_neg hst, decide_eq_false h1, HX1.out])
        have th1 : (r.st == 1) = false := by simpa using h1
        clear hst h1
        have FL18 := hid trivial
        have FL19 := hid trivial
        have FL20 := hid trivial
        go_wp2_with (first
          | (refine wpList_load_px rfl _ rfl b1 (off + k * 18) rfl r (HP0.out.below HB.out hbw) ?_)
          | (have hfl := FL18.out
             refine wpList_new rfl 58 rfl _ Try.zeroPx ?_
             intro v21 b h z
             have XB := hid (show BoxAt v21 v3.heap.size 58 (Px.cells Px.zero).toArray from b)
             have PB := hid (PB.out.belowAll h)
             have RB := hid (RB.out.belowAll h)
             have HB := hid (HB.out.trans (h.mono HB.out.size))
             have hsv21 : v3.heap.size + 1 ≤ v21.heap.size := by omega
             clear kPB4
             have kPB4 : v21.cell? ⟨w.heap.size, 4, none⟩ = some (.slice (some ⟨b1, off, none⟩) c.pr.length cpp) := (BoxAt.cell PB.out 4).trans (by show some q.pr.val = _; rw [HPv.out])
             clear b h z hfl FL18)
          | (have hfl := FL19.out
             refine wpList_store_whole rfl 58 _ _ rfl rfl v3.heap.size rfl (Px.cells r) rfl _ _ XB.out rfl Try.infoPx (Px.one _) ?_
             intro v22 b g z
             have hsv22 : v21.heap.size ≤ v22.heap.size := by omega
             have XB := hid (show BoxAt v22 v3.heap.size 58 (Px.cells r).toArray from b)
             have PB := hid (PB.out.grown g (fun e => by have := Option.some.inj e; omega))
             have RB := hid (RB.out.grown g (fun e => by have := Option.some.inj e; omega))
             have HB := hid (HB.out.trans (grown_below g (by omega) (by omega)))
             clear kPB4
             have kPB4 : v22.cell? ⟨w.heap.size, 4, none⟩ = some (.slice (some ⟨b1, off, none⟩) c.pr.length cpp) := (BoxAt.cell PB.out 4).trans (by show some q.pr.val = _; rw [HPv.out])
             have kXB0 : v22.cell? ⟨v3.heap.size, 0, none⟩ = some (.int .i64 r.st) := (BoxAt.cell XB.out 0).trans rfl
             clear b g z hfl FL19)
          | (have hfl := FL20.out
             refine wpList_store_box rfl 3 _ _ rfl rfl v3.heap.size 1 (.int .i64 n) rfl rfl rfl rfl (by kernel_rfl) _ _ XB.out (by simp [Px.cells]) ?_
             intro v23 b g z
             have hsv23 : v22.heap.size ≤ v23.heap.size := by omega
             have XB := hid (show BoxAt v23 v3.heap.size 58 (Px.cells x1).toArray by rw [← HX1.out]; simpa [Px.cells] using b)
             have PB := hid (PB.out.grown g (fun e => by have := Option.some.inj e; omega))
             have RB := hid (RB.out.grown g (fun e => by have := Option.some.inj e; omega))
             have HB := hid (HB.out.trans (grown_below g (by omega) (by omega)))
             clear kPB4
             have kPB4 : v23.cell? ⟨w.heap.size, 4, none⟩ = some (.slice (some ⟨b1, off, none⟩) c.pr.length cpp) := (BoxAt.cell PB.out 4).trans (by show some q.pr.val = _; rw [HPv.out])
             clear kXB0
             have kXB0 : v23.cell? ⟨v3.heap.size, 0, none⟩ = some (.int .i64 r.st) := (BoxAt.cell XB.out 0).trans (by rw [← HX1.out]; rfl)
             clear b g z hfl FL20)
          | (refine wpList_load_box rfl 39 _ rfl w.heap.size rfl _ _ PB.out _ Try.underlying39 Try.infoPa ?_)
          | (refine wpList_load_box rfl 58 _ rfl v3.heap.size rfl _ _ XB.out _ Try.underlying58 Try.infoPx ?_)
          | fail)
        refine (rwith_s (n := w0.heap.size) k (x1) (PaS.from HA0.out (H0.out.trans (HB.out.mono h0s))) (by omega) HSm.out.pr HK.out).mono ?_
        rintro e v24 ⟨q', rfl, ho, hb⟩
        have PB := hid (PB.out.belowAll hb)
        have RB := hid (RB.out.belowAll hb)
        have XB := hid (XB.out.belowAll hb)
        have HB := hid (HB.out.trans (hb.mono HB.out.size))
        have hsv24 : v23.heap.size ≤ v24.heap.size := hb.size
        have HO := hid ho
        clear ho
        clear kPB4
        have kPB4 : v24.cell? ⟨w.heap.size, 4, none⟩ = some (.slice (some ⟨b1, off, none⟩) c.pr.length cpp) := (BoxAt.cell PB.out 4).trans (by show some q.pr.val = _; rw [HPv.out])
        clear kXB0
        have kXB0 : v24.cell? ⟨v3.heap.size, 0, none⟩ = some (.int .i64 r.st) := (BoxAt.cell XB.out 0).trans (by rw [← HX1.out]; rfl)
        clear hb
        have FL21 := hid trivial
        go_wp2_with (first
          | (have hfl := FL21.out
             refine wpList_store_whole rfl 39 _ _ rfl rfl v1.heap.size rfl (PaV.cells q') rfl _ _ RB.out rfl Try.infoPa (PaV.one _) ?_
             intro v25 b g z
             have hsv25 : v24.heap.size ≤ v25.heap.size := by omega
             have HO := hid (HO.out.put (by omega) (by omega) g RB.out b)
             have RB := hid (show BoxAt v25 v1.heap.size 39 (PaV.cells q').toArray from b)
             have PB := hid (PB.out.grown g (fun e => by have := Option.some.inj e; omega))
             have XB := hid (XB.out.grown g (fun e => by have := Option.some.inj e; omega))
             have HB := hid (HB.out.trans (grown_below g (by omega) (by omega)))
             clear kPB4
             have kPB4 : v25.cell? ⟨w.heap.size, 4, none⟩ = some (.slice (some ⟨b1, off, none⟩) c.pr.length cpp) := (BoxAt.cell PB.out 4).trans (by show some q.pr.val = _; rw [HPv.out])
             clear kXB0
             have kXB0 : v25.cell? ⟨v3.heap.size, 0, none⟩ = some (.int .i64 r.st) := (BoxAt.cell XB.out 0).trans (by rw [← HX1.out]; rfl)
             clear b g z hfl FL21)
          | fail)
        refine bodyPost_ret (results_box_tmp rfl _ _ (v1.heap.size) 39 _ (0, 0) _ rfl RB.out Try.underlying39 rfl Try.infoPa) rfl ?_
        rw [show prioP c (k : Int) n = ({ c with pr := c.pr.set k x1 }, 0) from deed_does HK.out _ (by rw [HR.out]; exact HD.out)]
        exact ⟨q', rfl, HO.out, HB.out⟩

end Go.Proofs.Ytfdalcfbhebloaa
