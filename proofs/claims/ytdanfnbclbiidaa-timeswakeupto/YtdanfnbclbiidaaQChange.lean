/-
  What procs.change returns, whatever is done to a process: the partition, a process of which has changed, all of it the call's own.
-/
import Derived.Test.YtdanfnbclbiidaaQWith
import Derived.Test.YtdanfnbclbiidaaQDeeds2
namespace Go.Proofs.Ytdanfnbclbiidaa
open Go.RowKit
set_option linter.unusedVariables false

/-- What is done to a process, as a function of the program. -/
def Deed (w : World) (gf : Nat) (caps : Array Value) (f : Px → Dd) : Prop :=
  ∀ W, Below w.heap.size w W → ∀ (base g cap i : Nat) (L : List Px) (P O : Nat) (r : Px) (q : PaV), PD W base g cap i L P O r q →
    Calls Try.prog gf (#[.pointer (some ⟨g, i * 18, none⟩), qv P O] ++ caps) W fun e w' => e = .returned (.int .i64 (f r).k) ∧ PD w' base g cap i L P O ((f r).out q.nx) { q with nx := (f r).nxt q.nx } ∧ TwoT g P W w'
theorem PaO.turnO {w w' : World} {base : Nat} {q : PaV} {c : Pa} (h : PaO w base q c) (ht : Turns (fun t => t = 89) w w') : PaO w' base q c :=
  ⟨h.md, h.bg, h.nx, h.me.turn (by decide) ht, h.pr.turn (by decide) ht, h.bo.turn (by decide) (by decide) ht, h.bu.turn (by decide) (by decide) (by decide) ht, h.se.turn (by decide) (by decide) ht, h.ev.turn (by decide) (by decide) ht, h.sa.turn (by decide) ht, h.qu.turn (by decide) (by decide) ht, h.ld, h.ll.turn (by decide) ht, h.lx, h.gi.turn (by decide) ht⟩
set_option maxRecDepth 100000 in
set_option maxHeartbeats 1600000 in
theorem change_any {q : PaV} {c : Pa} {w : World} (i : Int) (gf : Nat) (caps : Array Value) (f : Px → Dd) (eg : ∀ args w, (callFunc gf args).run Try.prog w = .ok (.enter gf args) w) (ha : PaAt w q c) (hn : c.small) (hd : Deed w gf caps f) :
    Calls Try.prog 45 #[q.val, .int .i64 i, .func (.func gf) #[] caps] w fun e w' => ∃ q', e = .returned (.tuple #[PaV.val q', .int .i64 (deedP c i f).2]) ∧ PaO w' w.heap.size q' (deedP c i f).1 ∧ Below w.heap.size w w' := by
  have HA := hid ha
  have HN := hid hn
  have HDe := hid hd
  have hle := hn.pr
  clear ha hn hd
  obtain ⟨⟨Dc, Dk⟩, hD⟩ : ∃ D, deedP c i f = D := ⟨_, rfl⟩
  rw [hD]
  have HSp := hid hD
  clear hD
  simp only
  go_enter Try.func45, Try.ntmps45
  go_wp2_with (first
  | (refine wpList_box rfl 39 _ rfl q.cells.toArray rfl ?_
     intro w1 b1 h1 z1
     have PB := hid (show PaB w1 w.heap.size q from b1)
     have HBc := hid h1
     clear b1 h1)
  | (refine wpList_new rfl 39 rfl _ Try.zeroPa ?_
     intro w3 b3 h3 z3
     rw [z1] at b3
     have RB := hid b3
     have PB := hid (show PaB w3 w.heap.size q from BoxAt.belowAll PB.out h3)
     have HBc := hid (HBc.out.trans (h3.mono (by omega)))
     clear b3 h3)
  | (refine wpList_load_box rfl 39 _ rfl w.heap.size rfl _ _ PB.out _ Try.underlying39 Try.infoPa ?_)
  | fail)
  refine (own_any (HA.out.below HBc.out) HN.out).mono ?_
  rintro e w4 ⟨q1, rfl, ho, hb⟩
  have HO := hid (ho.mono HBc.out.size)
  have RB := hid (RB.out.belowAll hb)
  have PB := hid (show PaB w4 w.heap.size q from BoxAt.belowAll PB.out hb)
  have hsz : w.heap.size + 2 ≤ w4.heap.size := by have := hb.size; omega
  have HBc := hid (HBc.out.trans (hb.mono HBc.out.size))
  clear ho hb z1 z3
  obtain ⟨ap, cap, hpv, hc1, hc2, hcell⟩ := HO.out.pr.sees.form
  obtain ⟨s, hs⟩ : ∃ s : Sl, q1.pr = s := ⟨_, rfl⟩
  rw [hs] at hpv
  obtain ⟨s1, s2, s3⟩ := s
  unfold Sl.val at hpv
  simp only [Value.slice.injEq] at hpv
  obtain ⟨rfl, rfl, rfl⟩ := hpv
  have HPr := hid hs
  clear hs hcell hc1 hc2
  go_wp2_with (first
  | (refine wpList_store_whole rfl 39 _ _ rfl rfl w.heap.size rfl (PaV.cells q1) rfl _ _ PB.out rfl Try.infoPa (PaV.one _) ?_
     intro w5 b g z
     have HT := hid (Turns.grown (S := fun t => t = 39) PB.out b rfl g)
     have PB := hid (show PaB w5 w.heap.size q1 from b)
     have HBc := hid (HBc.out.trans (grown_below g (Nat.le_refl _) (by omega)))
     have HO := hid (HO.out.turn HT.out)
     have RB := hid (RB.out.grown g (fun e => by have := Option.some.inj e; omega))
     have kc : w5.cell? ⟨w.heap.size, 4, none⟩ = some (.slice s1 c.pr.length s3) := (BoxAt.cell PB.out 4).trans (by simp [PaV.cells, HPr.out])
     have hsz : w.heap.size + 2 ≤ w5.heap.size := by omega
     clear b g z HT)
  | fail)
  refine (there_Px _ _ _ _ _).mono ?_
  rintro e w6 ⟨rfl, rfl⟩
  by_cases hin : 0 ≤ i ∧ i < c.pr.length
  · rw [decide_eq_true hin]
    obtain ⟨h0, h1⟩ := hin
    obtain ⟨k, rfl⟩ : ∃ k : Nat, i = (k : Int) := ⟨i.toNat, by omega⟩
    have hk : k < c.pr.length := by omega
    have hsp : deedP c k f = ({ c with pr := c.pr.set k ((f (c.pr.getD k Px.zero)).out c.nx), nx := (f (c.pr.getD k Px.zero)).nxt c.nx }, (f (c.pr.getD k Px.zero)).k) := by
      unfold deedP
      rw [if_pos ⟨h0, h1⟩, Int.toNat_natCast]
    rw [HSp.out] at hsp
    obtain ⟨rfl, rfl⟩ := Prod.mk.inj hsp
    clear hsp HSp
    have hnx := HO.out.nx
    obtain ⟨g, cap, hv, hg1, hg2, hg3, hg4⟩ := owns_formQ (show OP w6 w.heap.size (.slice s1 c.pr.length s3) c.pr by have h := HO.out.pr; rw [HPr.out] at h; exact h) (by omega)
    obtain ⟨rfl, rfl⟩ : s1 = some ⟨g, 0, none⟩ ∧ s3 = cap := by simpa using hv
    have HPW := hid (PW.start (show OP w6 w.heap.size (.slice (some ⟨g, 0, none⟩) c.pr.length s3) c.pr by have h := HO.out.pr; rw [HPr.out] at h; exact h) hk)
    have HNx := hid hnx
    have kc2 : w6.cell? ⟨w.heap.size, 4, none⟩ = some (.slice (some ⟨g, 0, none⟩) c.pr.length s3) := kc
    clear hv hnx kc
    go_wp2_with (first
    | (refine wpList_new1 rfl 89 rfl (.pointer none) rfl (by kernel_rfl) ?_
       intro w7 b7 h7 z7
       have OB := hid b7
       have RB := hid (RB.out.belowAll h7)
       have PB := hid (show PaB w7 w.heap.size q1 from BoxAt.belowAll PB.out h7)
       have HBc := hid (HBc.out.trans (h7.mono (by omega)))
       have HO := hid (HO.out.below h7)
       have HPW := hid (HPW.out.below h7)
       clear b7 h7)
    | (refine wpList_store_box rfl 89 _ _ rfl rfl w6.heap.size 0 (.pointer (some ⟨g, k * 18, none⟩)) rfl rfl rfl rfl (by kernel_rfl) _ _ OB.out (by decide) ?_
       intro w8 b8 g8 z8
       have HT := hid (Turns.grown (S := fun t => t = 89) OB.out b8 rfl g8)
       have OB := hid (show BoxAt w8 w6.heap.size 89 #[.pointer (some ⟨g, k * 18, none⟩)] by simpa using b8)
       have hne : ∀ b, b < w6.heap.size → some b ≠ some w6.heap.size := fun b hb e => by have := Option.some.inj e; omega
       have PB := hid (show PaB w8 w.heap.size q1 from BoxAt.grown PB.out g8 (hne _ (by omega)))
       have RB := hid (RB.out.grown g8 (hne _ (by omega)))
       have HBc := hid (HBc.out.trans (grown_below g8 (by omega) (by omega)))
       have HPW := hid (HPW.out.grown g8 (by omega))
       have HO := hid (HO.out.turnO HT.out)
       have HPD := hid (show PD w8 w.heap.size g s3 k c.pr w.heap.size w6.heap.size (c.pr.getD k Px.zero) q1 from ⟨HPW.out, PB.out, OB.out⟩)
       have k8 : w8.cell? ⟨w6.heap.size, 0, none⟩ = some (.pointer (some ⟨g, k * 18, none⟩)) := (OB.out.cell 0).trans rfl
       clear b8 g8 HT hne)
    | fail)
    have hd := HDe.out w8 HBc.out w.heap.size g s3 k c.pr w.heap.size w6.heap.size _ q1 HPD.out
    obtain ⟨r, hr⟩ : ∃ r, c.pr.getD k Px.zero = r := ⟨_, rfl⟩
    rw [hr] at hd HPD
    have HDo := hid hd
    have HR := hid hr
    clear hd hr HDe HPW
    unfold qv at HDo
    refine HDo.out.mono ?_
    rintro e w9 ⟨rfl, hpd, ht⟩
    have hb1 : PaB w8 w.heap.size q1 := PB.out
    have ho9 : OP w9 w.heap.size q1.pr.val (c.pr.set k ((f r).out q1.nx)) := by
      rw [HPr.out]
      have h := hpd.pw.stop
      exact h
    have HO9 := hid (HO.out.procs (by unfold SP; decide) (by unfold SP; decide) (by unfold SP; decide) (by unfold SP; decide) (by unfold SP; decide) (by unfold SP; decide) (by unfold SP; decide) (by unfold SP; decide) ht.t (c.pr.set k ((f r).out q1.nx)) ((f r).nxt q1.nx) ho9)
    have PB9 := hid hpd.pb
    have hsz9 : w.heap.size + 2 ≤ w9.heap.size := by have := ht.t.size; omega
    have HB9 := hid (show Below w.heap.size w w9 from HBc.out.trans ⟨ht.t.os, ht.t.tape, ht.t.output, ht.t.size, fun b hb => ht.b b (by omega) (by omega) (by omega)⟩)
    have hgR : g ≠ w.heap.size + 1 := by
      obtain ⟨cs, hb, _, _⟩ := HPD.out.pw.box
      exact box_ne hb RB.out (by decide)
    have RB9 := hid (show BoxAt w9 (w.heap.size + 1) 39 _ from (ht.b _ (by omega) (Ne.symm hgR) (by omega)).trans RB.out)
    clear hpd ht ho9 HDo HPD PB RB HBc HO
    go_wp2_with (first
    | (refine wpList_load_box rfl 39 _ rfl w.heap.size rfl _ _ PB9.out _ Try.underlying39 Try.infoPa ?_)
    | (refine wpList_store_whole rfl 39 _ _ rfl rfl (w.heap.size + 1) rfl (PaV.cells { q1 with nx := (f r).nxt q1.nx }) rfl _ _ RB9.out rfl Try.infoPa (PaV.one _) ?_
       intro wz b g' z
       have HT := hid (Turns.grown (S := fun t => t = 39) RB9.out b rfl g')
       have RB := hid b
       have HB9 := hid (HB9.out.trans (grown_below g' (by omega) (by omega)))
       have HO := hid (HO9.out.turn HT.out)
       clear b g' z))
    refine bodyPost_ret (results_box_tmp rfl _ _ (w.heap.size + 1) 39 _ (0, 0) _ rfl RB.out Try.underlying39 rfl Try.infoPa) rfl ?_
    refine ⟨{ q1 with nx := (f r).nxt q1.nx }, ?_, ?_, HB9.out⟩
    · rw [HR.out]; rfl
    · have h := HO.out
      rw [HR.out, ← HNx.out]
      exact h
  · rw [decide_eq_false hin]
    have hsp : deedP c i f = (c, 3) := by unfold deedP; rw [if_neg hin]
    rw [HSp.out] at hsp
    obtain ⟨rfl, rfl⟩ := Prod.mk.inj hsp
    clear hsp HSp kc HDe
    go_wp2_with (first
    | (refine wpList_load_box rfl 39 _ rfl w.heap.size rfl _ _ PB.out _ Try.underlying39 Try.infoPa ?_)
    | (refine wpList_store_whole rfl 39 _ _ rfl rfl (w.heap.size + 1) rfl (PaV.cells q1) rfl _ _ RB.out rfl Try.infoPa (PaV.one _) ?_
       intro wz b g' z
       have HT := hid (Turns.grown (S := fun t => t = 39) RB.out b rfl g')
       have RB := hid b
       have HBc := hid (HBc.out.trans (grown_below g' (by omega) (by omega)))
       have HO := hid (HO.out.turn HT.out)
       clear b g' z))
    refine bodyPost_ret (results_box_tmp rfl _ _ (w.heap.size + 1) 39 _ (0, 0) _ rfl RB.out Try.underlying39 rfl Try.infoPa) rfl ?_
    exact ⟨q1, rfl, HO.out, HBc.out⟩
end Go.Proofs.Ytdanfnbclbiidaa
