/-
  What the document's Late returns.
-/
import Derived.Test.YtdanfnbclbiidaaURef1
import Derived.Test.YtdanfnbclbiidaaU2
namespace Go.Proofs.Ytdanfnbclbiidaa
open Go.RowKit
set_option linter.unusedVariables false

theorem box_apart {w : World} {base g : Nat} {u : Value} {L : List Int} {t : TypeId} {cs : Array Value} (ho : OI w base u L) (h : BoxAt w g t cs) (ht : t ≠ 3) : some g ≠ u.ownBlock := by
  intro e
  rcases ho.2 with ⟨h2, _⟩ | ⟨g2, cap2, cur2, hv2, hb2, hh2, hrest2⟩
  · rw [h2] at e; simp [Value.ownBlock] at e
  · subst hv2
    simp only [Value.ownBlock, Option.some.injEq] at e
    subst e
    rw [show w.heap[g]? = _ from h] at hh2
    have := Option.some.inj hh2
    injection this with _ h5
    exact absurd h5 ht
theorem owns_keep {w w' : World} {base size n : Nat} {e : TypeId} {v : Value} {xs : List Value} {row : Option Nat} (h : w.ownsRow base e size v n xs) (hg : w.grownBy w' row) (hne : ∀ k, v.ownBlock = some k → some k ≠ row) : w'.ownsRow base e size v n xs := by
  refine ⟨h.1, ?_⟩
  rcases h.2 with h1 | ⟨g, cap, cur, hv, hb, hh, hrest⟩
  · exact .inl h1
  · subst hv
    have hl : g < w.heap.size := (World.ownsRow.lt h g rfl).2
    exact .inr ⟨g, cap, cur, rfl, hb, (hg.block g hl (hne g rfl)).trans hh, hrest⟩
theorem own_apart {w : World} {base base' : Nat} {u v : Value} {l : List Px} {L : List Int} (h : OP w base v l) (ho : OI w base' u L) : ∀ k, v.ownBlock = some k → some k ≠ u.ownBlock := by
  intro k hk e
  rcases h.2 with ⟨h1, _⟩ | ⟨g, cap, cur, hv, hb, hh, hrest⟩
  · rw [h1] at hk; simp [Value.ownBlock] at hk
  · rcases ho.2 with ⟨h2, _⟩ | ⟨g2, cap2, cur2, hv2, hb2, hh2, hrest2⟩
    · rw [h2] at e; simp [Value.ownBlock] at e
    · subst hv
      subst hv2
      simp only [Value.ownBlock, Option.some.injEq] at hk e
      subst hk
      subst e
      rw [hh] at hh2
      have := Option.some.inj hh2
      injection this with _ h5
      exact absurd h5 (by decide)
/-- p is q, with its processes anew: l. -/
def LateP (q : PaV) (c : Pa) (base top : Nat) (w : World) (p : PaV) (l : List Px) : Prop := ∃ s : Sl, p = { q with pr := s } ∧ ((s = q.pr ∧ l = c.pr) ∨ (OP w base s.val l ∧ ∀ k, s.val.ownBlock = some k → k < top))
theorem LateP.first {q : PaV} {c : Pa} {base top : Nat} {w : World} : LateP q c base top w q c.pr := ⟨q.pr, rfl, .inl ⟨rfl, rfl⟩⟩
theorem LateP.now {q : PaV} {c : Pa} {base top : Nat} {w : World} {p : PaV} {l : List Px} (h : LateP q c base top w p l) : LateP q c base w.heap.size w p l := by
  obtain ⟨s, hp, h⟩ := h
  exact ⟨s, hp, h.imp_right fun h => ⟨h.1, fun k hk => (h.1.lt k hk).2⟩⟩
theorem LateP.below {q : PaV} {c : Pa} {base top : Nat} {w w' : World} {p : PaV} {l : List Px} (h : LateP q c base top w p l) (hb : Below w.heap.size w w') : LateP q c base top w' p l := by
  obtain ⟨s, hp, h⟩ := h
  exact ⟨s, hp, h.imp_right fun h => ⟨h.1.below hb, h.2⟩⟩
theorem LateP.other {q : PaV} {c : Pa} {base top g : Nat} {w w' : World} {p : PaV} {l : List Px} (h : LateP q c base top w p l) (hg : w.grownBy w' (some g)) (ht : top ≤ g) : LateP q c base top w' p l := by
  obtain ⟨s, hp, h⟩ := h
  exact ⟨s, hp, h.imp_right fun h => ⟨owns_keep h.1 hg (fun k hk e => by have := h.2 k hk; have := Option.some.inj e; omega), h.2⟩⟩
theorem LateP.app {q : PaV} {c : Pa} {base base' top : Nat} {w w' : World} {p : PaV} {l : List Px} {u : Value} {L : List Int} (h : LateP q c base top w p l) (ho : OI w base' u L) (hg : w.grownBy w' u.ownBlock) : LateP q c base top w' p l := by
  obtain ⟨s, hp, h⟩ := h
  exact ⟨s, hp, h.imp_right fun h => ⟨owns_keep h.1 hg (own_apart h.1 ho), h.2⟩⟩
theorem LateP.turn {q : PaV} {c : Pa} {base top : Nat} {w w' : World} {p : PaV} {l : List Px} (h : LateP q c base top w p l) (ht : Turns (fun t => t = 39) w w') : LateP q c base top w' p l := by
  obtain ⟨s, hp, h⟩ := h
  exact ⟨s, hp, h.imp_right fun h => ⟨h.1.turn (by decide) ht, h.2⟩⟩
theorem LateP.set {q : PaV} {c : Pa} {base base' top : Nat} {w w' : World} {p : PaV} {s : Sl} {l l' : List Px} (h : LateP q c base top w p l) (ho : OP w' base' s.val l') (hb : base ≤ base') : LateP q c base w'.heap.size w' { p with pr := s } l' := by
  obtain ⟨s0, hp, _⟩ := h
  subst hp
  exact ⟨s, rfl, .inr ⟨ho.mono hb, fun k hk => (ho.lt k hk).2⟩⟩
theorem LateP.at {q : PaV} {c : Pa} {base top : Nat} {w : World} {p : PaV} {l : List Px} (h : LateP q c base top w p l) (ha : PaAt w q c) : PaAt w p { c with pr := l } := by
  obtain ⟨s, rfl, ⟨rfl, rfl⟩ | h⟩ := h
  · exact ha
  · exact ⟨ha.md, ha.bg, ha.nx, ha.me, h.1.sees, ha.bo, ha.bu, ha.se, ha.ev, ha.sa, ha.qu, ha.ld, ha.ll, ha.lx, ha.gi⟩
theorem LateP.done {q : PaV} {c : Pa} {base top : Nat} {w0 w : World} {p : PaV} {l : List Px} (h : LateP q c base top w p l) (ha : PaAt w0 q c) (h0 : Below w0.heap.size w0 w) : PaS w0.heap.size w p { c with pr := l } := by
  obtain ⟨s, rfl, ⟨rfl, rfl⟩ | h⟩ := h
  · exact PaS.from ha h0
  · exact PaS.pr (PaS.from ha h0) h0.size (Below.refl _ _) h.1

set_option maxRecDepth 100000 in
set_option maxHeartbeats 3200000 in
theorem rlate_any {q : PaV} {c : Pa} {w0 w : World} {now : Int} (ha : PaAt w0 q c) (h0 : Below w0.heap.size w0 w) (hsm : c.small) :
    Calls Try.prog 15 #[q.val, .int .i64 now] w fun e w' => ∃ v q', e = .returned (.tuple #[v, PaV.val q']) ∧ OI w' w.heap.size v ((lateL c now).map fun i : Nat => (i : Int)) ∧ PaS w0.heap.size w' q' (lateC c now) ∧ Below w.heap.size w w' := by
  have HA0 := hid ha
  have H0 := hid h0
  have h0s : w0.heap.size ≤ w.heap.size := h0.size
  have HSm := hid hsm
  have HB := hid (Below.refl w.heap.size w)
  clear ha h0 hsm
  obtain ⟨N, hN⟩ : ∃ N, c.pr.length = N := ⟨_, rfl⟩
  have HN := hid hN
  have hN9 : N ≤ 900000 := by rw [← hN]; exact HSm.out.pr
  clear hN
  go_enter Try.func15, Try.ntmps15
  have FL1 := hid trivial
  have FL2 := hid trivial
  go_wp2_with (first
    | (have hfl := FL1.out
       refine wpList_box rfl 39 (.tmp 0) rfl (PaV.cells q).toArray rfl ?_
       intro v1 b h z
       have PB := hid (show BoxAt v1 w.heap.size 39 (PaV.cells q).toArray from b)
       have HB := hid (HB.out.trans (h.mono HB.out.size))
       have hsv1 : w.heap.size + 1 ≤ v1.heap.size := by omega
       clear b h z hfl FL1)
    | (have hfl := FL2.out
       refine wpList_new rfl 39 rfl _ Try.zeroPa ?_
       intro v2 b h z
       have RB := hid (show BoxAt v2 v1.heap.size 39 (PaV.cells PaV.zero).toArray from b)
       have PB := hid (PB.out.belowAll h)
       have HB := hid (HB.out.trans (h.mono HB.out.size))
       have hsv2 : v1.heap.size + 1 ≤ v2.heap.size := by omega
       clear b h z hfl FL2)
    | fail)
  have HO := hid (show OI v2 v2.heap.size (.slice none 0 0) (lateI c now 0) from ⟨rfl, .inl ⟨rfl, rfl⟩⟩)
  have HL := hid (show LateP q c w.heap.size v2.heap.size v2 q (lateS c now 0).pr from by rw [lateS_zero]; exact LateP.first)
  go_loopw [6, 7] (fun s t wr => ∃ (k : Nat) (p : PaV), k ≤ N ∧ t = .int .i64 k ∧ Hid (OI wr v2.heap.size s (lateI c now k)) ∧ Hid (LateP q c w.heap.size wr.heap.size wr p (lateS c now k).pr) ∧ Hid (BoxAt wr w.heap.size 39 (PaV.cells p).toArray) ∧ Hid (BoxAt wr v1.heap.size 39 (PaV.cells PaV.zero).toArray) ∧ Hid (Below w.heap.size w wr) ∧ v2.heap.size ≤ wr.heap.size) (fun _ t _ => N - (intOf t).toNat)
  case atStart => exact ⟨0, q, Nat.zero_le _, rfl, HO, HL, PB, RB, HB, Nat.le_refl _⟩
  case round =>
    clear PB RB HB HO HL
    obtain ⟨k, p, hk, rfl, HO, HL, PB, RB, HB, hsr⟩ := hrel
    have HAt := hid (HL.out.at (HA0.out.below (H0.out.trans (HB.out.mono h0s))))
    obtain ⟨l, hl⟩ : ∃ l, (lateS c now k).pr = l := ⟨_, rfl⟩
    have HLl := hid hl
    have hln : l.length = N := by rw [← hl, lateS_len, HN.out]
    rw [hl] at HL HAt
    clear hl
    obtain ⟨ap, cpp, hpv, hp1, hp2, hpcell⟩ := HAt.out.pr.form
    simp only at hpv hp1 hpcell
    rw [hln] at hpv hp1
    have hmax : cpp ≤ 9223372036854775807 := hp2
    have HPv := hid hpv
    have HLn := hid hln
    clear hpv hp2
    by_cases hlt : k < N
    · obtain ⟨b1, off, hap, hbw, hpx⟩ := hpcell (by rw [hln]; omega)
      subst hap
      obtain ⟨r, hr⟩ : ∃ r, c.pr.getD k Px.zero = r := ⟨_, rfl⟩
      have HR := hid hr
      have HGe := hid (show l.getD k Px.zero = r by rw [← HLl.out, lateS_ge c now (Nat.le_refl k) (by rw [HN.out]; omega), hr])
      have HP0 := hid (show PxAt wr b1 (off + k * 18) r from by rw [← HGe.out]; exact fun j hj => hpx k (by rw [hln]; exact hlt) j hj)
      have HLt := hid hlt
      clear hpx hr hln
      have hkI : (k : Int) < (N : Int) := by omega
      clear hlt
      have kPB4 : wr.cell? ⟨w.heap.size, 4, none⟩ = some (.slice (some ⟨b1, off, none⟩) N cpp) := (BoxAt.cell PB.out 4).trans (by show some p.pr.val = _; rw [HPv.out])
      by_cases e0 : r.st = 0
      · have t0 : (r.st == 0) = true := by simpa using e0
        have HT := hid (show ¬ (r.st ≠ 0 ∧ ¬ (r.st = 2 ∧ r.ki = 2) ∧ 0 ≤ r.du ∧ r.du ≤ now) from fun h => h.1 e0)
        clear e0
        have HNo := hid (show lateX now r = false from by have h := HT.out; rw [Bool.eq_false_iff]; intro h2; rw [lateX_iff] at h2; exact h h2)
        have FL3 := hid trivial
        have FL4 := hid trivial
        go_wp2_with (first
          | (refine wpList_load_px rfl _ rfl b1 (off + k * 18) rfl r HP0.out ?_)
          | (have hfl := FL3.out
             refine wpList_new rfl 57 rfl _ Try.zeroPx ?_
             intro v3 b h z
             have XB := hid (show BoxAt v3 wr.heap.size 57 (Px.cells Px.zero).toArray from b)
             have PB := hid (PB.out.belowAll h)
             have RB := hid (RB.out.belowAll h)
             have HO := hid (HO.out.below h)
             have HL := hid (HL.out.below h)
             have HB := hid (HB.out.trans (h.mono HB.out.size))
             have hsv3 : wr.heap.size + 1 ≤ v3.heap.size := by omega
             clear kPB4
             have kPB4 : v3.cell? ⟨w.heap.size, 4, none⟩ = some (.slice (some ⟨b1, off, none⟩) N cpp) := (BoxAt.cell PB.out 4).trans (by show some p.pr.val = _; rw [HPv.out])
             clear b h z hfl FL3)
          | (have hfl := FL4.out
             refine wpList_store_whole rfl 57 _ _ rfl rfl wr.heap.size rfl (Px.cells r) rfl _ _ XB.out rfl Try.infoPx (Px.one _) ?_
             intro v4 b g z
             have hsv4 : v3.heap.size ≤ v4.heap.size := by omega
             have HO := hid (OI.turn (S := fun t => t = 57) HO.out (by decide) (Turns.grown (S := fun t => t = 57) XB.out b rfl g))
             have HL := hid (HL.out.other g (by omega))
             have XB := hid (show BoxAt v4 wr.heap.size 57 (Px.cells r).toArray from b)
             have PB := hid (PB.out.grown g (fun e => by have := Option.some.inj e; omega))
             have RB := hid (RB.out.grown g (fun e => by have := Option.some.inj e; omega))
             have HB := hid (HB.out.trans (grown_below g (by omega) (by omega)))
             clear kPB4
             have kPB4 : v4.cell? ⟨w.heap.size, 4, none⟩ = some (.slice (some ⟨b1, off, none⟩) N cpp) := (BoxAt.cell PB.out 4).trans (by show some p.pr.val = _; rw [HPv.out])
             have kXB0 : v4.cell? ⟨wr.heap.size, 0, none⟩ = some (.int .i64 r.st) := (BoxAt.cell XB.out 0).trans rfl
             have kXB10 : v4.cell? ⟨wr.heap.size, 10, none⟩ = some (.int .i64 r.ki) := (BoxAt.cell XB.out 10).trans rfl
             have kXB12 : v4.cell? ⟨wr.heap.size, 12, none⟩ = some (.int .i64 r.du) := (BoxAt.cell XB.out 12).trans rfl
             clear b g z hfl FL4)
          | fail)
        go_roundw
        case rel => exact ⟨k + 1, p, by have := HLt.out; omega, by go_num, by rw [lateI_no (by rw [HR.out]; exact HNo.out)]; exact HO, by rw [lateS_skip c now (by rw [HN.out]; exact HLt.out) (by rw [HR.out]; exact HNo.out), HLl.out]; exact hid HL.out.now, PB, RB, HB, by omega⟩
        case measure => have := HLt.out; simp [intOf]; omega
      · have t0 : (r.st == 0) = false := by simpa using e0
        by_cases e2 : r.st = 2
        · have t2 : (r.st == 2) = true := by simpa using e2
          by_cases ek : r.ki = 2
          · have tk : (r.ki == 2) = true := by simpa using ek
            have HT := hid (show ¬ (r.st ≠ 0 ∧ ¬ (r.st = 2 ∧ r.ki = 2) ∧ 0 ≤ r.du ∧ r.du ≤ now) from fun h => h.2.1 ⟨e2, ek⟩)
            clear e0 e2 ek
            have HNo := hid (show lateX now r = false from by have h := HT.out; rw [Bool.eq_false_iff]; intro h2; rw [lateX_iff] at h2; exact h h2)
            have FL5 := hid trivial
            have FL6 := hid trivial
            go_wp2_with (first
              | (refine wpList_load_px rfl _ rfl b1 (off + k * 18) rfl r HP0.out ?_)
              | (have hfl := FL5.out
                 refine wpList_new rfl 57 rfl _ Try.zeroPx ?_
                 intro v5 b h z
                 have XB := hid (show BoxAt v5 wr.heap.size 57 (Px.cells Px.zero).toArray from b)
                 have PB := hid (PB.out.belowAll h)
                 have RB := hid (RB.out.belowAll h)
                 have HO := hid (HO.out.below h)
                 have HL := hid (HL.out.below h)
                 have HB := hid (HB.out.trans (h.mono HB.out.size))
                 have hsv5 : wr.heap.size + 1 ≤ v5.heap.size := by omega
                 clear kPB4
                 have kPB4 : v5.cell? ⟨w.heap.size, 4, none⟩ = some (.slice (some ⟨b1, off, none⟩) N cpp) := (BoxAt.cell PB.out 4).trans (by show some p.pr.val = _; rw [HPv.out])
                 clear b h z hfl FL5)
              | (have hfl := FL6.out
                 refine wpList_store_whole rfl 57 _ _ rfl rfl wr.heap.size rfl (Px.cells r) rfl _ _ XB.out rfl Try.infoPx (Px.one _) ?_
                 intro v6 b g z
                 have hsv6 : v5.heap.size ≤ v6.heap.size := by omega
                 have HO := hid (OI.turn (S := fun t => t = 57) HO.out (by decide) (Turns.grown (S := fun t => t = 57) XB.out b rfl g))
                 have HL := hid (HL.out.other g (by omega))
                 have XB := hid (show BoxAt v6 wr.heap.size 57 (Px.cells r).toArray from b)
                 have PB := hid (PB.out.grown g (fun e => by have := Option.some.inj e; omega))
                 have RB := hid (RB.out.grown g (fun e => by have := Option.some.inj e; omega))
                 have HB := hid (HB.out.trans (grown_below g (by omega) (by omega)))
                 clear kPB4
                 have kPB4 : v6.cell? ⟨w.heap.size, 4, none⟩ = some (.slice (some ⟨b1, off, none⟩) N cpp) := (BoxAt.cell PB.out 4).trans (by show some p.pr.val = _; rw [HPv.out])
                 have kXB0 : v6.cell? ⟨wr.heap.size, 0, none⟩ = some (.int .i64 r.st) := (BoxAt.cell XB.out 0).trans rfl
                 have kXB10 : v6.cell? ⟨wr.heap.size, 10, none⟩ = some (.int .i64 r.ki) := (BoxAt.cell XB.out 10).trans rfl
                 have kXB12 : v6.cell? ⟨wr.heap.size, 12, none⟩ = some (.int .i64 r.du) := (BoxAt.cell XB.out 12).trans rfl
                 clear b g z hfl FL6)
              | fail)
            go_roundw
            case rel => exact ⟨k + 1, p, by have := HLt.out; omega, by go_num, by rw [lateI_no (by rw [HR.out]; exact HNo.out)]; exact HO, by rw [lateS_skip c now (by rw [HN.out]; exact HLt.out) (by rw [HR.out]; exact HNo.out), HLl.out]; exact hid HL.out.now, PB, RB, HB, by omega⟩
            case measure => have := HLt.out; simp [intOf]; omega
          · have tk : (r.ki == 2) = false := by simpa using ek
            have HQ := hid (show r.st ≠ 0 ∧ ¬ (r.st = 2 ∧ r.ki = 2) from ⟨e0, fun h => ek h.2⟩)
            clear e0 e2 ek
            by_cases ed : r.du < 0
            · have td : decide (r.du < 0) = true := decide_eq_true ed
              have HT := hid (show ¬ (r.st ≠ 0 ∧ ¬ (r.st = 2 ∧ r.ki = 2) ∧ 0 ≤ r.du ∧ r.du ≤ now) from fun h => by have := h.2.2.1; omega)
              clear ed
              have HNo := hid (show lateX now r = false from by have h := HT.out; rw [Bool.eq_false_iff]; intro h2; rw [lateX_iff] at h2; exact h h2)
              have FL7 := hid trivial
              have FL8 := hid trivial
              go_wp2_with (first
                | (refine wpList_load_px rfl _ rfl b1 (off + k * 18) rfl r HP0.out ?_)
                | (have hfl := FL7.out
                   refine wpList_new rfl 57 rfl _ Try.zeroPx ?_
                   intro v7 b h z
                   have XB := hid (show BoxAt v7 wr.heap.size 57 (Px.cells Px.zero).toArray from b)
                   have PB := hid (PB.out.belowAll h)
                   have RB := hid (RB.out.belowAll h)
                   have HO := hid (HO.out.below h)
                   have HL := hid (HL.out.below h)
                   have HB := hid (HB.out.trans (h.mono HB.out.size))
                   have hsv7 : wr.heap.size + 1 ≤ v7.heap.size := by omega
                   clear kPB4
                   have kPB4 : v7.cell? ⟨w.heap.size, 4, none⟩ = some (.slice (some ⟨b1, off, none⟩) N cpp) := (BoxAt.cell PB.out 4).trans (by show some p.pr.val = _; rw [HPv.out])
                   clear b h z hfl FL7)
                | (have hfl := FL8.out
                   refine wpList_store_whole rfl 57 _ _ rfl rfl wr.heap.size rfl (Px.cells r) rfl _ _ XB.out rfl Try.infoPx (Px.one _) ?_
                   intro v8 b g z
                   have hsv8 : v7.heap.size ≤ v8.heap.size := by omega
                   have HO := hid (OI.turn (S := fun t => t = 57) HO.out (by decide) (Turns.grown (S := fun t => t = 57) XB.out b rfl g))
                   have HL := hid (HL.out.other g (by omega))
                   have XB := hid (show BoxAt v8 wr.heap.size 57 (Px.cells r).toArray from b)
                   have PB := hid (PB.out.grown g (fun e => by have := Option.some.inj e; omega))
                   have RB := hid (RB.out.grown g (fun e => by have := Option.some.inj e; omega))
                   have HB := hid (HB.out.trans (grown_below g (by omega) (by omega)))
                   clear kPB4
                   have kPB4 : v8.cell? ⟨w.heap.size, 4, none⟩ = some (.slice (some ⟨b1, off, none⟩) N cpp) := (BoxAt.cell PB.out 4).trans (by show some p.pr.val = _; rw [HPv.out])
                   have kXB0 : v8.cell? ⟨wr.heap.size, 0, none⟩ = some (.int .i64 r.st) := (BoxAt.cell XB.out 0).trans rfl
                   have kXB10 : v8.cell? ⟨wr.heap.size, 10, none⟩ = some (.int .i64 r.ki) := (BoxAt.cell XB.out 10).trans rfl
                   have kXB12 : v8.cell? ⟨wr.heap.size, 12, none⟩ = some (.int .i64 r.du) := (BoxAt.cell XB.out 12).trans rfl
                   clear b g z hfl FL8)
                | fail)
              go_roundw
              case rel => exact ⟨k + 1, p, by have := HLt.out; omega, by go_num, by rw [lateI_no (by rw [HR.out]; exact HNo.out)]; exact HO, by rw [lateS_skip c now (by rw [HN.out]; exact HLt.out) (by rw [HR.out]; exact HNo.out), HLl.out]; exact hid HL.out.now, PB, RB, HB, by omega⟩
              case measure => have := HLt.out; simp [intOf]; omega
            · have td : decide (r.du < 0) = false := decide_eq_false ed
              by_cases en : now < r.du
              · have tn : decide (now < r.du) = true := decide_eq_true en
                have HT := hid (show ¬ (r.st ≠ 0 ∧ ¬ (r.st = 2 ∧ r.ki = 2) ∧ 0 ≤ r.du ∧ r.du ≤ now) from fun h => by have := h.2.2.2; omega)
                clear ed en
                have HNo := hid (show lateX now r = false from by have h := HT.out; rw [Bool.eq_false_iff]; intro h2; rw [lateX_iff] at h2; exact h h2)
                have FL9 := hid trivial
                have FL10 := hid trivial
                go_wp2_with (first
                  | (refine wpList_load_px rfl _ rfl b1 (off + k * 18) rfl r HP0.out ?_)
                  | (have hfl := FL9.out
                     refine wpList_new rfl 57 rfl _ Try.zeroPx ?_
                     intro v9 b h z
                     have XB := hid (show BoxAt v9 wr.heap.size 57 (Px.cells Px.zero).toArray from b)
                     have PB := hid (PB.out.belowAll h)
                     have RB := hid (RB.out.belowAll h)
                     have HO := hid (HO.out.below h)
                     have HL := hid (HL.out.below h)
                     have HB := hid (HB.out.trans (h.mono HB.out.size))
                     have hsv9 : wr.heap.size + 1 ≤ v9.heap.size := by omega
                     clear kPB4
                     have kPB4 : v9.cell? ⟨w.heap.size, 4, none⟩ = some (.slice (some ⟨b1, off, none⟩) N cpp) := (BoxAt.cell PB.out 4).trans (by show some p.pr.val = _; rw [HPv.out])
                     clear b h z hfl FL9)
                  | (have hfl := FL10.out
                     refine wpList_store_whole rfl 57 _ _ rfl rfl wr.heap.size rfl (Px.cells r) rfl _ _ XB.out rfl Try.infoPx (Px.one _) ?_
                     intro v10 b g z
                     have hsv10 : v9.heap.size ≤ v10.heap.size := by omega
                     have HO := hid (OI.turn (S := fun t => t = 57) HO.out (by decide) (Turns.grown (S := fun t => t = 57) XB.out b rfl g))
                     have HL := hid (HL.out.other g (by omega))
                     have XB := hid (show BoxAt v10 wr.heap.size 57 (Px.cells r).toArray from b)
                     have PB := hid (PB.out.grown g (fun e => by have := Option.some.inj e; omega))
                     have RB := hid (RB.out.grown g (fun e => by have := Option.some.inj e; omega))
                     have HB := hid (HB.out.trans (grown_below g (by omega) (by omega)))
                     clear kPB4
                     have kPB4 : v10.cell? ⟨w.heap.size, 4, none⟩ = some (.slice (some ⟨b1, off, none⟩) N cpp) := (BoxAt.cell PB.out 4).trans (by show some p.pr.val = _; rw [HPv.out])
                     have kXB0 : v10.cell? ⟨wr.heap.size, 0, none⟩ = some (.int .i64 r.st) := (BoxAt.cell XB.out 0).trans rfl
                     have kXB10 : v10.cell? ⟨wr.heap.size, 10, none⟩ = some (.int .i64 r.ki) := (BoxAt.cell XB.out 10).trans rfl
                     have kXB12 : v10.cell? ⟨wr.heap.size, 12, none⟩ = some (.int .i64 r.du) := (BoxAt.cell XB.out 12).trans rfl
                     clear b g z hfl FL10)
                  | fail)
                go_roundw
                case rel => exact ⟨k + 1, p, by have := HLt.out; omega, by go_num, by rw [lateI_no (by rw [HR.out]; exact HNo.out)]; exact HO, by rw [lateS_skip c now (by rw [HN.out]; exact HLt.out) (by rw [HR.out]; exact HNo.out), HLl.out]; exact hid HL.out.now, PB, RB, HB, by omega⟩
                case measure => have := HLt.out; simp [intOf]; omega
              · have tn : decide (now < r.du) = false := decide_eq_false en
                have HT := hid (show r.st ≠ 0 ∧ ¬ (r.st = 2 ∧ r.ki = 2) ∧ 0 ≤ r.du ∧ r.du ≤ now from ⟨HQ.out.1, HQ.out.2, by omega, by omega⟩)
                clear ed en
                have HYes := hid (show lateX now r = true from (lateX_iff now r).2 HT.out)
                have FL11 := hid trivial
                have FL12 := hid trivial
                go_wp2_with (first
                  | (refine wpList_load_px rfl _ rfl b1 (off + k * 18) rfl r HP0.out ?_)
                  | (have hfl := FL11.out
                     refine wpList_new rfl 57 rfl _ Try.zeroPx ?_
                     intro v11 b h z
                     have XB := hid (show BoxAt v11 wr.heap.size 57 (Px.cells Px.zero).toArray from b)
                     have PB := hid (PB.out.belowAll h)
                     have RB := hid (RB.out.belowAll h)
                     have HO := hid (HO.out.below h)
                     have HL := hid (HL.out.below h)
                     have HB := hid (HB.out.trans (h.mono HB.out.size))
                     have hsv11 : wr.heap.size + 1 ≤ v11.heap.size := by omega
                     clear kPB4
                     have kPB4 : v11.cell? ⟨w.heap.size, 4, none⟩ = some (.slice (some ⟨b1, off, none⟩) N cpp) := (BoxAt.cell PB.out 4).trans (by show some p.pr.val = _; rw [HPv.out])
                     clear b h z hfl FL11)
                  | (have hfl := FL12.out
                     refine wpList_store_whole rfl 57 _ _ rfl rfl wr.heap.size rfl (Px.cells r) rfl _ _ XB.out rfl Try.infoPx (Px.one _) ?_
                     intro v12 b g z
                     have hsv12 : v11.heap.size ≤ v12.heap.size := by omega
                     have HO := hid (OI.turn (S := fun t => t = 57) HO.out (by decide) (Turns.grown (S := fun t => t = 57) XB.out b rfl g))
                     have HL := hid (HL.out.other g (by omega))
                     have XB := hid (show BoxAt v12 wr.heap.size 57 (Px.cells r).toArray from b)
                     have PB := hid (PB.out.grown g (fun e => by have := Option.some.inj e; omega))
                     have RB := hid (RB.out.grown g (fun e => by have := Option.some.inj e; omega))
                     have HB := hid (HB.out.trans (grown_below g (by omega) (by omega)))
                     clear kPB4
                     have kPB4 : v12.cell? ⟨w.heap.size, 4, none⟩ = some (.slice (some ⟨b1, off, none⟩) N cpp) := (BoxAt.cell PB.out 4).trans (by show some p.pr.val = _; rw [HPv.out])
                     have kXB0 : v12.cell? ⟨wr.heap.size, 0, none⟩ = some (.int .i64 r.st) := (BoxAt.cell XB.out 0).trans rfl
                     have kXB10 : v12.cell? ⟨wr.heap.size, 10, none⟩ = some (.int .i64 r.ki) := (BoxAt.cell XB.out 10).trans rfl
                     have kXB12 : v12.cell? ⟨wr.heap.size, 12, none⟩ = some (.int .i64 r.du) := (BoxAt.cell XB.out 12).trans rfl
                     clear b g z hfl FL12
                     refine Hid.out ?_)
                  | fail)
                refine hid ?_
                obtain ⟨M, hM⟩ : ∃ M, lateI c now k = M := ⟨_, rfl⟩
                have HM := hid hM
                have HMl := hid (show M.length ≤ 900000 by rw [← hM]; have h := lateI_len c now k; have := HLt.out; omega)
                rw [hM] at HO
                clear hM
                have HLx := hid (HO.out.below ((Below.refl _ v12).alloc (Nat.le_refl _) (.cells #[.int .i64 (k : Int)] 3)))
                have HSx := hid (show Sees (v12.alloc (.cells #[.int .i64 (k : Int)] 3)) .i64 (.slice (some ⟨v12.heap.size, 0, none⟩) 1 1) [(k : Int)] from Sees.box (ys := [(k : Int)]) (t := 3) (BoxAt.new v12 3 #[.int .i64 (k : Int)]) (by simp))
                have HMx := hid (show M.length + [(k : Int)].length ≤ 1000000 by have := HMl.out; simp only [List.length_cons, List.length_nil]; omega)
                have HVs := hid (show v2.heap.size ≤ (v12.alloc (.cells #[.int .i64 (k : Int)] 3)).heap.size by simp; omega)
                have HBa := hid ((Below.refl v12.heap.size v12).alloc (Nat.le_refl _) (.cells #[.int .i64 (k : Int)] 3))
                go_wp2_with (at_builtin; refine app_ints rfl _ _ rfl v2.heap.size _ M rfl HLx.out _ [(k : Int)] rfl HSx.out HMx.out HVs.out ?_)
                intro u2 U2 ho hg hb
                have hbA : Below v2.heap.size v12 U2 := (HBa.out.mono (by omega)).trans hb
                have HL := hid ((HL.out.below HBa.out).app HLx.out hg)
                have hapart : ∀ g, BoxAt (v12.alloc (.cells #[.int .i64 (k : Int)] 3)) g 57 (Px.cells r).toArray → some g ≠ Value.ownBlock _ := fun g h => box_apart HLx.out h (by decide)
                have XB := hid ((XB.out.belowAll HBa.out).grown hg (hapart _ (XB.out.belowAll HBa.out)))
                have PB := hid (PB.out.below hbA (by omega))
                have RB := hid (RB.out.below hbA (by omega))
                have HB := hid (HB.out.trans (hbA.mono (by omega)))
                have hsU2 := hbA.size
                have HO := hid ho
                clear ho hg hb hbA hapart HLx HSx HMx HVs HBa
                obtain ⟨x1, hx1⟩ : ∃ x : Px, { r with du := -1 } = x := ⟨_, rfl⟩
                have HX1 := hid hx1
                clear hx1
                clear kXB0 kXB10 kXB12 kPB4
                have FL13 := hid trivial
                go_wp2_with (first
                  | (have hfl := FL13.out
                     refine wpList_store_box rfl 3 _ _ rfl rfl wr.heap.size 12 (.int .i64 (-1)) rfl rfl rfl rfl (by kernel_rfl) _ _ XB.out (by simp [Px.cells]) ?_
                     intro v13 b g z
                     have hsv13 : U2.heap.size ≤ v13.heap.size := by omega
                     have HO := hid (OI.turn (S := fun t => t = 57) HO.out (by decide) (Turns.grown (S := fun t => t = 57) XB.out b rfl g))
                     have HL := hid (HL.out.other g (by omega))
                     have XB := hid (show BoxAt v13 wr.heap.size 57 (Px.cells x1).toArray by rw [← HX1.out]; simpa [Px.cells] using b)
                     have PB := hid (PB.out.grown g (fun e => by have := Option.some.inj e; omega))
                     have RB := hid (RB.out.grown g (fun e => by have := Option.some.inj e; omega))
                     have HB := hid (HB.out.trans (grown_below g (by omega) (by omega)))
                     clear b g z hfl FL13)
                  | (with_reducible refine wpList_dst 50 rfl ?_
                     refine wpList_load_box rfl 39 _ rfl w.heap.size rfl _ _ PB.out _ Try.underlying39 Try.infoPa ?_)
                  | (with_reducible refine wpList_dst 52 rfl ?_
                     refine wpList_load_box rfl 57 _ rfl wr.heap.size rfl _ _ XB.out _ Try.underlying57 Try.infoPx ?_)
                  | fail)
                refine (rwith11_own (c := { c with pr := l }) k x1 (HL.out.at (HA0.out.below (H0.out.trans (HB.out.mono h0s)))) (by show l.length ≤ 900000; rw [HLn.out]; exact hN9) (by show k < l.length; rw [HLn.out]; exact HLt.out)).mono ?_
                rintro e v14 ⟨s2, rfl, ho, hb⟩
                have PB := hid (PB.out.belowAll hb)
                have RB := hid (RB.out.belowAll hb)
                have XB := hid (XB.out.belowAll hb)
                have HO := hid (HO.out.below hb)
                have HL := hid (HL.out.below hb)
                have HB := hid (HB.out.trans (hb.mono HB.out.size))
                have hsv14 : v13.heap.size ≤ v14.heap.size := hb.size
                have HW := hid (HL.out.set ho (show w.heap.size ≤ v13.heap.size by omega))
                clear ho HL
                clear hb
                have FL14 := hid trivial
                go_wp2_with (first
                  | (have hfl := FL14.out
                     refine wpList_store_whole rfl 39 _ _ rfl rfl w.heap.size rfl (PaV.cells { p with pr := s2 }) rfl _ _ PB.out rfl Try.infoPa (PaV.one _) ?_
                     intro v15 b g z
                     have hsv15 : v14.heap.size ≤ v15.heap.size := by omega
                     have HO := hid (OI.turn (S := fun t => t = 39) HO.out (by decide) (Turns.grown (S := fun t => t = 39) PB.out b rfl g))
                     have HW := hid (HW.out.turn (Turns.grown (S := fun t => t = 39) PB.out b rfl g))
                     have PB := hid (show BoxAt v15 w.heap.size 39 (PaV.cells { p with pr := s2 }).toArray from b)
                     have RB := hid (RB.out.grown g (fun e => by have := Option.some.inj e; omega))
                     have XB := hid (XB.out.grown g (fun e => by have := Option.some.inj e; omega))
                     have HB := hid (HB.out.trans (grown_below g (by omega) (by omega)))
                     clear b g z hfl FL14)
                  | fail)
                go_roundw
                case rel => exact ⟨k + 1, _, by have := HLt.out; omega, by go_num, by rw [lateI_yes (by rw [HR.out]; exact HYes.out), HM.out]; exact HO, by rw [lateS_succ c now (by rw [HN.out]; exact HLt.out), HLl.out, HR.out, show toldX now r = x1 from by unfold toldX; rw [if_pos HYes.out, HX1.out]]; exact hid HW.out.now, PB, RB, HB, by omega⟩
                case measure => have := HLt.out; simp [intOf]; omega
        · have t2 : (r.st == 2) = false := by simpa using e2
          have HQ := hid (show r.st ≠ 0 ∧ ¬ (r.st = 2 ∧ r.ki = 2) from ⟨e0, fun h => e2 h.1⟩)
          clear e0 e2
          by_cases ed : r.du < 0
          · have td : decide (r.du < 0) = true := decide_eq_true ed
            have HT := hid (show ¬ (r.st ≠ 0 ∧ ¬ (r.st = 2 ∧ r.ki = 2) ∧ 0 ≤ r.du ∧ r.du ≤ now) from fun h => by have := h.2.2.1; omega)
            clear ed
            have HNo := hid (show lateX now r = false from by have h := HT.out; rw [Bool.eq_false_iff]; intro h2; rw [lateX_iff] at h2; exact h h2)
            have FL15 := hid trivial
            have FL16 := hid trivial
            go_wp2_with (first
              | (refine wpList_load_px rfl _ rfl b1 (off + k * 18) rfl r HP0.out ?_)
              | (have hfl := FL15.out
                 refine wpList_new rfl 57 rfl _ Try.zeroPx ?_
                 intro v16 b h z
                 have XB := hid (show BoxAt v16 wr.heap.size 57 (Px.cells Px.zero).toArray from b)
                 have PB := hid (PB.out.belowAll h)
                 have RB := hid (RB.out.belowAll h)
                 have HO := hid (HO.out.below h)
                 have HL := hid (HL.out.below h)
                 have HB := hid (HB.out.trans (h.mono HB.out.size))
                 have hsv16 : wr.heap.size + 1 ≤ v16.heap.size := by omega
                 clear kPB4
                 have kPB4 : v16.cell? ⟨w.heap.size, 4, none⟩ = some (.slice (some ⟨b1, off, none⟩) N cpp) := (BoxAt.cell PB.out 4).trans (by show some p.pr.val = _; rw [HPv.out])
                 clear b h z hfl FL15)
              | (have hfl := FL16.out
                 refine wpList_store_whole rfl 57 _ _ rfl rfl wr.heap.size rfl (Px.cells r) rfl _ _ XB.out rfl Try.infoPx (Px.one _) ?_
                 intro v17 b g z
                 have hsv17 : v16.heap.size ≤ v17.heap.size := by omega
                 have HO := hid (OI.turn (S := fun t => t = 57) HO.out (by decide) (Turns.grown (S := fun t => t = 57) XB.out b rfl g))
                 have HL := hid (HL.out.other g (by omega))
                 have XB := hid (show BoxAt v17 wr.heap.size 57 (Px.cells r).toArray from b)
                 have PB := hid (PB.out.grown g (fun e => by have := Option.some.inj e; omega))
                 have RB := hid (RB.out.grown g (fun e => by have := Option.some.inj e; omega))
                 have HB := hid (HB.out.trans (grown_below g (by omega) (by omega)))
                 clear kPB4
                 have kPB4 : v17.cell? ⟨w.heap.size, 4, none⟩ = some (.slice (some ⟨b1, off, none⟩) N cpp) := (BoxAt.cell PB.out 4).trans (by show some p.pr.val = _; rw [HPv.out])
                 have kXB0 : v17.cell? ⟨wr.heap.size, 0, none⟩ = some (.int .i64 r.st) := (BoxAt.cell XB.out 0).trans rfl
                 have kXB10 : v17.cell? ⟨wr.heap.size, 10, none⟩ = some (.int .i64 r.ki) := (BoxAt.cell XB.out 10).trans rfl
                 have kXB12 : v17.cell? ⟨wr.heap.size, 12, none⟩ = some (.int .i64 r.du) := (BoxAt.cell XB.out 12).trans rfl
                 clear b g z hfl FL16)
              | fail)
            go_roundw
            case rel => exact ⟨k + 1, p, by have := HLt.out; omega, by go_num, by rw [lateI_no (by rw [HR.out]; exact HNo.out)]; exact HO, by rw [lateS_skip c now (by rw [HN.out]; exact HLt.out) (by rw [HR.out]; exact HNo.out), HLl.out]; exact hid HL.out.now, PB, RB, HB, by omega⟩
            case measure => have := HLt.out; simp [intOf]; omega
          · have td : decide (r.du < 0) = false := decide_eq_false ed
            by_cases en : now < r.du
            · have tn : decide (now < r.du) = true := decide_eq_true en
              have HT := hid (show ¬ (r.st ≠ 0 ∧ ¬ (r.st = 2 ∧ r.ki = 2) ∧ 0 ≤ r.du ∧ r.du ≤ now) from fun h => by have := h.2.2.2; omega)
              clear ed en
              have HNo := hid (show lateX now r = false from by have h := HT.out; rw [Bool.eq_false_iff]; intro h2; rw [lateX_iff] at h2; exact h h2)
              have FL17 := hid trivial
              have FL18 := hid trivial
              go_wp2_with (first
                | (refine wpList_load_px rfl _ rfl b1 (off + k * 18) rfl r HP0.out ?_)
                | (have hfl := FL17.out
                   refine wpList_new rfl 57 rfl _ Try.zeroPx ?_
                   intro v18 b h z
                   have XB := hid (show BoxAt v18 wr.heap.size 57 (Px.cells Px.zero).toArray from b)
                   have PB := hid (PB.out.belowAll h)
                   have RB := hid (RB.out.belowAll h)
                   have HO := hid (HO.out.below h)
                   have HL := hid (HL.out.below h)
                   have HB := hid (HB.out.trans (h.mono HB.out.size))
                   have hsv18 : wr.heap.size + 1 ≤ v18.heap.size := by omega
                   clear kPB4
                   have kPB4 : v18.cell? ⟨w.heap.size, 4, none⟩ = some (.slice (some ⟨b1, off, none⟩) N cpp) := (BoxAt.cell PB.out 4).trans (by show some p.pr.val = _; rw [HPv.out])
                   clear b h z hfl FL17)
                | (have hfl := FL18.out
                   refine wpList_store_whole rfl 57 _ _ rfl rfl wr.heap.size rfl (Px.cells r) rfl _ _ XB.out rfl Try.infoPx (Px.one _) ?_
                   intro v19 b g z
                   have hsv19 : v18.heap.size ≤ v19.heap.size := by omega
                   have HO := hid (OI.turn (S := fun t => t = 57) HO.out (by decide) (Turns.grown (S := fun t => t = 57) XB.out b rfl g))
                   have HL := hid (HL.out.other g (by omega))
                   have XB := hid (show BoxAt v19 wr.heap.size 57 (Px.cells r).toArray from b)
                   have PB := hid (PB.out.grown g (fun e => by have := Option.some.inj e; omega))
                   have RB := hid (RB.out.grown g (fun e => by have := Option.some.inj e; omega))
                   have HB := hid (HB.out.trans (grown_below g (by omega) (by omega)))
                   clear kPB4
                   have kPB4 : v19.cell? ⟨w.heap.size, 4, none⟩ = some (.slice (some ⟨b1, off, none⟩) N cpp) := (BoxAt.cell PB.out 4).trans (by show some p.pr.val = _; rw [HPv.out])
                   have kXB0 : v19.cell? ⟨wr.heap.size, 0, none⟩ = some (.int .i64 r.st) := (BoxAt.cell XB.out 0).trans rfl
                   have kXB10 : v19.cell? ⟨wr.heap.size, 10, none⟩ = some (.int .i64 r.ki) := (BoxAt.cell XB.out 10).trans rfl
                   have kXB12 : v19.cell? ⟨wr.heap.size, 12, none⟩ = some (.int .i64 r.du) := (BoxAt.cell XB.out 12).trans rfl
                   clear b g z hfl FL18)
                | fail)
              go_roundw
              case rel => exact ⟨k + 1, p, by have := HLt.out; omega, by go_num, by rw [lateI_no (by rw [HR.out]; exact HNo.out)]; exact HO, by rw [lateS_skip c now (by rw [HN.out]; exact HLt.out) (by rw [HR.out]; exact HNo.out), HLl.out]; exact hid HL.out.now, PB, RB, HB, by omega⟩
              case measure => have := HLt.out; simp [intOf]; omega
            · have tn : decide (now < r.du) = false := decide_eq_false en
              have HT := hid (show r.st ≠ 0 ∧ ¬ (r.st = 2 ∧ r.ki = 2) ∧ 0 ≤ r.du ∧ r.du ≤ now from ⟨HQ.out.1, HQ.out.2, by omega, by omega⟩)
              clear ed en
              have HYes := hid (show lateX now r = true from (lateX_iff now r).2 HT.out)
              have FL19 := hid trivial
              have FL20 := hid trivial
              go_wp2_with (first
                | (refine wpList_load_px rfl _ rfl b1 (off + k * 18) rfl r HP0.out ?_)
                | (have hfl := FL19.out
                   refine wpList_new rfl 57 rfl _ Try.zeroPx ?_
                   intro v20 b h z
                   have XB := hid (show BoxAt v20 wr.heap.size 57 (Px.cells Px.zero).toArray from b)
                   have PB := hid (PB.out.belowAll h)
                   have RB := hid (RB.out.belowAll h)
                   have HO := hid (HO.out.below h)
                   have HL := hid (HL.out.below h)
                   have HB := hid (HB.out.trans (h.mono HB.out.size))
                   have hsv20 : wr.heap.size + 1 ≤ v20.heap.size := by omega
                   clear kPB4
                   have kPB4 : v20.cell? ⟨w.heap.size, 4, none⟩ = some (.slice (some ⟨b1, off, none⟩) N cpp) := (BoxAt.cell PB.out 4).trans (by show some p.pr.val = _; rw [HPv.out])
                   clear b h z hfl FL19)
                | (have hfl := FL20.out
                   refine wpList_store_whole rfl 57 _ _ rfl rfl wr.heap.size rfl (Px.cells r) rfl _ _ XB.out rfl Try.infoPx (Px.one _) ?_
                   intro v21 b g z
                   have hsv21 : v20.heap.size ≤ v21.heap.size := by omega
                   have HO := hid (OI.turn (S := fun t => t = 57) HO.out (by decide) (Turns.grown (S := fun t => t = 57) XB.out b rfl g))
                   have HL := hid (HL.out.other g (by omega))
                   have XB := hid (show BoxAt v21 wr.heap.size 57 (Px.cells r).toArray from b)
                   have PB := hid (PB.out.grown g (fun e => by have := Option.some.inj e; omega))
                   have RB := hid (RB.out.grown g (fun e => by have := Option.some.inj e; omega))
                   have HB := hid (HB.out.trans (grown_below g (by omega) (by omega)))
                   clear kPB4
                   have kPB4 : v21.cell? ⟨w.heap.size, 4, none⟩ = some (.slice (some ⟨b1, off, none⟩) N cpp) := (BoxAt.cell PB.out 4).trans (by show some p.pr.val = _; rw [HPv.out])
                   have kXB0 : v21.cell? ⟨wr.heap.size, 0, none⟩ = some (.int .i64 r.st) := (BoxAt.cell XB.out 0).trans rfl
                   have kXB10 : v21.cell? ⟨wr.heap.size, 10, none⟩ = some (.int .i64 r.ki) := (BoxAt.cell XB.out 10).trans rfl
                   have kXB12 : v21.cell? ⟨wr.heap.size, 12, none⟩ = some (.int .i64 r.du) := (BoxAt.cell XB.out 12).trans rfl
                   clear b g z hfl FL20
                   refine Hid.out ?_)
                | fail)
              refine hid ?_
              obtain ⟨M, hM⟩ : ∃ M, lateI c now k = M := ⟨_, rfl⟩
              have HM := hid hM
              have HMl := hid (show M.length ≤ 900000 by rw [← hM]; have h := lateI_len c now k; have := HLt.out; omega)
              rw [hM] at HO
              clear hM
              have HLx := hid (HO.out.below ((Below.refl _ v21).alloc (Nat.le_refl _) (.cells #[.int .i64 (k : Int)] 3)))
              have HSx := hid (show Sees (v21.alloc (.cells #[.int .i64 (k : Int)] 3)) .i64 (.slice (some ⟨v21.heap.size, 0, none⟩) 1 1) [(k : Int)] from Sees.box (ys := [(k : Int)]) (t := 3) (BoxAt.new v21 3 #[.int .i64 (k : Int)]) (by simp))
              have HMx := hid (show M.length + [(k : Int)].length ≤ 1000000 by have := HMl.out; simp only [List.length_cons, List.length_nil]; omega)
              have HVs := hid (show v2.heap.size ≤ (v21.alloc (.cells #[.int .i64 (k : Int)] 3)).heap.size by simp; omega)
              have HBa := hid ((Below.refl v21.heap.size v21).alloc (Nat.le_refl _) (.cells #[.int .i64 (k : Int)] 3))
              go_wp2_with (at_builtin; refine app_ints rfl _ _ rfl v2.heap.size _ M rfl HLx.out _ [(k : Int)] rfl HSx.out HMx.out HVs.out ?_)
              intro u2 U2 ho hg hb
              have hbA : Below v2.heap.size v21 U2 := (HBa.out.mono (by omega)).trans hb
              have HL := hid ((HL.out.below HBa.out).app HLx.out hg)
              have hapart : ∀ g, BoxAt (v21.alloc (.cells #[.int .i64 (k : Int)] 3)) g 57 (Px.cells r).toArray → some g ≠ Value.ownBlock _ := fun g h => box_apart HLx.out h (by decide)
              have XB := hid ((XB.out.belowAll HBa.out).grown hg (hapart _ (XB.out.belowAll HBa.out)))
              have PB := hid (PB.out.below hbA (by omega))
              have RB := hid (RB.out.below hbA (by omega))
              have HB := hid (HB.out.trans (hbA.mono (by omega)))
              have hsU2 := hbA.size
              have HO := hid ho
              clear ho hg hb hbA hapart HLx HSx HMx HVs HBa
              obtain ⟨x1, hx1⟩ : ∃ x : Px, { r with du := -1 } = x := ⟨_, rfl⟩
              have HX1 := hid hx1
              clear hx1
              clear kXB0 kXB10 kXB12 kPB4
              have FL21 := hid trivial
              go_wp2_with (first
                | (have hfl := FL21.out
                   refine wpList_store_box rfl 3 _ _ rfl rfl wr.heap.size 12 (.int .i64 (-1)) rfl rfl rfl rfl (by kernel_rfl) _ _ XB.out (by simp [Px.cells]) ?_
                   intro v22 b g z
                   have hsv22 : U2.heap.size ≤ v22.heap.size := by omega
                   have HO := hid (OI.turn (S := fun t => t = 57) HO.out (by decide) (Turns.grown (S := fun t => t = 57) XB.out b rfl g))
                   have HL := hid (HL.out.other g (by omega))
                   have XB := hid (show BoxAt v22 wr.heap.size 57 (Px.cells x1).toArray by rw [← HX1.out]; simpa [Px.cells] using b)
                   have PB := hid (PB.out.grown g (fun e => by have := Option.some.inj e; omega))
                   have RB := hid (RB.out.grown g (fun e => by have := Option.some.inj e; omega))
                   have HB := hid (HB.out.trans (grown_below g (by omega) (by omega)))
                   clear b g z hfl FL21)
                | (with_reducible refine wpList_dst 50 rfl ?_
                   refine wpList_load_box rfl 39 _ rfl w.heap.size rfl _ _ PB.out _ Try.underlying39 Try.infoPa ?_)
                | (with_reducible refine wpList_dst 52 rfl ?_
                   refine wpList_load_box rfl 57 _ rfl wr.heap.size rfl _ _ XB.out _ Try.underlying57 Try.infoPx ?_)
                | fail)
              refine (rwith11_own (c := { c with pr := l }) k x1 (HL.out.at (HA0.out.below (H0.out.trans (HB.out.mono h0s)))) (by show l.length ≤ 900000; rw [HLn.out]; exact hN9) (by show k < l.length; rw [HLn.out]; exact HLt.out)).mono ?_
              rintro e v23 ⟨s2, rfl, ho, hb⟩
              have PB := hid (PB.out.belowAll hb)
              have RB := hid (RB.out.belowAll hb)
              have XB := hid (XB.out.belowAll hb)
              have HO := hid (HO.out.below hb)
              have HL := hid (HL.out.below hb)
              have HB := hid (HB.out.trans (hb.mono HB.out.size))
              have hsv23 : v22.heap.size ≤ v23.heap.size := hb.size
              have HW := hid (HL.out.set ho (show w.heap.size ≤ v22.heap.size by omega))
              clear ho HL
              clear hb
              have FL22 := hid trivial
              go_wp2_with (first
                | (have hfl := FL22.out
                   refine wpList_store_whole rfl 39 _ _ rfl rfl w.heap.size rfl (PaV.cells { p with pr := s2 }) rfl _ _ PB.out rfl Try.infoPa (PaV.one _) ?_
                   intro v24 b g z
                   have hsv24 : v23.heap.size ≤ v24.heap.size := by omega
                   have HO := hid (OI.turn (S := fun t => t = 39) HO.out (by decide) (Turns.grown (S := fun t => t = 39) PB.out b rfl g))
                   have HW := hid (HW.out.turn (Turns.grown (S := fun t => t = 39) PB.out b rfl g))
                   have PB := hid (show BoxAt v24 w.heap.size 39 (PaV.cells { p with pr := s2 }).toArray from b)
                   have RB := hid (RB.out.grown g (fun e => by have := Option.some.inj e; omega))
                   have XB := hid (XB.out.grown g (fun e => by have := Option.some.inj e; omega))
                   have HB := hid (HB.out.trans (grown_below g (by omega) (by omega)))
                   clear b g z hfl FL22)
                | fail)
              go_roundw
              case rel => exact ⟨k + 1, _, by have := HLt.out; omega, by go_num, by rw [lateI_yes (by rw [HR.out]; exact HYes.out), HM.out]; exact HO, by rw [lateS_succ c now (by rw [HN.out]; exact HLt.out), HLl.out, HR.out, show toldX now r = x1 from by unfold toldX; rw [if_pos HYes.out, HX1.out]]; exact hid HW.out.now, PB, RB, HB, by omega⟩
              case measure => have := HLt.out; simp [intOf]; omega
    · obtain rfl : k = N := by omega
      clear hlt hpcell hln
      have kPB4 : wr.cell? ⟨w.heap.size, 4, none⟩ = some (.slice ap k cpp) := (BoxAt.cell PB.out 4).trans (by show some p.pr.val = _; rw [HPv.out])
      go_wp2_with fail
      have PB := hid (BoxAt.drew PB.out)
      have RB := hid (BoxAt.drew RB.out)
      have HO := hid (HO.out.below ((Below.refl wr.heap.size wr).drew))
      have HL := hid (HL.out.below ((Below.refl wr.heap.size wr).drew))
      have HB := hid HB.out.drew
      have hrp : v1.heap.size ≠ w.heap.size := by omega
      have hrs : v1.heap.size < wr.drew.heap.size := RB.out.lt
      have hdd : wr.drew.heap.size = wr.heap.size := rfl
      clear kPB4 hdd
      refine wp_region_held_drew (S := (fun W => BoxAt W w.heap.size 39 (PaV.cells p).toArray)) (by kernel_rfl) (PB.out) (fun hHeld => ?_)
      refine wpAnyH_take (i := 0) (oi := { dst := some 54, op := Op.move (Operand.tmp 6), type := 26, pos := "ref.go:55", after := #[], guard := none }) (v := ?v701) rfl (by kernel_rfl) (by kernel_rfl) (by kernel_rfl) (fun _ _ _ h => h) (Or.inl ⟨by rfl, ?hy701⟩) (by assumption) ?rest701
      case hy701 => (intro w hSw; (try dsimp only at hSw); go_simp; try with_reducible rfl)
      simp only [Act.put, List.setIfInBounds_toArray, List.set_cons_zero, List.set_cons_succ]
      refine wpAnyH_take (i := 1) (oi := { dst := some 55, op := Op.load 39 (Operand.tmp 2), type := 39, pos := "ref.go:55", after := #[{ on := 2, ground := Ground.gcOnly Departure.lateStores }], guard := none }) (v := ?v702) rfl (by kernel_rfl) (by kernel_rfl) (by kernel_rfl) (fun _ _ _ h => h) (Or.inl ⟨by rfl, ?hy702⟩) (by assumption) ?rest702
      case hy702 => (intro W hSw; refine box_yields 39 (.tmp 2) ?_ (w.heap.size) ?_ (PaV.cells p) 39 _ Try.underlying39 Try.infoPa hSw <;> rfl)
      simp only [Act.put, List.setIfInBounds_toArray, List.set_cons_zero, List.set_cons_succ]
      refine wpAnyH_take (i := 2) (oi := { dst := some 4, op := Op.assign (Operand.tmp 54), type := 26, pos := "ref.go:55", after := #[{ on := 0, ground := Ground.data }, { on := 0, ground := Ground.phase }, { on := 1, ground := Ground.textOnly Departure.lateStores }], guard := none }) (v := ?v703) rfl (by kernel_rfl) (by kernel_rfl) (by kernel_rfl) (fun _ _ _ h => h) (Or.inl ⟨by rfl, ?hy703⟩) (by assumption) ?rest703
      case hy703 => (intro w hSw; (try dsimp only at hSw); go_simp; try with_reducible rfl)
      simp only [Act.put, List.setIfInBounds_toArray, List.set_cons_zero, List.set_cons_succ]
      refine wpAnyH_ready (rs := [3]) (by kernel_rfl) (by simp) (AllReadyH.cons (o := { dst := none, op := Op.store 39 (Operand.tmp 5) (Operand.tmp 55), type := 0, pos := "ref.go:55", after := #[{ on := 1, ground := Ground.data }, { on := 2, ground := Ground.chain }, { on := 0, ground := Ground.phase }, { on := 1, ground := Ground.phase }, { on := 2, ground := Ground.phase }], guard := none }) rfl (fun K704 hK704 => ?_) AllReadyH.nil)
      refine wp_store_whole 39 _ _ rfl (v1.heap.size) rfl (PaV.cells p) rfl _ _ RB.out rfl Try.infoPa (PaV.one _) ?_
      intro z b gr hz
      have ht := Turns.grown (S := fun t => t = 39) RB.out b rfl gr
      have HL := hid (HL.out.turn ht)
      have HO := hid (OI.turn (S := fun t => t = 39) HO.out (by decide) ht)
      have HB := hid (HB.out.trans (grown_below gr (by omega) (by omega)))
      have PB := hid (PB.out.grown gr (fun e => hrp (Option.some.inj e).symm))
      have RB := hid (show BoxAt z (v1.heap.size) 39 (PaV.cells p).toArray from b)
      clear b gr hz ht
      refine hK704.out _ _ (PB.out) (fun hHeld704 => ?_)
      clear hK704 K704
      try simp only [Act.put]
      refine wpAnyH_done (by kernel_rfl) ?_ _
      clear hHeld hHeld704
      go_wp2_with fail
      refine bodyPost_ret (results_tmp_box rfl _ _ (v1.heap.size) 39 _ (0, 0) _ rfl RB.out Try.underlying39 rfl Try.infoPa) rfl ?_
      refine ⟨_, p, rfl, ?_, ?_, HB.out⟩
      · rw [← lateI_all, HN.out]; exact HO.out.mono (by omega)
      · have h := HL.out.done HA0.out (H0.out.trans (HB.out.mono h0s))
        rw [← HLl.out] at h
        have e : lateS c now k = lateC c now := by rw [← HN.out]; exact lateS_all c now
        rw [← e]
        exact h

end Go.Proofs.Ytdanfnbclbiidaa
