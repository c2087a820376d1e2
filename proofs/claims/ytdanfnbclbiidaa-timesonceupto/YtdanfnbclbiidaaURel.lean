/-
  What a partition in a box becomes by times' release and leave.
-/
import Derived.Test.YtdanfnbclbiidaaUDo
import Derived.Test.YtdanfnbclbiidaaQApi
namespace Go.Proofs.Ytdanfnbclbiidaa
open Go.RowKit
set_option linter.unusedVariables false

/-- A partition in a box, whose lists are the call's own, and whose processes lie in s. -/
def UP (w : World) (base P : Nat) (s : Sl) (c : Pa) : Prop := ∃ q : PaV, BoxAt w P 39 q.cells.toArray ∧ PaO w base q c ∧ q.pr = s
theorem UP.below {w w' : World} {base P : Nat} {s : Sl} {c : Pa} (h : UP w base P s c) (hb : Below w.heap.size w w') : UP w' base P s c := by
  obtain ⟨q, h1, h2, h3⟩ := h
  exact ⟨q, h1.belowAll hb, h2.below hb, h3⟩
theorem UP.kept {w w' : World} {base P : Nat} {s : Sl} {c : Pa} (h : UP w base P s c) (hk : KeptC w w') : UP w' base P s c := by
  obtain ⟨q, h1, h2, h3⟩ := h
  exact ⟨q, BoxAt.kept h1 hk, h2.kept hk, h3⟩

theorem Turns.mono {S T : TypeId → Prop} {w w' : World} (h : Turns S w w') (hs : ∀ t, S t → T t) : Turns T w w' :=
  ⟨h.os, h.tape, h.output, h.size, fun k hk ht => h.block k hk (fun t hta hst => ht t hta (hs t hst)), h.tag⟩
theorem two_box {g P : Nat} {w w' : World} {cs cs' : Array Value} (h : BoxAt w P 39 cs) (h' : BoxAt w' P 39 cs') (hg : w.grownBy w' (some P)) : TwoT g P w w' :=
  ⟨Turns.grown (S := SP) h h' (.inr rfl) hg, fun k hk _ h2 => hg.block k hk (fun e => h2 (Option.some.inj e))⟩
theorem TwoT.box {g P b : Nat} {w w' : World} {t : TypeId} {cs : Array Value} (h : TwoT g P w w') (hb : BoxAt w b t cs) (h1 : b ≠ g) (h2 : b ≠ P) : BoxAt w' b t cs := (h.b b hb.lt h1 h2).trans hb
theorem pw_two {w w' : World} {base g cap i P : Nat} {L : List Px} {r r' : Px} (h : PW w base g cap i L r) (h' : PW w' base g cap i L r') (hg : w.grownBy w' (some g)) : TwoT g P w w' := by
  obtain ⟨cs, b0, hb, hl⟩ := h.box
  obtain ⟨cs', b1, _, _⟩ := h'.box
  exact ⟨Turns.grown (S := SP) b0 b1 (.inl rfl) hg, fun k hk h1 _ => hg.block k hk (fun e => h1 (Option.some.inj e))⟩
theorem pw_turns {w w' : World} {base g cap i : Nat} {L : List Px} {r r' : Px} (h : PW w base g cap i L r) (h' : PW w' base g cap i L r') (hg : w.grownBy w' (some g)) : Turns (fun t => t = 57) w w' ∧ Below base w w' := by
  obtain ⟨cs, b0, hb, hl⟩ := h.box
  obtain ⟨cs', b1, _, _⟩ := h'.box
  exact ⟨Turns.grown (S := fun t => t = 57) b0 b1 rfl hg, grown_below hg hb (by omega)⟩

set_option maxRecDepth 100000 in
set_option maxHeartbeats 1600000 in
theorem release_any {w : World} {base g cap : Nat} {L : List Px} (P k : Nat) (f : Pc) (un now : Int) (ho : OP w base (.slice (some ⟨g, 0, none⟩) L.length cap) L) (hk : k < L.length) :
    Calls Try.prog 34 #[.pointer (some ⟨g, k * 18, none⟩), f.val, .int .i64 un, .int .i64 now] w fun e w' => e = .returned (.tuple #[]) ∧
      OP w' base (.slice (some ⟨g, 0, none⟩) L.length cap) (L.set k { L.getD k Px.zero with du := if 0 < f.li then wrap64 (now + f.li) else -1, ne := wrap64 (un + f.pe) }) ∧ TwoT g P w w' ∧ Below base w w' := by
  have HP := hid (PW.start ho hk)
  generalize L.getD k Px.zero = r at *
  have hgb : base ≤ g ∧ g < w.heap.size := by obtain ⟨_, _, h1, h2⟩ := HP.out.box; exact ⟨h1, h2⟩
  have HT := hid (TwoT.refl g P w)
  have HB := hid (Below.refl base w)
  clear ho
  obtain ⟨fp, fe, fl, fn, fa⟩ := f
  unfold Pc.val
  simp only
  by_cases hl : 0 < fl
  · rw [if_pos hl]
    go_enter Try.func34, Try.ntmps34
    have FL1 := hid trivial
    have FL2 := hid trivial
    go_wp2_with (first
      | (refine wpList_box rfl 60 (.tmp 1) rfl (Pc.cells ⟨fp, fe, fl, fn, fa⟩).toArray rfl ?_
         intro v1 b h z
         have FB := hid b
         have HP := hid (HP.out.below h)
         have HT := hid (HT.out.trans (TwoT.below h))
         have HB := hid (HB.out.trans (h.mono (by omega)))
         have hs1 : w.heap.size + 1 ≤ v1.heap.size := by omega
         clear b h z)
      | (have hfl := FL1.out
         refine wpList_store_pw rfl 3 _ _ rfl rfl HP.out 12 (by decide) (.int .i64 (-1)) rfl rfl rfl rfl (by kernel_rfl) { r with du := -1 } rfl ?_
         intro v2 hp hg hz
         obtain ⟨ht, hb⟩ := pw_turns HP.out hp hg
         have HT := hid (HT.out.trans (pw_two HP.out hp hg))
         have HB := hid (HB.out.trans hb)
         have FB := hid (FB.out.grown hg (fun e => by have := Option.some.inj e; omega))
         have k1 : v2.cell? ⟨w.heap.size, 1, none⟩ = some (.int .i64 fe) := (FB.out.cell 1).trans rfl
         have k2 : v2.cell? ⟨w.heap.size, 2, none⟩ = some (.int .i64 fl) := (FB.out.cell 2).trans rfl
         have HP := hid hp
         have hs2 : w.heap.size + 1 ≤ v2.heap.size := by omega
         clear hp hg hz ht hb hfl FL1)
      | (have hfl := FL2.out
         refine wpList_store_pw rfl 3 _ _ rfl rfl HP.out 12 (by decide) (.int .i64 (wrap64 (now + fl))) rfl rfl rfl rfl (by kernel_rfl) { r with du := wrap64 (now + fl) } rfl ?_
         intro v3 hp hg hz
         obtain ⟨ht, hb⟩ := pw_turns HP.out hp hg
         have HT := hid (HT.out.trans (pw_two HP.out hp hg))
         have HB := hid (HB.out.trans hb)
         have FB := hid (FB.out.grown hg (fun e => by have := Option.some.inj e; omega))
         clear k1 k2
         have k1 : v3.cell? ⟨w.heap.size, 1, none⟩ = some (.int .i64 fe) := (FB.out.cell 1).trans rfl
         have k2 : v3.cell? ⟨w.heap.size, 2, none⟩ = some (.int .i64 fl) := (FB.out.cell 2).trans rfl
         have HP := hid hp
         have hs3 : w.heap.size + 1 ≤ v3.heap.size := by omega
         clear hp hg hz ht hb hfl FL2)
      | (refine wpList_store_pw rfl 3 _ _ rfl rfl HP.out 13 (by decide) (.int .i64 (wrap64 (un + fe))) rfl rfl rfl rfl (by kernel_rfl) { r with du := wrap64 (now + fl), ne := wrap64 (un + fe) } rfl ?_
         intro v4 hp hg hz
         obtain ⟨ht, hb⟩ := pw_turns HP.out hp hg
         have HT := hid (HT.out.trans (pw_two HP.out hp hg))
         have HB := hid (HB.out.trans hb)
         have HP := hid hp
         clear hp hg hz ht hb)
      | fail)
    refine bodyPost_end (results_none rfl _ _ _) rfl ?_
    exact ⟨rfl, HP.out.stop, HT.out, HB.out⟩
  · rw [if_neg hl]
    go_enter Try.func34, Try.ntmps34
    have FL1 := hid trivial
    go_wp2_with (first
      | (refine wpList_box rfl 60 (.tmp 1) rfl (Pc.cells ⟨fp, fe, fl, fn, fa⟩).toArray rfl ?_
         intro v1 b h z
         have FB := hid b
         have HP := hid (HP.out.below h)
         have HT := hid (HT.out.trans (TwoT.below h))
         have HB := hid (HB.out.trans (h.mono (by omega)))
         have hs1 : w.heap.size + 1 ≤ v1.heap.size := by omega
         clear b h z)
      | (have hfl := FL1.out
         refine wpList_store_pw rfl 3 _ _ rfl rfl HP.out 12 (by decide) (.int .i64 (-1)) rfl rfl rfl rfl (by kernel_rfl) { r with du := -1 } rfl ?_
         intro v2 hp hg hz
         obtain ⟨ht, hb⟩ := pw_turns HP.out hp hg
         have HT := hid (HT.out.trans (pw_two HP.out hp hg))
         have HB := hid (HB.out.trans hb)
         have FB := hid (FB.out.grown hg (fun e => by have := Option.some.inj e; omega))
         have k1 : v2.cell? ⟨w.heap.size, 1, none⟩ = some (.int .i64 fe) := (FB.out.cell 1).trans rfl
         have k2 : v2.cell? ⟨w.heap.size, 2, none⟩ = some (.int .i64 fl) := (FB.out.cell 2).trans rfl
         have HP := hid hp
         have hs2 : w.heap.size + 1 ≤ v2.heap.size := by omega
         clear hp hg hz ht hb hfl FL1)
      | (refine wpList_store_pw rfl 3 _ _ rfl rfl HP.out 13 (by decide) (.int .i64 (wrap64 (un + fe))) rfl rfl rfl rfl (by kernel_rfl) { r with du := -1, ne := wrap64 (un + fe) } rfl ?_
         intro v4 hp hg hz
         obtain ⟨ht, hb⟩ := pw_turns HP.out hp hg
         have HT := hid (HT.out.trans (pw_two HP.out hp hg))
         have HB := hid (HB.out.trans hb)
         have HP := hid hp
         clear hp hg hz ht hb)
      | fail)
    refine bodyPost_end (results_none rfl _ _ _) rfl ?_
    exact ⟨rfl, HP.out.stop, HT.out, HB.out⟩

set_option maxRecDepth 100000 in
set_option maxHeartbeats 1600000 in
theorem uleave_any {w : World} {base P n : Nat} (g0 : Nat) {s : Sl} {c : Pa} (i : Int) (h : UP w base P s c) (hsm : c.small) (hb : base ≤ w.heap.size) (hn : n ≤ P) (hnb : n ≤ base) :
    Calls Try.prog 35 #[.pointer (some ⟨P, 0, none⟩), .int .i64 i] w fun e w' => e = .returned (.tuple #[]) ∧ UP w' base P s (leaveP c (isW i)) ∧ TwoT g0 P w w' ∧ Below n w w' := by
  obtain ⟨q, hq, ho, rfl⟩ := h
  have PB := hid hq
  have hPs : P < w.heap.size := hq.lt
  have HO := hid ho
  have HSm := hid hsm
  have HB := hid (Below.refl n w)
  have HT := hid (TwoT.refl g0 P w)
  have k4 : w.cell? ⟨P, 4, none⟩ = some (.slice q.pr.a q.pr.n q.pr.c) := (BoxAt.cell hq 4).trans rfl
  clear hq ho hsm
  go_enter Try.func35, Try.ntmps35
  have FL1 := hid trivial
  go_wp2_with (first
    | (have hfl := FL1.out
       refine wpList_store_box rfl 29 _ _ rfl rfl P 4 (.slice none 0 0) rfl rfl rfl rfl (by kernel_rfl) _ _ PB.out (by simp [PaV.cells]) ?_
       intro v1 b g z
       have ht := Turns.grown (S := fun t => t = 39) PB.out b rfl g
       have HO := hid (HO.out.turn ht)
       have HT := hid (HT.out.trans (two_box PB.out b g))
       have HB := hid (HB.out.trans (grown_below g hn (by omega)))
       have PB := hid (show BoxAt v1 P 39 (PaV.cells { q with pr := ⟨none, 0, 0⟩ }).toArray by simpa [PaV.cells] using b)
       have hs1 : w.heap.size ≤ v1.heap.size := by omega
       clear b g z ht k4 hfl FL1)
    | (refine wpList_load_box rfl 39 _ rfl P rfl _ _ PB.out _ Try.underlying39 Try.infoPa ?_)
    | fail)
  have HN := hid (show PaO v1 base { q with pr := ⟨none, 0, 0⟩ } { c with pr := [] } from ⟨HO.out.md, HO.out.bg, HO.out.nx, HO.out.me, OP.nil _ _, HO.out.bo, HO.out.bu, HO.out.se, HO.out.ev, HO.out.sa, HO.out.qu, HO.out.ld, HO.out.ll, HO.out.lx, HO.out.gi⟩)
  refine (leave_any (i := i) HN.out.sees ⟨HSm.out.me, by simp, HSm.out.bo, HSm.out.bu, HSm.out.se, HSm.out.ev, HSm.out.sa, HSm.out.qu, HSm.out.ll, HSm.out.gi, HSm.out.bol, HSm.out.bul, HSm.out.sel, HSm.out.evl, HSm.out.qul⟩).mono ?_
  rintro e v2 ⟨q2, rfl, ho2, hb2⟩
  have HO := hid (HO.out.below hb2)
  have HO2 := hid (ho2.mono (show base ≤ v1.heap.size by omega))
  have PB := hid (PB.out.belowAll hb2)
  have HB := hid (HB.out.trans (hb2.mono (by omega)))
  have HT := hid (HT.out.trans (TwoT.below hb2))
  have hs2 : w.heap.size ≤ v2.heap.size := by have := hb2.size; omega
  clear ho2 hb2 HN
  have FL2 := hid trivial
  go_wp2_with (first
    | (have hfl := FL2.out
       refine wpList_store_whole rfl 39 _ _ rfl rfl P rfl (PaV.cells q2) rfl _ _ PB.out rfl Try.infoPa (PaV.one _) ?_
       intro v3 b g z
       have ht := Turns.grown (S := fun t => t = 39) PB.out b rfl g
       have HO := hid (HO.out.turn ht)
       have HO2 := hid (HO2.out.turn ht)
       have HT := hid (HT.out.trans (two_box PB.out b g))
       have HB := hid (HB.out.trans (grown_below g hn (by omega)))
       have PB := hid (show BoxAt v3 P 39 (PaV.cells q2).toArray from b)
       have hs3 : w.heap.size ≤ v3.heap.size := by omega
       clear b g z ht hfl FL2)
    | (refine wpList_store_box rfl 29 _ _ rfl rfl P 4 (.slice q.pr.a q.pr.n q.pr.c) rfl rfl rfl rfl (by kernel_rfl) _ _ PB.out (by simp [PaV.cells]) ?_
       intro v4 b g z
       have ht := Turns.grown (S := fun t => t = 39) PB.out b rfl g
       have HO := hid (HO.out.turn ht)
       have HO2 := hid (HO2.out.turn ht)
       have HT := hid (HT.out.trans (two_box PB.out b g))
       have HB := hid (HB.out.trans (grown_below g hn (by omega)))
       have PB := hid (show BoxAt v4 P 39 (PaV.cells { q2 with pr := q.pr }).toArray by simpa [PaV.cells] using b)
       clear b g z ht)
    | fail)
  refine bodyPost_end (results_none rfl _ _ _) rfl ?_
  exact ⟨rfl, ⟨{ q2 with pr := q.pr }, PB.out, ⟨HO2.out.md, HO2.out.bg, HO2.out.nx, HO2.out.me, HO.out.pr, HO2.out.bo, HO2.out.bu, HO2.out.se, HO2.out.ev, HO2.out.sa, HO2.out.qu, HO2.out.ld, HO2.out.ll, HO2.out.lx, HO2.out.gi⟩, rfl⟩, HT.out, HB.out⟩
end Go.Proofs.Ytdanfnbclbiidaa
