/-
  The writer is a machine that keeps the numbers that it is given; the reader is one that gives those that it holds.
-/
import Derived.Test.YtfdoejdnhogepaaTBlk
import Derived.Shelf.Abstract
namespace Go.Proofs.Ytfdoejdnhogepaa
open Go.RowKit
set_option linter.unusedVariables false

theorem Try.infoI7 : (Try.prog.info? 3).map (fun i => (i.zero, i.size, i.bytes)) = some (some (.int .i64 0), 1, 8) := by kernel_rfl

def putN (n _m : Int) (s : List Int) : Int × List Int := (n, s ++ [n])
def PutAt (G : Nat) (w : World) (s : List Int) : Prop := ∃ v, BoxAt w G 60 #[v] ∧ w.ownsRow (G + 1) 3 1 v s.length (s.map (Value.int .i64))

theorem PutAt.own {G : Nat} {w : World} {s : List Int} {v : Value} (h : BoxAt w G 60 #[v]) (k : Nat) : own G w k ↔ k = G ∨ v.ownBlock = some k := by
  have hc : w.cell? ⟨G, 0, none⟩ = some v := (h.cell 0).trans rfl
  unfold Go.Proofs.Ytfdoejdnhogepaa.own
  rw [hc]
  simp

set_option maxRecDepth 100000 in
set_option maxHeartbeats 800000 in
theorem put_step (G : Nat) (w : World) (s : List Int) (n m : Int) (hA : PutAt G w s) (hr : (s ++ [n]).length ≤ 1000000) :
    Calls Try.prog 30 #[.pointer (some ⟨G, 0, none⟩), .int .i64 n, .int .i64 m] w fun e w' => e = .returned (.int .i64 n) ∧ PutAt G w' (s ++ [n]) ∧ KB G w.heap.size w w' := by
  obtain ⟨i0, hi, hz0, hz1, hz2⟩ := info_parts Try.infoI7
  obtain ⟨v, hbox, hown⟩ := hA
  have hG := hbox.lt
  have c0 := (hbox.cell 0).trans rfl
  have f0 := hbox.free
  have HX := hid hbox
  have HO := hid hown
  have hlen : s.length + 1 ≤ 1000000 := by simpa using hr
  have hsl : ∃ a k c, v = .slice a k c := by
    rcases hown.2 with h | ⟨g, cap, cur, hv, _⟩
    · exact ⟨_, _, _, h.1⟩
    · exact ⟨_, _, _, hv⟩
  obtain ⟨a, k, c, rfl⟩ := hsl
  have HO1 := hid (hown.alloc (.cells #[.int .i64 n] 3))
  clear hbox hown hr
  have c0a : ∀ o, (w.alloc o).cell? ⟨G, 0, none⟩ = some (.slice a k c) := fun o => ((HX.out.alloc o).cell 0).trans rfl
  go_enter Try.func30, Try.ntmps30
  go_wp2_with (at_builtin; refine wpList_append_lies _ rfl _ _ 22 rfl (G + 1) 3 i0 (.int .i64 0) 1 8 Try.underlying22 hi hz0 hz1 hz2 rfl (by decide) _ _ _ rfl HO1.out ⟨w.heap.size, 0, none⟩ 1 1 [.int .i64 n] rfl rfl ?k1 ?k2 ?k0 ?k3 ?k4 ?k5 _ rfl ?_)
  case k1 =>
    intro j u hj
    rw [add_none, Nat.zero_add, (BoxAt.new w _ _).cell j]
    simpa using hj
  case k2 => intro u hu; simp at hu; subst hu; rfl
  case k0 => decide
  case k3 => unfold maxLen; omega
  case k4 => omega
  case k5 => simp; omega
  intro gg cap w4 ho4 hg4 hl4 hlt4
  have hne : ∀ k', (Value.slice a k c).ownBlock = some k' → G + 1 ≤ k' := fun k' hk' => (HO.out.lt k' hk').1
  have hb4 : BoxAt w4 G 60 #[.slice a k c] := (HX.out.alloc _).grown hg4 (fun e => by have := hne G e.symm; omega)
  have e0 := (hb4.cell 0).trans rfl
  have f4 := hb4.free
  have HB4 := hid hb4
  have HO4 := hid ho4
  have HG4 := hid hg4
  have HL4 := hid hl4
  clear hb4 ho4 hg4 hl4 hne HO1
  go_wp2
  go_ret
  have hb5 := HB4.out.set 0 (.slice (some ⟨gg, 0, none⟩) (s.length + 1) cap)
  refine ⟨rfl, ⟨_, hb5, ?_⟩, ?_⟩
  · rw [List.length_append, List.map_append]
    exact ownsRow_setCell_below HO4.out (by show G < G + 1; omega) _
  · have hs4 : w.heap.size ≤ w4.heap.size := by have := HG4.out.size; simp at this; omega
    have hrow : ∀ k', (Value.slice a k c).ownBlock = some k' → own G w k' := fun k' hk' => (PutAt.own (s := s) HX.out k').2 (.inr hk')
    refine ⟨HG4.out.os, HG4.out.tape, HG4.out.output, by simpa using hs4, fun k' hk' ho ho' => ?_, fun k' _ hk' ho => ?_⟩
    · rcases (PutAt.own (s := s) hb5 k').1 ho' with rfl | h
      · exact ho (.inl rfl)
      · simp [Value.ownBlock] at h
        subst h
        rcases HL4.out with h | h
        · exact ho (hrow _ h)
        · omega
    · rw [Below.heap_setCell _ _ _ _ (fun e => ho (.inl e))]
      rw [HG4.out.block k' (by simp; omega) (fun e => ho (hrow _ e.symm))]
      exact Below.heap_alloc _ _ _ hk'

theorem putMach (G : Nat) : Mach 30 G (List Int) putN (PutAt G) List.length where
  enters := enters_of Try.func30 (by kernel_rfl) rfl
  live := fun w s ⟨v, hb, ho⟩ k hk => by
    rcases (PutAt.own (s := s) hb k).1 hk with rfl | h
    · exact hb.lt
    · exact (ho.lt k h).2
  stable := fun w w' s ⟨v, hb, ho⟩ h => by
    have hG : w'.heap[G]? = w.heap[G]? := h G (.inl rfl)
    refine ⟨v, hG.trans hb, ho.1, ?_⟩
    rcases ho.2 with h2 | ⟨g, cap, cur, hv, hg, hh, hrest⟩
    · exact .inl h2
    · exact .inr ⟨g, cap, cur, hv, hg, (h g ((PutAt.own (s := s) hb g).2 (.inr (by rw [hv]; rfl)))).trans hh, hrest⟩
  mono := fun n m s => by simp [putN]
  few := fun n s => .inr (Int.le_refl _)
  step := fun w s n m hA hr => put_step G w s n m hA hr

def takeN (_n m : Int) (s : List Int × Int) : Int × (List Int × Int) :=
  if s.2 ≠ 0 then (0, s) else match s.1 with
    | [] => (0, ([], 3))
    | x :: r => if m < x then (0, (x :: r, 2)) else (x, (r, 0))
def TakeAt (G : Nat) (w : World) (s : List Int × Int) : Prop := ∃ v, BoxAt w G 85 #[v, .int .i64 s.2] ∧ Sees w .i64 v s.1 ∧ ∀ k, v.ownBlock = some k → k < w.heap.size ∧ k ≠ G

theorem TakeAt.own {G : Nat} {w : World} {v u : Value} (h : BoxAt w G 85 #[v, u]) (k : Nat) : own G w k ↔ k = G ∨ v.ownBlock = some k := by
  have hc : w.cell? ⟨G, 0, none⟩ = some v := (h.cell 0).trans rfl
  unfold Go.Proofs.Ytfdoejdnhogepaa.own
  rw [hc]
  simp

/-- A store into the machine's own struct. -/
theorem TakeAt.set {G : Nat} {w : World} {v u : Value} (h : BoxAt w G 85 #[v, u]) (j : Nat) (x : Value) {v' u' : Value} (h' : BoxAt (w.setCell ⟨G, j, none⟩ x) G 85 #[v', u']) (hv : ∀ k, v'.ownBlock = some k → v.ownBlock = some k) : KB G w.heap.size w (w.setCell ⟨G, j, none⟩ x) := by
  refine ⟨rfl, rfl, rfl, by simp, fun k hk ho ho' => ?_, fun k _ hk ho => Below.heap_setCell _ _ _ _ (fun e => ho (.inl e))⟩
  rcases (TakeAt.own h' k).1 ho' with rfl | h2
  · exact ho (.inl rfl)
  · exact ho ((TakeAt.own h k).2 (.inr (hv k h2)))
theorem Sees.setOther {w : World} {v : Value} {xs : List Int} (h : Sees w .i64 v xs) {p : Addr} (hp : ∀ k, v.ownBlock = some k → k ≠ p.block) (u : Value) : Sees (w.setCell p u) .i64 v xs :=
  h.turn (fun x n c hv hn => Below.heap_setCell _ _ _ _ (hp _ (by rw [hv]; rfl)))

set_option maxRecDepth 100000 in
set_option maxHeartbeats 1600000 in
theorem take_step (G : Nat) (w : World) (s : List Int × Int) (n m : Int) (hA : TakeAt G w s) :
    Calls Try.prog 54 #[.pointer (some ⟨G, 0, none⟩), .int .i64 n, .int .i64 m] w fun e w' => e = .returned (.int .i64 (takeN n m s).1) ∧ TakeAt G w' (takeN n m s).2 ∧ KB G w.heap.size w w' := by
  obtain ⟨v, hbox, hsee, hblk⟩ := hA
  obtain ⟨l, er⟩ := s
  simp only at hbox hsee
  have hG := hbox.lt
  have c0 := (hbox.cell 0).trans rfl
  have c1 := (hbox.cell 1).trans rfl
  have f0 := hbox.free
  have HX := hid hbox
  have HS := hid hsee
  have HB := hid hblk
  obtain ⟨a, cap, rfl, hl1, hl2, hcells⟩ := hsee.form
  have HL2 := hid hl2
  unfold maxLen at hl2
  have HC := hid hcells
  clear hbox hsee hblk hcells
  by_cases her : er = 0
  · subst her
    rcases l with _ | ⟨x, r⟩
    · have HT := hid (show takeN n m ([], 0) = (0, ([], 3)) by simp [takeN])
      go_enter Try.func54, Try.ntmps54
      go_wp2
      go_ret
      have hb5 := HX.out.set 1 (.int .i64 3)
      refine ⟨by rw [HT.out]; rfl, ?_, ?_⟩
      · rw [HT.out]
        exact ⟨_, hb5, HS.out.setOther (fun k hk => (HB.out k hk).2) _, fun k hk => by simpa using HB.out k hk⟩
      · exact TakeAt.set HX.out 1 _ hb5 (fun k hk => hk)
    · obtain ⟨b, off, rfl, hbw, hcell⟩ := HC.out (by simp)
      have d0 := hcell 0 (by simp)
      simp only [List.getD_cons_zero, Nat.add_zero] at d0
      simp only [List.length_cons] at hl1 c0 ⊢
      have hbG : b ≠ G := (HB.out b rfl).2
      by_cases hm : m < x
      · have HT := hid (show takeN n m (x :: r, 0) = (0, (x :: r, 2)) by simp [takeN, hm])
        go_enter Try.func54, Try.ntmps54
        go_wp2
        go_ret
        have hb5 := HX.out.set 1 (.int .i64 2)
        refine ⟨by rw [HT.out]; rfl, ?_, ?_⟩
        · rw [HT.out]
          exact ⟨_, hb5, HS.out.setOther (fun k hk => (HB.out k hk).2) _, fun k hk => by simpa using HB.out k hk⟩
        · exact TakeAt.set HX.out 1 _ hb5 (fun k hk => hk)
      · have HT := hid (show takeN n m (x :: r, 0) = (x, (r, 0)) by simp [takeN, hm])
        have hdr := Sees.dropped (k := .i64) 1 (show 1 ≤ (x :: r).length by simp) (by simpa using hl1) HL2.out hcell
        simp only [List.length_cons, List.drop_succ_cons, List.drop_zero, Nat.add_sub_cancel] at hdr
        by_cases hcap : cap = 1
        · rw [if_pos hcap, hcap] at hdr
          have HD := hid hdr
          clear hdr hcell
          go_enter Try.func54, Try.ntmps54
          go_wp2
          go_ret
          have hb5 := HX.out.set 0 (.slice (some ⟨b, off, none⟩) r.length 0)
          refine ⟨by rw [HT.out]; rfl, ?_, ?_⟩
          · rw [HT.out]
            exact ⟨_, hb5, HD.out.setOther (fun k hk => by simp [Value.ownBlock] at hk; subst hk; exact hbG) _, fun k hk => by simp [Value.ownBlock] at hk; subst hk; exact ⟨by simpa using hbw, hbG⟩⟩
          · exact TakeAt.set HX.out 0 _ hb5 (fun k hk => hk)
        · rw [if_neg hcap] at hdr
          have HD := hid hdr
          clear hdr hcell
          go_enter Try.func54, Try.ntmps54
          go_wp2
          go_ret
          have hb5 := HX.out.set 0 (.slice (some ⟨b, off + 1, none⟩) r.length (cap - 1))
          refine ⟨by rw [HT.out]; rfl, ?_, ?_⟩
          · rw [HT.out]
            exact ⟨_, hb5, HD.out.setOther (fun k hk => by simp [Value.ownBlock] at hk; subst hk; exact hbG) _, fun k hk => by simp [Value.ownBlock] at hk; subst hk; exact ⟨by simpa using hbw, hbG⟩⟩
          · exact TakeAt.set HX.out 0 _ hb5 (fun k hk => hk)
  · have HT := hid (show takeN n m (l, er) = (0, (l, er)) by simp [takeN, her])
    go_enter Try.func54, Try.ntmps54
    have hne : (er != 0) = true := by simpa using her
    clear her
    go_wp2
    go_ret
    exact ⟨by rw [HT.out]; rfl, by rw [HT.out]; exact ⟨_, HX.out, HS.out, HB.out⟩, KB.refl _ _ _⟩

theorem takeMach (G : Nat) : Mach 54 G (List Int × Int) takeN (TakeAt G) (fun _ => 0) where
  enters := enters_of Try.func54 (by kernel_rfl) rfl
  live := fun w s ⟨v, hb, hs, hk⟩ k h => by
    rcases (TakeAt.own hb k).1 h with rfl | h
    · exact hb.lt
    · exact (hk k h).1
  stable := fun w w' s ⟨v, hb, hs, hk⟩ h => by
    have hG : w'.heap[G]? = w.heap[G]? := h G (.inl rfl)
    have hown : ∀ k, v.ownBlock = some k → w'.heap[k]? = w.heap[k]? := fun k hk' => h k ((TakeAt.own hb k).2 (.inr hk'))
    refine ⟨v, hG.trans hb, hs.turn (fun x n c hv hn => hown _ (by rw [hv]; rfl)), fun k hk' => ⟨?_, (hk k hk').2⟩⟩
    have h1 := (hk k hk').1
    have h2 := hown k hk'
    rw [Array.getElem?_eq_getElem h1] at h2
    exact lt_of_block h2
  mono := fun n m s => Nat.le_refl _
  few := fun n s => by
    left
    unfold takeN
    split
    · simp
    · split
      · simp
      · split
        · simp
        · simp only; omega
  step := fun w s n m hA hr => take_step G w s n m hA
end Go.Proofs.Ytfdoejdnhogepaa
