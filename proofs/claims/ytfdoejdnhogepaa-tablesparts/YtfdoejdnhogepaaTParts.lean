/-
  The law TablesParts returns true, whatever it is given, and nothing that was there is written.
-/
import Derived.Test.YtfdoejdnhogepaaTMore2
import Derived.Test.YtfdoejdnhogepaaTAwake
namespace Go.Proofs.Ytfdoejdnhogepaa
open Go.RowKit
set_option linter.unusedVariables false

theorem Try.infoWnP : (Try.prog.info? 39).map (fun i => (i.zero, i.size, i.bytes)) = some (some (.agg #[.int .i64 0, .int .i64 0, .int .i64 0]), 3, 24) := by kernel_rfl
theorem Try.infoChP : (Try.prog.info? 41).map (fun i => (i.zero, i.size, i.bytes)) = some (some (.agg #[.bool false, .int .i64 0, .int .i64 0, .int .i64 0, .int .i64 0]), 5, 40) := by kernel_rfl

set_option maxRecDepth 100000 in
set_option maxHeartbeats 6400000 in
theorem walk_TablesParts (w : World) (x : CfX) (hx : x.fit w) :
    Calls Try.prog 6 #[x.val] w fun e w' => e = .returned (.bool true) ∧ Below w.heap.size w w' := by
  have hnot := Try.hnot
  obtain ⟨⟨fr, sw, ⟨a1, n1, k1⟩, ⟨a2, n2, k2⟩, ⟨a3, n3, k3⟩, ⟨a4, n4, k4⟩⟩, c⟩ := x
  obtain ⟨hS, hf, hwd⟩ := hx
  simp only at hS hf hwd
  have HS := hid hS
  have HF := hid hf
  clear hS hf hwd
  unfold CfX.val Cv.val
  go_enter Try.func6, Try.ntmps6
  go_wp2_with fail
  refine (awake_any _).mono ?_
  rintro e w1 ⟨rfl, hb⟩
  have B1 : BoxAt w1 w.heap.size 27 #[.int .i64 fr, .int .i64 sw, .slice a1 n1 k1, .slice a2 n2 k2, .slice a3 n3 k3, .slice a4 n4 k4] := (BoxAt.new w _ _).belowAll hb
  have hB1 : Below w.heap.size w w1 := ((Below.refl _ _).alloc (Nat.le_refl _) _).trans (hb.mono (by simp))
  have c0 := (B1.cell 0).trans rfl
  have c1 := (B1.cell 1).trans rfl
  have c2 := (B1.cell 2).trans rfl
  have c3 := (B1.cell 3).trans rfl
  have c4 := (B1.cell 4).trans rfl
  have c5 := (B1.cell 5).trans rfl
  have HB1 := hid B1
  clear hb B1
  go_wp2_with fail
  refine (few_any ⟨fr, sw, ⟨a1, n1, k1⟩, ⟨a2, n2, k2⟩, ⟨a3, n3, k3⟩, ⟨a4, n4, k4⟩⟩ c _ (HS.out.below hB1)).mono ?_
  rintro e w2 ⟨⟨ok, rfl⟩, hb⟩
  have B2 := HB1.out.belowAll hb
  have hB2 := hB1.trans (hb.mono hB1.size)
  clear hb hB1 HB1 c0 c1 c2 c3 c4 c5
  cases ok
  · clear HS HF B2
    go_wp2
    go_ret
    exact ⟨rfl, hB2⟩
  have c0 := (B2.cell 0).trans rfl
  have c1 := (B2.cell 1).trans rfl
  have c2 := (B2.cell 2).trans rfl
  have c3 := (B2.cell 3).trans rfl
  have c4 := (B2.cell 4).trans rfl
  have c5 := (B2.cell 5).trans rfl
  have HB2 := hid B2
  clear B2
  go_wp2_with fail
  refine (tmay_any ⟨fr, sw, ⟨a1, n1, k1⟩, ⟨a2, n2, k2⟩, ⟨a3, n3, k3⟩, ⟨a4, n4, k4⟩⟩ c _ (HS.out.below hB2) HF.out).mono ?_
  rintro e w3 ⟨rfl, hb⟩
  have B3 := HB2.out.belowAll hb
  have hB3 := hB2.trans (hb.mono hB2.size)
  clear hb hB2 HB2 c0 c1 c2 c3 c4 c5
  rcases hm : mayC c
  · clear HS HF B3 hm
    go_wp2
    go_ret
    exact ⟨rfl, hB3⟩
  have c0 := (B3.cell 0).trans rfl
  have c1 := (B3.cell 1).trans rfl
  have c2 := (B3.cell 2).trans rfl
  have c3 := (B3.cell 3).trans rfl
  have c4 := (B3.cell 4).trans rfl
  have c5 := (B3.cell 5).trans rfl
  by_cases g3 : n3 = 0
  · subst g3
    clear HS HF B3 hm
    go_wp2
    go_ret
    exact ⟨rfl, hB3⟩
  have hn3 : ((n3 : Int) == 0) = false := by simpa using g3
  have hpos3 : 0 < n3 := by omega
  have HM := hid hm
  have hsz3 := hB3.size
  have hlt3 := B3.lt
  obtain ⟨mf1, mf2, mp1, mp2, mw1, mw2, mc⟩ := may_has hm
  have q0 : fr = c.fr := HS.out.fr
  have q2 : n2 = c.pa.length := by
    obtain ⟨qs, hq, hql, _⟩ := HS.out.pa
    obtain ⟨_, _, e4, _, _, _⟩ := hq.form
    simp only [Sl.val, Value.slice.injEq] at e4
    omega
  have q3 : n3 = c.wi.length := by
    obtain ⟨_, _, e4, _, _, _⟩ := HS.out.wi.form
    simp only [Sl.val, Value.slice.injEq] at e4
    exact e4.2.1
  have q4 : n4 = c.ch.length := by
    obtain ⟨_, _, e4, _, _, _⟩ := HS.out.ch.form
    simp only [Sl.val, Value.slice.injEq] at e4
    exact e4.2.1
  have hf1 : 1 ≤ fr := by omega
  have hf2 : fr ≤ 4096 := by omega
  have hn2 : n2 ≤ 4 := by omega
  have hn21 : 1 ≤ n2 := by omega
  have hn312 : n3 ≤ 12 := by omega
  have hn4 : n4 ≤ 8 := by omega
  have Q0 := hid q0
  have Q2 := hid q2
  have Q3 := hid q3
  have Q4 := hid q4
  clear q0 q2 q3 q4 mf1 mf2 mp1 mp2 mw1 mw2 mc
  obtain ⟨i0, hi, hz0, hz1, hz2⟩ := info_parts Try.infoWnP
  obtain ⟨j0, hj, hy0, hy1, hy2⟩ := info_parts Try.infoChP
  clear hm
  obtain ⟨v, l, hwi⟩ : ∃ v l, c.wi = v :: l := by
    rcases hq : c.wi with _ | ⟨v, l⟩
    · have := Q3.out; rw [hq] at this; simp at this; omega
    · exact ⟨v, l, rfl⟩
  obtain ⟨aw, kw, hvw, hk1, hk2, hcx⟩ := HS.out.wi.form
  simp only [Sl.val, Value.slice.injEq] at hvw
  obtain ⟨ha3, hnn, hkk⟩ := hvw
  subst ha3 hkk
  obtain ⟨b, off, hab, hbw, hcw⟩ := hcx (by rw [hwi]; simp)
  subst hab
  have HWI := hid hwi
  have HWC := hid (show w.cell? ⟨b, off, none⟩ = some (.int .i64 v.p) ∧ w.cell? ⟨b, off + 1, none⟩ = some (.int .i64 v.st) ∧ w.cell? ⟨b, off + 2, none⟩ = some (.int .i64 v.ln) by
    have e0 := hcw 0 (by rw [hwi]; simp) 0 (by decide)
    have e1 := hcw 0 (by rw [hwi]; simp) 1 (by decide)
    have e2 := hcw 0 (by rw [hwi]; simp) 2 (by decide)
    rw [hwi] at e0 e1 e2
    simp only [Nat.zero_mul, Nat.add_zero] at e0 e1 e2
    exact ⟨e0, e1, e2⟩)
  have hkc : n3 ≤ k3 := by have := Q3.out; omega
  have hpos3' : (0 : Int) < (n3 : Int) := by omega
  clear hcw hcx hwi hk1 hnn
  unfold maxLen at hk2
  have HB3 := hid B3
  clear B3
  go_wp2_with fail
  obtain ⟨W, hW⟩ : ∃ W, ((w3.alloc (.cells #[.int .i64 fr, .int .i64 sw, .slice a1 n1 k1, .slice a2 n2 k2, .slice none 0 0, .slice a4 n4 k4] 27)).alloc (.cells #[.int .i64 fr, .int .i64 sw, .slice a1 n1 k1, .slice a2 n2 k2, .slice (some ⟨b, off, none⟩) n3 k3, .slice a4 n4 k4] 27)) = W := ⟨_, rfl⟩
  have hsW : w3.heap.size + 1 < W.heap.size := by rw [← hW]; simp
  have hBW : Below w.heap.size w W := by rw [← hW]; exact (hB3.alloc hB3.size _).alloc (by simp; omega) _
  have AW : BoxAt W w3.heap.size 27 #[.int .i64 fr, .int .i64 sw, .slice a1 n1 k1, .slice a2 n2 k2, .slice none 0 0, .slice a4 n4 k4] := by rw [← hW]; exact (BoxAt.newAt _ _ rfl _ _).alloc _
  have BbW : BoxAt W (w3.heap.size + 1) 27 #[.int .i64 fr, .int .i64 sw, .slice a1 n1 k1, .slice a2 n2 k2, .slice (some ⟨b, off, none⟩) n3 k3, .slice a4 n4 k4] := by rw [← hW]; exact BoxAt.newAt _ _ (by simp) _ _
  have BW : BoxAt W w.heap.size 27 #[.int .i64 fr, .int .i64 sw, .slice a1 n1 k1, .slice a2 n2 k2, .slice (some ⟨b, off, none⟩) n3 k3, .slice a4 n4 k4] := by rw [← hW]; exact (HB3.out.alloc _).alloc _
  rw [hW]
  clear hW HB3 hB3 c0 c1 c2 c3 c4 c5
  have HSW := hid (show ∀ w', Below W.heap.size W w' → SeesC w' 3 (.slice (some ⟨b, off, none⟩) n3 k3) (c.wi.map Wn.cells) from fun w' h => HS.out.wi.below (hBW.trans (h.mono hBW.size)))
  have HM1 := hid (show 0 + (c.wi.map Wn.cells).length ≤ maxLen by have := Q3.out; simp [maxLen]; omega)
  have HM2 := hid (show (0 + (c.wi.map Wn.cells).length) * 24 ≤ 140737488355328 by have := Q3.out; simp; omega)
  have HM3 := hid (show n3 + [v.cells].length ≤ maxLen by simp [maxLen]; omega)
  have HM4 := hid (show (n3 + [v.cells].length) * 24 ≤ 140737488355328 by simp; omega)
  have MK := hid (show ∀ w', Below W.heap.size W w' → w'.cell? ⟨w.heap.size, 4, none⟩ = some (.slice (some ⟨b, off, none⟩) n3 k3) ∧ w'.cell? ⟨b, off, none⟩ = some (.int .i64 v.p) ∧ w'.cell? ⟨b, off + 1, none⟩ = some (.int .i64 v.st) ∧ w'.cell? ⟨b, off + 2, none⟩ = some (.int .i64 v.ln) from
    fun w' h => ⟨((BW.belowAll h).cell 4).trans rfl, ((hBW.trans (h.mono hBW.size)).cell (by exact hbw)).trans HWC.out.1, ((hBW.trans (h.mono hBW.size)).cell (by exact hbw)).trans HWC.out.2.1, ((hBW.trans (h.mono hBW.size)).cell (by exact hbw)).trans HWC.out.2.2⟩)
  have MS := hid (show ∀ (w' : World) (u : Value), w'.cell? ⟨w.heap.size, 4, none⟩ = some (.slice (some ⟨b, off, none⟩) n3 k3) ∧ w'.cell? ⟨b, off, none⟩ = some (.int .i64 v.p) ∧ w'.cell? ⟨b, off + 1, none⟩ = some (.int .i64 v.st) ∧ w'.cell? ⟨b, off + 2, none⟩ = some (.int .i64 v.ln) → (w'.setCell ⟨w3.heap.size + 1, 4, none⟩ u).cell? ⟨w.heap.size, 4, none⟩ = some (.slice (some ⟨b, off, none⟩) n3 k3) ∧ (w'.setCell ⟨w3.heap.size + 1, 4, none⟩ u).cell? ⟨b, off, none⟩ = some (.int .i64 v.p) ∧ (w'.setCell ⟨w3.heap.size + 1, 4, none⟩ u).cell? ⟨b, off + 1, none⟩ = some (.int .i64 v.st) ∧ (w'.setCell ⟨w3.heap.size + 1, 4, none⟩ u).cell? ⟨b, off + 2, none⟩ = some (.int .i64 v.ln) from
    fun w' u h => ⟨(World.cell?_setCell_far _ _ _ _ (by simp; omega)).trans h.1, (World.cell?_setCell_far _ _ _ _ (by simp; omega)).trans h.2.1, (World.cell?_setCell_far _ _ _ _ (by simp; omega)).trans h.2.2.1, (World.cell?_setCell_far _ _ _ _ (by simp; omega)).trans h.2.2.2⟩)
  have HBX := hid (And.intro AW (And.intro BbW BW))
  have HBW := hid hBW
  clear hBW AW BbW BW
  refine wp_region_held_drew (S := (fun w' => w'.cell? ⟨w.heap.size, 4, none⟩ = some (.slice (some ⟨b, off, none⟩) n3 k3) ∧ w'.cell? ⟨b, off, none⟩ = some (.int .i64 v.p) ∧ w'.cell? ⟨b, off + 1, none⟩ = some (.int .i64 v.st) ∧ w'.cell? ⟨b, off + 2, none⟩ = some (.int .i64 v.ln))) (by kernel_rfl) (MK.out _ (Below.refl _ _).drew) (fun hHeld => ?_)
  refine wpAnyH_take (i := 0) (oi := { dst := some 33, op := Op.fieldAddr 27 (Operand.tmp 1) 4, type := 0, pos := "law.go:113", after := #[], guard := none }) (v := ?_) rfl (by kernel_rfl) (by kernel_rfl) (by kernel_rfl) (fun _ _ _ h => h) (Or.inl ⟨by rfl, ?_⟩) (by assumption) ?_
  rotate_left
  · (intro w hSw; (try dsimp only at hSw); go_simp; try with_reducible rfl)
  simp only [Act.put, List.setIfInBounds_toArray, List.set_cons_zero, List.set_cons_succ]
  refine wpAnyH_take (i := 1) (oi := { dst := some 34, op := Op.load 24 (Operand.tmp 33), type := 24, pos := "law.go:113", after := #[{ on := 0, ground := Ground.data }], guard := none }) (v := ?_) rfl (by kernel_rfl) (by kernel_rfl) (by kernel_rfl) (fun _ _ _ h => h) (Or.inl ⟨by rfl, ?_⟩) (by assumption) ?_
  rotate_left
  · (intro w hSw; (try dsimp only at hSw); go_simp; try with_reducible rfl)
  simp only [Act.put, List.setIfInBounds_toArray, List.set_cons_zero, List.set_cons_succ]
  refine wpAnyH_take (i := 3) (oi := { dst := some 36, op := Op.fieldAddr 27 (Operand.tmp 1) 4, type := 0, pos := "law.go:113", after := #[], guard := none }) (v := ?_) rfl (by kernel_rfl) (by kernel_rfl) (by kernel_rfl) (fun _ _ _ h => h) (Or.inl ⟨by rfl, ?_⟩) (by assumption) ?_
  rotate_left
  · (intro w hSw; (try dsimp only at hSw); go_simp; try with_reducible rfl)
  simp only [Act.put, List.setIfInBounds_toArray, List.set_cons_zero, List.set_cons_succ]
  refine wpAnyH_take (i := 4) (oi := { dst := some 37, op := Op.load 24 (Operand.tmp 36), type := 24, pos := "law.go:113", after := #[{ on := 3, ground := Ground.data }], guard := none }) (v := ?_) rfl (by kernel_rfl) (by kernel_rfl) (by kernel_rfl) (fun _ _ _ h => h) (Or.inl ⟨by rfl, ?_⟩) (by assumption) ?_
  rotate_left
  · (intro w hSw; (try dsimp only at hSw); go_simp; try with_reducible rfl)
  simp only [Act.put, List.setIfInBounds_toArray, List.set_cons_zero, List.set_cons_succ]
  refine wpAnyH_take (i := 5) (oi := { dst := some 38, op := Op.indexAddr 24 (Operand.tmp 37) (Operand.const (Value.int IntKind.i64 0)), type := 0, pos := "law.go:113", after := #[{ on := 4, ground := Ground.data }], guard := none }) (v := ?_) rfl (by kernel_rfl) (by kernel_rfl) (by kernel_rfl) (fun _ _ _ h => h) (Or.inl ⟨by rfl, ?_⟩) (by assumption) ?_
  rotate_left
  · (intro w hSw; (try dsimp only at hSw); go_simp; try with_reducible rfl)
  simp only [Act.put, List.setIfInBounds_toArray, List.set_cons_zero, List.set_cons_succ]
  refine wpAnyH_take (i := 6) (oi := { dst := some 39, op := Op.load 39 (Operand.tmp 38), type := 39, pos := "law.go:113", after := #[{ on := 5, ground := Ground.data }], guard := none }) (v := ?_) rfl (by kernel_rfl) (by kernel_rfl) (by kernel_rfl) (fun _ _ _ h => h) (Or.inl ⟨by rfl, ?_⟩) (by assumption) ?_
  rotate_left
  · (intro w hSw; (try dsimp only at hSw); go_simp; try with_reducible rfl)
  simp only [Act.put, List.setIfInBounds_toArray, List.set_cons_zero, List.set_cons_succ]
  refine wpAnyH_ready (rs := [2, 7]) (by kernel_rfl) (by simp) (AllReadyH.cons (o := { dst := some 35, op := Op.call { callee := Callee.builtin Builtin.append, args := #[Operand.const (Value.slice none 0 0), Operand.tmp 34], argTypes := #[24, 24] }, type := 24, pos := "law.go:113", after := #[{ on := 1, ground := Ground.data }], guard := none }) rfl (fun K7 hK7 => ?b7_2) (AllReadyH.cons (o := { dst := some 40, op := Op.buildSlice 24 1 #[(0, Operand.tmp 39)], type := 24, pos := "law.go:113", after := #[{ on := 6, ground := Ground.data }], guard := none }) rfl (fun K7 hK7 => ?b7_7) AllReadyH.nil))
  case' b7_2 =>
    refine step_append_seesC rfl (.const (.slice none 0 0)) (.tmp 34) 24 rfl W.heap.size 39 i0 _ 3 24 Try.underlying24 hi hz0 hz1 hz2 rfl (by decide) (.slice none 0 0) 0 [] rfl (World.ownsRow_nil _ _ _ 3) _ (c.wi.map Wn.cells) rfl (HSW.out _ (Below.refl W.heap.size W).drew) (wn_len _) (wn_one _) HM1.out HM2.out (Below.refl W.heap.size W).drew.size ?_
    intro v5 w5 ho5 hg5
    have hb5 : Below W.heap.size W w5 := (Below.refl W.heap.size W).drew.grown hg5 (Below.refl W.heap.size W).drew.size (by simp [Value.ownBlock])
    replace ho5 : w5.ownsRow W.heap.size 39 3 v5 n3 (c.wi.map Wn.cells).flatten := by rw [Q3.out]; simpa using ho5
    replace ho5 := hid ho5
    replace hg5 := hid hg5
    refine hK7.out _ _ (MK.out _ hb5) (fun hHeld7 => ?_)
    clear hK7 K7
    try simp only [Act.put, List.setIfInBounds_toArray, List.set_cons_zero, List.set_cons_succ]
    refine wpAnyH_ready (rs := [7]) (by kernel_rfl) (by simp) (AllReadyH.cons (o := { dst := some 40, op := Op.buildSlice 24 1 #[(0, Operand.tmp 39)], type := 24, pos := "law.go:113", after := #[{ on := 6, ground := Ground.data }], guard := none }) rfl (fun K8 hK8 => ?_) AllReadyH.nil)
    go_simp
    have hb7 : Below W.heap.size W (w5.alloc (.cells #[.int .i64 v.p, .int .i64 v.st, .int .i64 v.ln] 39)) := hb5.alloc hb5.size _
    refine hK8.out _ _ (MK.out _ hb7) (fun hHeld8 => ?_)
    clear hK8 K8
    try simp only [Act.put, List.setIfInBounds_toArray, List.set_cons_zero, List.set_cons_succ]
    refine wpAnyH_ready (rs := [8]) (by kernel_rfl) (by simp) (AllReadyH.cons (o := { dst := some 41, op := Op.call { callee := Callee.builtin Builtin.append, args := #[Operand.tmp 35, Operand.tmp 40], argTypes := #[24, 24] }, type := 24, pos := "law.go:113", after := #[{ on := 2, ground := Ground.data }, { on := 7, ground := Ground.data }, { on := 2, ground := Ground.chain }], guard := none }) rfl (fun K9 hK9 => ?_) AllReadyH.nil)
    refine step_append_seesC rfl (.tmp 35) (.tmp 40) 24 rfl W.heap.size 39 i0 _ 3 24 Try.underlying24 hi hz0 hz1 hz2 rfl (by decide) v5 n3 (c.wi.map Wn.cells).flatten rfl (World.ownsRow.alloc ho5.out _) _ [v.cells] rfl (SeesC.one (cs := v.cells) (BoxAt.new w5 _ _)) (by intro e he; simp at he; subst he; rfl) (fun e he => wn_one [v] e (by simpa using he)) HM3.out HM4.out hb7.size ?_
    intro v6 w6 ho6 hg6
    have hb6 : Below W.heap.size W w6 := hb7.grown hg6 hb7.size (fun k hk => (ho5.out.lt k hk).1)
    clear hg6
    obtain ⟨gB, cB, rfl, hgB⟩ : ∃ g cap, v6 = .slice (some ⟨g, 0, none⟩) (n3 + 1) cap ∧ W.heap.size ≤ g := by
      rcases ho6.2 with ⟨_, h⟩ | ⟨g, cap, cur, h1, h2, h3, h4, h5, _⟩
      · simp at h
      · exact ⟨g, cap, h1, h2⟩
    have x4 := ((HBX.out.2.1.belowAll hb6).cell 4).trans rfl
    have xf := (HBX.out.2.1.belowAll hb6).free 4
    replace ho6 := hid ho6
    refine hK9.out _ _ (MK.out _ hb6) (fun hHeld9 => ?_)
    clear hK9 K9
    try simp only [Act.put, List.setIfInBounds_toArray, List.set_cons_zero, List.set_cons_succ]
    refine wpAnyH_take (i := 9) (oi := { dst := some 42, op := Op.fieldAddr 27 (Operand.tmp 6) 4, type := 0, pos := "law.go:113", after := #[{ on := 0, ground := Ground.phase }, { on := 1, ground := Ground.phase }, { on := 2, ground := Ground.phase }, { on := 3, ground := Ground.phase }, { on := 4, ground := Ground.phase }, { on := 5, ground := Ground.phase }, { on := 6, ground := Ground.phase }, { on := 7, ground := Ground.phase }, { on := 8, ground := Ground.phase }], guard := none }) (v := ?_) rfl (by kernel_rfl) (by kernel_rfl) (by kernel_rfl) (fun _ _ _ h => h) (Or.inl ⟨by rfl, ?_⟩) (by assumption) ?_
    rotate_left
    · (intro w hSw; (try dsimp only at hSw); go_simp; try with_reducible rfl)
    simp only [Act.put, List.setIfInBounds_toArray, List.set_cons_zero, List.set_cons_succ]
    refine wpAnyH_ready (rs := [10]) (by kernel_rfl) (by simp) (AllReadyH.cons (o := { dst := none, op := Op.store 24 (Operand.tmp 42) (Operand.tmp 41), type := 0, pos := "law.go:113", after := #[{ on := 9, ground := Ground.data }, { on := 8, ground := Ground.data }, { on := 8, ground := Ground.chain }, { on := 0, ground := Ground.phase }, { on := 1, ground := Ground.phase }, { on := 2, ground := Ground.phase }, { on := 3, ground := Ground.phase }, { on := 4, ground := Ground.phase }, { on := 5, ground := Ground.phase }, { on := 6, ground := Ground.phase }, { on := 7, ground := Ground.phase }, { on := 8, ground := Ground.phase }], guard := none }) rfl (fun K11 hK11 => ?_) AllReadyH.nil)
    go_simp
    refine hK11.out _ _ (MS.out _ _ (MK.out _ hb6)) (fun hHeld11 => ?_)
    clear hK11 K11
    try simp only [Act.put, List.setIfInBounds_toArray, List.set_cons_zero, List.set_cons_succ]
    refine wpAnyH_done (by kernel_rfl) ?_ _
    clear hHeld hHeld7 hHeld8 hHeld9 hHeld11
    clear MK MS HSW x4 xf hg5 hb7
  case' b7_7 =>
    go_simp
    have hb7 : Below W.heap.size W (W.drew.alloc (.cells #[.int .i64 v.p, .int .i64 v.st, .int .i64 v.ln] 39)) := (Below.refl W.heap.size W).drew.alloc (Below.refl W.heap.size W).drew.size _
    refine hK7.out _ _ (MK.out _ hb7) (fun hHeld7 => ?_)
    clear hK7 K7
    try simp only [Act.put, List.setIfInBounds_toArray, List.set_cons_zero, List.set_cons_succ]
    refine wpAnyH_ready (rs := [2]) (by kernel_rfl) (by simp) (AllReadyH.cons (o := { dst := some 35, op := Op.call { callee := Callee.builtin Builtin.append, args := #[Operand.const (Value.slice none 0 0), Operand.tmp 34], argTypes := #[24, 24] }, type := 24, pos := "law.go:113", after := #[{ on := 1, ground := Ground.data }], guard := none }) rfl (fun K12 hK12 => ?_) AllReadyH.nil)
    refine step_append_seesC rfl (.const (.slice none 0 0)) (.tmp 34) 24 rfl W.heap.size 39 i0 _ 3 24 Try.underlying24 hi hz0 hz1 hz2 rfl (by decide) (.slice none 0 0) 0 [] rfl (World.ownsRow_nil _ _ _ 3) _ (c.wi.map Wn.cells) rfl (HSW.out _ hb7) (wn_len _) (wn_one _) HM1.out HM2.out hb7.size ?_
    intro v5 w5 ho5 hg5
    have hb5 : Below W.heap.size W w5 := hb7.grown hg5 hb7.size (by simp [Value.ownBlock])
    replace ho5 : w5.ownsRow W.heap.size 39 3 v5 n3 (c.wi.map Wn.cells).flatten := by rw [Q3.out]; simpa using ho5
    replace ho5 := hid ho5
    replace hg5 := hid hg5
    refine hK12.out _ _ (MK.out _ hb5) (fun hHeld12 => ?_)
    clear hK12 K12
    try simp only [Act.put, List.setIfInBounds_toArray, List.set_cons_zero, List.set_cons_succ]
    refine wpAnyH_ready (rs := [8]) (by kernel_rfl) (by simp) (AllReadyH.cons (o := { dst := some 41, op := Op.call { callee := Callee.builtin Builtin.append, args := #[Operand.tmp 35, Operand.tmp 40], argTypes := #[24, 24] }, type := 24, pos := "law.go:113", after := #[{ on := 2, ground := Ground.data }, { on := 7, ground := Ground.data }, { on := 2, ground := Ground.chain }], guard := none }) rfl (fun K13 hK13 => ?_) AllReadyH.nil)
    refine step_append_seesC rfl (.tmp 35) (.tmp 40) 24 rfl W.heap.size 39 i0 _ 3 24 Try.underlying24 hi hz0 hz1 hz2 rfl (by decide) v5 n3 (c.wi.map Wn.cells).flatten rfl ho5.out _ [v.cells] rfl (SeesC.one (cs := v.cells) ((BoxAt.new W.drew _ _).grown hg5.out (by simp [Value.ownBlock]))) (by intro e he; simp at he; subst he; rfl) (fun e he => wn_one [v] e (by simpa using he)) HM3.out HM4.out hb5.size ?_
    intro v6 w6 ho6 hg6
    have hb6 : Below W.heap.size W w6 := hb5.grown hg6 hb5.size (fun k hk => (ho5.out.lt k hk).1)
    clear hg6
    obtain ⟨gB, cB, rfl, hgB⟩ : ∃ g cap, v6 = .slice (some ⟨g, 0, none⟩) (n3 + 1) cap ∧ W.heap.size ≤ g := by
      rcases ho6.2 with ⟨_, h⟩ | ⟨g, cap, cur, h1, h2, h3, h4, h5, _⟩
      · simp at h
      · exact ⟨g, cap, h1, h2⟩
    have x4 := ((HBX.out.2.1.belowAll hb6).cell 4).trans rfl
    have xf := (HBX.out.2.1.belowAll hb6).free 4
    replace ho6 := hid ho6
    refine hK13.out _ _ (MK.out _ hb6) (fun hHeld13 => ?_)
    clear hK13 K13
    try simp only [Act.put, List.setIfInBounds_toArray, List.set_cons_zero, List.set_cons_succ]
    refine wpAnyH_take (i := 9) (oi := { dst := some 42, op := Op.fieldAddr 27 (Operand.tmp 6) 4, type := 0, pos := "law.go:113", after := #[{ on := 0, ground := Ground.phase }, { on := 1, ground := Ground.phase }, { on := 2, ground := Ground.phase }, { on := 3, ground := Ground.phase }, { on := 4, ground := Ground.phase }, { on := 5, ground := Ground.phase }, { on := 6, ground := Ground.phase }, { on := 7, ground := Ground.phase }, { on := 8, ground := Ground.phase }], guard := none }) (v := ?_) rfl (by kernel_rfl) (by kernel_rfl) (by kernel_rfl) (fun _ _ _ h => h) (Or.inl ⟨by rfl, ?_⟩) (by assumption) ?_
    rotate_left
    · (intro w hSw; (try dsimp only at hSw); go_simp; try with_reducible rfl)
    simp only [Act.put, List.setIfInBounds_toArray, List.set_cons_zero, List.set_cons_succ]
    refine wpAnyH_ready (rs := [10]) (by kernel_rfl) (by simp) (AllReadyH.cons (o := { dst := none, op := Op.store 24 (Operand.tmp 42) (Operand.tmp 41), type := 0, pos := "law.go:113", after := #[{ on := 9, ground := Ground.data }, { on := 8, ground := Ground.data }, { on := 8, ground := Ground.chain }, { on := 0, ground := Ground.phase }, { on := 1, ground := Ground.phase }, { on := 2, ground := Ground.phase }, { on := 3, ground := Ground.phase }, { on := 4, ground := Ground.phase }, { on := 5, ground := Ground.phase }, { on := 6, ground := Ground.phase }, { on := 7, ground := Ground.phase }, { on := 8, ground := Ground.phase }], guard := none }) rfl (fun K15 hK15 => ?_) AllReadyH.nil)
    go_simp
    refine hK15.out _ _ (MS.out _ _ (MK.out _ hb6)) (fun hHeld15 => ?_)
    clear hK15 K15
    try simp only [Act.put, List.setIfInBounds_toArray, List.set_cons_zero, List.set_cons_succ]
    refine wpAnyH_done (by kernel_rfl) ?_ _
    clear hHeld hHeld7 hHeld12 hHeld13 hHeld15
    clear MK MS HSW x4 xf hg5 hb7
  all_goals
    have H8 := hid (show Below w.heap.size w (w6.setCell ⟨w3.heap.size + 1, 4, none⟩ (.slice (some ⟨gB, 0, none⟩) (n3 + 1) cB)) ∧ BoxAt (w6.setCell ⟨w3.heap.size + 1, 4, none⟩ (.slice (some ⟨gB, 0, none⟩) (n3 + 1) cB)) w3.heap.size 27 #[.int .i64 fr, .int .i64 sw, .slice a1 n1 k1, .slice a2 n2 k2, .slice none 0 0, .slice a4 n4 k4] ∧ BoxAt (w6.setCell ⟨w3.heap.size + 1, 4, none⟩ (.slice (some ⟨gB, 0, none⟩) (n3 + 1) cB)) (w3.heap.size + 1) 27 #[.int .i64 fr, .int .i64 sw, .slice a1 n1 k1, .slice a2 n2 k2, .slice (some ⟨gB, 0, none⟩) (n3 + 1) cB, .slice a4 n4 k4] ∧ BoxAt (w6.setCell ⟨w3.heap.size + 1, 4, none⟩ (.slice (some ⟨gB, 0, none⟩) (n3 + 1) cB)) w.heap.size 27 #[.int .i64 fr, .int .i64 sw, .slice a1 n1 k1, .slice a2 n2 k2, .slice (some ⟨b, off, none⟩) n3 k3, .slice a4 n4 k4] ∧ SeesWn (w6.setCell ⟨w3.heap.size + 1, 4, none⟩ (.slice (some ⟨gB, 0, none⟩) (n3 + 1) cB)) (.slice (some ⟨gB, 0, none⟩) (n3 + 1) cB) (c.wi ++ [v]) by
      refine ⟨((HBW.out.trans (hb6.mono HBW.out.size)).setCell (p := ⟨w3.heap.size + 1, 4, none⟩) (by simp; omega) _), (HBX.out.1.belowAll hb6).other (by omega) _, (HBX.out.2.1.belowAll hb6).set 4 _, (HBX.out.2.2.belowAll hb6).other (by omega) _, ?_⟩
      refine SeesWn.owned (n := n3 + 1) (by simp [Q3.out]) (owns_other (base := W.heap.size) (by simpa using ho6.out) 4 _ (by omega)))
    have hs8 : w3.heap.size + 1 < (w6.setCell ⟨w3.heap.size + 1, 4, none⟩ (.slice (some ⟨gB, 0, none⟩) (n3 + 1) cB)).heap.size := by have := hb6.size; simp; omega
    generalize w6.setCell ⟨w3.heap.size + 1, 4, none⟩ (.slice (some ⟨gB, 0, none⟩) (n3 + 1) cB) = w8 at *
    clear HBX HBW ho5 ho6 hb5 hb6 hgB hsW HM1 HM2 HM3 HM4
    have HM1 := hid (show 0 + (c.ch.map Ch.cells).length ≤ maxLen by have := Q4.out; simp [maxLen]; omega)
    have HM2 := hid (show (0 + (c.ch.map Ch.cells).length) * 40 ≤ 140737488355328 by have := Q4.out; simp; omega)
    have HM3 := hid (show n4 + (c.ch.map Ch.cells).length ≤ maxLen by have := Q4.out; simp [maxLen]; omega)
    have HM4 := hid (show (n4 + (c.ch.map Ch.cells).length) * 40 ≤ 140737488355328 by have := Q4.out; simp; omega)
    have HM5 := hid (show n4 + [Ch.zero.cells].length ≤ maxLen by simp [maxLen]; omega)
    have HM6 := hid (show (n4 + [Ch.zero.cells].length) * 40 ≤ 140737488355328 by simp; omega)
    have hB8 := hid H8.out.1
    have c0 := (H8.out.2.2.2.1.cell 0).trans rfl
    have c1 := (H8.out.2.2.2.1.cell 1).trans rfl
    have c2 := (H8.out.2.2.2.1.cell 2).trans rfl
    have c3 := (H8.out.2.2.2.1.cell 3).trans rfl
    have c4 := (H8.out.2.2.2.1.cell 4).trans rfl
    have c5 := (H8.out.2.2.2.1.cell 5).trans rfl
    have d5 : ∀ o, (w8.alloc o).cell? ⟨w.heap.size, 5, none⟩ = some (.slice a4 n4 k4) := fun o => ((H8.out.2.2.2.1.alloc o).cell 5).trans rfl
    have HSC := hid (show SeesC (w8.alloc (.cells #[.int .i64 fr, .int .i64 sw, .slice a1 n1 k1, .slice a2 n2 k2, .slice (some ⟨b, off, none⟩) n3 k3, .slice a4 n4 k4] 27)) 5 (.slice a4 n4 k4) (c.ch.map Ch.cells) from HS.out.ch.below (hB8.out.alloc hB8.out.size _))
    go_wp2_with (at_builtin; refine wpList_append_seesC rfl _ _ 25 rfl (w8.heap.size + 1) 41 j0 _ 5 40 Try.underlying25 hj hy0 hy1 hy2 rfl (by decide) (.slice none 0 0) 0 [] rfl (World.ownsRow_nil _ _ _ 5) _ _ rfl HSC.out (ch_len _) (ch_one _) HM1.out HM2.out (by simp) ?_)
    intro v9 w9 ho9 hg9
    have hsz9 := hg9.size
    simp at hsz9
    have hb9 : Below w8.heap.size w8 w9 := ((Below.refl _ _).alloc (Nat.le_refl _) _).grown hg9 (by simp) (by simp [Value.ownBlock])
    have D9 : BoxAt w9 w8.heap.size 27 #[.int .i64 fr, .int .i64 sw, .slice a1 n1 k1, .slice a2 n2 k2, .slice (some ⟨b, off, none⟩) n3 k3, .slice a4 n4 k4] := (BoxAt.new w8 _ _).grown hg9 (by simp [Value.ownBlock])
    replace ho9 : w9.ownsRow (w8.heap.size + 1) 41 5 v9 n4 (c.ch.map Ch.cells).flatten := by rw [Q4.out]; simpa using ho9
    have HSZ := hid (show SeesC (w9.alloc (.cells #[.bool false, .int .i64 0, .int .i64 0, .int .i64 0, .int .i64 0] 41)) 5 (.slice (some ⟨w9.heap.size, 0, none⟩) 1 1) [Ch.zero.cells] from SeesC.one (cs := Ch.zero.cells) (BoxAt.new w9 _ _))
    have HO9 := hid (World.ownsRow.alloc ho9 (.cells #[.bool false, .int .i64 0, .int .i64 0, .int .i64 0, .int .i64 0] 41))
    have HL9 := hid (fun k hk => (ho9.lt k hk).1)
    clear hg9 ho9 c0 c1 c2 c3 c4 c5 d5 HSC
    go_wp2_with (at_builtin; refine wpList_append_seesC rfl _ _ 25 rfl (w8.heap.size + 1) 41 j0 _ 5 40 Try.underlying25 hj hy0 hy1 hy2 rfl (by decide) v9 n4 _ rfl HO9.out _ _ rfl HSZ.out (fun e he => ch_len [Ch.zero] e (by simpa using he)) (fun e he => ch_one [Ch.zero] e (by simpa using he)) HM5.out HM6.out (by simp; omega) ?_)
    intro v10 w10 ho10 hg10
    have hsz10 := hg10.size
    simp at hsz10
    have hb10 : Below w8.heap.size w8 w10 := (hb9.alloc hb9.size _).grown hg10 (by simp; omega) (fun k hk => by have := HL9.out k hk; omega)
    have D10 : BoxAt w10 w8.heap.size 27 #[.int .i64 fr, .int .i64 sw, .slice a1 n1 k1, .slice a2 n2 k2, .slice (some ⟨b, off, none⟩) n3 k3, .slice a4 n4 k4] := (D9.alloc _).grown hg10 (fun e => by have := HL9.out _ e.symm; omega)
    obtain ⟨gD, cD, rfl⟩ : ∃ g cap, v10 = .slice (some ⟨g, 0, none⟩) (n4 + 1) cap := by
      rcases ho10.2 with ⟨_, h⟩ | ⟨g, cap, cur, h1, h2, h3, h4, h5, _⟩
      · simp at h
      · exact ⟨g, cap, h1⟩
    have HGD := hid (show gD ≠ w10.heap.size by have := (ho10.lt gD rfl).2; omega)
    have z5 := (D10.cell 5).trans rfl
    have zf := D10.free 5
    have C10 := H8.out.2.2.2.1.belowAll hb10
    have c0 := (C10.cell 0).trans rfl
    have c1 := (C10.cell 1).trans rfl
    have c2 := (C10.cell 2).trans rfl
    have c3 := (C10.cell 3).trans rfl
    have c4 := (C10.cell 4).trans rfl
    have c5 := (C10.cell 5).trans rfl
    have hne1 : ¬ w.heap.size = w8.heap.size := by omega
    have hne2 : ¬ w8.heap.size = w.heap.size := by omega
    have HX := hid (And.intro hb10 (And.intro D10 (And.intro C10 ho10)))
    clear hb9 D9 HSZ HO9 HL9 hg10 ho10 D10 C10 hb10
    go_wp2_with fail
    obtain ⟨W2, hW2⟩ : ∃ W, ((w10.setCell ⟨w8.heap.size, 5, none⟩ (.slice (some ⟨gD, 0, none⟩) (n4 + 1) cD)).alloc (.cells #[.int .i64 fr, .int .i64 sw, .slice a1 n1 k1, .slice a2 n2 k2, .slice (some ⟨b, off, none⟩) n3 k3, .slice a4 n4 k4] 27)) = W := ⟨_, rfl⟩
    have hsW2 : w10.heap.size < W2.heap.size := by rw [← hW2]; simp
    have hBW2 : Below w8.heap.size w8 W2 := by rw [← hW2]; exact (HX.out.1.setCell (p := ⟨w8.heap.size, 5, none⟩) (by simp) _).alloc (by simp; omega) _
    have DW2 : BoxAt W2 w8.heap.size 27 (#[.int .i64 fr, .int .i64 sw, .slice a1 n1 k1, .slice a2 n2 k2, .slice (some ⟨b, off, none⟩) n3 k3, .slice (some ⟨gD, 0, none⟩) (n4 + 1) cD]) := by rw [← hW2]; exact (HX.out.2.1.set 5 _).alloc _
    have EW2 : BoxAt W2 w10.heap.size 27 #[.int .i64 fr, .int .i64 sw, .slice a1 n1 k1, .slice a2 n2 k2, .slice (some ⟨b, off, none⟩) n3 k3, .slice a4 n4 k4] := by rw [← hW2]; exact BoxAt.newAt _ _ (by simp) _ _
    have CW2 : BoxAt W2 w.heap.size 27 #[.int .i64 fr, .int .i64 sw, .slice a1 n1 k1, .slice a2 n2 k2, .slice (some ⟨b, off, none⟩) n3 k3, .slice a4 n4 k4] := by rw [← hW2]; exact (HX.out.2.2.1.other (by omega) _).alloc _
    have SW2 : SeesCh W2 (.slice (some ⟨gD, 0, none⟩) (n4 + 1) cD) (c.ch ++ [Ch.zero]) := by
      rw [← hW2]
      exact SeesCh.owned (n := n4 + 1) (by simp [Q4.out]) (World.ownsRow.alloc (owns_other (base := w8.heap.size + 1) (by simpa using HX.out.2.2.2) 5 _ (by omega)) _)
    rw [hW2]
    clear hW2 HX c0 c1 c2 c3 c4 c5 z5 zf hne1 hne2
    have HSC := hid (show ∀ w', Below W2.heap.size W2 w' → SeesC w' 5 (.slice a4 n4 k4) (c.ch.map Ch.cells) from fun w' h => HS.out.ch.below ((hB8.out.trans (hBW2.mono hB8.out.size)).trans (h.mono (by have := hB8.out.size; omega))))
    have MK := hid (show ∀ w', Below W2.heap.size W2 w' → w'.cell? ⟨w.heap.size, 5, none⟩ = some (.slice a4 n4 k4) from fun w' h => ((CW2.belowAll h).cell 5).trans rfl)
    have MS := hid (show ∀ (w' : World) (u : Value), w'.cell? ⟨w.heap.size, 5, none⟩ = some (.slice a4 n4 k4) → (w'.setCell ⟨w10.heap.size, 5, none⟩ u).cell? ⟨w.heap.size, 5, none⟩ = some (.slice a4 n4 k4) from fun w' u h => (World.cell?_setCell_far _ _ _ _ (by simp; omega)).trans h)
    have HBX := hid (And.intro DW2 (And.intro EW2 (And.intro CW2 SW2)))
    have HBW := hid hBW2
    clear hBW2 DW2 EW2 CW2 SW2
    refine wp_region_held_drew (S := (fun w' => w'.cell? ⟨w.heap.size, 5, none⟩ = some (.slice a4 n4 k4))) (by kernel_rfl) (MK.out _ (Below.refl _ _).drew) (fun hHeld => ?_)
    refine wpAnyH_take (i := 0) (oi := { dst := some 52, op := Op.fieldAddr 27 (Operand.tmp 1) 5, type := 0, pos := "law.go:117", after := #[], guard := none }) (v := ?_) rfl (by kernel_rfl) (by kernel_rfl) (by kernel_rfl) (fun _ _ _ h => h) (Or.inl ⟨by rfl, ?_⟩) (by assumption) ?_
    rotate_left
    · (intro w hSw; (try dsimp only at hSw); go_simp; try with_reducible rfl)
    simp only [Act.put, List.setIfInBounds_toArray, List.set_cons_zero, List.set_cons_succ]
    refine wpAnyH_take (i := 1) (oi := { dst := some 53, op := Op.load 25 (Operand.tmp 52), type := 25, pos := "law.go:117", after := #[{ on := 0, ground := Ground.data }], guard := none }) (v := ?_) rfl (by kernel_rfl) (by kernel_rfl) (by kernel_rfl) (fun _ _ _ h => h) (Or.inl ⟨by rfl, ?_⟩) (by assumption) ?_
    rotate_left
    · (intro w hSw; (try dsimp only at hSw); go_simp; try with_reducible rfl)
    simp only [Act.put, List.setIfInBounds_toArray, List.set_cons_zero, List.set_cons_succ]
    refine wpAnyH_take (i := 3) (oi := { dst := some 55, op := Op.fieldAddr 27 (Operand.tmp 1) 5, type := 0, pos := "law.go:117", after := #[], guard := none }) (v := ?_) rfl (by kernel_rfl) (by kernel_rfl) (by kernel_rfl) (fun _ _ _ h => h) (Or.inl ⟨by rfl, ?_⟩) (by assumption) ?_
    rotate_left
    · (intro w hSw; (try dsimp only at hSw); go_simp; try with_reducible rfl)
    simp only [Act.put, List.setIfInBounds_toArray, List.set_cons_zero, List.set_cons_succ]
    refine wpAnyH_take (i := 4) (oi := { dst := some 56, op := Op.load 25 (Operand.tmp 55), type := 25, pos := "law.go:117", after := #[{ on := 3, ground := Ground.data }], guard := none }) (v := ?_) rfl (by kernel_rfl) (by kernel_rfl) (by kernel_rfl) (fun _ _ _ h => h) (Or.inl ⟨by rfl, ?_⟩) (by assumption) ?_
    rotate_left
    · (intro w hSw; (try dsimp only at hSw); go_simp; try with_reducible rfl)
    simp only [Act.put, List.setIfInBounds_toArray, List.set_cons_zero, List.set_cons_succ]
    refine wpAnyH_ready (rs := [2]) (by kernel_rfl) (by simp) (AllReadyH.cons (o := { dst := some 54, op := Op.call { callee := Callee.builtin Builtin.append, args := #[Operand.const (Value.slice none 0 0), Operand.tmp 53], argTypes := #[25, 25] }, type := 25, pos := "law.go:117", after := #[{ on := 1, ground := Ground.data }], guard := none }) rfl (fun K105 hK105 => ?_) AllReadyH.nil)
    refine step_append_seesC rfl (.const (.slice none 0 0)) (.tmp 53) 25 rfl W2.heap.size 41 j0 _ 5 40 Try.underlying25 hj hy0 hy1 hy2 rfl (by decide) (.slice none 0 0) 0 [] rfl (World.ownsRow_nil _ _ _ 5) _ (c.ch.map Ch.cells) rfl (HSC.out _ (Below.refl W2.heap.size W2).drew) (ch_len _) (ch_one _) HM1.out HM2.out (Below.refl W2.heap.size W2).drew.size ?_
    intro v11 w11 ho11 hg11
    have hb11 : Below W2.heap.size W2 w11 := (Below.refl W2.heap.size W2).drew.grown hg11 (Below.refl W2.heap.size W2).drew.size (by simp [Value.ownBlock])
    replace ho11 : w11.ownsRow W2.heap.size 41 5 v11 n4 (c.ch.map Ch.cells).flatten := by rw [Q4.out]; simpa using ho11
    replace ho11 := hid ho11
    clear hg11
    refine hK105.out _ _ (MK.out _ hb11) (fun hHeld105 => ?_)
    clear hK105 K105
    try simp only [Act.put, List.setIfInBounds_toArray, List.set_cons_zero, List.set_cons_succ]
    refine wpAnyH_ready (rs := [5]) (by kernel_rfl) (by simp) (AllReadyH.cons (o := { dst := some 57, op := Op.call { callee := Callee.builtin Builtin.append, args := #[Operand.tmp 54, Operand.tmp 56], argTypes := #[25, 25] }, type := 25, pos := "law.go:117", after := #[{ on := 2, ground := Ground.data }, { on := 4, ground := Ground.data }, { on := 2, ground := Ground.chain }], guard := none }) rfl (fun K106 hK106 => ?_) AllReadyH.nil)
    refine step_append_seesC rfl (.tmp 54) (.tmp 56) 25 rfl W2.heap.size 41 j0 _ 5 40 Try.underlying25 hj hy0 hy1 hy2 rfl (by decide) v11 n4 (c.ch.map Ch.cells).flatten rfl ho11.out _ (c.ch.map Ch.cells) rfl (HSC.out _ hb11) (ch_len _) (ch_one _) HM3.out HM4.out hb11.size ?_
    intro v12 w12 ho12 hg12
    have hb12 : Below W2.heap.size W2 w12 := hb11.grown hg12 hb11.size (fun k hk => (ho11.out.lt k hk).1)
    clear hg12
    obtain ⟨aE, nE, kE, rfl⟩ : ∃ a n k, v12 = .slice a n k := by
      rcases ho12.2 with ⟨h, _⟩ | ⟨g, cap, cur, h1, _⟩
      · exact ⟨_, _, _, h⟩
      · exact ⟨_, _, _, h1⟩
    have x4 := ((HBX.out.2.1.belowAll hb12).cell 5).trans rfl
    have xf := (HBX.out.2.1.belowAll hb12).free 5
    replace ho12 := hid ho12
    refine hK106.out _ _ (MK.out _ hb12) (fun hHeld106 => ?_)
    clear hK106 K106
    try simp only [Act.put, List.setIfInBounds_toArray, List.set_cons_zero, List.set_cons_succ]
    refine wpAnyH_take (i := 6) (oi := { dst := some 58, op := Op.fieldAddr 27 (Operand.tmp 8) 5, type := 0, pos := "law.go:117", after := #[{ on := 0, ground := Ground.phase }, { on := 1, ground := Ground.phase }, { on := 2, ground := Ground.phase }, { on := 3, ground := Ground.phase }, { on := 4, ground := Ground.phase }, { on := 5, ground := Ground.phase }], guard := none }) (v := ?_) rfl (by kernel_rfl) (by kernel_rfl) (by kernel_rfl) (fun _ _ _ h => h) (Or.inl ⟨by rfl, ?_⟩) (by assumption) ?_
    rotate_left
    · (intro w hSw; (try dsimp only at hSw); go_simp; try with_reducible rfl)
    simp only [Act.put, List.setIfInBounds_toArray, List.set_cons_zero, List.set_cons_succ]
    refine wpAnyH_ready (rs := [7]) (by kernel_rfl) (by simp) (AllReadyH.cons (o := { dst := none, op := Op.store 25 (Operand.tmp 58) (Operand.tmp 57), type := 0, pos := "law.go:117", after := #[{ on := 6, ground := Ground.data }, { on := 5, ground := Ground.data }, { on := 5, ground := Ground.chain }, { on := 0, ground := Ground.phase }, { on := 1, ground := Ground.phase }, { on := 2, ground := Ground.phase }, { on := 3, ground := Ground.phase }, { on := 4, ground := Ground.phase }, { on := 5, ground := Ground.phase }], guard := none }) rfl (fun K108 hK108 => ?_) AllReadyH.nil)
    go_simp
    refine hK108.out _ _ (MS.out _ _ (MK.out _ hb12)) (fun hHeld108 => ?_)
    clear hK108 K108
    try simp only [Act.put, List.setIfInBounds_toArray, List.set_cons_zero, List.set_cons_succ]
    refine wpAnyH_done (by kernel_rfl) ?_ _
    clear hHeld hHeld105 hHeld106 hHeld108
    clear MK MS HSC x4 xf hb11 ho11
    have H13 := hid (show Below w8.heap.size w8 (w12.setCell ⟨w10.heap.size, 5, none⟩ (.slice aE nE kE)) ∧ BoxAt (w12.setCell ⟨w10.heap.size, 5, none⟩ (.slice aE nE kE)) w8.heap.size 27 (#[.int .i64 fr, .int .i64 sw, .slice a1 n1 k1, .slice a2 n2 k2, .slice (some ⟨b, off, none⟩) n3 k3, .slice (some ⟨gD, 0, none⟩) (n4 + 1) cD]) ∧ BoxAt (w12.setCell ⟨w10.heap.size, 5, none⟩ (.slice aE nE kE)) w10.heap.size 27 (#[.int .i64 fr, .int .i64 sw, .slice a1 n1 k1, .slice a2 n2 k2, .slice (some ⟨b, off, none⟩) n3 k3, .slice aE nE kE]) ∧ BoxAt (w12.setCell ⟨w10.heap.size, 5, none⟩ (.slice aE nE kE)) w.heap.size 27 #[.int .i64 fr, .int .i64 sw, .slice a1 n1 k1, .slice a2 n2 k2, .slice (some ⟨b, off, none⟩) n3 k3, .slice a4 n4 k4] ∧ SeesCh (w12.setCell ⟨w10.heap.size, 5, none⟩ (.slice aE nE kE)) (.slice (some ⟨gD, 0, none⟩) (n4 + 1) cD) (c.ch ++ [Ch.zero]) ∧ SeesCh (w12.setCell ⟨w10.heap.size, 5, none⟩ (.slice aE nE kE)) (.slice aE nE kE) (c.ch ++ c.ch) by
      have hB : Below w10.heap.size W2 (w12.setCell ⟨w10.heap.size, 5, none⟩ (.slice aE nE kE)) := (hb12.mono (by omega)).setCell (p := ⟨w10.heap.size, 5, none⟩) (by simp) _
      refine ⟨HBW.out.trans (hB.mono (by omega)), (HBX.out.1.belowAll hb12).other (by omega) _, (HBX.out.2.1.belowAll hb12).set 5 _, (HBX.out.2.2.1.belowAll hb12).other (by omega) _, ?_, ?_⟩
      · exact SeesC.turn (HBX.out.2.2.2.below hb12) (fun x n cc hv hn => (heap_setCell_other w12 _ _ _ (by simp only [Value.slice.injEq, Option.some.injEq] at hv; rw [← hv.1]; simp only; exact HGD.out)))
      · exact SeesCh.owned (n := n4 + n4) (by simp [Q4.out]) (owns_other (base := W2.heap.size) (by rw [Q4.out]; simpa [Q4.out] using ho12.out) 5 _ (by omega)))
    generalize w12.setCell ⟨w10.heap.size, 5, none⟩ (.slice aE nE kE) = w13 at *
    clear HBX HBW ho12 hb12 HM1 HM2 HM3 HM4 HM5 HM6 HGD
    have hB13 := hid (hB8.out.trans (H13.out.1.mono hB8.out.size))
    have HCA := hid (show CfAt w13 ⟨fr, sw, ⟨a1, n1, k1⟩, ⟨a2, n2, k2⟩, ⟨none, 0, 0⟩, ⟨a4, n4, k4⟩⟩ { c with wi := [] } from ⟨(HS.out.below hB13.out).fr, (HS.out.below hB13.out).sw, (HS.out.below hB13.out).li, (HS.out.below hB13.out).pa, SeesC.nil _ _, (HS.out.below hB13.out).ch⟩)
    have HCB := hid (show CfAt w13 ⟨fr, sw, ⟨a1, n1, k1⟩, ⟨a2, n2, k2⟩, ⟨some ⟨gB, 0, none⟩, n3 + 1, cB⟩, ⟨a4, n4, k4⟩⟩ { c with wi := (v :: l) ++ [v] } from ⟨(HS.out.below hB13.out).fr, (HS.out.below hB13.out).sw, (HS.out.below hB13.out).li, (HS.out.below hB13.out).pa, HWI.out ▸ H8.out.2.2.2.2.below H13.out.1, (HS.out.below hB13.out).ch⟩)
    have HCD := hid (show CfAt w13 ⟨fr, sw, ⟨a1, n1, k1⟩, ⟨a2, n2, k2⟩, ⟨some ⟨b, off, none⟩, n3, k3⟩, ⟨some ⟨gD, 0, none⟩, n4 + 1, cD⟩⟩ { c with ch := c.ch ++ [Ch.zero] } from ⟨(HS.out.below hB13.out).fr, (HS.out.below hB13.out).sw, (HS.out.below hB13.out).li, (HS.out.below hB13.out).pa, (HS.out.below hB13.out).wi, H13.out.2.2.2.2.1⟩)
    have HCE := hid (show CfAt w13 ⟨fr, sw, ⟨a1, n1, k1⟩, ⟨a2, n2, k2⟩, ⟨some ⟨b, off, none⟩, n3, k3⟩, ⟨aE, nE, kE⟩⟩ { c with ch := c.ch ++ c.ch } from ⟨(HS.out.below hB13.out).fr, (HS.out.below hB13.out).sw, (HS.out.below hB13.out).li, (HS.out.below hB13.out).pa, (HS.out.below hB13.out).wi, H13.out.2.2.2.2.2⟩)
    have A13 := hid (H8.out.2.1.belowAll H13.out.1)
    have Bb13 := hid (H8.out.2.2.1.belowAll H13.out.1)
    have HB9 := hid (show Below w13.heap.size w13 w13 from Below.refl _ _)
    have e0 := (A13.out.cell 0).trans rfl
    have e1 := (A13.out.cell 1).trans rfl
    have e2 := (A13.out.cell 2).trans rfl
    have e3 := (A13.out.cell 3).trans rfl
    have e4 := (A13.out.cell 4).trans rfl
    have e5 := (A13.out.cell 5).trans rfl
    go_wp2_with fail
    refine (tmay_any ⟨fr, sw, ⟨a1, n1, k1⟩, ⟨a2, n2, k2⟩, ⟨none, 0, 0⟩, ⟨a4, n4, k4⟩⟩ _ _ (HCA.out.below HB9.out) HF.out).mono ?_
    rintro e w14 ⟨rfl, hb⟩
    rw [parts_none c]
    replace HB9 := hid (HB9.out.trans (hb.mono HB9.out.size))
    clear hb e0 e1 e2 e3 e4 e5 HCA A13
    have e0 := ((Bb13.out.belowAll HB9.out).cell 0).trans rfl
    have e1 := ((Bb13.out.belowAll HB9.out).cell 1).trans rfl
    have e2 := ((Bb13.out.belowAll HB9.out).cell 2).trans rfl
    have e3 := ((Bb13.out.belowAll HB9.out).cell 3).trans rfl
    have e4 := ((Bb13.out.belowAll HB9.out).cell 4).trans rfl
    have e5 := ((Bb13.out.belowAll HB9.out).cell 5).trans rfl
    go_wp2_with fail
    refine (tmay_any ⟨fr, sw, ⟨a1, n1, k1⟩, ⟨a2, n2, k2⟩, ⟨some ⟨gB, 0, none⟩, n3 + 1, cB⟩, ⟨a4, n4, k4⟩⟩ _ _ (HCB.out.below HB9.out) HF.out).mono ?_
    rintro e w15 ⟨rfl, hb⟩
    rw [parts_within c v l]
    replace HB9 := hid (HB9.out.trans (hb.mono HB9.out.size))
    clear hb e0 e1 e2 e3 e4 e5 HCB Bb13
    have e0 := ((H13.out.2.1.belowAll HB9.out).cell 0).trans rfl
    have e1 := ((H13.out.2.1.belowAll HB9.out).cell 1).trans rfl
    have e2 := ((H13.out.2.1.belowAll HB9.out).cell 2).trans rfl
    have e3 := ((H13.out.2.1.belowAll HB9.out).cell 3).trans rfl
    have e4 := ((H13.out.2.1.belowAll HB9.out).cell 4).trans rfl
    have e5 := ((H13.out.2.1.belowAll HB9.out).cell 5).trans rfl
    go_wp2_with fail
    refine (tmay_any ⟨fr, sw, ⟨a1, n1, k1⟩, ⟨a2, n2, k2⟩, ⟨some ⟨b, off, none⟩, n3, k3⟩, ⟨some ⟨gD, 0, none⟩, n4 + 1, cD⟩⟩ _ _ (HCD.out.below HB9.out) HF.out).mono ?_
    rintro e w16 ⟨rfl, hb⟩
    rw [parts_one c]
    replace HB9 := hid (HB9.out.trans (hb.mono HB9.out.size))
    clear hb e0 e1 e2 e3 e4 e5 HCD
    have f5 := ((H13.out.2.2.2.1.belowAll HB9.out).cell 5).trans rfl
    have e0 := ((H13.out.2.2.1.belowAll HB9.out).cell 0).trans rfl
    have e1 := ((H13.out.2.2.1.belowAll HB9.out).cell 1).trans rfl
    have e2 := ((H13.out.2.2.1.belowAll HB9.out).cell 2).trans rfl
    have e3 := ((H13.out.2.2.1.belowAll HB9.out).cell 3).trans rfl
    have e4 := ((H13.out.2.2.1.belowAll HB9.out).cell 4).trans rfl
    have e5 := ((H13.out.2.2.1.belowAll HB9.out).cell 5).trans rfl
    by_cases g4 : n4 = 0
    · subst g4
      clear HCE
      go_wp2
      go_ret
      exact ⟨rfl, hB13.out.trans (HB9.out.mono hB13.out.size)⟩
    · have hn40 : ((n4 : Int) == 0) = false := by simpa using g4
      have HN := hid (show c.ch ≠ [] from fun h => g4 (by rw [Q4.out, h]; rfl))
      go_wp2_with fail
      refine (tmay_any ⟨fr, sw, ⟨a1, n1, k1⟩, ⟨a2, n2, k2⟩, ⟨some ⟨b, off, none⟩, n3, k3⟩, ⟨aE, nE, kE⟩⟩ _ _ (HCE.out.below HB9.out) HF.out).mono ?_
      rintro e w17 ⟨rfl, hb⟩
      rw [parts_twice c HN.out]
      replace HB9 := hid (HB9.out.trans (hb.mono HB9.out.size))
      clear hb e0 e1 e2 e3 e4 e5 f5 HCE
      go_wp2
      go_ret
      exact ⟨rfl, hB13.out.trans (HB9.out.mono hB13.out.size)⟩
end Go.Proofs.Ytfdoejdnhogepaa
