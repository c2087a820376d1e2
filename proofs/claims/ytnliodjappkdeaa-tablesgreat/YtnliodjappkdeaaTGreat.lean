/-
  The law TablesGreat returns true, whatever it is given, and nothing that was there is written.
-/
import Derived.Test.YtnliodjappkdeaaTMore
import Derived.Test.YtnliodjappkdeaaTAwake
namespace Go.Proofs.Ytnliodjappkdeaa
open Go.RowKit
set_option linter.unusedVariables false

theorem Try.infoWnG : (Try.prog.info? 38).map (fun i => (i.zero, i.size, i.bytes)) = some (some (.agg #[.int .i64 0, .int .i64 0, .int .i64 0]), 3, 24) := by kernel_rfl
theorem Try.infoPtG : (Try.prog.info? 46).map (fun i => (i.zero, i.size, i.bytes)) = some (some Pv.zero.val, 11, 200) := by kernel_rfl

set_option maxRecDepth 100000 in
set_option maxHeartbeats 6400000 in
theorem walk_TablesGreat (w : World) (x : CfX) (hx : x.fit w) :
    Calls Try.prog 6 #[x.val] w fun e w' => e = .returned (.bool true) ∧ Below w.heap.size w w' := by
  have hnot := Try.hnot
  obtain ⟨⟨fr, sw, ⟨a1, n1, k1⟩, ⟨a2, n2, k2⟩, ⟨a3, n3, k3⟩, ⟨a4, n4, k4⟩⟩, c⟩ := x
  obtain ⟨hS, hf, hwd⟩ := hx
  simp only at hS hf hwd
  have HS := hid hS
  have HF := hid hf
  clear hS hf hwd
  unfold CfX.val Cv.val
  go_enter Try.func6, Try.ntmps6
  go_wp2_with fail
  refine (awake_any _).mono ?_
  rintro e w1 ⟨rfl, hb⟩
  have B1 : BoxAt w1 w.heap.size 27 #[.int .i64 fr, .int .i64 sw, .slice a1 n1 k1, .slice a2 n2 k2, .slice a3 n3 k3, .slice a4 n4 k4] := (BoxAt.new w _ _).belowAll hb
  have hB1 : Below w.heap.size w w1 := ((Below.refl _ _).alloc (Nat.le_refl _) _).trans (hb.mono (by simp))
  have c0 := (B1.cell 0).trans rfl
  have c1 := (B1.cell 1).trans rfl
  have c2 := (B1.cell 2).trans rfl
  have c3 := (B1.cell 3).trans rfl
  have c4 := (B1.cell 4).trans rfl
  have c5 := (B1.cell 5).trans rfl
  have HB1 := hid B1
  clear hb B1
  go_wp2_with fail
  refine (few_any ⟨fr, sw, ⟨a1, n1, k1⟩, ⟨a2, n2, k2⟩, ⟨a3, n3, k3⟩, ⟨a4, n4, k4⟩⟩ c _ (HS.out.below hB1)).mono ?_
  rintro e w2 ⟨⟨ok, rfl⟩, hb⟩
  have B2 := HB1.out.belowAll hb
  have hB2 := hB1.trans (hb.mono hB1.size)
  clear hb hB1 HB1 c0 c1 c2 c3 c4 c5
  cases ok
  · clear HS HF B2
    go_wp2
    go_ret
    exact ⟨rfl, hB2⟩
  have c0 := (B2.cell 0).trans rfl
  have c1 := (B2.cell 1).trans rfl
  have c2 := (B2.cell 2).trans rfl
  have c3 := (B2.cell 3).trans rfl
  have c4 := (B2.cell 4).trans rfl
  have c5 := (B2.cell 5).trans rfl
  have HB2 := hid B2
  clear B2
  go_wp2_with fail
  refine (tmay_any ⟨fr, sw, ⟨a1, n1, k1⟩, ⟨a2, n2, k2⟩, ⟨a3, n3, k3⟩, ⟨a4, n4, k4⟩⟩ c _ (HS.out.below hB2) HF.out).mono ?_
  rintro e w3 ⟨rfl, hb⟩
  have B3 := HB2.out.belowAll hb
  have hB3 := hB2.trans (hb.mono hB2.size)
  clear hb hB2 HB2 c0 c1 c2 c3 c4 c5
  rcases hm : mayC c
  · clear HS HF B3 hm
    go_wp2
    go_ret
    exact ⟨rfl, hB3⟩
  have c0 := (B3.cell 0).trans rfl
  have c1 := (B3.cell 1).trans rfl
  have c2 := (B3.cell 2).trans rfl
  have c3 := (B3.cell 3).trans rfl
  have c4 := (B3.cell 4).trans rfl
  have c5 := (B3.cell 5).trans rfl
  by_cases g3 : n3 = 0
  · subst g3
    clear HS HF B3 hm
    go_wp2
    go_ret
    exact ⟨rfl, hB3⟩
  have hn3 : ((n3 : Int) == 0) = false := by simpa using g3
  have hpos3 : 0 < n3 := by omega
  have HM := hid hm
  have hsz3 := hB3.size
  have hlt3 := B3.lt
  obtain ⟨mf1, mf2, mp1, mp2, mw1, mw2, mc⟩ := may_has hm
  have q0 : fr = c.fr := HS.out.fr
  have q2 : n2 = c.pa.length := by
    obtain ⟨qs, hq, hql, _⟩ := HS.out.pa
    obtain ⟨_, _, e4, _, _, _⟩ := hq.form
    simp only [Sl.val, Value.slice.injEq] at e4
    omega
  have q3 : n3 = c.wi.length := by
    obtain ⟨_, _, e4, _, _, _⟩ := HS.out.wi.form
    simp only [Sl.val, Value.slice.injEq] at e4
    exact e4.2.1
  have q4 : n4 = c.ch.length := by
    obtain ⟨_, _, e4, _, _, _⟩ := HS.out.ch.form
    simp only [Sl.val, Value.slice.injEq] at e4
    exact e4.2.1
  have hf1 : 1 ≤ fr := by omega
  have hf2 : fr ≤ 4096 := by omega
  have hn2 : n2 ≤ 4 := by omega
  have hn21 : 1 ≤ n2 := by omega
  have hn312 : n3 ≤ 12 := by omega
  have hn4 : n4 ≤ 8 := by omega
  have Q0 := hid q0
  have Q2 := hid q2
  have Q3 := hid q3
  have Q4 := hid q4
  clear q0 q2 q3 q4 mf1 mf2 mp1 mp2 mw1 mw2 mc
  obtain ⟨i0, hi, hz0, hz1, hz2⟩ := info_parts Try.infoWnG
  obtain ⟨j0, hj, hy0, hy1, hy2⟩ := info_parts Try.infoPtG
  have d33 : ∀ o1 o2 o3, (((w3.alloc o1).alloc o2).alloc o3).cell? ⟨w.heap.size, 3, none⟩ = some (.slice a2 n2 k2) := fun o1 o2 o3 => ((((B3.alloc o1).alloc o2).alloc o3).cell 3).trans rfl
  have d40 : ∀ o1 o2 o3 o4, ((((w3.alloc o1).alloc o2).alloc o3).alloc o4).cell? ⟨w.heap.size, 0, none⟩ = some (.int .i64 fr) := fun o1 o2 o3 o4 => (((((B3.alloc o1).alloc o2).alloc o3).alloc o4).cell 0).trans rfl
  have d41 : ∀ o1 o2 o3 o4, ((((w3.alloc o1).alloc o2).alloc o3).alloc o4).cell? ⟨w.heap.size, 1, none⟩ = some (.int .i64 sw) := fun o1 o2 o3 o4 => (((((B3.alloc o1).alloc o2).alloc o3).alloc o4).cell 1).trans rfl
  have d42 : ∀ o1 o2 o3 o4, ((((w3.alloc o1).alloc o2).alloc o3).alloc o4).cell? ⟨w.heap.size, 2, none⟩ = some (.slice a1 n1 k1) := fun o1 o2 o3 o4 => (((((B3.alloc o1).alloc o2).alloc o3).alloc o4).cell 2).trans rfl
  have d43 : ∀ o1 o2 o3 o4, ((((w3.alloc o1).alloc o2).alloc o3).alloc o4).cell? ⟨w.heap.size, 3, none⟩ = some (.slice a2 n2 k2) := fun o1 o2 o3 o4 => (((((B3.alloc o1).alloc o2).alloc o3).alloc o4).cell 3).trans rfl
  have d44 : ∀ o1 o2 o3 o4, ((((w3.alloc o1).alloc o2).alloc o3).alloc o4).cell? ⟨w.heap.size, 4, none⟩ = some (.slice a3 n3 k3) := fun o1 o2 o3 o4 => (((((B3.alloc o1).alloc o2).alloc o3).alloc o4).cell 4).trans rfl
  have d45 : ∀ o1 o2 o3 o4, ((((w3.alloc o1).alloc o2).alloc o3).alloc o4).cell? ⟨w.heap.size, 5, none⟩ = some (.slice a4 n4 k4) := fun o1 o2 o3 o4 => (((((B3.alloc o1).alloc o2).alloc o3).alloc o4).cell 5).trans rfl
  have d54 : ∀ o1 o2 o3 o4 o5, (((((w3.alloc o1).alloc o2).alloc o3).alloc o4).alloc o5).cell? ⟨w.heap.size, 4, none⟩ = some (.slice a3 n3 k3) := fun o1 o2 o3 o4 o5 => ((((((B3.alloc o1).alloc o2).alloc o3).alloc o4).alloc o5).cell 4).trans rfl
  have HB3 := hid B3
  clear hm B3
  have HSW : SeesWn (((((w3.alloc (.cells #[.int .i64 4097, .int .i64 sw, .slice a1 n1 k1, .slice a2 n2 k2, .slice a3 n3 k3, .slice a4 n4 k4] 27)).alloc (.cells #[.int .i64 fr, .int .i64 (fr + 1), .slice a1 n1 k1, .slice a2 n2 k2, .slice a3 n3 k3, .slice a4 n4 k4] 27)).alloc (.cells #[.int .i64 fr, .int .i64 sw, .slice (some ⟨w3.heap.size + 1 + 1 + 1, 0, none⟩) 1 1, .slice a2 n2 k2, .slice a3 n3 k3, .slice a4 n4 k4] 27)).alloc (.cells #[.int .i64 (n2 : Int)] 3)).alloc (.cells #[.int .i64 fr, .int .i64 sw, .slice a1 n1 k1, .slice a2 n2 k2, .slice a3 n3 k3, .slice a4 n4 k4] 27)) (.slice a3 n3 k3) c.wi := HS.out.wi.below (((((hB3.alloc hB3.size _).alloc (by simp; omega) _).alloc (by simp; omega) _).alloc (by simp; omega) _).alloc (by simp; omega) _)
  have HSW := hid HSW
  go_wp2_with (at_builtin; refine wpList_append_seesC rfl _ _ 24 rfl (w3.heap.size + 1 + 1 + 1 + 1 + 1) 38 i0 _ 3 24 Try.underlying24 hi hz0 hz1 hz2 rfl (by decide) _ 0 [] rfl (World.ownsRow_nil _ _ _ 3) _ _ rfl HSW.out (wn_len _) (wn_one _) ?k1 ?k2 ?k3 ?_)
  case k1 => have := Q3.out; simp [maxLen]; omega
  case k2 => have := Q3.out; simp; omega
  case k3 => simp
  intro v5 w5 ho5 hg5
  have hsz5 := hg5.size
  simp at hsz5
  have A5 : BoxAt w5 (w3.heap.size) 27 #[.int .i64 4097, .int .i64 sw, .slice a1 n1 k1, .slice a2 n2 k2, .slice a3 n3 k3, .slice a4 n4 k4] := (((((BoxAt.newAt _ _ (by simp) _ _).alloc _).alloc _).alloc _).alloc _).grown hg5 (by simp [Value.ownBlock])
  have Bb5 : BoxAt w5 (w3.heap.size + 1) 27 #[.int .i64 fr, .int .i64 (fr + 1), .slice a1 n1 k1, .slice a2 n2 k2, .slice a3 n3 k3, .slice a4 n4 k4] := ((((BoxAt.newAt _ _ (by simp) _ _).alloc _).alloc _).alloc _).grown hg5 (by simp [Value.ownBlock])
  have D5 : BoxAt w5 (w3.heap.size + 1 + 1) 27 #[.int .i64 fr, .int .i64 sw, .slice (some ⟨w3.heap.size + 1 + 1 + 1, 0, none⟩) 1 1, .slice a2 n2 k2, .slice a3 n3 k3, .slice a4 n4 k4] := (((BoxAt.newAt _ _ (by simp) _ _).alloc _).alloc _).grown hg5 (by simp [Value.ownBlock])
  have L5 : BoxAt w5 (w3.heap.size + 1 + 1 + 1) 3 #[.int .i64 (n2 : Int)] := ((BoxAt.newAt _ _ (by simp) _ _).alloc _).grown hg5 (by simp [Value.ownBlock])
  have E5 : BoxAt w5 (w3.heap.size + 1 + 1 + 1 + 1) 27 #[.int .i64 fr, .int .i64 sw, .slice a1 n1 k1, .slice a2 n2 k2, .slice a3 n3 k3, .slice a4 n4 k4] := (BoxAt.newAt _ _ (by simp) _ _).grown hg5 (by simp [Value.ownBlock])
  have B5 : BoxAt w5 w.heap.size 27 #[.int .i64 fr, .int .i64 sw, .slice a1 n1 k1, .slice a2 n2 k2, .slice a3 n3 k3, .slice a4 n4 k4] := (((((HB3.out.alloc _).alloc _).alloc _).alloc _).alloc _).grown hg5 (by simp [Value.ownBlock])
  have hB5 : Below w.heap.size w w5 := (((((hB3.alloc hB3.size _).alloc (by simp; omega) _).alloc (by simp; omega) _).alloc (by simp; omega) _).alloc (by simp; omega) _).grown hg5 (by simp; omega) (by simp [Value.ownBlock])
  have ho5' : w5.ownsRow (w3.heap.size + 1 + 1 + 1 + 1 + 1) 38 3 v5 n3 (c.wi.map Wn.cells).flatten := by
    have := ho5
    rw [Q3.out]
    simpa using this
  obtain ⟨gW, cW, rfl, hgW, hncW, hcmW⟩ : ∃ g cap, v5 = .slice (some ⟨g, 0, none⟩) n3 cap ∧ w3.heap.size + 1 + 1 + 1 + 1 + 1 ≤ g ∧ n3 ≤ cap ∧ cap ≤ maxLen := by
    rcases ho5'.2 with ⟨_, h⟩ | ⟨g, cap, cur, h1, h2, h3, h4, h5, _⟩
    · omega
    · exact ⟨g, cap, h1, h2, h4, h5⟩
  obtain ⟨v, l, hwi⟩ : ∃ v l, c.wi = v :: l := by
    rcases hq : c.wi with _ | ⟨v, l⟩
    · have := Q3.out; rw [hq] at this; simp at this; omega
    · exact ⟨v, l, rfl⟩
  have u0 : w5.cell? ⟨gW, 0, none⟩ = some (.int .i64 v.p) := (ho5'.cellAt 0 (by omega)).trans (by rw [hwi]; rfl)
  have fu0 := ho5'.frozenAt 0
  have HO5 := hid ho5'
  have HWI := hid hwi
  have HE5 := hid E5
  have HA5 := hid (And.intro A5 (And.intro Bb5 (And.intro D5 L5)))
  have HB5 := hid B5
  have e4 := (E5.cell 4).trans rfl
  have fe4 := E5.free 4
  have hltg : gW < w5.heap.size := by
    rcases ho5'.2 with ⟨h, _⟩ | ⟨g, cap, cur, h1, h2, h3, _⟩
    · simp at h
    · simp only [Value.slice.injEq, Option.some.injEq, Addr.mk.injEq, and_true, true_and] at h1
      obtain ⟨rfl, rfl⟩ := h1
      exact (Array.getElem?_eq_some_iff.1 h3).1
  unfold maxLen at hcmW
  clear c0 c1 c2 c3 c4 c5 d33 d40 d41 d42 d43 d44 d45 d54 HSW HB3 hB3 ho5 hg5 ho5' hwi A5 Bb5 D5 L5 E5
  have c0 := (B5.cell 0).trans rfl
  have c1 := (B5.cell 1).trans rfl
  have c2 := (B5.cell 2).trans rfl
  have c3 := (B5.cell 3).trans rfl
  have c4 := (B5.cell 4).trans rfl
  have c5 := (B5.cell 5).trans rfl
  clear B5
  have hne1 : ¬ w.heap.size = w3.heap.size + 1 + 1 + 1 + 1 := by omega
  have hne2 : ¬ w3.heap.size + 1 + 1 + 1 + 1 = w.heap.size := by omega
  have hne3 : ¬ gW = w.heap.size := by omega
  have hne4 : ¬ w.heap.size = gW := by omega
  have hne5 : ¬ gW = w3.heap.size + 1 + 1 + 1 + 1 := by omega
  have hne6 : ¬ w3.heap.size + 1 + 1 + 1 + 1 = gW := by omega
  obtain ⟨W5, hW5⟩ : ∃ W, ((w5.setCell ⟨w3.heap.size + 1 + 1 + 1 + 1, 4, none⟩ (.slice (some ⟨gW, 0, none⟩) n3 cW)).setCell ⟨gW, 0, none⟩ (.int .i64 (n2 : Int))) = W := ⟨_, rfl⟩
  have hs5 : W5.heap.size = w5.heap.size := by rw [← hW5]; simp
  have hB5' : Below w.heap.size w W5 := by rw [← hW5]; exact (hB5.setCell (p := ⟨w3.heap.size + 1 + 1 + 1 + 1, 4, none⟩) (by simp; omega) _).setCell (p := ⟨gW, 0, none⟩) (by simp; omega) _
  have bx : ∀ {g t cs}, BoxAt w5 g t cs → g ≠ w3.heap.size + 1 + 1 + 1 + 1 → g ≠ gW → BoxAt W5 g t cs := by
    intro g t cs h h1 h2; rw [← hW5]; exact (h.other h1 _).other h2 _
  have A6 : BoxAt W5 (w3.heap.size) 27 #[.int .i64 4097, .int .i64 sw, .slice a1 n1 k1, .slice a2 n2 k2, .slice a3 n3 k3, .slice a4 n4 k4] := bx HA5.out.1 (by omega) (by omega)
  have Bb6 : BoxAt W5 (w3.heap.size + 1) 27 #[.int .i64 fr, .int .i64 (fr + 1), .slice a1 n1 k1, .slice a2 n2 k2, .slice a3 n3 k3, .slice a4 n4 k4] := bx HA5.out.2.1 (by omega) (by omega)
  have D6 : BoxAt W5 (w3.heap.size + 1 + 1) 27 #[.int .i64 fr, .int .i64 sw, .slice (some ⟨w3.heap.size + 1 + 1 + 1, 0, none⟩) 1 1, .slice a2 n2 k2, .slice a3 n3 k3, .slice a4 n4 k4] := bx HA5.out.2.2.1 (by omega) (by omega)
  have L6 : BoxAt W5 (w3.heap.size + 1 + 1 + 1) 3 #[.int .i64 (n2 : Int)] := bx HA5.out.2.2.2 (by omega) (by omega)
  have B6 : BoxAt W5 w.heap.size 27 #[.int .i64 fr, .int .i64 sw, .slice a1 n1 k1, .slice a2 n2 k2, .slice a3 n3 k3, .slice a4 n4 k4] := bx HB5.out (by omega) (by omega)
  have E6 : BoxAt W5 (w3.heap.size + 1 + 1 + 1 + 1) 27 #[.int .i64 fr, .int .i64 sw, .slice a1 n1 k1, .slice a2 n2 k2, .slice (some ⟨gW, 0, none⟩) n3 cW, .slice a4 n4 k4] := by rw [← hW5]; exact (HE5.out.set 4 _).other (by omega) _
  have o6 : W5.ownsRow (w3.heap.size + 1 + 1 + 1 + 1 + 1) 38 3 (.slice (some ⟨gW, 0, none⟩) n3 cW) n3 (((⟨(n2 : Int), v.st, v.ln⟩ : Wn) :: l).map Wn.cells).flatten := by
    have h := ((owns_other HO5.out 4 (.slice (some ⟨gW, 0, none⟩) n3 cW) (show w3.heap.size + 1 + 1 + 1 + 1 < w3.heap.size + 1 + 1 + 1 + 1 + 1 by omega)).stored 0 (.int .i64 (n2 : Int))).1
    rw [HWI.out, hW5] at h
    exact h
  have d3 : ∀ o, (W5.alloc o).cell? ⟨w.heap.size, 3, none⟩ = some (.slice a2 n2 k2) := fun o => ((B6.alloc o).cell 3).trans rfl
  have b0 := (B6.cell 0).trans rfl
  have b1 := (B6.cell 1).trans rfl
  have b2 := (B6.cell 2).trans rfl
  have b3 := (B6.cell 3).trans rfl
  have b4 := (B6.cell 4).trans rfl
  have b5 := (B6.cell 5).trans rfl
  obtain ⟨qs, hqs, hql, hqp⟩ := HS.out.pa
  have HSP : SeesPv (W5.alloc (.cells #[.int .i64 fr, .int .i64 sw, .slice a1 n1 k1, .slice a2 n2 k2, .slice a3 n3 k3, .slice a4 n4 k4] 27)) (.slice a2 n2 k2) qs := hqs.below (hB5'.alloc hB5'.size _)
  have HSP := hid HSP
  have HQ := hid (And.intro hql hqp)
  have H6 := hid (And.intro A6 (And.intro Bb6 (And.intro D6 (And.intro L6 (And.intro E6 o6)))))
  have hql2 : qs.length = n2 := hql.trans Q2.out.symm
  have HQL := hid hql2
  clear hqs hql hqp A6 Bb6 D6 L6 E6 B6 o6 bx HA5 HO5 HE5 hB5 hql2
  have d3' := d3
  rw [← hW5] at d3'
  go_wp2_with (at_builtin; (try rw [hW5]); refine wpList_append_seesC rfl _ _ 23 rfl (w5.heap.size + 1) 46 j0 _ 11 200 Try.underlying23 hj hy0 hy1 hy2 rfl (by decide) _ 0 [] rfl (World.ownsRow_nil _ _ _ 11) _ _ rfl HSP.out (pv_len _) (pv_one _) ?k1 ?k2 ?k3 ?_)
  case k1 => have := HQL.out; simp [maxLen]; omega
  case k2 => have := HQL.out; simp; omega
  case k3 => simp; omega
  intro v7 w7 ho7 hg7
  have hsz7 := hg7.size
  simp at hsz7
  rw [hs5] at hsz7
  have hB7 : Below w.heap.size w w7 := (hB5'.alloc hB5'.size _).grown hg7 (by simp; omega) (by simp [Value.ownBlock])
  have bx : ∀ {g t cs}, BoxAt W5 g t cs → BoxAt w7 g t cs := by
    intro g t cs h; exact (h.alloc _).grown hg7 (by simp [Value.ownBlock])
  have F7 : BoxAt w7 w5.heap.size 27 #[.int .i64 fr, .int .i64 sw, .slice a1 n1 k1, .slice a2 n2 k2, .slice a3 n3 k3, .slice a4 n4 k4] := (BoxAt.newAt _ _ hs5 _ _).grown hg7 (by simp [Value.ownBlock])
  have H7 := hid (And.intro (bx H6.out.1) (And.intro (bx H6.out.2.1) (And.intro (bx H6.out.2.2.1) (And.intro (bx H6.out.2.2.2.1) (And.intro (bx H6.out.2.2.2.2.1) (And.intro F7 (show w7.ownsRow (w3.heap.size + 1 + 1 + 1 + 1 + 1) 38 3 (.slice (some ⟨gW, 0, none⟩) n3 cW) n3 (((⟨(n2 : Int), v.st, v.ln⟩ : Wn) :: l).map Wn.cells).flatten from owns_grown (World.ownsRow.alloc H6.out.2.2.2.2.2 _) hg7 (fun g _ => by simp [Value.ownBlock]))))))))
  have ho7' : w7.ownsRow (w5.heap.size + 1) 46 11 v7 n2 (qs.map Pv.cells).flatten := by
    have := ho7
    rw [← HQL.out]
    simpa using this
  have hgp : ∀ k, v7.ownBlock = some k → w5.heap.size + 1 ≤ k := fun k hk => (ho7'.lt k hk).1
  have hown : (w7.alloc (.cells #[.int .i64 0, .slice none 0 0, .slice none 0 0, .int .i64 0, .slice none 0 0, .slice none 0 0, .int .i64 0, .slice none 0 0, .slice none 0 0, .int .i64 0, .slice none 0 0] 46)).ownsRow (w5.heap.size + 1) 46 11 v7 n2 (qs.map Pv.cells).flatten := ho7'.alloc _
  have HOW := hid hown
  have HGP := hid hgp
  clear ho7 ho7' hown hgp hg7 bx F7 H6 HSP hB5' hW5 hs5 d3 d3' c0 c1 c2 c3 c4 c5 b0 b1 b2 b3 b4 b5 u0 fu0 e4 fe4
  go_wp2_with (at_builtin; refine wpList_append_own _ rfl _ _ 23 rfl (w5.heap.size + 1) 46 j0 _ 11 200 Try.underlying23 hj hy0 hy1 hy2 rfl (by decide) _ _ _ rfl HOW.out ⟨w7.heap.size, 0, none⟩ 1 1 Pv.zero.cells rfl rfl ?k1 ?k2 ?k3 ?k4 ?k5 ?_)
  case k1 =>
    intro j u hj
    rw [add_none, Nat.zero_add, (BoxAt.new w7 _ _).cell j]
    simpa [Pv.zero, Pv.cells] using hj
  case k2 => intro u hu; exact pv_one [Pv.zero] _ (by simp) u hu
  case k3 => unfold maxLen; omega
  case k4 => omega
  case k5 => simp; omega
  intro v8 w8 ho8 hg8 _
  have hsz8 := hg8.size
  simp at hsz8
  have hrow : ∀ g, g < w5.heap.size + 1 → some g ≠ v7.ownBlock := fun g hg e => by have := HGP.out g e.symm; omega
  have hB8 : Below w.heap.size w w8 := (hB7.alloc hB7.size _).grown hg8 (by simp; omega) (fun k hk => by have := HGP.out k hk; omega)
  have bx : ∀ {g t cs}, BoxAt w7 g t cs → g < w5.heap.size + 1 → BoxAt w8 g t cs := by
    intro g t cs h hl; exact (h.alloc _).grown hg8 (hrow g hl)
  obtain ⟨gP, cP, rfl, hgP⟩ : ∃ g cap, v8 = .slice (some ⟨g, 0, none⟩) (n2 + 1) cap ∧ w5.heap.size + 1 ≤ g := by
    rcases ho8.2 with ⟨_, h⟩ | ⟨g, cap, cur, h1, h2, h3, h4, h5, _⟩
    · omega
    · exact ⟨g, cap, h1, h2⟩
  have A8 := bx H7.out.1 (by omega)
  have Bb8 := bx H7.out.2.1 (by omega)
  have D8 := bx H7.out.2.2.1 (by omega)
  have L8 := bx H7.out.2.2.2.1 (by omega)
  have E8 := bx H7.out.2.2.2.2.1 (by omega)
  have F8 := bx H7.out.2.2.2.2.2.1 (by omega)
  have o8 := owns_grown (World.ownsRow.alloc H7.out.2.2.2.2.2.2 _) hg8 (fun g hg => by simp [Value.ownBlock] at hg; subst hg; exact hrow _ (by omega))
  have f3 := (F8.cell 3).trans rfl
  have ff3 := F8.free 3
  obtain ⟨W9, hW9⟩ : ∃ W, w8.setCell ⟨w5.heap.size, 3, none⟩ (.slice (some ⟨gP, 0, none⟩) (n2 + 1) cP) = W := ⟨_, rfl⟩
  have hB9 : Below w.heap.size w W9 := by rw [← hW9]; exact hB8.setCell (p := ⟨w5.heap.size, 3, none⟩) (by simp; omega) _
  have by_ : ∀ {g t cs}, BoxAt w8 g t cs → g ≠ w5.heap.size → BoxAt W9 g t cs := by
    intro g t cs h h1; rw [← hW9]; exact h.other h1 _
  have A9 := by_ A8 (by omega)
  have Bb9 := by_ Bb8 (by omega)
  have D9 := by_ D8 (by omega)
  have L9 := by_ L8 (by omega)
  have E9 := by_ E8 (by omega)
  have F9 : BoxAt W9 w5.heap.size 27 #[.int .i64 fr, .int .i64 sw, .slice a1 n1 k1, .slice (some ⟨gP, 0, none⟩) (n2 + 1) cP, .slice a3 n3 k3, .slice a4 n4 k4] := by rw [← hW9]; exact F8.set 3 _
  have o9 : W9.ownsRow (w3.heap.size + 1 + 1 + 1 + 1 + 1) 38 3 (.slice (some ⟨gW, 0, none⟩) n3 cW) n3 (((⟨(n2 : Int), v.st, v.ln⟩ : Wn) :: l).map Wn.cells).flatten := by
    refine owns_grown o8 (row := some w5.heap.size) ⟨by rw [← hW9]; rfl, by rw [← hW9]; rfl, by rw [← hW9]; rfl, by rw [← hW9]; simp, fun k _ hk => by rw [← hW9]; exact heap_setCell_other w8 _ k _ (fun e => hk (by simp [e]))⟩ (fun g hg => by simp [Value.ownBlock] at hg; subst hg; simp; omega)
  have p9 : W9.ownsRow (w5.heap.size + 1) 46 11 (.slice (some ⟨gP, 0, none⟩) (n2 + 1) cP) (n2 + 1) ((qs ++ [Pv.zero]).map Pv.cells).flatten := by
    rw [← hW9]
    have := owns_other ho8 3 (.slice (some ⟨gP, 0, none⟩) (n2 + 1) cP) (show w5.heap.size < w5.heap.size + 1 by omega)
    simpa using this
  have hS9 := HS.out.below hB9
  have hfit := HF.out
  have HCA := hid (show CfAt W9 ⟨4097, sw, ⟨a1, n1, k1⟩, ⟨a2, n2, k2⟩, ⟨a3, n3, k3⟩, ⟨a4, n4, k4⟩⟩ { c with fr := 4097 } from ⟨rfl, hS9.sw, hS9.li, hS9.pa, hS9.wi, hS9.ch⟩)
  have HCB := hid (show CfAt W9 ⟨fr, fr + 1, ⟨a1, n1, k1⟩, ⟨a2, n2, k2⟩, ⟨a3, n3, k3⟩, ⟨a4, n4, k4⟩⟩ { c with sw := c.fr + 1 } from ⟨hS9.fr, by rw [← Q0.out], hS9.li, hS9.pa, hS9.wi, hS9.ch⟩)
  have HCD := hid (show CfAt W9 ⟨fr, sw, ⟨some ⟨w3.heap.size + 1 + 1 + 1, 0, none⟩, 1, 1⟩, ⟨a2, n2, k2⟩, ⟨a3, n3, k3⟩, ⟨a4, n4, k4⟩⟩ { c with li := [(c.pa.length : Int)] } from ⟨hS9.fr, hS9.sw, Sees.of_owns (xs := [(c.pa.length : Int)]) (by rw [← Q2.out]; exact owns_one L9), hS9.pa, hS9.wi, hS9.ch⟩)
  have HCE := hid (show CfAt W9 ⟨fr, sw, ⟨a1, n1, k1⟩, ⟨a2, n2, k2⟩, ⟨some ⟨gW, 0, none⟩, n3, cW⟩, ⟨a4, n4, k4⟩⟩ { c with wi := ⟨(n2 : Int), v.st, v.ln⟩ :: l } from ⟨hS9.fr, hS9.sw, hS9.li, hS9.pa, SeesWn.owned (by rw [Q3.out, HWI.out]; rfl) o9, hS9.ch⟩)
  have HCF := hid (show CfAt W9 ⟨fr, sw, ⟨a1, n1, k1⟩, ⟨some ⟨gP, 0, none⟩, n2 + 1, cP⟩, ⟨a3, n3, k3⟩, ⟨a4, n4, k4⟩⟩ { c with pa := c.pa ++ [Pt.zero] } from ⟨hS9.fr, hS9.sw, hS9.li, parts_more (by rw [HQL.out]) p9 HQ.out.1 (fun i hi => (HQ.out.2 i hi).below hB9), hS9.wi, hS9.ch⟩)
  have HB9 := hid (show Below W9.heap.size W9 W9 from Below.refl _ _)
  have H9 := hid (And.intro A9 (And.intro Bb9 (And.intro D9 (And.intro E9 F9))))
  have hB9 := hid hB9
  have hg1 := great_frame c 4097 (by decide)
  have hg2 := great_switch c
  have hg3 := great_line c
  have hg4 := great_window c ⟨(n2 : Int), v.st, v.ln⟩ l (by simp [Q2.out])
  have hg5 := great_part c
  have HG := hid (And.intro hg1 (And.intro hg2 (And.intro hg3 (And.intro hg4 hg5))))
  have FA := hid (show Cf.fit { c with fr := 4097 } from ⟨by simp, hfit.2⟩)
  have FF := hid (show Cf.fit { c with pa := c.pa ++ [Pt.zero] } from ⟨hfit.1, fun p hp r hr => by
    rcases List.mem_append.1 hp with h | h
    · exact hfit.2 p h r hr
    · simp at h; subst h; simp [Pt.zero] at hr⟩)
  have FB := hid (show Cf.fit { c with sw := c.fr + 1 } from hfit)
  have FD := hid (show Cf.fit { c with li := [(c.pa.length : Int)] } from hfit)
  have FE := hid (show Cf.fit { c with wi := ⟨(n2 : Int), v.st, v.ln⟩ :: l } from hfit)
  clear hfit hS9 p9 o9 o8 by_ bx A8 Bb8 D8 L8 E8 F8 Bb9 D9 L9 E9 F9 hg1 hg2 hg3 hg4 hg5 ho8 hg8 hB8 hB7 H7 hrow HOW HGP HQ HQL HM
  have c0 := (A9.cell 0).trans rfl
  have c1 := (A9.cell 1).trans rfl
  have c2 := (A9.cell 2).trans rfl
  have c3 := (A9.cell 3).trans rfl
  have c4 := (A9.cell 4).trans rfl
  have c5 := (A9.cell 5).trans rfl
  clear A9
  go_wp2_with fail
  refine (tmay_any ⟨4097, sw, ⟨a1, n1, k1⟩, ⟨a2, n2, k2⟩, ⟨a3, n3, k3⟩, ⟨a4, n4, k4⟩⟩ _ _ (HCA.out.below HB9.out) FA.out).mono ?_
  rintro e w10 ⟨rfl, hb⟩
  rw [HG.out.1]
  replace HB9 := hid (HB9.out.trans (hb.mono HB9.out.size))
  clear hb c0 c1 c2 c3 c4 c5 HCA
  have c0 := ((H9.out.2.1.belowAll HB9.out).cell 0).trans rfl
  have c1 := ((H9.out.2.1.belowAll HB9.out).cell 1).trans rfl
  have c2 := ((H9.out.2.1.belowAll HB9.out).cell 2).trans rfl
  have c3 := ((H9.out.2.1.belowAll HB9.out).cell 3).trans rfl
  have c4 := ((H9.out.2.1.belowAll HB9.out).cell 4).trans rfl
  have c5 := ((H9.out.2.1.belowAll HB9.out).cell 5).trans rfl
  go_wp2_with fail
  refine (tmay_any ⟨fr, fr + 1, ⟨a1, n1, k1⟩, ⟨a2, n2, k2⟩, ⟨a3, n3, k3⟩, ⟨a4, n4, k4⟩⟩ _ _ (HCB.out.below HB9.out) FB.out).mono ?_
  rintro e w11 ⟨rfl, hb⟩
  rw [HG.out.2.1]
  replace HB9 := hid (HB9.out.trans (hb.mono HB9.out.size))
  clear hb c0 c1 c2 c3 c4 c5 HCB
  have c0 := ((H9.out.2.2.1.belowAll HB9.out).cell 0).trans rfl
  have c1 := ((H9.out.2.2.1.belowAll HB9.out).cell 1).trans rfl
  have c2 := ((H9.out.2.2.1.belowAll HB9.out).cell 2).trans rfl
  have c3 := ((H9.out.2.2.1.belowAll HB9.out).cell 3).trans rfl
  have c4 := ((H9.out.2.2.1.belowAll HB9.out).cell 4).trans rfl
  have c5 := ((H9.out.2.2.1.belowAll HB9.out).cell 5).trans rfl
  go_wp2_with fail
  refine (tmay_any ⟨fr, sw, ⟨some ⟨w3.heap.size + 1 + 1 + 1, 0, none⟩, 1, 1⟩, ⟨a2, n2, k2⟩, ⟨a3, n3, k3⟩, ⟨a4, n4, k4⟩⟩ _ _ (HCD.out.below HB9.out) FD.out).mono ?_
  rintro e w12 ⟨rfl, hb⟩
  rw [HG.out.2.2.1]
  replace HB9 := hid (HB9.out.trans (hb.mono HB9.out.size))
  clear hb c0 c1 c2 c3 c4 c5 HCD
  have c0 := ((H9.out.2.2.2.1.belowAll HB9.out).cell 0).trans rfl
  have c1 := ((H9.out.2.2.2.1.belowAll HB9.out).cell 1).trans rfl
  have c2 := ((H9.out.2.2.2.1.belowAll HB9.out).cell 2).trans rfl
  have c3 := ((H9.out.2.2.2.1.belowAll HB9.out).cell 3).trans rfl
  have c4 := ((H9.out.2.2.2.1.belowAll HB9.out).cell 4).trans rfl
  have c5 := ((H9.out.2.2.2.1.belowAll HB9.out).cell 5).trans rfl
  go_wp2_with fail
  refine (tmay_any ⟨fr, sw, ⟨a1, n1, k1⟩, ⟨a2, n2, k2⟩, ⟨some ⟨gW, 0, none⟩, n3, cW⟩, ⟨a4, n4, k4⟩⟩ _ _ (HCE.out.below HB9.out) FE.out).mono ?_
  rintro e w13 ⟨rfl, hb⟩
  rw [HG.out.2.2.2.1]
  replace HB9 := hid (HB9.out.trans (hb.mono HB9.out.size))
  clear hb c0 c1 c2 c3 c4 c5 HCE
  have c0 := ((H9.out.2.2.2.2.belowAll HB9.out).cell 0).trans rfl
  have c1 := ((H9.out.2.2.2.2.belowAll HB9.out).cell 1).trans rfl
  have c2 := ((H9.out.2.2.2.2.belowAll HB9.out).cell 2).trans rfl
  have c3 := ((H9.out.2.2.2.2.belowAll HB9.out).cell 3).trans rfl
  have c4 := ((H9.out.2.2.2.2.belowAll HB9.out).cell 4).trans rfl
  have c5 := ((H9.out.2.2.2.2.belowAll HB9.out).cell 5).trans rfl
  go_wp2_with fail
  refine (tmay_any ⟨fr, sw, ⟨a1, n1, k1⟩, ⟨some ⟨gP, 0, none⟩, n2 + 1, cP⟩, ⟨a3, n3, k3⟩, ⟨a4, n4, k4⟩⟩ _ _ (HCF.out.below HB9.out) FF.out).mono ?_
  rintro e w14 ⟨rfl, hb⟩
  rw [HG.out.2.2.2.2]
  replace HB9 := hid (HB9.out.trans (hb.mono HB9.out.size))
  clear hb c0 c1 c2 c3 c4 c5 HCF
  go_wp2
  go_ret
  exact ⟨rfl, hB9.out.trans (HB9.out.mono hB9.out.size)⟩
end Go.Proofs.Ytnliodjappkdeaa
