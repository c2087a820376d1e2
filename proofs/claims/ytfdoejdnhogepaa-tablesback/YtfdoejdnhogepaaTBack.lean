/-
  The law TablesBack returns true, whatever it is given, and nothing that was there is written.
-/
import Derived.Test.YtfdoejdnhogepaaTRefI
import Derived.Test.YtfdoejdnhogepaaTBackM
import Derived.Test.YtfdoejdnhogepaaTAwake
import Derived.Test.YtfdoejdnhogepaaTFew
namespace Go.Proofs.Ytfdoejdnhogepaa
open Go.RowKit
set_option linter.unusedVariables false

theorem Try.infoB8 : (Try.prog.info? 5).map (fun i => (i.zero, i.size, i.bytes)) = some (some (.int .u8 0), 1, 1) := by kernel_rfl
theorem Sees.box1 {w : World} {g : Nat} {t : TypeId} {k : IntKind} {n : Int} (h : BoxAt w g t #[.int k n]) : Sees w k (.slice (some ⟨g, 0, none⟩) 1 1) [n] := by
  refine .inr ⟨⟨g, 0, none⟩, 1, rfl, Nat.le_refl _, by decide, fun i hi => ?_⟩
  obtain rfl : i = 0 := by simp at hi; omega
  rw [add_none, h.cell]
  rfl

set_option maxRecDepth 100000 in
set_option maxHeartbeats 6400000 in
theorem walk_TablesBack (w : World) (x : CfX) (hx : x.fit w) :
    Calls Try.prog 4 #[x.val] w fun e w' => e = .returned (.bool true) ∧ Below w.heap.size w w' := by
  have hnot := Try.hnot
  obtain ⟨i0, hi, hz0, hz1, hz2⟩ := info_parts Try.infoB8
  obtain ⟨⟨fr, sw, ⟨a1, n1, k1⟩, ⟨a2, n2, k2⟩, ⟨a3, n3, k3⟩, ⟨a4, n4, k4⟩⟩, c⟩ := x
  obtain ⟨hS, hf, _⟩ := hx
  simp only at hS hf
  have HS := hid hS
  have HF := hid hf
  clear hS hf
  unfold CfX.val Cv.val
  go_enter Try.func4, Try.ntmps4
  go_wp2_with fail
  refine (awake_any _).mono ?_
  rintro e w1 ⟨rfl, hb⟩
  have B1 : BoxAt w1 w.heap.size 27 #[.int .i64 fr, .int .i64 sw, .slice a1 n1 k1, .slice a2 n2 k2, .slice a3 n3 k3, .slice a4 n4 k4] := (BoxAt.new w _ _).belowAll hb
  have hB1 : Below w.heap.size w w1 := ((Below.refl _ _).alloc (Nat.le_refl _) _).trans (hb.mono (by simp))
  have c0 := (B1.cell 0).trans rfl
  have c1 := (B1.cell 1).trans rfl
  have c2 := (B1.cell 2).trans rfl
  have c3 := (B1.cell 3).trans rfl
  have c4 := (B1.cell 4).trans rfl
  have c5 := (B1.cell 5).trans rfl
  have HB1 := hid B1
  clear hb B1
  go_wp2_with fail
  refine (few_any ⟨fr, sw, ⟨a1, n1, k1⟩, ⟨a2, n2, k2⟩, ⟨a3, n3, k3⟩, ⟨a4, n4, k4⟩⟩ c _ (HS.out.below hB1)).mono ?_
  rintro e w2 ⟨⟨ok, rfl⟩, hb⟩
  have B2 := HB1.out.belowAll hb
  have hB2 := hB1.trans (hb.mono hB1.size)
  clear hb hB1 HB1 c0 c1 c2 c3 c4 c5
  cases ok
  · clear HS HF B2
    go_wp2
    go_ret
    exact ⟨rfl, hB2⟩
  have c0 := (B2.cell 0).trans rfl
  have c1 := (B2.cell 1).trans rfl
  have c2 := (B2.cell 2).trans rfl
  have c3 := (B2.cell 3).trans rfl
  have c4 := (B2.cell 4).trans rfl
  have c5 := (B2.cell 5).trans rfl
  have HB2 := hid B2
  clear B2
  go_wp2_with fail
  refine (enc_any ⟨fr, sw, ⟨a1, n1, k1⟩, ⟨a2, n2, k2⟩, ⟨a3, n3, k3⟩, ⟨a4, n4, k4⟩⟩ c _ (HS.out.below hB2) HF.out).mono ?_
  rintro e w3 ⟨u, rfl, ho3, hb⟩
  have B3 := HB2.out.belowAll hb
  have hB3 := hB2.trans (hb.mono hB2.size)
  clear hb hB2 HB2 c0 c1 c2 c3 c4 c5
  rcases hm : mayC c
  · have e1 : encE c = 1 := by simp [encE, hm]
    have e2 : encB c = [] := by simp [encB, hm]
    rw [e1]
    rw [e2] at ho3
    obtain ⟨a, cap, rfl, _, _, _⟩ := (Sees.of_owns (xs := []) ho3).form
    have HM := hid hm
    have c0 := (B3.cell 0).trans rfl
    have c1 := (B3.cell 1).trans rfl
    have c2 := (B3.cell 2).trans rfl
    have c3 := (B3.cell 3).trans rfl
    have c4 := (B3.cell 4).trans rfl
    have c5 := (B3.cell 5).trans rfl
    clear ho3 B3 e1 e2 hm
    go_wp2_with fail
    refine (tmay_any ⟨fr, sw, ⟨a1, n1, k1⟩, ⟨a2, n2, k2⟩, ⟨a3, n3, k3⟩, ⟨a4, n4, k4⟩⟩ c _ (HS.out.below hB3) HF.out).mono ?_
    rintro e w4 ⟨rfl, hb⟩
    rw [HM.out]
    have hB4 := hB3.trans (hb.mono hB3.size)
    clear hb hB3 c0 c1 c2 c3 c4 c5 HS HF
    go_wp2
    go_ret
    exact ⟨rfl, hB4⟩
  have hee := (may_enc hm).2
  have heb := (may_enc hm).1
  have hd1 := dec_fwd hm
  obtain ⟨hne, hd2⟩ := dec_less hm
  have hd3 := dec_long hm
  have hby : ∀ b ∈ encB c, 0 ≤ b ∧ b ≤ 255 := by rw [heb]; exact encAll_bytes (may_T hm).1
  have hlen : (encB c).length ≤ 14000 := by
    rw [heb]
    have h1 := encAll_len (flCf c)
    have h2 := (mayC_few hm).2
    omega
  rw [hee]
  clear heb hee hm
  generalize encB c = bl at *
  obtain ⟨N, hN⟩ : ∃ n, bl.length = n := ⟨_, rfl⟩
  have hN0 : 0 < N := by
    rw [← hN]
    rcases bl with _ | ⟨b, bl⟩
    · exact absurd rfl hne
    · simp
  obtain ⟨a, cap, rfl, hc1, hc2, hcc⟩ := (Sees.of_owns ho3).form
  obtain ⟨bb, off, rfl, hbw, hcell⟩ := hcc (by omega)
  have HV := hid (Sees.of_owns ho3)
  have HT := hid (show Sees w3 .u8 (.slice (some ⟨bb, off, none⟩) (N - 1) cap) (bl.take (N - 1)) from Sees.taken (N - 1) (by omega) hc1 hc2 hcell)
  rw [hN] at hd2 hc1 hlen
  have HNN := hid hN
  have D1 := hid hd1
  have D2 := hid hd2
  have D3 := hid hd3
  have HY := hid hby
  rw [hN] at HV ⊢
  have hn0 : ((N : Int) == 0) = false := by simp; omega
  have hj : ((N : Int) - 1) = ((N - 1 : Nat) : Int) := by omega
  have HB3 := hid B3
  unfold maxLen at hc2
  clear hd1 hd2 hd3 hby hne hcell hcc ho3 hN B3 hbw
  go_wp2_with fail
  refine (dec_any _ bl _ HV.out HY.out (by rw [HNN.out]; omega)).mono ?_
  rintro e w4 ⟨⟨gr, gw, ⟨b1, m1, j1⟩, ⟨b2, m2, j2⟩, ⟨b3, m3, j3⟩, ⟨b4, m4, j4⟩⟩, rfl, hq, hb⟩
  rw [D1.out] at hq ⊢
  simp only [Cv.val]
  simp only at hq
  have hB4 := hB3.trans (hb.mono hB3.size)
  have B4 := HB3.out.belowAll hb
  replace HV := hid (HV.out.below hb)
  replace HT := hid (HT.out.below hb)
  have hA : Below w4.heap.size w4 (w4.alloc (.cells #[.int .i64 gr, .int .i64 gw, .slice b1 m1 j1, .slice b2 m2 j2, .slice b3 m3 j3, .slice b4 m4 j4] 27)) := (Below.refl _ _).alloc (Nat.le_refl _) _
  have HQ := hid (hq.below hA)
  have B5 := B4.belowAll hA
  have hB5 := hB4.trans (hA.mono hB4.size)
  replace HV := hid (HV.out.below hA)
  replace HT := hid (HT.out.below hA)
  have c0 := (B5.cell 0).trans rfl
  have c1 := (B5.cell 1).trans rfl
  have c2 := (B5.cell 2).trans rfl
  have c3 := (B5.cell 3).trans rfl
  have c4 := (B5.cell 4).trans rfl
  have c5 := (B5.cell 5).trans rfl
  clear hb HB3 hB3 hq B4 B5 hB4 hA
  go_wp2_with fail
  generalize w4.alloc (.cells #[.int .i64 gr, .int .i64 gw, .slice b1 m1 j1, .slice b2 m2 j2, .slice b3 m3 j3, .slice b4 m4 j4] 27) = w5 at *
  refine (rsame_true ⟨fr, sw, ⟨a1, n1, k1⟩, ⟨a2, n2, k2⟩, ⟨a3, n3, k3⟩, ⟨a4, n4, k4⟩⟩ ⟨gr, gw, ⟨b1, m1, j1⟩, ⟨b2, m2, j2⟩, ⟨b3, m3, j3⟩, ⟨b4, m4, j4⟩⟩ c c _ (HS.out.below hB5) HQ.out HF.out HF.out rfl rfl).mono ?_
  rintro e w6 ⟨rfl, hb⟩
  have hB6 := hB5.trans (hb.mono hB5.size)
  replace HV := hid (HV.out.below hb)
  replace HT := hid (HT.out.below hb)
  clear hb hB5 HQ c0 c1 c2 c3 c4 c5 HS HF
  go_wp2_with fail
  refine (dec_any _ (bl.take (N - 1)) _ HT.out (fun c hc => HY.out c (List.mem_of_mem_take hc)) (by rw [List.length_take, HNN.out]; omega)).mono ?_
  rintro e w7 ⟨⟨gr, gw, ⟨b1, m1, j1⟩, ⟨b2, m2, j2⟩, ⟨b3, m3, j3⟩, ⟨b4, m4, j4⟩⟩, rfl, hq, hb⟩
  rw [D2.out]
  simp only [Cv.val]
  have hB7 := hB6.trans (hb.mono hB6.size)
  have hA : Below w7.heap.size w7 (w7.alloc (.cells #[.int .i64 gr, .int .i64 gw, .slice b1 m1 j1, .slice b2 m2 j2, .slice b3 m3 j3, .slice b4 m4 j4] 27)) := (Below.refl _ _).alloc (Nat.le_refl _) _
  have hB8 := hB7.trans (hA.mono hB7.size)
  replace HV := hid ((HV.out.below hb).below hA)
  obtain ⟨B0, hB0⟩ : ∃ b, b = w7.heap.size + 1 := ⟨_, rfl⟩
  have HB0 := hid (show B0 ≤ (w7.alloc (.cells #[.int .i64 gr, .int .i64 gw, .slice b1 m1 j1, .slice b2 m2 j2, .slice b3 m3 j3, .slice b4 m4 j4] 27)).heap.size by simp; omega)
  have hw0 : w.heap.size ≤ B0 := by have := hB7.size; omega
  clear hB0
  have HM1 := hid (show 0 + bl.length ≤ maxLen by rw [HNN.out]; unfold maxLen; omega)
  have HM2 := hid (show (0 + bl.length) * 1 ≤ 140737488355328 by rw [HNN.out]; omega)
  clear hb hB6 hq HT hA hB7
  go_wp2_with (at_builtin; refine wpList_append_sees rfl _ _ 30 rfl B0 5 i0 _ 1 Try.underlying30 hi hz0 hz1 hz2 rfl .u8 (.slice none 0 0) 0 [] rfl (World.ownsRow_nil _ _ _ 1) _ bl rfl HV.out HM1.out HM2.out HB0.out ?_)
  intro v8 w8 ho8 hg8
  generalize w7.alloc (.cells #[.int .i64 gr, .int .i64 gw, .slice b1 m1 j1, .slice b2 m2 j2, .slice b3 m3 j3, .slice b4 m4 j4] 27) = W7 at *
  have hb8 : Below W7.heap.size W7 w8 := (Below.refl _ _).grown hg8 (Nat.le_refl _) (by simp [Value.ownBlock])
  have hB9 := hB8.trans (hb8.mono hB8.size)
  replace ho8 : w8.ownsRow B0 5 1 v8 N (bl.map (Value.int .u8)) := by rw [← HNN.out]; simpa using ho8
  have HO8 := hid (World.ownsRow.alloc ho8 (.cells #[.int .u8 0] 5))
  have HL8 := hid (fun k hk => (ho8.lt k hk).1)
  have HS8 := hid (show Sees (w8.alloc (.cells #[.int .u8 0] 5)) .u8 (.slice (some ⟨w8.heap.size, 0, none⟩) 1 1) [0] from Sees.box1 (BoxAt.new w8 5 #[.int .u8 0]))
  have HM3 := hid (show N + [(0 : Int)].length ≤ maxLen by unfold maxLen; simp; omega)
  have HM4 := hid (show (N + [(0 : Int)].length) * 1 ≤ 140737488355328 by simp; omega)
  have hA9 := hB9.alloc hB9.size (.cells #[.int .u8 0] 5)
  have hsz8 := hb8.size
  have HZ := hid (show B0 ≤ (w8.alloc (.cells #[.int .u8 0] 5)).heap.size by have := HB0.out; simp; omega)
  clear hg8 ho8 hb8 HV HM1 HM2
  go_wp2_with (at_builtin; refine wpList_append_sees rfl _ _ 30 rfl B0 5 i0 _ 1 Try.underlying30 hi hz0 hz1 hz2 rfl .u8 v8 N _ rfl HO8.out _ [0] rfl HS8.out HM3.out HM4.out HZ.out ?_)
  intro v9 w9 ho9 hg9
  have hB10 : Below w.heap.size w w9 := hA9.grown hg9 hA9.size (fun k hk => by have h1 := HL8.out k hk; omega)
  have HV9 := hid (show Sees w9 .u8 v9 (bl ++ [0]) from Sees.of_owns (xs := bl ++ [0]) (n := N + 1) (by simpa using ho9))
  clear hg9 ho9 HO8 HS8 HL8 HM3 HM4 hA9 hB9 HZ hB8
  have HY2 := hid (show ∀ b ∈ bl ++ [0], 0 ≤ b ∧ b ≤ 255 by
    intro b hb
    rcases List.mem_append.1 hb with h | h
    · exact HY.out b h
    · simp at h; subst h; decide)
  go_wp2_with fail
  refine (dec_any _ (bl ++ [0]) _ HV9.out HY2.out (by rw [List.length_append, HNN.out]; simp; omega)).mono ?_
  rintro e w10 ⟨⟨gr, gw, ⟨b1, m1, j1⟩, ⟨b2, m2, j2⟩, ⟨b3, m3, j3⟩, ⟨b4, m4, j4⟩⟩, rfl, hq, hb⟩
  rw [D3.out]
  simp only [Cv.val]
  have hB11 := hB10.trans (hb.mono hB10.size)
  have hB12 := hB11.alloc hB11.size (.cells #[.int .i64 gr, .int .i64 gw, .slice b1 m1 j1, .slice b2 m2 j2, .slice b3 m3 j3, .slice b4 m4 j4] 27)
  clear hb hq HV9 hB10 hB11
  go_wp2
  go_ret
  exact ⟨rfl, hB12⟩
end Go.Proofs.Ytfdoejdnhogepaa
