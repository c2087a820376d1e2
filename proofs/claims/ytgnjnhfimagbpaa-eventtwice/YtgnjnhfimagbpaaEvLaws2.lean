/-
  EventTwice: the walk.
-/
import Derived.Test.YtgnjnhfimagbpaaEvAwake
import Derived.Test.YtgnjnhfimagbpaaEvOpen
namespace Go.Proofs.Ytgnjnhfimagbpaa
open Go.RowKit
set_option linter.unusedVariables false


set_option maxRecDepth 100000 in
set_option maxHeartbeats 3200000 in
theorem walk_EventTwice (w : World) (x0 : EvX) (f0 : x0.fit w) :
    Calls Try.prog 5 #[x0.val] w fun e w' => e = .returned (.bool true) ∧ Below w.heap.size w w' := by
  obtain ⟨⟨k, s⟩, ⟨k', l⟩⟩ := x0
  obtain ⟨⟨h1, hs⟩, -⟩ := f0
  simp only at h1 hs
  subst h1
  have HV := hid hs
  obtain ⟨a2, c2, hs1, hc1, hc2, -⟩ := hs.form
  obtain ⟨sa, sn, sc⟩ := s
  simp only [Sl.val, Value.slice.injEq] at hs1
  obtain ⟨rfl, rfl, rfl⟩ := hs1
  unfold maxLen at hc2
  simp only [Sl.val] at HV
  clear hs
  unfold EvX.val EvV.val
  simp only
  obtain ⟨M, hM⟩ : ∃ M, l.length = M := ⟨_, rfl⟩
  have HM := hid hM
  rw [hM] at hc1 HV ⊢
  clear hM
  have HB := hid (Below.refl w.heap.size w)
  have emm : ((M : Int) == (M : Int)) = true := by simp
  go_enter Try.func5, Try.ntmps5
  have FL1 := hid trivial
  go_wp2_with (first
    | (have hfl := FL1.out
       refine wpList_box rfl 24 (.tmp 0) rfl #[.bool k, .slice sa M sc] rfl ?_
       intro v1 b h z
       have PB := hid (show BoxAt v1 w.heap.size 24 #[.bool k, .slice sa M sc] from b)
       have HB := hid (HB.out.trans (h.mono HB.out.size))
       have hsv1 : w.heap.size + 1 ≤ v1.heap.size := by first | exact h.size | omega
       clear b h z hfl FL1)
    | fail)
  refine (evawake_any _).mono ?_
  rintro e v2 ⟨rfl, hb⟩
  have PB := hid (PB.out.belowAll hb)
  have HB := hid (HB.out.trans (hb.mono HB.out.size))
  have hsv2 : v1.heap.size ≤ v2.heap.size := by first | exact hb.size | omega
  have kPB1 : v2.cell? ⟨w.heap.size, 1, none⟩ = some (.slice sa M sc) := (BoxAt.cell PB.out 1).trans rfl
  clear hb
  by_cases hgd0 : (60 : Int) < (M : Int)
  · go_wp2
    go_ret
    exact ⟨rfl, HB.out⟩
  have HL := hid (show l.length ≤ 60 by have := HM.out; omega)
  go_wp2_with (first
    | (refine wpList_load_box rfl 24 _ rfl (w.heap.size) rfl _ _ PB.out _ Try.underlying24 Try.infoEv ?_)
    | fail)
  refine (set_any k (s := ⟨sa, M, sc⟩) (HV.out.below HB.out) (by have := HL.out; omega)).mono ?_
  rintro e v3 ⟨q1, rfl, hq, hb⟩
  have PB := hid (PB.out.belowAll hb)
  have HB := hid (HB.out.trans (hb.mono HB.out.size))
  have hsv3 : v2.heap.size ≤ v3.heap.size := by first | exact hb.size | omega
  have hqn := hq.n
  rw [show (allP l 0 0).length = M from by rw [← HM.out]; simp [allP]] at hqn
  obtain ⟨qa, qn, qc⟩ := q1
  simp only at hqn
  have hqm := hqn.symm
  clear hqn
  subst hqm
  clear hq
  simp only [Sl.val]
  clear kPB1
  have kPB1 : v3.cell? ⟨w.heap.size, 1, none⟩ = some (.slice sa M sc) := (BoxAt.cell PB.out 1).trans rfl
  clear hb
  have FL2 := hid trivial
  have FL3 := hid trivial
  go_wp2_with (first
    | (have hfl := FL2.out
       refine wpList_new rfl 24 rfl _ Try.zeroEv ?_
       intro v4 b h z
       have AB := hid (show BoxAt v4 v3.heap.size 24 #[.bool false, .slice none 0 0] from b)
       have PB := hid (PB.out.belowAll h)
       have HB := hid (HB.out.trans (h.mono HB.out.size))
       have hsv4 : v3.heap.size + 1 ≤ v4.heap.size := by first | exact h.size | omega
       clear kPB1
       have kPB1 : v4.cell? ⟨w.heap.size, 1, none⟩ = some (.slice sa M sc) := (BoxAt.cell PB.out 1).trans rfl
       clear b h z hfl FL2)
    | (have hfl := FL3.out
       refine wpList_store_whole rfl 24 _ _ rfl rfl (v3.heap.size) rfl [.bool true, .slice none 0 0] rfl _ _ AB.out rfl Try.infoEv (by simp [Value.oneCell']) ?_
       intro v5 b g z
       have hsv5 : v4.heap.size ≤ v5.heap.size := by omega
       have AB := hid (show BoxAt v5 (v3.heap.size) 24 #[.bool true, .slice none 0 0] from b)
       have PB := hid (PB.out.grown g (fun e => by have := Option.some.inj e; omega))
       have HB := hid (HB.out.trans (grown_below g (by omega) (by omega)))
       clear kPB1
       have kPB1 : v5.cell? ⟨w.heap.size, 1, none⟩ = some (.slice sa M sc) := (BoxAt.cell PB.out 1).trans rfl
       clear b g z hfl FL3)
    | (refine wpList_load_box rfl 24 _ rfl (v3.heap.size) rfl _ _ AB.out _ Try.underlying24 Try.infoEv ?_)
    | fail)
  refine (set_any true (s := ⟨none, 0, 0⟩) (l := []) (SeesWt.nil _) (by simp)).mono ?_
  rintro e v6 ⟨q2, rfl, hq, hb⟩
  have PB := hid (PB.out.belowAll hb)
  have AB := hid (AB.out.belowAll hb)
  have HB := hid (HB.out.trans (hb.mono HB.out.size))
  have hsv6 : v5.heap.size ≤ v6.heap.size := by first | exact hb.size | omega
  have hqn2 : q2.n = 0 := hq.n
  obtain ⟨ra, rn, rc⟩ := q2
  simp only at hqn2
  subst hqn2
  clear hq
  simp only [Sl.val]
  clear kPB1
  have kPB1 : v6.cell? ⟨w.heap.size, 1, none⟩ = some (.slice sa M sc) := (BoxAt.cell PB.out 1).trans rfl
  clear hb
  have FL4 := hid trivial
  have FL5 := hid trivial
  go_wp2_with (first
    | (have hfl := FL4.out
       refine wpList_new rfl 24 rfl _ Try.zeroEv ?_
       intro v7 b h z
       have BB := hid (show BoxAt v7 v6.heap.size 24 #[.bool false, .slice none 0 0] from b)
       have PB := hid (PB.out.belowAll h)
       have AB := hid (AB.out.belowAll h)
       have HB := hid (HB.out.trans (h.mono HB.out.size))
       have hsv7 : v6.heap.size + 1 ≤ v7.heap.size := by first | exact h.size | omega
       clear kPB1
       have kPB1 : v7.cell? ⟨w.heap.size, 1, none⟩ = some (.slice sa M sc) := (BoxAt.cell PB.out 1).trans rfl
       clear b h z hfl FL4)
    | (have hfl := FL5.out
       refine wpList_store_whole rfl 24 _ _ rfl rfl (v6.heap.size) rfl [.bool true, .slice none 0 0] rfl _ _ BB.out rfl Try.infoEv (by simp [Value.oneCell']) ?_
       intro v8 b g z
       have hsv8 : v7.heap.size ≤ v8.heap.size := by omega
       have BB := hid (show BoxAt v8 (v6.heap.size) 24 #[.bool true, .slice none 0 0] from b)
       have PB := hid (PB.out.grown g (fun e => by have := Option.some.inj e; omega))
       have AB := hid (AB.out.grown g (fun e => by have := Option.some.inj e; omega))
       have HB := hid (HB.out.trans (grown_below g (by omega) (by omega)))
       clear kPB1
       have kPB1 : v8.cell? ⟨w.heap.size, 1, none⟩ = some (.slice sa M sc) := (BoxAt.cell PB.out 1).trans rfl
       clear b g z hfl FL5)
    | (refine wpList_load_box rfl 24 _ rfl (v6.heap.size) rfl _ _ BB.out _ Try.underlying24 Try.infoEv ?_)
    | fail)
  refine (reset_any true (s := ⟨none, 0, 0⟩) (l := []) (SeesWt.nil _) (by simp)).mono ?_
  rintro e v9 ⟨x3, rfl, hu, hb⟩
  have PB := hid (PB.out.belowAll hb)
  have AB := hid (AB.out.belowAll hb)
  have BB := hid (BB.out.belowAll hb)
  have HB := hid (HB.out.trans (hb.mono HB.out.size))
  have hsv9 : v8.heap.size ≤ v9.heap.size := by first | exact hb.size | omega
  have hun : x3.n = 0 := hu.n
  obtain ⟨xa, xn, xc⟩ := x3
  simp only at hun
  subst hun
  clear hu
  clear kPB1
  have kPB1 : v9.cell? ⟨w.heap.size, 1, none⟩ = some (.slice sa M sc) := (BoxAt.cell PB.out 1).trans rfl
  clear hb
  have FL6 := hid trivial
  have FL7 := hid trivial
  go_wp2_with (first
    | (have hfl := FL6.out
       refine wpList_new rfl 24 rfl _ Try.zeroEv ?_
       intro v10 b h z
       have CB := hid (show BoxAt v10 v9.heap.size 24 #[.bool false, .slice none 0 0] from b)
       have PB := hid (PB.out.belowAll h)
       have AB := hid (AB.out.belowAll h)
       have BB := hid (BB.out.belowAll h)
       have HB := hid (HB.out.trans (h.mono HB.out.size))
       have hsv10 : v9.heap.size + 1 ≤ v10.heap.size := by first | exact h.size | omega
       clear kPB1
       have kPB1 : v10.cell? ⟨w.heap.size, 1, none⟩ = some (.slice sa M sc) := (BoxAt.cell PB.out 1).trans rfl
       clear b h z hfl FL6)
    | (have hfl := FL7.out
       refine wpList_store_whole rfl 24 _ _ rfl rfl (v9.heap.size) rfl [.bool false, .slice xa 0 xc] rfl _ _ CB.out rfl Try.infoEv (by simp [Value.oneCell']) ?_
       intro v11 b g z
       have hsv11 : v10.heap.size ≤ v11.heap.size := by omega
       have CB := hid (show BoxAt v11 (v9.heap.size) 24 #[.bool false, .slice xa 0 xc] from b)
       have PB := hid (PB.out.grown g (fun e => by have := Option.some.inj e; omega))
       have AB := hid (AB.out.grown g (fun e => by have := Option.some.inj e; omega))
       have BB := hid (BB.out.grown g (fun e => by have := Option.some.inj e; omega))
       have HB := hid (HB.out.trans (grown_below g (by omega) (by omega)))
       clear kPB1
       have kPB1 : v11.cell? ⟨w.heap.size, 1, none⟩ = some (.slice sa M sc) := (BoxAt.cell PB.out 1).trans rfl
       clear b g z hfl FL7)
    | (refine wpList_load_box rfl 24 _ rfl (v3.heap.size) rfl _ _ AB.out _ Try.underlying24 Try.infoEv ?_)
    | (refine wpList_load_box rfl 24 _ rfl (v6.heap.size) rfl _ _ BB.out _ Try.underlying24 Try.infoEv ?_)
    | fail)
  refine (rsame_any true (s := ⟨none, 0, 0⟩) (r := ⟨none, 0, 0⟩) (SeesWt.nil _) (SeesWt.nil _)).mono ?_
  rintro e v12 ⟨rfl, hb⟩
  have PB := hid (PB.out.belowAll hb)
  have AB := hid (AB.out.belowAll hb)
  have BB := hid (BB.out.belowAll hb)
  have CB := hid (CB.out.belowAll hb)
  have HB := hid (HB.out.trans (hb.mono HB.out.size))
  have hsv12 : v11.heap.size ≤ v12.heap.size := by first | exact hb.size | omega
  clear kPB1
  have kPB1 : v12.cell? ⟨w.heap.size, 1, none⟩ = some (.slice sa M sc) := (BoxAt.cell PB.out 1).trans rfl
  clear hb
  clear kPB1
  have kPB1 : v12.cell? ⟨w.heap.size, 1, none⟩ = some (.slice sa M sc) := (BoxAt.cell PB.out 1).trans rfl
  have kAB0 : v12.cell? ⟨v3.heap.size, 0, none⟩ = some (.bool true) := (BoxAt.cell AB.out 0).trans rfl
  have kCB0 : v12.cell? ⟨v9.heap.size, 0, none⟩ = some (.bool false) := (BoxAt.cell CB.out 0).trans rfl
  have kCB1 : v12.cell? ⟨v9.heap.size, 1, none⟩ = some (.slice xa 0 xc) := (BoxAt.cell CB.out 1).trans rfl
  go_wp2
  go_ret
  exact ⟨rfl, HB.out⟩

end Go.Proofs.Ytgnjnhfimagbpaa
