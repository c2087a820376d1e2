/-
  BufferFull: the walk.
-/
import Derived.Test.YtehpmjaldghdiaaBfAwake
import Derived.Test.YtehpmjaldghdiaaBfOpen
import Derived.BigQuiet
namespace Go.Proofs.Ytehpmjaldghdiaa
open Go.RowKit
set_option linter.unusedVariables false


theorem full_more (D : Int) (i : Nat) (v : Int) (p r : Int) (hi : (i : Int) < D) : sendC D (List.replicate i v) [] false = 0 ∧ sendV D (List.replicate i v) [] v = List.replicate (i + 1) v ∧ sendL D false (List.replicate i v) [] ⟨p, r, v⟩ false = [] ∧ sendW (List.replicate i v) [] v = [] := by
  have hn : ¬ ((List.replicate i v).length = 0 ∧ 0 < ([] : List Wt).length) := by simp
  have hd : ((List.replicate i v).length : Int) < D := by simpa using hi
  refine ⟨?_, ?_, ?_, ?_⟩
  · unfold sendC; rw [if_neg hn, if_pos hd]
  · unfold sendV; rw [if_neg hn, if_pos hd, List.replicate_succ']
  · unfold sendL; rw [if_neg hn, if_pos hd]
  · unfold sendW; rw [if_neg hn]
theorem full_end (D : Int) (i : Nat) (v : Int) (p r : Int) (hi : ¬ (i : Int) < D) : sendC D (List.replicate i v) [] false = 2 ∧ sendV D (List.replicate i v) [] v = List.replicate i v ∧ sendL D false (List.replicate i v) [] ⟨p, r, v⟩ false = [] := by
  have hn : ¬ ((List.replicate i v).length = 0 ∧ 0 < ([] : List Wt).length) := by simp
  have hd : ¬ ((List.replicate i v).length : Int) < D := by simpa using hi
  refine ⟨?_, ?_, ?_⟩
  · unfold sendC; rw [if_neg hn, if_neg hd]; rfl
  · unfold sendV; rw [if_neg hn, if_neg hd]
  · unfold sendL; rw [if_neg hn, if_neg hd]; rfl


set_option maxRecDepth 100000 in
set_option maxHeartbeats 3200000 in
theorem walk_BufferFull (w : World) (D : Int) (hx : (Lit.int .i64 D).wf = true) (y : Wt) (f1 : y.fit) :
    Calls Try.prog 5 #[.int .i64 D, y.val] w fun e w' => e = .returned (.bool true) ∧ Below w.heap.size w w' := by
  obtain ⟨p, r, v⟩ := y
  clear f1 hx
  unfold Wt.val
  have HB := hid (Below.refl w.heap.size w)
  go_enter Try.func5, Try.ntmps5
  have FL1 := hid trivial
  go_wp2_with (first
    | (have hfl := FL1.out
       refine wpList_box rfl 27 (.tmp 1) rfl #[.int .i64 p, .int .i64 r, .int .i64 v] rfl ?_
       intro v1 b h z
       have WB := hid (show BoxAt v1 w.heap.size 27 #[.int .i64 p, .int .i64 r, .int .i64 v] from b)
       have HB := hid (HB.out.trans (h.mono HB.out.size))
       have hsv1 : w.heap.size + 1 ≤ v1.heap.size := by first | exact h.size | omega
       clear b h z hfl FL1)
    | fail)
  refine (bfawake_any _).mono ?_
  rintro e v2 ⟨rfl, hb⟩
  have WB := hid (WB.out.belowAll hb)
  have HB := hid (HB.out.trans (hb.mono HB.out.size))
  have hsv2 : v1.heap.size ≤ v2.heap.size := by first | exact hb.size | omega
  clear hb
  by_cases hD : D < 1
  · go_wp2
    go_ret
    exact ⟨rfl, HB.out⟩
  by_cases h8 : 8 < D
  · go_wp2
    go_ret
    exact ⟨rfl, HB.out⟩
  have FL2 := hid trivial
  have FL3 := hid trivial
  go_wp2_with (first
    | (have hfl := FL2.out
       refine wpList_new rfl 25 rfl _ Try.zeroBf ?_
       intro v3 b h z
       have BB := hid (show BoxAt v3 v2.heap.size 25 #[.int .i64 0, .bool false, .slice none 0 0, .slice none 0 0] from b)
       have WB := hid (WB.out.belowAll h)
       have HB := hid (HB.out.trans (h.mono HB.out.size))
       have hsv3 : v2.heap.size + 1 ≤ v3.heap.size := by first | exact h.size | omega
       clear b h z hfl FL2)
    | (have hfl := FL3.out
       refine wpList_store_whole rfl 25 _ _ rfl rfl (v2.heap.size) rfl [.int .i64 D, .bool false, .slice none 0 0, .slice none 0 0] rfl _ _ BB.out rfl Try.infoBf (by simp [Value.oneCell']) ?_
       intro v4 b g z
       have hsv4 : v3.heap.size ≤ v4.heap.size := by omega
       have BB := hid (show BoxAt v4 (v2.heap.size) 25 #[.int .i64 D, .bool false, .slice none 0 0, .slice none 0 0] from b)
       have WB := hid (WB.out.grown g (fun e => by have := Option.some.inj e; omega))
       have HB := hid (HB.out.trans (grown_below g (by omega) (by omega)))
       clear b g z hfl FL3
       refine Hid.out ?_)
    | fail)
  refine hid ?_
  go_wp2_with fail
  go_loopw [7] (fun t wc => ∃ (i : Nat) (x u : Sl), (i : Int) ≤ D ∧ t = .int .i64 i ∧ BoxAt wc (v2.heap.size) 25 #[.int .i64 D, .bool false, .slice x.a x.n x.c, .slice u.a u.n u.c] ∧ BoxAt wc (w.heap.size) 27 #[.int .i64 p, .int .i64 r, .int .i64 v] ∧ OI wc w.heap.size x.val (List.replicate i v) ∧ OWt wc w.heap.size u.val [] ∧ Below w.heap.size w wc) (fun t _ => D.toNat - (intOf t).toNat)
  case atStart => exact ⟨0, ⟨none, 0, 0⟩, ⟨none, 0, 0⟩, by omega, rfl, BB.out, WB.out, OI.nil _ _, OWt.nil _ _, HB.out⟩
  case round =>
    clear BB WB HB
    obtain ⟨i, x, u, hi, rfl, hbb, hwb, hoi, hou, hbel⟩ := hrel
    have BB := hid hbb
    have WB := hid hwb
    have HC := hid hoi
    have HU := hid hou
    have HB := hid hbel
    have hsr : v2.heap.size + 1 ≤ wr.heap.size := hbb.lt
    have hsw : w.heap.size ≤ wr.heap.size := hbel.size
    clear hbb hwb hoi hou hbel
    by_cases hlt : (i : Int) < D
    · have HF := hid (full_more D i v p r hlt)
      have HI := hid (show i ≤ 8 by omega)
      go_wp2_with (first
        | (refine wpList_load_box rfl 25 _ rfl (v2.heap.size) rfl _ _ BB.out _ Try.underlying25 Try.infoBf ?_)
        | (refine wpList_load_box rfl 27 _ rfl (w.heap.size) rfl _ _ WB.out _ Try.underlying27 Try.infoWt ?_)
        | fail)
      have HBs := HB.out.size
      refine (send_any D false p r v false (vs := x) (s := u) (xs := List.replicate i v) (l := []) HC.out.sees HU.out.sees (by have := HI.out; simp; omega) (by simp)).mono ?_
      rintro e v5 ⟨x1, u1, q1, rfl, hc, hu, hq, hb⟩
      have BB := hid (BB.out.belowAll hb)
      have WB := hid (WB.out.belowAll hb)
      have HC := hid (HC.out.below hb)
      have HU := hid (HU.out.below hb)
      have HB := hid (HB.out.trans (hb.mono HB.out.size))
      have hsv5 : wr.heap.size ≤ v5.heap.size := by first | exact hb.size | omega
      rw [HF.out.1]
      rw [HF.out.2.1] at hc
      rw [HF.out.2.2.1] at hu
      rw [HF.out.2.2.2] at hq
      have hxn := hc.n
      rw [List.length_replicate] at hxn
      have hqn : q1.n = 0 := hq.n
      have HC1 := hid (hc.mono HBs)
      have HU1 := hid (hu.mono HBs)
      clear hc hu hq HC HU
      obtain ⟨qa, qn, qc⟩ := q1
      obtain ⟨xa1, xn1, xc1⟩ := x1
      simp only at hxn hqn
      subst hxn hqn
      simp only [Sl.val]
      clear hb
      have FL4 := hid trivial
      have FL5 := hid trivial
      go_wp2_with (first
        | (have hfl := FL4.out
           refine wpList_new rfl 25 rfl _ Try.zeroBf ?_
           intro v6 b h z
           have CB := hid (show BoxAt v6 v5.heap.size 25 #[.int .i64 0, .bool false, .slice none 0 0, .slice none 0 0] from b)
           have BB := hid (BB.out.belowAll h)
           have WB := hid (WB.out.belowAll h)
           have HC1 := hid (HC1.out.below h)
           have HU1 := hid (HU1.out.below h)
           have HB := hid (HB.out.trans (h.mono HB.out.size))
           have hsv6 : v5.heap.size + 1 ≤ v6.heap.size := by first | exact h.size | omega
           clear b h z hfl FL4)
        | (have hfl := FL5.out
           refine wpList_store_whole rfl 25 _ _ rfl rfl (v5.heap.size) rfl [.int .i64 D, .bool false, .slice xa1 (i + 1) xc1, .slice u1.a u1.n u1.c] rfl _ _ CB.out rfl Try.infoBf (by simp [Value.oneCell']) ?_
           intro v7 b g z
           have hsv7 : v6.heap.size ≤ v7.heap.size := by omega
           have HC1 := hid (HC1.out.put g CB.out (by decide))
           have HU1 := hid (HU1.out.put g CB.out (by decide))
           have CB := hid (show BoxAt v7 (v5.heap.size) 25 #[.int .i64 D, .bool false, .slice xa1 (i + 1) xc1, .slice u1.a u1.n u1.c] from b)
           have BB := hid (BB.out.grown g (fun e => by have := Option.some.inj e; omega))
           have WB := hid (WB.out.grown g (fun e => by have := Option.some.inj e; omega))
           have HB := hid (HB.out.trans (grown_below g (by omega) (by omega)))
           clear b g z hfl FL5
           refine Hid.out ?_)
        | fail)
      refine hid ?_
      have kCB2 : v7.cell? ⟨v5.heap.size, 2, none⟩ = some (.slice xa1 (i + 1) xc1) := (BoxAt.cell CB.out 2).trans rfl
      have hi9 : i ≤ 8 := HI.out
      have hb1 : -9223372036854775808 ≤ (i : Int) + 1 := by omega
      have hb2 : (i : Int) + 1 ≤ 9223372036854775807 := by omega
      have hle : (i : Int) + 1 ≤ D := by omega
      have hmm : D.toNat - (i + 1) < D.toNat - i := by omega
      have HM := hid hmm
      clear hmm
      have hq1 : ((i : Int) + 1 != wrap64 ((i : Int) + 1)) = false := by rw [wrap64_id _ hb1 hb2]; simp
      have hq2 : ((i : Int) + 1 != IntKind.i64.wrap ((i : Int) + 1)) = false := by rw [wrapi_id _ hb1 hb2]; simp
      clear hb1 hb2
      have FL6 := hid trivial
      go_wp2_with (first
        | (refine wpList_load_box rfl 25 _ rfl (v5.heap.size) rfl _ _ CB.out _ Try.underlying25 Try.infoBf ?_)
        | (have hfl := FL6.out
           refine wpList_store_whole rfl 25 _ _ rfl rfl (v2.heap.size) rfl [.int .i64 D, .bool false, .slice xa1 (i + 1) xc1, .slice u1.a u1.n u1.c] rfl _ _ BB.out rfl Try.infoBf (by simp [Value.oneCell']) ?_
           intro v8 b g z
           have hsv8 : v7.heap.size ≤ v8.heap.size := by omega
           have HC1 := hid (HC1.out.put g BB.out (by decide))
           have HU1 := hid (HU1.out.put g BB.out (by decide))
           have BB := hid (show BoxAt v8 (v2.heap.size) 25 #[.int .i64 D, .bool false, .slice xa1 (i + 1) xc1, .slice u1.a u1.n u1.c] from b)
           have WB := hid (WB.out.grown g (fun e => by have := Option.some.inj e; omega))
           have CB := hid (CB.out.grown g (fun e => by have := Option.some.inj e; omega))
           have HB := hid (HB.out.trans (grown_below g (by omega) (by omega)))
           clear kCB2
           have kCB2 : v8.cell? ⟨v5.heap.size, 2, none⟩ = some (.slice xa1 (i + 1) xc1) := (BoxAt.cell CB.out 2).trans rfl
           clear b g z hfl FL6)
        | fail)
      go_roundw
      case rel => exact ⟨i + 1, ⟨xa1, i + 1, xc1⟩, u1, by omega, by go_num, BB.out, WB.out, HC1.out, HU1.out, HB.out⟩
      case measure => simp [intOf]; omega
    · have HF := hid (full_end D i v p r hlt)
      have HI := hid (show i ≤ 8 by omega)
      go_wp2_with (first
        | (refine wpList_load_box rfl 25 _ rfl (v2.heap.size) rfl _ _ BB.out _ Try.underlying25 Try.infoBf ?_)
        | (refine wpList_load_box rfl 27 _ rfl (w.heap.size) rfl _ _ WB.out _ Try.underlying27 Try.infoWt ?_)
        | fail)
      refine (send_any D false p r v false (vs := x) (s := u) (xs := List.replicate i v) (l := []) HC.out.sees HU.out.sees (by have := HI.out; simp; omega) (by simp)).mono ?_
      rintro e v5 ⟨x1, u1, q1, rfl, hc, hu, hq, hb⟩
      have BB := hid (BB.out.belowAll hb)
      have WB := hid (WB.out.belowAll hb)
      have HC := hid (HC.out.below hb)
      have HU := hid (HU.out.below hb)
      have HB := hid (HB.out.trans (hb.mono HB.out.size))
      have hsv5 : wr.heap.size ≤ v5.heap.size := by first | exact hb.size | omega
      rw [HF.out.1]
      rw [HF.out.2.1] at hc
      rw [HF.out.2.2] at hu
      have HC1 := hid hc
      have HU1 := hid hu
      clear hc hu hq
      clear hb
      have FL4 := hid trivial
      have FL5 := hid trivial
      go_wp2_with (first
        | (have hfl := FL4.out
           refine wpList_new rfl 25 rfl _ Try.zeroBf ?_
           intro v6 b h z
           have EB := hid (show BoxAt v6 v5.heap.size 25 #[.int .i64 0, .bool false, .slice none 0 0, .slice none 0 0] from b)
           have BB := hid (BB.out.belowAll h)
           have WB := hid (WB.out.belowAll h)
           have HC := hid (HC.out.below h)
           have HU := hid (HU.out.below h)
           have HC1 := hid (HC1.out.below h)
           have HU1 := hid (HU1.out.below h)
           have HB := hid (HB.out.trans (h.mono HB.out.size))
           have hsv6 : v5.heap.size + 1 ≤ v6.heap.size := by first | exact h.size | omega
           clear b h z hfl FL4)
        | (have hfl := FL5.out
           refine wpList_store_whole rfl 25 _ _ rfl rfl (v5.heap.size) rfl [.int .i64 D, .bool false, .slice x1.a x1.n x1.c, .slice u1.a u1.n u1.c] rfl _ _ EB.out rfl Try.infoBf (by simp [Value.oneCell']) ?_
           intro v7 b g z
           have hsv7 : v6.heap.size ≤ v7.heap.size := by omega
           have HC := hid (HC.out.put g EB.out (by decide))
           have HU := hid (HU.out.put g EB.out (by decide))
           have HC1 := hid (HC1.out.put g EB.out (by decide))
           have HU1 := hid (HU1.out.put g EB.out (by decide))
           have EB := hid (show BoxAt v7 (v5.heap.size) 25 #[.int .i64 D, .bool false, .slice x1.a x1.n x1.c, .slice u1.a u1.n u1.c] from b)
           have BB := hid (BB.out.grown g (fun e => by have := Option.some.inj e; omega))
           have WB := hid (WB.out.grown g (fun e => by have := Option.some.inj e; omega))
           have HB := hid (HB.out.trans (grown_below g (by omega) (by omega)))
           clear b g z hfl FL5)
        | (refine wpList_load_box rfl 25 _ rfl (v2.heap.size) rfl _ _ BB.out _ Try.underlying25 Try.infoBf ?_)
        | (refine wpList_load_box rfl 25 _ rfl (v5.heap.size) rfl _ _ EB.out _ Try.underlying25 Try.infoBf ?_)
        | fail)
      refine (rbsame_any D false HC.out.sees HC1.out.sees HU.out.sees HU1.out.sees).mono ?_
      rintro e v8 ⟨rfl, hb⟩
      have BB := hid (BB.out.belowAll hb)
      have WB := hid (WB.out.belowAll hb)
      have EB := hid (EB.out.belowAll hb)
      have HC := hid (HC.out.below hb)
      have HU := hid (HU.out.below hb)
      have HC1 := hid (HC1.out.below hb)
      have HU1 := hid (HU1.out.below hb)
      have HB := hid (HB.out.trans (hb.mono HB.out.size))
      have hsv8 : v7.heap.size ≤ v8.heap.size := by first | exact hb.size | omega
      clear hb
      clear HC HU HC1 HU1
      go_wp2_with (first
        | (refine wpList_load_box rfl 27 _ rfl (w.heap.size) rfl _ _ WB.out _ Try.underlying27 Try.infoWt ?_)
        | fail)
      refine (take_any D false p r v false (vs := ⟨none, 0, 0⟩) (s := ⟨none, 0, 0⟩) (xs := []) (l := []) (Sees.nil _ _) (SeesWt.nil _) (by simp) (by simp)).mono ?_
      rintro e v9 ⟨x2, u2, q2, rfl, hc, hu, hq, hb⟩
      have BB := hid (BB.out.belowAll hb)
      have WB := hid (WB.out.belowAll hb)
      have EB := hid (EB.out.belowAll hb)
      have HB := hid (HB.out.trans (hb.mono HB.out.size))
      have hsv9 : v8.heap.size ≤ v9.heap.size := by first | exact hb.size | omega
      rw [show takeC [] false = 2 from rfl]
      clear hc hu hq
      clear hb
      have FL6 := hid trivial
      have FL7 := hid trivial
      go_wp2_with (first
        | (have hfl := FL6.out
           refine wpList_new rfl 25 rfl _ Try.zeroBf ?_
           intro v10 b h z
           have GB := hid (show BoxAt v10 v9.heap.size 25 #[.int .i64 0, .bool false, .slice none 0 0, .slice none 0 0] from b)
           have BB := hid (BB.out.belowAll h)
           have WB := hid (WB.out.belowAll h)
           have EB := hid (EB.out.belowAll h)
           have HB := hid (HB.out.trans (h.mono HB.out.size))
           have hsv10 : v9.heap.size + 1 ≤ v10.heap.size := by first | exact h.size | omega
           clear b h z hfl FL6)
        | (have hfl := FL7.out
           refine wpList_store_whole rfl 25 _ _ rfl rfl (v9.heap.size) rfl [.int .i64 D, .bool false, .slice x2.a x2.n x2.c, .slice u2.a u2.n u2.c] rfl _ _ GB.out rfl Try.infoBf (by simp [Value.oneCell']) ?_
           intro v11 b g z
           have hsv11 : v10.heap.size ≤ v11.heap.size := by omega
           have GB := hid (show BoxAt v11 (v9.heap.size) 25 #[.int .i64 D, .bool false, .slice x2.a x2.n x2.c, .slice u2.a u2.n u2.c] from b)
           have BB := hid (BB.out.grown g (fun e => by have := Option.some.inj e; omega))
           have WB := hid (WB.out.grown g (fun e => by have := Option.some.inj e; omega))
           have EB := hid (EB.out.grown g (fun e => by have := Option.some.inj e; omega))
           have HB := hid (HB.out.trans (grown_below g (by omega) (by omega)))
           clear b g z hfl FL7
           refine Hid.out ?_)
        | fail)
      refine hid ?_
      go_wp2
      go_ret
      exact ⟨rfl, HB.out⟩

end Go.Proofs.Ytehpmjaldghdiaa
