/-
  SemaFull: the walk.
-/
import Derived.Test.YtjdaneppjgljpaaSeAwake
import Derived.Test.YtjdaneppjgljpaaSeOpen
import Derived.BigQuiet
namespace Go.Proofs.Ytjdaneppjgljpaa
open Go.RowKit
set_option linter.unusedVariables false


theorem full_take (c : Int) (y : Wt) (h : 0 < c) (h9 : c ≤ 8) : getN c = c - 1 ∧ getC c false = 0 ∧ getL c false [] y false = [] := by
  refine ⟨?_, if_pos h, if_pos h⟩
  rw [getN, if_pos h]
  exact wrap64_id _ (by omega) (by omega)

theorem full_give (c D : Int) (h : c < D) (h0 : 0 ≤ c) (h9 : D ≤ 8) : putN c D [] = c + 1 ∧ putC c D [] = 0 := by
  have hn : ¬ 0 < ([] : List Wt).length := by simp
  refine ⟨?_, (if_neg hn).trans (if_pos h)⟩
  rw [putN, if_neg hn, if_pos h]
  exact wrap64_id _ (by omega) (by omega)

theorem full_no (D : Int) : putN D D [] = D ∧ putC D D [] = 1 := by
  have hn : ¬ 0 < ([] : List Wt).length := by simp
  have hd : ¬ D < D := by omega
  exact ⟨(if_neg hn).trans (if_neg hd), (if_neg hn).trans (if_neg hd)⟩


set_option maxRecDepth 100000 in
set_option maxHeartbeats 3200000 in
theorem walk_SemaFull (w : World) (D : Int) (hx : (Lit.int .i64 D).wf = true) (y : Wt) (f1 : y.fit) :
    Calls Try.prog 5 #[.int .i64 D, y.val] w fun e w' => e = .returned (.bool true) ∧ Below w.heap.size w w' := by
  obtain ⟨p, r, v⟩ := y
  clear f1 hx
  unfold Wt.val
  have edd : (D == D) = true := by simp
  have HB := hid (Below.refl w.heap.size w)
  go_enter Try.func5, Try.ntmps5
  have FL1 := hid trivial
  go_wp2_with (first
    | (have hfl := FL1.out
       refine wpList_box rfl 26 (.tmp 1) rfl #[.int .i64 p, .int .i64 r, .int .i64 v] rfl ?_
       intro v1 b h z
       have WB := hid (show BoxAt v1 w.heap.size 26 #[.int .i64 p, .int .i64 r, .int .i64 v] from b)
       have HB := hid (HB.out.trans (h.mono HB.out.size))
       have hsv1 : w.heap.size + 1 ≤ v1.heap.size := by first | exact h.size | omega
       clear b h z hfl FL1)
    | fail)
  refine (seawake_any _).mono ?_
  rintro e v2 ⟨rfl, hb⟩
  have WB := hid (WB.out.belowAll hb)
  have HB := hid (HB.out.trans (hb.mono HB.out.size))
  have hsv2 : v1.heap.size ≤ v2.heap.size := by first | exact hb.size | omega
  clear hb
  by_cases hgd0 : D < 1
  · go_wp2
    go_ret
    exact ⟨rfl, HB.out⟩
  by_cases hgd1 : 8 < D
  · go_wp2
    go_ret
    exact ⟨rfl, HB.out⟩
  have FL2 := hid trivial
  have FL3 := hid trivial
  go_wp2_with (first
    | (have hfl := FL2.out
       refine wpList_new rfl 24 rfl _ Try.zeroSe ?_
       intro v3 b h z
       have BB := hid (show BoxAt v3 v2.heap.size 24 #[.int .i64 0, .int .i64 0, .bool false, .slice none 0 0] from b)
       have WB := hid (WB.out.belowAll h)
       have HB := hid (HB.out.trans (h.mono HB.out.size))
       have hsv3 : v2.heap.size + 1 ≤ v3.heap.size := by first | exact h.size | omega
       clear b h z hfl FL2)
    | (have hfl := FL3.out
       refine wpList_store_whole rfl 24 _ _ rfl rfl (v2.heap.size) rfl [.int .i64 D, .int .i64 D, .bool false, .slice none 0 0] rfl _ _ BB.out rfl Try.infoSe (by simp [Value.oneCell']) ?_
       intro v4 b g z
       have hsv4 : v3.heap.size ≤ v4.heap.size := by omega
       have BB := hid (show BoxAt v4 (v2.heap.size) 24 #[.int .i64 D, .int .i64 D, .bool false, .slice none 0 0] from b)
       have WB := hid (WB.out.grown g (fun e => by have := Option.some.inj e; omega))
       have HB := hid (HB.out.trans (grown_below g (by omega) (by omega)))
       clear b g z hfl FL3)
    | (refine wpList_load_box rfl 24 _ rfl (v2.heap.size) rfl _ _ BB.out _ Try.underlying24 Try.infoSe ?_)
    | fail)
  refine (put_any D D false (s := ⟨none, 0, 0⟩) (l := []) (SeesWt.nil _) (by simp)).mono ?_
  rintro e v5 ⟨x0, q0, rfl, hu, hq, hb⟩
  have WB := hid (WB.out.belowAll hb)
  have BB := hid (BB.out.belowAll hb)
  have HB := hid (HB.out.trans (hb.mono HB.out.size))
  have hsv5 : v4.heap.size ≤ v5.heap.size := by first | exact hb.size | omega
  rw [(full_no D).1, (full_no D).2]
  clear hu hq
  clear hb
  have FL4 := hid trivial
  have FL5 := hid trivial
  go_wp2_with (first
    | (have hfl := FL4.out
       refine wpList_new rfl 24 rfl _ Try.zeroSe ?_
       intro v6 b h z
       have NB := hid (show BoxAt v6 v5.heap.size 24 #[.int .i64 0, .int .i64 0, .bool false, .slice none 0 0] from b)
       have WB := hid (WB.out.belowAll h)
       have BB := hid (BB.out.belowAll h)
       have HB := hid (HB.out.trans (h.mono HB.out.size))
       have hsv6 : v5.heap.size + 1 ≤ v6.heap.size := by first | exact h.size | omega
       clear b h z hfl FL4)
    | (have hfl := FL5.out
       refine wpList_store_whole rfl 24 _ _ rfl rfl (v5.heap.size) rfl [.int .i64 D, .int .i64 D, .bool false, .slice x0.a x0.n x0.c] rfl _ _ NB.out rfl Try.infoSe (by simp [Value.oneCell']) ?_
       intro v7 b g z
       have hsv7 : v6.heap.size ≤ v7.heap.size := by omega
       have NB := hid (show BoxAt v7 (v5.heap.size) 24 #[.int .i64 D, .int .i64 D, .bool false, .slice x0.a x0.n x0.c] from b)
       have WB := hid (WB.out.grown g (fun e => by have := Option.some.inj e; omega))
       have BB := hid (BB.out.grown g (fun e => by have := Option.some.inj e; omega))
       have HB := hid (HB.out.trans (grown_below g (by omega) (by omega)))
       clear b g z hfl FL5
       refine Hid.out ?_)
    | fail)
  refine hid ?_
  clear NB
  go_wp2_with fail
  go_loopw [10] (fun t wc => ∃ (i : Nat) (ct : Int) (u : Sl), (i : Int) ≤ D ∧ ct = D - i ∧ t = .int .i64 i ∧ BoxAt wc (v2.heap.size) 24 #[.int .i64 ct, .int .i64 D, .bool false, .slice u.a u.n u.c] ∧ BoxAt wc (w.heap.size) 26 #[.int .i64 p, .int .i64 r, .int .i64 v] ∧ OWt wc w.heap.size u.val [] ∧ Below w.heap.size w wc) (fun t _ => D.toNat - (intOf t).toNat)
  case atStart => exact ⟨0, D, ⟨none, 0, 0⟩, by omega, by simp, rfl, BB.out, WB.out, OWt.nil _ _, HB.out⟩
  case round =>
    clear BB WB HB
    obtain ⟨i, ct, u, hi, hct, rfl, hbb, hwb, hou, hbel⟩ := hrel
    have BB := hid hbb
    have WB := hid hwb
    have HU := hid hou
    have HB := hid hbel
    have hsr : v2.heap.size + 1 ≤ wr.heap.size := hbb.lt
    have hsw : w.heap.size ≤ wr.heap.size := hbel.size
    clear hbb hwb hou hbel
    by_cases hlt : (i : Int) < D
    · have HF := hid (full_take ct ⟨p, r, v⟩ (by omega) (by omega))
      have HI := hid (show i ≤ 8 by omega)
      have HCT := hid hct
      clear hct
      have HM := hid (show D.toNat - (i + 1) < D.toNat - i by omega)
      go_wp2_with (first
        | (refine wpList_load_box rfl 24 _ rfl (v2.heap.size) rfl _ _ BB.out _ Try.underlying24 Try.infoSe ?_)
        | (refine wpList_load_box rfl 26 _ rfl (w.heap.size) rfl _ _ WB.out _ Try.underlying26 Try.infoWt ?_)
        | fail)
      have HBs := HB.out.size
      refine (get_any ct D false p r v false (s := u) (l := []) HU.out.sees (by simp)).mono ?_
      rintro e v8 ⟨x1, rfl, hu, hb⟩
      have BB := hid (BB.out.belowAll hb)
      have WB := hid (WB.out.belowAll hb)
      have HU := hid (HU.out.below hb)
      have HB := hid (HB.out.trans (hb.mono HB.out.size))
      have hsv8 : wr.heap.size ≤ v8.heap.size := by first | exact hb.size | omega
      rw [HF.out.1, HF.out.2.1]
      rw [HF.out.2.2] at hu
      have HU1 := hid (hu.mono HBs)
      clear hu HU
      clear hb
      have FL6 := hid trivial
      have FL7 := hid trivial
      have FL8 := hid trivial
      go_wp2_with (first
        | (have hfl := FL6.out
           refine wpList_new rfl 24 rfl _ Try.zeroSe ?_
           intro v9 b h z
           have CB := hid (show BoxAt v9 v8.heap.size 24 #[.int .i64 0, .int .i64 0, .bool false, .slice none 0 0] from b)
           have BB := hid (BB.out.belowAll h)
           have WB := hid (WB.out.belowAll h)
           have HU1 := hid (HU1.out.below h)
           have HB := hid (HB.out.trans (h.mono HB.out.size))
           have hsv9 : v8.heap.size + 1 ≤ v9.heap.size := by first | exact h.size | omega
           clear b h z hfl FL6)
        | (have hfl := FL7.out
           refine wpList_store_whole rfl 24 _ _ rfl rfl (v8.heap.size) rfl [.int .i64 (ct - 1), .int .i64 D, .bool false, .slice x1.a x1.n x1.c] rfl _ _ CB.out rfl Try.infoSe (by simp [Value.oneCell']) ?_
           intro v10 b g z
           have hsv10 : v9.heap.size ≤ v10.heap.size := by omega
           have HU1 := hid (HU1.out.put g CB.out (by decide))
           have CB := hid (show BoxAt v10 (v8.heap.size) 24 #[.int .i64 (ct - 1), .int .i64 D, .bool false, .slice x1.a x1.n x1.c] from b)
           have BB := hid (BB.out.grown g (fun e => by have := Option.some.inj e; omega))
           have WB := hid (WB.out.grown g (fun e => by have := Option.some.inj e; omega))
           have HB := hid (HB.out.trans (grown_below g (by omega) (by omega)))
           clear b g z hfl FL7)
        | (refine wpList_load_box rfl 24 _ rfl (v8.heap.size) rfl _ _ CB.out _ Try.underlying24 Try.infoSe ?_)
        | (have hfl := FL8.out
           refine wpList_store_whole rfl 24 _ _ rfl rfl (v2.heap.size) rfl [.int .i64 (ct - 1), .int .i64 D, .bool false, .slice x1.a x1.n x1.c] rfl _ _ BB.out rfl Try.infoSe (by simp [Value.oneCell']) ?_
           intro v11 b g z
           have hsv11 : v10.heap.size ≤ v11.heap.size := by omega
           have HU1 := hid (HU1.out.put g BB.out (by decide))
           have BB := hid (show BoxAt v11 (v2.heap.size) 24 #[.int .i64 (ct - 1), .int .i64 D, .bool false, .slice x1.a x1.n x1.c] from b)
           have WB := hid (WB.out.grown g (fun e => by have := Option.some.inj e; omega))
           have CB := hid (CB.out.grown g (fun e => by have := Option.some.inj e; omega))
           have HB := hid (HB.out.trans (grown_below g (by omega) (by omega)))
           clear b g z hfl FL8)
        | fail)
      have hi9 : i ≤ 8 := HI.out
      go_roundw
      case rel => exact ⟨i + 1, ct - 1, x1, by omega, by have := HCT.out; omega, by go_num, BB.out, WB.out, HU1.out, HB.out⟩
      case measure => simp [intOf]; omega
    · have hc0 : ct = 0 := by omega
      clear hct
      subst hc0
      go_wp2_with (first
        | (refine wpList_load_box rfl 24 _ rfl (v2.heap.size) rfl _ _ BB.out _ Try.underlying24 Try.infoSe ?_)
        | (refine wpList_load_box rfl 26 _ rfl (w.heap.size) rfl _ _ WB.out _ Try.underlying26 Try.infoWt ?_)
        | fail)
      refine (get_any 0 D false p r v false (s := u) (l := []) HU.out.sees (by simp)).mono ?_
      rintro e v8 ⟨x2, rfl, hu, hb⟩
      have BB := hid (BB.out.belowAll hb)
      have WB := hid (WB.out.belowAll hb)
      have HU := hid (HU.out.below hb)
      have HB := hid (HB.out.trans (hb.mono HB.out.size))
      have hsv8 : wr.heap.size ≤ v8.heap.size := by first | exact hb.size | omega
      rw [show getN 0 = 0 from rfl]
      rw [show getC 0 false = 2 from rfl]
      rw [show getL 0 false [] ⟨p, r, v⟩ false = [] from rfl] at hu
      have HU1 := hid hu
      clear hu
      clear hb
      have FL6 := hid trivial
      have FL7 := hid trivial
      go_wp2_with (first
        | (have hfl := FL6.out
           refine wpList_new rfl 24 rfl _ Try.zeroSe ?_
           intro v9 b h z
           have EB := hid (show BoxAt v9 v8.heap.size 24 #[.int .i64 0, .int .i64 0, .bool false, .slice none 0 0] from b)
           have BB := hid (BB.out.belowAll h)
           have WB := hid (WB.out.belowAll h)
           have HU := hid (HU.out.below h)
           have HU1 := hid (HU1.out.below h)
           have HB := hid (HB.out.trans (h.mono HB.out.size))
           have hsv9 : v8.heap.size + 1 ≤ v9.heap.size := by first | exact h.size | omega
           clear b h z hfl FL6)
        | (have hfl := FL7.out
           refine wpList_store_whole rfl 24 _ _ rfl rfl (v8.heap.size) rfl [.int .i64 0, .int .i64 D, .bool false, .slice x2.a x2.n x2.c] rfl _ _ EB.out rfl Try.infoSe (by simp [Value.oneCell']) ?_
           intro v10 b g z
           have hsv10 : v9.heap.size ≤ v10.heap.size := by omega
           have HU := hid (HU.out.put g EB.out (by decide))
           have HU1 := hid (HU1.out.put g EB.out (by decide))
           have EB := hid (show BoxAt v10 (v8.heap.size) 24 #[.int .i64 0, .int .i64 D, .bool false, .slice x2.a x2.n x2.c] from b)
           have BB := hid (BB.out.grown g (fun e => by have := Option.some.inj e; omega))
           have WB := hid (WB.out.grown g (fun e => by have := Option.some.inj e; omega))
           have HB := hid (HB.out.trans (grown_below g (by omega) (by omega)))
           clear b g z hfl FL7)
        | (refine wpList_load_box rfl 24 _ rfl (v2.heap.size) rfl _ _ BB.out _ Try.underlying24 Try.infoSe ?_)
        | (refine wpList_load_box rfl 24 _ rfl (v8.heap.size) rfl _ _ EB.out _ Try.underlying24 Try.infoSe ?_)
        | fail)
      refine (rsame_any 0 D false HU.out.sees HU1.out.sees).mono ?_
      rintro e v11 ⟨rfl, hb⟩
      have BB := hid (BB.out.belowAll hb)
      have WB := hid (WB.out.belowAll hb)
      have EB := hid (EB.out.belowAll hb)
      have HU := hid (HU.out.below hb)
      have HU1 := hid (HU1.out.below hb)
      have HB := hid (HB.out.trans (hb.mono HB.out.size))
      have hsv11 : v10.heap.size ≤ v11.heap.size := by first | exact hb.size | omega
      clear hb
      clear HU1
      clear EB WB
      go_wp2_with fail
      go_loopw [16] (fun t wc => ∃ (j : Nat) (u : Sl), (j : Int) ≤ D ∧ t = .int .i64 j ∧ BoxAt wc (v2.heap.size) 24 #[.int .i64 j, .int .i64 D, .bool false, .slice u.a u.n u.c] ∧ OWt wc w.heap.size u.val [] ∧ Below w.heap.size w wc) (fun t _ => D.toNat - (intOf t).toNat)
      case atStart => exact ⟨0, u, by omega, rfl, BB.out, HU.out, HB.out⟩
      case round =>
        clear BB HB HU hi hlt
        obtain ⟨j, uu, hj, rfl, hbb, hou, hbel⟩ := hrel
        have BB := hid hbb
        have HU := hid hou
        have HB := hid hbel
        have hsr2 : v2.heap.size + 1 ≤ wr.heap.size := hbb.lt
        have hsw2 : w.heap.size ≤ wr.heap.size := hbel.size
        clear hbb hou hbel
        by_cases hlt : (j : Int) < D
        · have HF := hid (full_give j D hlt (by omega) (by omega))
          have HI := hid (show j ≤ 8 by omega)
          have HM := hid (show D.toNat - (j + 1) < D.toNat - j by omega)
          go_wp2_with (first
            | (refine wpList_load_box rfl 24 _ rfl (v2.heap.size) rfl _ _ BB.out _ Try.underlying24 Try.infoSe ?_)
            | fail)
          have HBs := HB.out.size
          refine (put_any j D false (s := uu) (l := []) HU.out.sees (by simp)).mono ?_
          rintro e v12 ⟨x3, q3, rfl, hu, hq, hb⟩
          have BB := hid (BB.out.belowAll hb)
          have HU := hid (HU.out.below hb)
          have HB := hid (HB.out.trans (hb.mono HB.out.size))
          have hsv12 : wr.heap.size ≤ v12.heap.size := by first | exact hb.size | omega
          rw [HF.out.1, HF.out.2]
          have HU1 := hid (hu.mono HBs)
          clear hu hq HU
          clear hb
          have FL8 := hid trivial
          have FL9 := hid trivial
          have FL10 := hid trivial
          go_wp2_with (first
            | (have hfl := FL8.out
               refine wpList_new rfl 24 rfl _ Try.zeroSe ?_
               intro v13 b h z
               have FB := hid (show BoxAt v13 v12.heap.size 24 #[.int .i64 0, .int .i64 0, .bool false, .slice none 0 0] from b)
               have BB := hid (BB.out.belowAll h)
               have HU1 := hid (HU1.out.below h)
               have HB := hid (HB.out.trans (h.mono HB.out.size))
               have hsv13 : v12.heap.size + 1 ≤ v13.heap.size := by first | exact h.size | omega
               clear b h z hfl FL8)
            | (have hfl := FL9.out
               refine wpList_store_whole rfl 24 _ _ rfl rfl (v12.heap.size) rfl [.int .i64 ((j : Int) + 1), .int .i64 D, .bool false, .slice x3.a x3.n x3.c] rfl _ _ FB.out rfl Try.infoSe (by simp [Value.oneCell']) ?_
               intro v14 b g z
               have hsv14 : v13.heap.size ≤ v14.heap.size := by omega
               have HU1 := hid (HU1.out.put g FB.out (by decide))
               have FB := hid (show BoxAt v14 (v12.heap.size) 24 #[.int .i64 ((j : Int) + 1), .int .i64 D, .bool false, .slice x3.a x3.n x3.c] from b)
               have BB := hid (BB.out.grown g (fun e => by have := Option.some.inj e; omega))
               have HB := hid (HB.out.trans (grown_below g (by omega) (by omega)))
               clear b g z hfl FL9)
            | (refine wpList_load_box rfl 24 _ rfl (v12.heap.size) rfl _ _ FB.out _ Try.underlying24 Try.infoSe ?_)
            | (have hfl := FL10.out
               refine wpList_store_whole rfl 24 _ _ rfl rfl (v2.heap.size) rfl [.int .i64 ((j : Int) + 1), .int .i64 D, .bool false, .slice x3.a x3.n x3.c] rfl _ _ BB.out rfl Try.infoSe (by simp [Value.oneCell']) ?_
               intro v15 b g z
               have hsv15 : v14.heap.size ≤ v15.heap.size := by omega
               have HU1 := hid (HU1.out.put g BB.out (by decide))
               have BB := hid (show BoxAt v15 (v2.heap.size) 24 #[.int .i64 ((j : Int) + 1), .int .i64 D, .bool false, .slice x3.a x3.n x3.c] from b)
               have FB := hid (FB.out.grown g (fun e => by have := Option.some.inj e; omega))
               have HB := hid (HB.out.trans (grown_below g (by omega) (by omega)))
               clear b g z hfl FL10)
            | fail)
          have hi9 : j ≤ 8 := HI.out
          go_roundw
          case rel => exact ⟨j + 1, x3, by omega, by go_num, BB.out, HU1.out, HB.out⟩
          case measure => simp [intOf]; omega
        · have hjd : (j : Int) = D := by omega
          have hjj : ((j : Int) == D) = true := by rw [hjd]; simp
          clear hjd
          have kBB0 : wr.cell? ⟨v2.heap.size, 0, none⟩ = some (.int .i64 j) := (BoxAt.cell BB.out 0).trans rfl
          go_wp2
          go_ret
          exact ⟨rfl, HB.out⟩

end Go.Proofs.Ytjdaneppjgljpaa
