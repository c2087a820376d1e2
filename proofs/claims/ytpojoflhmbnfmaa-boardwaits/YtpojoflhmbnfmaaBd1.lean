/-
  What board's own, Write, Clear and Read return, whatever board they are given.
-/
import Derived.Test.YtpojoflhmbnfmaaBdReg
import Derived.Test.YtpojoflhmbnfmaaBLib
namespace Go.Proofs.Ytpojoflhmbnfmaa
open Go.RowKit
set_option linter.unusedVariables false


set_option maxRecDepth 100000 in
set_option maxHeartbeats 1600000 in
theorem bown_any (is : Bool) (v : Int) {s : Sl} {l : List Wt} {w : World} (hs : SeesWt w s.val l) (hl : l.length ≤ 800000) :
    Calls Try.prog 20 #[BdV.val ⟨is, v, s⟩] w fun e w' => ∃ u : Sl, e = .returned (BdV.val ⟨is, v, u⟩) ∧ OWt w' w.heap.size u.val l ∧ Below w.heap.size w w' := by
  have HV := hid hs
  obtain ⟨a, c, hsv, hc1, hc2, -⟩ := hs.form
  obtain ⟨sa, sn, sc⟩ := s
  simp only [Sl.val, Value.slice.injEq] at hsv
  obtain ⟨rfl, rfl, rfl⟩ := hsv
  unfold maxLen at hc2
  simp only [Sl.val] at HV
  clear hs
  unfold BdV.val
  simp only
  have HB := hid (Below.refl w.heap.size w)
  go_enter Try.func20, Try.ntmps20
  have FL1 := hid trivial
  have FL2 := hid trivial
  go_wp2_with (first
    | (have hfl := FL1.out
       refine wpList_box rfl 24 (.tmp 0) rfl #[.bool is, .int .i64 v, .slice sa l.length sc] rfl ?_
       intro v1 b h z
       have PB := hid (show BoxAt v1 w.heap.size 24 #[.bool is, .int .i64 v, .slice sa l.length sc] from b)
       have HB := hid (HB.out.trans (h.mono HB.out.size))
       have hsv1 : w.heap.size + 1 ≤ v1.heap.size := by first | exact h.size | omega
       clear b h z hfl FL1)
    | (have hfl := FL2.out
       refine wpList_new rfl 24 rfl _ Try.zeroBd ?_
       intro v2 b h z
       have RB := hid (show BoxAt v2 v1.heap.size 24 #[.bool false, .int .i64 0, .slice none 0 0] from b)
       have PB := hid (PB.out.belowAll h)
       have HB := hid (HB.out.trans (h.mono HB.out.size))
       have hsv2 : v1.heap.size + 1 ≤ v2.heap.size := by first | exact h.size | omega
       clear b h z hfl FL2
       refine Hid.out ?_)
    | fail)
  refine hid ?_
  have kPB2 : v2.cell? ⟨w.heap.size, 2, none⟩ = some (.slice sa l.length sc) := (BoxAt.cell PB.out 2).trans rfl
  have FL3 := hid trivial
  have FL4 := hid trivial
  go_wp2_with (first
    | (have hfl := FL3.out
       at_make
       refine wpList_make_Wt _ rfl _ _ rfl (w.heap.size) l.length rfl rfl (by omega) (by omega) ?_
       intro v3 ho g
       have hsv3 : v2.heap.size + 1 ≤ v3.heap.size := (OWt.lt ho _ rfl).2
       have HM := hid ho
       have PB := hid (PB.out.grown g (by simp))
       have RB := hid (RB.out.grown g (by simp))
       have HB := hid (HB.out.trans ((Below.refl _ _).grown g (Nat.le_trans HB.out.size (Nat.le_refl _)) (by simp)))
       clear kPB2
       have kPB2 : v3.cell? ⟨w.heap.size, 2, none⟩ = some (.slice sa l.length sc) := (BoxAt.cell PB.out 2).trans rfl
       clear ho g hfl FL3)
    | (have hfl := FL4.out
       refine wpList_copy_Wt rfl (.tmp 8) (.tmp 10) rfl (w.heap.size) (v2.heap.size) l.length l.length _ (by simp) rfl HM.out _ l rfl (HV.out.below HB.out) rfl ?_
       intro v4 ho g
       have hsv4 : v3.heap.size ≤ v4.heap.size := g.size
       have HM := hid ho
       have PB := hid (PB.out.grown g (fun e => by have := Option.some.inj e; omega))
       have RB := hid (RB.out.grown g (fun e => by have := Option.some.inj e; omega))
       have HB := hid (HB.out.trans (grown_below g (by omega) (by omega)))
       clear kPB2
       have kPB2 : v4.cell? ⟨w.heap.size, 2, none⟩ = some (.slice sa l.length sc) := (BoxAt.cell PB.out 2).trans rfl
       clear ho g hfl FL4
       refine Hid.out ?_)
    | fail)
  refine hid ?_
  have FL5 := hid trivial
  have FL6 := hid trivial
  go_wp2_with (first
    | (have hfl := FL5.out
       refine wpList_store_box rfl 22 _ _ rfl rfl (w.heap.size) 2 (.slice (some ⟨v2.heap.size, 0, none⟩) l.length l.length) rfl rfl rfl rfl (by kernel_rfl) _ _ PB.out (by simp) ?_
       intro v5 b g z
       have hsv5 : v4.heap.size ≤ v5.heap.size := by omega
       have HM := hid (HM.out.put g PB.out (by decide))
       have PB := hid (show BoxAt v5 (w.heap.size) 24 #[.bool is, .int .i64 v, .slice (some ⟨v2.heap.size, 0, none⟩) l.length l.length] from by simpa using b)
       have RB := hid (RB.out.grown g (fun e => by have := Option.some.inj e; omega))
       have HB := hid (HB.out.trans (grown_below g (by omega) (by omega)))
       clear kPB2
       have kPB2 : v5.cell? ⟨w.heap.size, 2, none⟩ = some (.slice (some ⟨v2.heap.size, 0, none⟩) l.length l.length) := (BoxAt.cell PB.out 2).trans rfl
       clear b g z hfl FL5)
    | (refine wpList_load_box rfl 24 _ rfl (w.heap.size) rfl _ _ PB.out _ Try.underlying24 Try.infoBd ?_)
    | (have hfl := FL6.out
       refine wpList_store_whole rfl 24 _ _ rfl rfl (v1.heap.size) rfl [.bool is, .int .i64 v, .slice (some ⟨v2.heap.size, 0, none⟩) l.length l.length] rfl _ _ RB.out rfl Try.infoBd (by simp [Value.oneCell']) ?_
       intro v6 b g z
       have hsv6 : v5.heap.size ≤ v6.heap.size := by omega
       have HM := hid (HM.out.put g RB.out (by decide))
       have RB := hid (show BoxAt v6 (v1.heap.size) 24 #[.bool is, .int .i64 v, .slice (some ⟨v2.heap.size, 0, none⟩) l.length l.length] from b)
       have PB := hid (PB.out.grown g (fun e => by have := Option.some.inj e; omega))
       have HB := hid (HB.out.trans (grown_below g (by omega) (by omega)))
       clear kPB2
       have kPB2 : v6.cell? ⟨w.heap.size, 2, none⟩ = some (.slice (some ⟨v2.heap.size, 0, none⟩) l.length l.length) := (BoxAt.cell PB.out 2).trans rfl
       clear b g z hfl FL6)
    | fail)
  refine bodyPost_ret (results_cell_row rfl _ _ (v1.heap.size) 24 _ (0, 0) _ rfl RB.out Try.underlying24 rfl Try.infoBd) rfl ?_
  exact ⟨⟨some ⟨v2.heap.size, 0, none⟩, l.length, l.length⟩, rfl, HM.out, HB.out⟩

set_option maxRecDepth 100000 in
set_option maxHeartbeats 1600000 in
theorem bwrite_any (is : Bool) (v x : Int) {s : Sl} {l : List Wt} {w : World} (hs : SeesWt w s.val l) (hl : l.length ≤ 800000) :
    Calls Try.prog 9 #[BdV.val ⟨is, v, s⟩, .int .i64 x] w fun e w' => ∃ u, e = .returned (.tuple #[BdV.val ⟨true, x, ⟨none, 0, 0⟩⟩, u]) ∧ OWk w' w.heap.size u (allP l 0 x) ∧ Below w.heap.size w w' := by
  have HV := hid hs
  obtain ⟨a, c, hsv, hc1, hc2, -⟩ := hs.form
  obtain ⟨sa, sn, sc⟩ := s
  simp only [Sl.val, Value.slice.injEq] at hsv
  obtain ⟨rfl, rfl, rfl⟩ := hsv
  unfold maxLen at hc2
  simp only [Sl.val] at HV
  clear hs
  unfold BdV.val
  simp only
  have HB := hid (Below.refl w.heap.size w)
  go_enter Try.func9, Try.ntmps9
  have FL1 := hid trivial
  have FL2 := hid trivial
  go_wp2_with (first
    | (have hfl := FL1.out
       refine wpList_box rfl 24 (.tmp 0) rfl #[.bool is, .int .i64 v, .slice sa l.length sc] rfl ?_
       intro v1 b h z
       have PB := hid (show BoxAt v1 w.heap.size 24 #[.bool is, .int .i64 v, .slice sa l.length sc] from b)
       have HB := hid (HB.out.trans (h.mono HB.out.size))
       have hsv1 : w.heap.size + 1 ≤ v1.heap.size := by first | exact h.size | omega
       clear b h z hfl FL1)
    | (have hfl := FL2.out
       refine wpList_new rfl 24 rfl _ Try.zeroBd ?_
       intro v2 b h z
       have RB := hid (show BoxAt v2 v1.heap.size 24 #[.bool false, .int .i64 0, .slice none 0 0] from b)
       have PB := hid (PB.out.belowAll h)
       have HB := hid (HB.out.trans (h.mono HB.out.size))
       have hsv2 : v1.heap.size + 1 ≤ v2.heap.size := by first | exact h.size | omega
       clear b h z hfl FL2
       refine Hid.out ?_)
    | fail)
  refine hid ?_
  have kPB2 : v2.cell? ⟨w.heap.size, 2, none⟩ = some (.slice sa l.length sc) := (BoxAt.cell PB.out 2).trans rfl
  go_wp2_with fail
  have HBs := HB.out.size
  refine (all_any 0 x (HV.out.below HB.out) hl).mono ?_
  rintro e v3 ⟨u, rfl, hu, hb⟩
  have PB := hid (PB.out.belowAll hb)
  have RB := hid (RB.out.belowAll hb)
  have HB := hid (HB.out.trans (hb.mono HB.out.size))
  have hsv3 : v2.heap.size ≤ v3.heap.size := by first | exact hb.size | omega
  have HU := hid (hu.mono HBs)
  clear hu
  clear kPB2
  have kPB2 : v3.cell? ⟨w.heap.size, 2, none⟩ = some (.slice sa l.length sc) := (BoxAt.cell PB.out 2).trans rfl
  clear hb
  have FL3 := hid trivial
  go_wp2_with (first
    | (have hfl := FL3.out
       refine wpList_store_whole rfl 24 _ _ rfl rfl (v1.heap.size) rfl [.bool true, .int .i64 x, .slice none 0 0] rfl _ _ RB.out rfl Try.infoBd (by simp [Value.oneCell']) ?_
       intro v4 b g z
       have hsv4 : v3.heap.size ≤ v4.heap.size := by omega
       have HU := hid (HU.out.put g RB.out (by decide))
       have RB := hid (show BoxAt v4 (v1.heap.size) 24 #[.bool true, .int .i64 x, .slice none 0 0] from b)
       have PB := hid (PB.out.grown g (fun e => by have := Option.some.inj e; omega))
       have HB := hid (HB.out.trans (grown_below g (by omega) (by omega)))
       clear kPB2
       have kPB2 : v4.cell? ⟨w.heap.size, 2, none⟩ = some (.slice sa l.length sc) := (BoxAt.cell PB.out 2).trans rfl
       clear b g z hfl FL3)
    | fail)
  refine bodyPost_ret (results_box_tmp rfl _ _ (v1.heap.size) 24 _ (0, 0) _ rfl RB.out Try.underlying24 rfl Try.infoBd) rfl ?_
  exact ⟨_, rfl, HU.out, HB.out⟩

set_option maxRecDepth 100000 in
set_option maxHeartbeats 1600000 in
theorem bclear_any (is : Bool) (v : Int) {s : Sl} {l : List Wt} {w : World} (hs : SeesWt w s.val l) (hl : l.length ≤ 800000) :
    Calls Try.prog 13 #[BdV.val ⟨is, v, s⟩] w fun e w' => ∃ u : Sl, e = .returned (BdV.val ⟨false, 0, u⟩) ∧ OWt w' w.heap.size u.val l ∧ Below w.heap.size w w' := by
  have HV := hid hs
  obtain ⟨a, c, hsv, hc1, hc2, -⟩ := hs.form
  obtain ⟨sa, sn, sc⟩ := s
  simp only [Sl.val, Value.slice.injEq] at hsv
  obtain ⟨rfl, rfl, rfl⟩ := hsv
  unfold maxLen at hc2
  simp only [Sl.val] at HV
  clear hs
  unfold BdV.val
  simp only
  have HB := hid (Below.refl w.heap.size w)
  go_enter Try.func13, Try.ntmps13
  have FL1 := hid trivial
  have FL2 := hid trivial
  go_wp2_with (first
    | (have hfl := FL1.out
       refine wpList_box rfl 24 (.tmp 0) rfl #[.bool is, .int .i64 v, .slice sa l.length sc] rfl ?_
       intro v1 b h z
       have PB := hid (show BoxAt v1 w.heap.size 24 #[.bool is, .int .i64 v, .slice sa l.length sc] from b)
       have HB := hid (HB.out.trans (h.mono HB.out.size))
       have hsv1 : w.heap.size + 1 ≤ v1.heap.size := by first | exact h.size | omega
       clear b h z hfl FL1)
    | (have hfl := FL2.out
       refine wpList_new rfl 24 rfl _ Try.zeroBd ?_
       intro v2 b h z
       have RB := hid (show BoxAt v2 v1.heap.size 24 #[.bool false, .int .i64 0, .slice none 0 0] from b)
       have PB := hid (PB.out.belowAll h)
       have HB := hid (HB.out.trans (h.mono HB.out.size))
       have hsv2 : v1.heap.size + 1 ≤ v2.heap.size := by first | exact h.size | omega
       clear b h z hfl FL2)
    | (refine wpList_load_box rfl 24 _ rfl (w.heap.size) rfl _ _ PB.out _ Try.underlying24 Try.infoBd ?_)
    | fail)
  have HBs := HB.out.size
  refine (bown_any is v (s := ⟨sa, l.length, sc⟩) (HV.out.below HB.out) hl).mono ?_
  rintro e v3 ⟨u, rfl, hu, hb⟩
  have PB := hid (PB.out.belowAll hb)
  have RB := hid (RB.out.belowAll hb)
  have HB := hid (HB.out.trans (hb.mono HB.out.size))
  have hsv3 : v2.heap.size ≤ v3.heap.size := by first | exact hb.size | omega
  have HU := hid (hu.mono HBs)
  clear hu
  clear hb
  have FL3 := hid trivial
  have FL4 := hid trivial
  have FL5 := hid trivial
  have FL6 := hid trivial
  have FL7 := hid trivial
  go_wp2_with (first
    | (have hfl := FL3.out
       refine wpList_new rfl 24 rfl _ Try.zeroBd ?_
       intro v4 b h z
       have MB := hid (show BoxAt v4 v3.heap.size 24 #[.bool false, .int .i64 0, .slice none 0 0] from b)
       have PB := hid (PB.out.belowAll h)
       have RB := hid (RB.out.belowAll h)
       have HU := hid (HU.out.below h)
       have HB := hid (HB.out.trans (h.mono HB.out.size))
       have hsv4 : v3.heap.size + 1 ≤ v4.heap.size := by first | exact h.size | omega
       clear b h z hfl FL3)
    | (have hfl := FL4.out
       refine wpList_store_whole rfl 24 _ _ rfl rfl (v3.heap.size) rfl [.bool is, .int .i64 v, .slice u.a u.n u.c] rfl _ _ MB.out rfl Try.infoBd (by simp [Value.oneCell']) ?_
       intro v5 b g z
       have hsv5 : v4.heap.size ≤ v5.heap.size := by omega
       have HU := hid (HU.out.put g MB.out (by decide))
       have MB := hid (show BoxAt v5 (v3.heap.size) 24 #[.bool is, .int .i64 v, .slice u.a u.n u.c] from b)
       have PB := hid (PB.out.grown g (fun e => by have := Option.some.inj e; omega))
       have RB := hid (RB.out.grown g (fun e => by have := Option.some.inj e; omega))
       have HB := hid (HB.out.trans (grown_below g (by omega) (by omega)))
       clear b g z hfl FL4)
    | (have hfl := FL5.out
       refine wpList_store_box rfl 4 _ _ rfl rfl (v3.heap.size) 0 (.bool false) rfl rfl rfl rfl (by kernel_rfl) _ _ MB.out (by simp) ?_
       intro v6 b g z
       have hsv6 : v5.heap.size ≤ v6.heap.size := by omega
       have HU := hid (HU.out.put g MB.out (by decide))
       have MB := hid (show BoxAt v6 (v3.heap.size) 24 #[.bool false, .int .i64 v, .slice u.a u.n u.c] from by simpa using b)
       have PB := hid (PB.out.grown g (fun e => by have := Option.some.inj e; omega))
       have RB := hid (RB.out.grown g (fun e => by have := Option.some.inj e; omega))
       have HB := hid (HB.out.trans (grown_below g (by omega) (by omega)))
       clear b g z hfl FL5)
    | (have hfl := FL6.out
       refine wpList_store_box rfl 3 _ _ rfl rfl (v3.heap.size) 1 (.int .i64 0) rfl rfl rfl rfl (by kernel_rfl) _ _ MB.out (by simp) ?_
       intro v7 b g z
       have hsv7 : v6.heap.size ≤ v7.heap.size := by omega
       have HU := hid (HU.out.put g MB.out (by decide))
       have MB := hid (show BoxAt v7 (v3.heap.size) 24 #[.bool false, .int .i64 0, .slice u.a u.n u.c] from by simpa using b)
       have PB := hid (PB.out.grown g (fun e => by have := Option.some.inj e; omega))
       have RB := hid (RB.out.grown g (fun e => by have := Option.some.inj e; omega))
       have HB := hid (HB.out.trans (grown_below g (by omega) (by omega)))
       clear b g z hfl FL6)
    | (refine wpList_load_box rfl 24 _ rfl (v3.heap.size) rfl _ _ MB.out _ Try.underlying24 Try.infoBd ?_)
    | (have hfl := FL7.out
       refine wpList_store_whole rfl 24 _ _ rfl rfl (v1.heap.size) rfl [.bool false, .int .i64 0, .slice u.a u.n u.c] rfl _ _ RB.out rfl Try.infoBd (by simp [Value.oneCell']) ?_
       intro v8 b g z
       have hsv8 : v7.heap.size ≤ v8.heap.size := by omega
       have HU := hid (HU.out.put g RB.out (by decide))
       have RB := hid (show BoxAt v8 (v1.heap.size) 24 #[.bool false, .int .i64 0, .slice u.a u.n u.c] from b)
       have PB := hid (PB.out.grown g (fun e => by have := Option.some.inj e; omega))
       have MB := hid (MB.out.grown g (fun e => by have := Option.some.inj e; omega))
       have HB := hid (HB.out.trans (grown_below g (by omega) (by omega)))
       clear b g z hfl FL7)
    | fail)
  refine bodyPost_ret (results_cell_row rfl _ _ (v1.heap.size) 24 _ (0, 0) _ rfl RB.out Try.underlying24 rfl Try.infoBd) rfl ?_
  exact ⟨u, rfl, HU.out, HB.out⟩

def readC (is may : Bool) : Int := if is then 0 else if may then 6 else 2
def readV (is : Bool) (v : Int) : Int := if is then v else 0
def readL (is may : Bool) (l : List Wt) (y : Wt) : List Wt := if is then l else if may then addP l y false else l


set_option maxRecDepth 100000 in
set_option maxHeartbeats 1600000 in
theorem bread_any (is : Bool) (v : Int) {s : Sl} {l : List Wt} (y : Wt) (may : Bool) {w : World} (hs : SeesWt w s.val l) (hl : l.length ≤ 800000) :
    Calls Try.prog 15 #[BdV.val ⟨is, v, s⟩, y.val, .bool may] w fun e w' => ∃ u : Sl, e = .returned (.tuple #[BdV.val ⟨is, v, u⟩, .int .i64 (readC is may), .int .i64 (readV is v)]) ∧ OWt w' w.heap.size u.val (readL is may l y) ∧ Below w.heap.size w w' := by
  have HV := hid hs
  obtain ⟨a, c, hsv, hc1, hc2, -⟩ := hs.form
  obtain ⟨sa, sn, sc⟩ := s
  simp only [Sl.val, Value.slice.injEq] at hsv
  obtain ⟨rfl, rfl, rfl⟩ := hsv
  unfold maxLen at hc2
  simp only [Sl.val] at HV
  clear hs
  unfold BdV.val Wt.val
  simp only
  have HB := hid (Below.refl w.heap.size w)
  go_enter Try.func15, Try.ntmps15
  have FL1 := hid trivial
  have FL2 := hid trivial
  have FL3 := hid trivial
  go_wp2_with (first
    | (have hfl := FL1.out
       refine wpList_box rfl 24 (.tmp 0) rfl #[.bool is, .int .i64 v, .slice sa l.length sc] rfl ?_
       intro v1 b h z
       have PB := hid (show BoxAt v1 w.heap.size 24 #[.bool is, .int .i64 v, .slice sa l.length sc] from b)
       have HB := hid (HB.out.trans (h.mono HB.out.size))
       have hsv1 : w.heap.size + 1 ≤ v1.heap.size := by first | exact h.size | omega
       clear b h z hfl FL1)
    | (have hfl := FL2.out
       refine wpList_box rfl 26 (.tmp 1) rfl #[.int .i64 y.p, .int .i64 y.r, .int .i64 y.v] rfl ?_
       intro v2 b h z
       have WB := hid (show BoxAt v2 v1.heap.size 26 #[.int .i64 y.p, .int .i64 y.r, .int .i64 y.v] from b)
       have PB := hid (PB.out.belowAll h)
       have HB := hid (HB.out.trans (h.mono HB.out.size))
       have hsv2 : v1.heap.size + 1 ≤ v2.heap.size := by first | exact h.size | omega
       clear b h z hfl FL2)
    | (have hfl := FL3.out
       refine wpList_new rfl 24 rfl _ Try.zeroBd ?_
       intro v3 b h z
       have RB := hid (show BoxAt v3 v2.heap.size 24 #[.bool false, .int .i64 0, .slice none 0 0] from b)
       have PB := hid (PB.out.belowAll h)
       have WB := hid (WB.out.belowAll h)
       have HB := hid (HB.out.trans (h.mono HB.out.size))
       have hsv3 : v2.heap.size + 1 ≤ v3.heap.size := by first | exact h.size | omega
       clear b h z hfl FL3)
    | (refine wpList_load_box rfl 24 _ rfl (w.heap.size) rfl _ _ PB.out _ Try.underlying24 Try.infoBd ?_)
    | fail)
  have HBs := HB.out.size
  refine (bown_any is v (s := ⟨sa, l.length, sc⟩) (HV.out.below HB.out) hl).mono ?_
  rintro e v4 ⟨u, rfl, hu, hb⟩
  have PB := hid (PB.out.belowAll hb)
  have WB := hid (WB.out.belowAll hb)
  have RB := hid (RB.out.belowAll hb)
  have HB := hid (HB.out.trans (hb.mono HB.out.size))
  have hsv4 : v3.heap.size ≤ v4.heap.size := by first | exact hb.size | omega
  have HU := hid (hu.mono HBs)
  clear hu
  clear hb
  have FL4 := hid trivial
  have FL5 := hid trivial
  go_wp2_with (first
    | (have hfl := FL4.out
       refine wpList_new rfl 24 rfl _ Try.zeroBd ?_
       intro v5 b h z
       have MB := hid (show BoxAt v5 v4.heap.size 24 #[.bool false, .int .i64 0, .slice none 0 0] from b)
       have PB := hid (PB.out.belowAll h)
       have WB := hid (WB.out.belowAll h)
       have RB := hid (RB.out.belowAll h)
       have HU := hid (HU.out.below h)
       have HB := hid (HB.out.trans (h.mono HB.out.size))
       have hsv5 : v4.heap.size + 1 ≤ v5.heap.size := by first | exact h.size | omega
       clear b h z hfl FL4)
    | (have hfl := FL5.out
       refine wpList_store_whole rfl 24 _ _ rfl rfl (v4.heap.size) rfl [.bool is, .int .i64 v, .slice u.a u.n u.c] rfl _ _ MB.out rfl Try.infoBd (by simp [Value.oneCell']) ?_
       intro v6 b g z
       have hsv6 : v5.heap.size ≤ v6.heap.size := by omega
       have HU := hid (HU.out.put g MB.out (by decide))
       have MB := hid (show BoxAt v6 (v4.heap.size) 24 #[.bool is, .int .i64 v, .slice u.a u.n u.c] from b)
       have PB := hid (PB.out.grown g (fun e => by have := Option.some.inj e; omega))
       have WB := hid (WB.out.grown g (fun e => by have := Option.some.inj e; omega))
       have RB := hid (RB.out.grown g (fun e => by have := Option.some.inj e; omega))
       have HB := hid (HB.out.trans (grown_below g (by omega) (by omega)))
       clear b g z hfl FL5
       refine Hid.out ?_)
    | fail)
  refine hid ?_
  have kMB0 : v6.cell? ⟨v4.heap.size, 0, none⟩ = some (.bool is) := (BoxAt.cell MB.out 0).trans rfl
  have kMB1 : v6.cell? ⟨v4.heap.size, 1, none⟩ = some (.int .i64 v) := (BoxAt.cell MB.out 1).trans rfl
  have kMB2 : v6.cell? ⟨v4.heap.size, 2, none⟩ = some (.slice u.a u.n u.c) := (BoxAt.cell MB.out 2).trans rfl
  rcases is with _ | _
  rotate_left
  · go_wp2_with fail
    clear kMB0 kMB1 kMB2
    have PB := hid (BoxAt.drew PB.out)
    have WB := hid (BoxAt.drew WB.out)
    have RB := hid (BoxAt.drew RB.out)
    have MB := hid (BoxAt.drew MB.out)
    have HU := hid (HU.out.below ((Below.refl v6.heap.size v6).drew))
    have HB := hid HB.out.drew
    have hsv7 : v6.heap.size ≤ v6.drew.heap.size := Nat.le_refl _
    refine wp_region_held_drew (S := (fun w' : World => BoxAt w' (v4.heap.size) 24 #[.bool true, .int .i64 v, .slice u.a u.n u.c])) (by kernel_rfl) (MB.out) (fun hHeld => ?_)
    generalize v6.drew = v7 at *
    refine wpAnyH_take (i := 0) (oi := { dst := some 15, op := Op.load 24 (Operand.tmp 9), type := 24, pos := "board.go:25", after := #[], guard := none }) (v := ?_) rfl (by kernel_rfl) (by kernel_rfl) (by kernel_rfl) (fun _ _ _ h => h) (Or.inl ⟨by rfl, ?_⟩) (by assumption) ?_
    rotate_left
    · (intro W hSw; (try dsimp only at hSw); have x0 := hSw; have c0_0 : W.cell? ⟨v4.heap.size, 0, none⟩ = some (.bool true) := (BoxAt.cell x0 0).trans rfl; have c0_1 : W.cell? ⟨v4.heap.size, 1, none⟩ = some (.int .i64 v) := (BoxAt.cell x0 1).trans rfl; have c0_2 : W.cell? ⟨v4.heap.size, 2, none⟩ = some (.slice u.a u.n u.c) := (BoxAt.cell x0 2).trans rfl; clear x0; go_simp; try with_reducible rfl)
    simp only [Act.put, List.setIfInBounds_toArray, List.set_cons_zero, List.set_cons_succ]
    refine wpAnyH_take (i := 1) (oi := { dst := some 16, op := Op.fieldAddr 24 (Operand.tmp 9) 1, type := 0, pos := "board.go:25", after := #[{ on := 4, ground := Ground.gcOnly Departure.lateStores }], guard := none }) (v := ?_) rfl (by kernel_rfl) (by kernel_rfl) (by kernel_rfl) (fun _ _ _ h => h) (Or.inl ⟨by rfl, ?_⟩) (by assumption) ?_
    rotate_left
    · (intro w hSw; (try dsimp only at hSw); go_simp; try with_reducible rfl)
    simp only [Act.put, List.setIfInBounds_toArray, List.set_cons_zero, List.set_cons_succ]
    refine wpAnyH_take (i := 2) (oi := { dst := some 17, op := Op.load 3 (Operand.tmp 16), type := 3, pos := "board.go:25", after := #[{ on := 1, ground := Ground.data }, { on := 4, ground := Ground.gcOnly Departure.lateStores }], guard := none }) (v := ?_) rfl (by kernel_rfl) (by kernel_rfl) (by kernel_rfl) (fun _ _ _ h => h) (Or.inl ⟨by rfl, ?_⟩) (by assumption) ?_
    rotate_left
    · (intro W hSw; (try dsimp only at hSw); have x0 := hSw; have c0_0 : W.cell? ⟨v4.heap.size, 0, none⟩ = some (.bool true) := (BoxAt.cell x0 0).trans rfl; have c0_1 : W.cell? ⟨v4.heap.size, 1, none⟩ = some (.int .i64 v) := (BoxAt.cell x0 1).trans rfl; have c0_2 : W.cell? ⟨v4.heap.size, 2, none⟩ = some (.slice u.a u.n u.c) := (BoxAt.cell x0 2).trans rfl; clear x0; go_simp; try with_reducible rfl)
    simp only [Act.put, List.setIfInBounds_toArray, List.set_cons_zero, List.set_cons_succ]
    refine wpAnyH_ready (rs := [3]) (by kernel_rfl) (by simp) (AllReadyH.cons (o := { dst := none, op := Op.store 24 (Operand.tmp 6) (Operand.tmp 15), type := 0, pos := "board.go:25", after := #[{ on := 0, ground := Ground.data }, { on := 0, ground := Ground.phase }, { on := 1, ground := Ground.textOnly Departure.lateStores }, { on := 2, ground := Ground.textOnly Departure.lateStores }], guard := none }) rfl (fun K1004 hK1004 => ?_) AllReadyH.nil)
    refine step_store_whole rfl 24 _ _ rfl (v2.heap.size) rfl [.bool true, .int .i64 v, .slice u.a u.n u.c] rfl _ _ RB.out rfl Try.infoBd (by simp [Value.oneCell']) ?_
    intro v8 b g z
    have hsv8 : v7.heap.size ≤ v8.heap.size := by omega
    have HU := hid (HU.out.put g RB.out (by decide))
    have RB := hid (show BoxAt v8 (v2.heap.size) 24 #[.bool true, .int .i64 v, .slice u.a u.n u.c] from b)
    have PB := hid (PB.out.grown g (fun e => by have := Option.some.inj e; omega))
    have WB := hid (WB.out.grown g (fun e => by have := Option.some.inj e; omega))
    have MB := hid (MB.out.grown g (fun e => by have := Option.some.inj e; omega))
    have HB := hid (HB.out.trans (grown_below g (by omega) (by omega)))
    have kMB0 : v8.cell? ⟨v4.heap.size, 0, none⟩ = some (.bool true) := (BoxAt.cell MB.out 0).trans rfl
    have kMB1 : v8.cell? ⟨v4.heap.size, 1, none⟩ = some (.int .i64 v) := (BoxAt.cell MB.out 1).trans rfl
    have kMB2 : v8.cell? ⟨v4.heap.size, 2, none⟩ = some (.slice u.a u.n u.c) := (BoxAt.cell MB.out 2).trans rfl
    clear b g z
    refine hK1004.out _ _ (MB.out) (fun hHeld1004 => ?_)
    clear hK1004 K1004
    try simp only [Act.put]
    refine wpAnyH_take (i := 4) (oi := { dst := some 7, op := Op.assign (Operand.const (Value.int IntKind.i64 0)), type := 3, pos := "board.go:25", after := #[{ on := 3, ground := Ground.chain }, { on := 0, ground := Ground.phase }, { on := 1, ground := Ground.textOnly Departure.lateStores }, { on := 2, ground := Ground.textOnly Departure.lateStores }, { on := 3, ground := Ground.phase }], guard := none }) (v := ?_) rfl (by kernel_rfl) (by kernel_rfl) (by kernel_rfl) (fun _ _ _ h => h) (Or.inl ⟨by rfl, ?_⟩) (by assumption) ?_
    rotate_left
    · (intro w hSw; (try dsimp only at hSw); go_simp; try with_reducible rfl)
    simp only [Act.put, List.setIfInBounds_toArray, List.set_cons_zero, List.set_cons_succ]
    refine wpAnyH_take (i := 5) (oi := { dst := some 8, op := Op.assign (Operand.tmp 17), type := 3, pos := "board.go:25", after := #[{ on := 2, ground := Ground.data }, { on := 4, ground := Ground.chain }, { on := 0, ground := Ground.phase }, { on := 1, ground := Ground.phase }, { on := 2, ground := Ground.phase }, { on := 3, ground := Ground.phase }, { on := 4, ground := Ground.phase }], guard := none }) (v := ?_) rfl (by kernel_rfl) (by kernel_rfl) (by kernel_rfl) (fun _ _ _ h => h) (Or.inl ⟨by rfl, ?_⟩) (by assumption) ?_
    rotate_left
    · (intro w hSw; (try dsimp only at hSw); go_simp; try with_reducible rfl)
    simp only [Act.put, List.setIfInBounds_toArray, List.set_cons_zero, List.set_cons_succ]
    refine wpAnyH_done (by kernel_rfl) ?_ _
    clear hHeld hHeld1004
    clear kMB0 kMB1 kMB2
    have kMB0 : v8.cell? ⟨v4.heap.size, 0, none⟩ = some (.bool true) := (BoxAt.cell MB.out 0).trans rfl
    have kMB1 : v8.cell? ⟨v4.heap.size, 1, none⟩ = some (.int .i64 v) := (BoxAt.cell MB.out 1).trans rfl
    have kMB2 : v8.cell? ⟨v4.heap.size, 2, none⟩ = some (.slice u.a u.n u.c) := (BoxAt.cell MB.out 2).trans rfl
    go_wp2_with fail
    refine bodyPost_ret (results_box_tmp2 rfl _ _ (v2.heap.size) 24 _ (0, 0) _ rfl RB.out Try.underlying24 rfl Try.infoBd) rfl ?_
    exact ⟨u, rfl, HU.out, HB.out⟩
  rcases may with _ | _
  · have FL6 := hid trivial
    go_wp2_with (first
      | (refine wpList_load_box rfl 24 _ rfl (v4.heap.size) rfl _ _ MB.out _ Try.underlying24 Try.infoBd ?_)
      | (have hfl := FL6.out
         refine wpList_store_whole rfl 24 _ _ rfl rfl (v2.heap.size) rfl [.bool false, .int .i64 v, .slice u.a u.n u.c] rfl _ _ RB.out rfl Try.infoBd (by simp [Value.oneCell']) ?_
         intro v7 b g z
         have hsv7 : v6.heap.size ≤ v7.heap.size := by omega
         have HU := hid (HU.out.put g RB.out (by decide))
         have RB := hid (show BoxAt v7 (v2.heap.size) 24 #[.bool false, .int .i64 v, .slice u.a u.n u.c] from b)
         have PB := hid (PB.out.grown g (fun e => by have := Option.some.inj e; omega))
         have WB := hid (WB.out.grown g (fun e => by have := Option.some.inj e; omega))
         have MB := hid (MB.out.grown g (fun e => by have := Option.some.inj e; omega))
         have HB := hid (HB.out.trans (grown_below g (by omega) (by omega)))
         clear kMB0 kMB1 kMB2
         have kMB0 : v7.cell? ⟨v4.heap.size, 0, none⟩ = some (.bool false) := (BoxAt.cell MB.out 0).trans rfl
         have kMB1 : v7.cell? ⟨v4.heap.size, 1, none⟩ = some (.int .i64 v) := (BoxAt.cell MB.out 1).trans rfl
         have kMB2 : v7.cell? ⟨v4.heap.size, 2, none⟩ = some (.slice u.a u.n u.c) := (BoxAt.cell MB.out 2).trans rfl
         clear b g z hfl FL6)
      | fail)
    refine bodyPost_ret (results_box_tmp2 rfl _ _ (v2.heap.size) 24 _ (0, 0) _ rfl RB.out Try.underlying24 rfl Try.infoBd) rfl ?_
    exact ⟨u, rfl, HU.out, HB.out⟩
  · go_wp2_with (first
      | (refine wpList_load_box rfl 26 _ rfl (v1.heap.size) rfl _ _ WB.out _ Try.underlying26 Try.infoWt ?_)
      | fail)
    have HBs := HB.out.size
    refine (add_any y false HU.out.sees hl).mono ?_
    rintro e v7 ⟨q, rfl, hq, hb⟩
    have PB := hid (PB.out.belowAll hb)
    have WB := hid (WB.out.belowAll hb)
    have RB := hid (RB.out.belowAll hb)
    have MB := hid (MB.out.belowAll hb)
    have HU := hid (HU.out.below hb)
    have HB := hid (HB.out.trans (hb.mono HB.out.size))
    have hsv7 : v6.heap.size ≤ v7.heap.size := by first | exact hb.size | omega
    have HQ := hid (hq.mono HBs)
    obtain ⟨q, rfl, -⟩ := hq.sl
    clear hq
    clear kMB0 kMB1 kMB2
    have kMB0 : v7.cell? ⟨v4.heap.size, 0, none⟩ = some (.bool false) := (BoxAt.cell MB.out 0).trans rfl
    have kMB1 : v7.cell? ⟨v4.heap.size, 1, none⟩ = some (.int .i64 v) := (BoxAt.cell MB.out 1).trans rfl
    have kMB2 : v7.cell? ⟨v4.heap.size, 2, none⟩ = some (.slice u.a u.n u.c) := (BoxAt.cell MB.out 2).trans rfl
    clear hb
    have FL6 := hid trivial
    have FL7 := hid trivial
    go_wp2_with (first
      | (have hfl := FL6.out
         refine wpList_store_box rfl 22 _ _ rfl rfl (v4.heap.size) 2 (.slice q.a q.n q.c) rfl rfl rfl rfl (by kernel_rfl) _ _ MB.out (by simp) ?_
         intro v8 b g z
         have hsv8 : v7.heap.size ≤ v8.heap.size := by omega
         have HU := hid (HU.out.put g MB.out (by decide))
         have HQ := hid (HQ.out.put g MB.out (by decide))
         have MB := hid (show BoxAt v8 (v4.heap.size) 24 #[.bool false, .int .i64 v, .slice q.a q.n q.c] from by simpa using b)
         have PB := hid (PB.out.grown g (fun e => by have := Option.some.inj e; omega))
         have WB := hid (WB.out.grown g (fun e => by have := Option.some.inj e; omega))
         have RB := hid (RB.out.grown g (fun e => by have := Option.some.inj e; omega))
         have HB := hid (HB.out.trans (grown_below g (by omega) (by omega)))
         clear kMB0 kMB1 kMB2
         have kMB0 : v8.cell? ⟨v4.heap.size, 0, none⟩ = some (.bool false) := (BoxAt.cell MB.out 0).trans rfl
         have kMB1 : v8.cell? ⟨v4.heap.size, 1, none⟩ = some (.int .i64 v) := (BoxAt.cell MB.out 1).trans rfl
         have kMB2 : v8.cell? ⟨v4.heap.size, 2, none⟩ = some (.slice q.a q.n q.c) := (BoxAt.cell MB.out 2).trans rfl
         clear b g z hfl FL6)
      | (refine wpList_load_box rfl 24 _ rfl (v4.heap.size) rfl _ _ MB.out _ Try.underlying24 Try.infoBd ?_)
      | (have hfl := FL7.out
         refine wpList_store_whole rfl 24 _ _ rfl rfl (v2.heap.size) rfl [.bool false, .int .i64 v, .slice q.a q.n q.c] rfl _ _ RB.out rfl Try.infoBd (by simp [Value.oneCell']) ?_
         intro v9 b g z
         have hsv9 : v8.heap.size ≤ v9.heap.size := by omega
         have HU := hid (HU.out.put g RB.out (by decide))
         have HQ := hid (HQ.out.put g RB.out (by decide))
         have RB := hid (show BoxAt v9 (v2.heap.size) 24 #[.bool false, .int .i64 v, .slice q.a q.n q.c] from b)
         have PB := hid (PB.out.grown g (fun e => by have := Option.some.inj e; omega))
         have WB := hid (WB.out.grown g (fun e => by have := Option.some.inj e; omega))
         have MB := hid (MB.out.grown g (fun e => by have := Option.some.inj e; omega))
         have HB := hid (HB.out.trans (grown_below g (by omega) (by omega)))
         clear kMB0 kMB1 kMB2
         have kMB0 : v9.cell? ⟨v4.heap.size, 0, none⟩ = some (.bool false) := (BoxAt.cell MB.out 0).trans rfl
         have kMB1 : v9.cell? ⟨v4.heap.size, 1, none⟩ = some (.int .i64 v) := (BoxAt.cell MB.out 1).trans rfl
         have kMB2 : v9.cell? ⟨v4.heap.size, 2, none⟩ = some (.slice q.a q.n q.c) := (BoxAt.cell MB.out 2).trans rfl
         clear b g z hfl FL7)
      | fail)
    refine bodyPost_ret (results_box_tmp2 rfl _ _ (v2.heap.size) 24 _ (0, 0) _ rfl RB.out Try.underlying24 rfl Try.infoBd) rfl ?_
    exact ⟨q, rfl, HQ.out, HB.out⟩

end Go.Proofs.Ytpojoflhmbnfmaa
