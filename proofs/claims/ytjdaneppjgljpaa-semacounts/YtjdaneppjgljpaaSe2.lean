/-
  What the document's Get, Put and Same return, whatever semaphores they are given.
-/
import Derived.Test.YtjdaneppjgljpaaSe1
namespace Go.Proofs.Ytjdaneppjgljpaa
open Go.RowKit
set_option linter.unusedVariables false


set_option maxRecDepth 100000 in
set_option maxHeartbeats 1600000 in
theorem rget_one (c m : Int) (k : Bool) {s : Sl} {l : List Wt} (p r v : Int) (may : Bool) {w : World} (hs : SeesWt w s.val l) (hl : l.length ≤ 800000) (h0 : 0 < c) :
    Calls Try.prog 10 #[SeV.val ⟨c, m, k, s⟩, .agg #[.int .i64 p, .int .i64 r, .int .i64 v], .bool may] w fun e w' => ∃ (u : Sl), e = .returned (.tuple #[SeV.val ⟨wrap64 (c - 1), m, k, u⟩, .int .i64 (0)]) ∧ OWt w' w.heap.size u.val (l) ∧ Below w.heap.size w w' := by
  have HV := hid hs
  obtain ⟨a2, c2, hs1, hc1, hc2, -⟩ := hs.form
  obtain ⟨sa, sn, sc⟩ := s
  simp only [Sl.val, Value.slice.injEq] at hs1
  obtain ⟨rfl, rfl, rfl⟩ := hs1
  unfold maxLen at hc2
  simp only [Sl.val] at HV
  clear hs
  unfold SeV.val
  simp only
  obtain ⟨M, hM⟩ : ∃ M, l.length = M := ⟨_, rfl⟩
  have HM := hid hM
  have HL := hid hl
  rw [hM] at hl hc1 HV ⊢
  clear hM
  have HB := hid (Below.refl w.heap.size w)
  go_enter Try.func10, Try.ntmps10
  have FL1 := hid trivial
  have FL2 := hid trivial
  have FL3 := hid trivial
  go_wp2_with (first
    | (have hfl := FL1.out
       refine wpList_box rfl 24 (.tmp 0) rfl #[.int .i64 c, .int .i64 m, .bool k, .slice sa M sc] rfl ?_
       intro v1 b h z
       have PB := hid (show BoxAt v1 w.heap.size 24 #[.int .i64 c, .int .i64 m, .bool k, .slice sa M sc] from b)
       have HB := hid (HB.out.trans (h.mono HB.out.size))
       have hsv1 : w.heap.size + 1 ≤ v1.heap.size := by first | exact h.size | omega
       clear b h z hfl FL1)
    | (have hfl := FL2.out
       refine wpList_box rfl 26 (.tmp 1) rfl #[.int .i64 p, .int .i64 r, .int .i64 v] rfl ?_
       intro v2 b h z
       have WB := hid (show BoxAt v2 v1.heap.size 26 #[.int .i64 p, .int .i64 r, .int .i64 v] from b)
       have PB := hid (PB.out.belowAll h)
       have HB := hid (HB.out.trans (h.mono HB.out.size))
       have hsv2 : v1.heap.size + 1 ≤ v2.heap.size := by first | exact h.size | omega
       have kPB0 : v2.cell? ⟨w.heap.size, 0, none⟩ = some (.int .i64 c) := (BoxAt.cell PB.out 0).trans rfl
       have kPB1 : v2.cell? ⟨w.heap.size, 1, none⟩ = some (.int .i64 m) := (BoxAt.cell PB.out 1).trans rfl
       have kPB2 : v2.cell? ⟨w.heap.size, 2, none⟩ = some (.bool k) := (BoxAt.cell PB.out 2).trans rfl
       have kPB3 : v2.cell? ⟨w.heap.size, 3, none⟩ = some (.slice sa M sc) := (BoxAt.cell PB.out 3).trans rfl
       clear b h z hfl FL2)
    | (have hfl := FL3.out
       refine wpList_new rfl 24 rfl _ Try.zeroSe ?_
       intro v3 b h z
       have RB := hid (show BoxAt v3 v2.heap.size 24 #[.int .i64 0, .int .i64 0, .bool false, .slice none 0 0] from b)
       have PB := hid (PB.out.belowAll h)
       have WB := hid (WB.out.belowAll h)
       have HB := hid (HB.out.trans (h.mono HB.out.size))
       have hsv3 : v2.heap.size + 1 ≤ v3.heap.size := by first | exact h.size | omega
       clear kPB0 kPB1 kPB2 kPB3
       have kPB0 : v3.cell? ⟨w.heap.size, 0, none⟩ = some (.int .i64 c) := (BoxAt.cell PB.out 0).trans rfl
       have kPB1 : v3.cell? ⟨w.heap.size, 1, none⟩ = some (.int .i64 m) := (BoxAt.cell PB.out 1).trans rfl
       have kPB2 : v3.cell? ⟨w.heap.size, 2, none⟩ = some (.bool k) := (BoxAt.cell PB.out 2).trans rfl
       have kPB3 : v3.cell? ⟨w.heap.size, 3, none⟩ = some (.slice sa M sc) := (BoxAt.cell PB.out 3).trans rfl
       clear b h z hfl FL3
       refine Hid.out ?_)
    | fail)
  refine hid ?_
  clear kPB0 kPB1 kPB2 kPB3
  have kPB0 : v3.cell? ⟨w.heap.size, 0, none⟩ = some (.int .i64 c) := (BoxAt.cell PB.out 0).trans rfl
  have kPB1 : v3.cell? ⟨w.heap.size, 1, none⟩ = some (.int .i64 m) := (BoxAt.cell PB.out 1).trans rfl
  have kPB2 : v3.cell? ⟨w.heap.size, 2, none⟩ = some (.bool k) := (BoxAt.cell PB.out 2).trans rfl
  have kPB3 : v3.cell? ⟨w.heap.size, 3, none⟩ = some (.slice sa M sc) := (BoxAt.cell PB.out 3).trans rfl
  have FL4 := hid trivial
  go_wp2_with (first
    | (have hfl := FL4.out
       at_builtin
       refine app_nilWt rfl (.tmp 9) rfl _ l rfl (HV.out.below HB.out) (by have := HL.out; omega) ?_
       intro uv4 v4 ho h
       obtain ⟨qv4, rfl, -⟩ := ho.sl
       have PB := hid (PB.out.belowAll h)
       have WB := hid (WB.out.belowAll h)
       have RB := hid (RB.out.belowAll h)
       have HB := hid (HB.out.trans (h.mono HB.out.size))
       have hsv4 : v3.heap.size ≤ v4.heap.size := by first | exact h.size | omega
       have HC := hid ho
       clear kPB0 kPB1 kPB2 kPB3
       have kPB0 : v4.cell? ⟨w.heap.size, 0, none⟩ = some (.int .i64 c) := (BoxAt.cell PB.out 0).trans rfl
       have kPB1 : v4.cell? ⟨w.heap.size, 1, none⟩ = some (.int .i64 m) := (BoxAt.cell PB.out 1).trans rfl
       have kPB2 : v4.cell? ⟨w.heap.size, 2, none⟩ = some (.bool k) := (BoxAt.cell PB.out 2).trans rfl
       have kPB3 : v4.cell? ⟨w.heap.size, 3, none⟩ = some (.slice sa M sc) := (BoxAt.cell PB.out 3).trans rfl
       clear ho h hfl FL4
       refine Hid.out ?_)
    | fail)
  refine hid ?_
  have HC := hid (HC.out.mono (base' := w.heap.size) (by omega))
  have FL5 := hid trivial
  go_wp2_with (first
    | (have hfl := FL5.out
       refine wpList_store_box rfl 22 _ _ rfl rfl (w.heap.size) 3 (.slice qv4.a qv4.n qv4.c) rfl rfl rfl rfl (by kernel_rfl) _ _ PB.out (by simp) ?_
       intro v5 b g z
       have hsv5 : v4.heap.size ≤ v5.heap.size := by omega
       have HC := hid (HC.out.put g PB.out (by decide))
       have PB := hid (show BoxAt v5 (w.heap.size) 24 #[.int .i64 c, .int .i64 m, .bool k, .slice qv4.a qv4.n qv4.c] from by simpa using b)
       have WB := hid (WB.out.grown g (fun e => by have := Option.some.inj e; omega))
       have RB := hid (RB.out.grown g (fun e => by have := Option.some.inj e; omega))
       have HB := hid (HB.out.trans (grown_below g (by omega) (by omega)))
       clear kPB0 kPB1 kPB2 kPB3
       have kPB0 : v5.cell? ⟨w.heap.size, 0, none⟩ = some (.int .i64 c) := (BoxAt.cell PB.out 0).trans rfl
       have kPB1 : v5.cell? ⟨w.heap.size, 1, none⟩ = some (.int .i64 m) := (BoxAt.cell PB.out 1).trans rfl
       have kPB2 : v5.cell? ⟨w.heap.size, 2, none⟩ = some (.bool k) := (BoxAt.cell PB.out 2).trans rfl
       have kPB3 : v5.cell? ⟨w.heap.size, 3, none⟩ = some (.slice qv4.a qv4.n qv4.c) := (BoxAt.cell PB.out 3).trans rfl
       clear b g z hfl FL5
       refine Hid.out ?_)
    | fail)
  refine hid ?_
  clear kPB0 kPB1 kPB2 kPB3
  have kPB0 : v5.cell? ⟨w.heap.size, 0, none⟩ = some (.int .i64 c) := (BoxAt.cell PB.out 0).trans rfl
  have kPB1 : v5.cell? ⟨w.heap.size, 1, none⟩ = some (.int .i64 m) := (BoxAt.cell PB.out 1).trans rfl
  have kPB2 : v5.cell? ⟨w.heap.size, 2, none⟩ = some (.bool k) := (BoxAt.cell PB.out 2).trans rfl
  have kPB3 : v5.cell? ⟨w.heap.size, 3, none⟩ = some (.slice qv4.a qv4.n qv4.c) := (BoxAt.cell PB.out 3).trans rfl
  have FL6 := hid trivial
  have FL7 := hid trivial
  go_wp2_with (first
    | (have hfl := FL6.out
       refine wpList_store_box rfl 3 _ _ rfl rfl (w.heap.size) 0 (.int .i64 (wrap64 (c - 1))) rfl rfl rfl rfl (by kernel_rfl) _ _ PB.out (by simp) ?_
       intro v6 b g z
       have hsv6 : v5.heap.size ≤ v6.heap.size := by omega
       have HC := hid (HC.out.put g PB.out (by decide))
       have PB := hid (show BoxAt v6 (w.heap.size) 24 #[.int .i64 (wrap64 (c - 1)), .int .i64 m, .bool k, .slice qv4.a qv4.n qv4.c] from by simpa using b)
       have WB := hid (WB.out.grown g (fun e => by have := Option.some.inj e; omega))
       have RB := hid (RB.out.grown g (fun e => by have := Option.some.inj e; omega))
       have HB := hid (HB.out.trans (grown_below g (by omega) (by omega)))
       clear kPB0 kPB1 kPB2 kPB3
       have kPB0 : v6.cell? ⟨w.heap.size, 0, none⟩ = some (.int .i64 (wrap64 (c - 1))) := (BoxAt.cell PB.out 0).trans rfl
       have kPB1 : v6.cell? ⟨w.heap.size, 1, none⟩ = some (.int .i64 m) := (BoxAt.cell PB.out 1).trans rfl
       have kPB2 : v6.cell? ⟨w.heap.size, 2, none⟩ = some (.bool k) := (BoxAt.cell PB.out 2).trans rfl
       have kPB3 : v6.cell? ⟨w.heap.size, 3, none⟩ = some (.slice qv4.a qv4.n qv4.c) := (BoxAt.cell PB.out 3).trans rfl
       clear b g z hfl FL6)
    | (refine wpList_load_box rfl 24 _ rfl (w.heap.size) rfl _ _ PB.out _ Try.underlying24 Try.infoSe ?_)
    | (have hfl := FL7.out
       refine wpList_store_whole rfl 24 _ _ rfl rfl (v2.heap.size) rfl [.int .i64 (wrap64 (c - 1)), .int .i64 m, .bool k, .slice qv4.a qv4.n qv4.c] rfl _ _ RB.out rfl Try.infoSe (by simp [Value.oneCell']) ?_
       intro v7 b g z
       have hsv7 : v6.heap.size ≤ v7.heap.size := by omega
       have HC := hid (HC.out.put g RB.out (by decide))
       have RB := hid (show BoxAt v7 (v2.heap.size) 24 #[.int .i64 (wrap64 (c - 1)), .int .i64 m, .bool k, .slice qv4.a qv4.n qv4.c] from b)
       have PB := hid (PB.out.grown g (fun e => by have := Option.some.inj e; omega))
       have WB := hid (WB.out.grown g (fun e => by have := Option.some.inj e; omega))
       have HB := hid (HB.out.trans (grown_below g (by omega) (by omega)))
       clear kPB0 kPB1 kPB2 kPB3
       have kPB0 : v7.cell? ⟨w.heap.size, 0, none⟩ = some (.int .i64 (wrap64 (c - 1))) := (BoxAt.cell PB.out 0).trans rfl
       have kPB1 : v7.cell? ⟨w.heap.size, 1, none⟩ = some (.int .i64 m) := (BoxAt.cell PB.out 1).trans rfl
       have kPB2 : v7.cell? ⟨w.heap.size, 2, none⟩ = some (.bool k) := (BoxAt.cell PB.out 2).trans rfl
       have kPB3 : v7.cell? ⟨w.heap.size, 3, none⟩ = some (.slice qv4.a qv4.n qv4.c) := (BoxAt.cell PB.out 3).trans rfl
       clear b g z hfl FL7)
    | fail)
  refine bodyPost_ret (results_box_tmp rfl _ _ (v2.heap.size) 24 _ (0, 0) _ rfl RB.out Try.underlying24 rfl Try.infoSe) rfl ?_
  exact ⟨qv4, rfl, HC.out, HB.out⟩

set_option maxRecDepth 100000 in
set_option maxHeartbeats 1600000 in
theorem rget_no (c m : Int) (k : Bool) {s : Sl} {l : List Wt} (p r v : Int) {w : World} (hs : SeesWt w s.val l) (hl : l.length ≤ 800000) (h0 : ¬ 0 < c) :
    Calls Try.prog 10 #[SeV.val ⟨c, m, k, s⟩, .agg #[.int .i64 p, .int .i64 r, .int .i64 v], .bool false] w fun e w' => ∃ (u : Sl), e = .returned (.tuple #[SeV.val ⟨c, m, k, u⟩, .int .i64 (2)]) ∧ OWt w' w.heap.size u.val (l) ∧ Below w.heap.size w w' := by
  have HV := hid hs
  obtain ⟨a2, c2, hs1, hc1, hc2, -⟩ := hs.form
  obtain ⟨sa, sn, sc⟩ := s
  simp only [Sl.val, Value.slice.injEq] at hs1
  obtain ⟨rfl, rfl, rfl⟩ := hs1
  unfold maxLen at hc2
  simp only [Sl.val] at HV
  clear hs
  unfold SeV.val
  simp only
  obtain ⟨M, hM⟩ : ∃ M, l.length = M := ⟨_, rfl⟩
  have HM := hid hM
  have HL := hid hl
  rw [hM] at hl hc1 HV ⊢
  clear hM
  have HB := hid (Below.refl w.heap.size w)
  go_enter Try.func10, Try.ntmps10
  have FL1 := hid trivial
  have FL2 := hid trivial
  have FL3 := hid trivial
  go_wp2_with (first
    | (have hfl := FL1.out
       refine wpList_box rfl 24 (.tmp 0) rfl #[.int .i64 c, .int .i64 m, .bool k, .slice sa M sc] rfl ?_
       intro v1 b h z
       have PB := hid (show BoxAt v1 w.heap.size 24 #[.int .i64 c, .int .i64 m, .bool k, .slice sa M sc] from b)
       have HB := hid (HB.out.trans (h.mono HB.out.size))
       have hsv1 : w.heap.size + 1 ≤ v1.heap.size := by first | exact h.size | omega
       clear b h z hfl FL1)
    | (have hfl := FL2.out
       refine wpList_box rfl 26 (.tmp 1) rfl #[.int .i64 p, .int .i64 r, .int .i64 v] rfl ?_
       intro v2 b h z
       have WB := hid (show BoxAt v2 v1.heap.size 26 #[.int .i64 p, .int .i64 r, .int .i64 v] from b)
       have PB := hid (PB.out.belowAll h)
       have HB := hid (HB.out.trans (h.mono HB.out.size))
       have hsv2 : v1.heap.size + 1 ≤ v2.heap.size := by first | exact h.size | omega
       have kPB0 : v2.cell? ⟨w.heap.size, 0, none⟩ = some (.int .i64 c) := (BoxAt.cell PB.out 0).trans rfl
       have kPB1 : v2.cell? ⟨w.heap.size, 1, none⟩ = some (.int .i64 m) := (BoxAt.cell PB.out 1).trans rfl
       have kPB2 : v2.cell? ⟨w.heap.size, 2, none⟩ = some (.bool k) := (BoxAt.cell PB.out 2).trans rfl
       have kPB3 : v2.cell? ⟨w.heap.size, 3, none⟩ = some (.slice sa M sc) := (BoxAt.cell PB.out 3).trans rfl
       clear b h z hfl FL2)
    | (have hfl := FL3.out
       refine wpList_new rfl 24 rfl _ Try.zeroSe ?_
       intro v3 b h z
       have RB := hid (show BoxAt v3 v2.heap.size 24 #[.int .i64 0, .int .i64 0, .bool false, .slice none 0 0] from b)
       have PB := hid (PB.out.belowAll h)
       have WB := hid (WB.out.belowAll h)
       have HB := hid (HB.out.trans (h.mono HB.out.size))
       have hsv3 : v2.heap.size + 1 ≤ v3.heap.size := by first | exact h.size | omega
       clear kPB0 kPB1 kPB2 kPB3
       have kPB0 : v3.cell? ⟨w.heap.size, 0, none⟩ = some (.int .i64 c) := (BoxAt.cell PB.out 0).trans rfl
       have kPB1 : v3.cell? ⟨w.heap.size, 1, none⟩ = some (.int .i64 m) := (BoxAt.cell PB.out 1).trans rfl
       have kPB2 : v3.cell? ⟨w.heap.size, 2, none⟩ = some (.bool k) := (BoxAt.cell PB.out 2).trans rfl
       have kPB3 : v3.cell? ⟨w.heap.size, 3, none⟩ = some (.slice sa M sc) := (BoxAt.cell PB.out 3).trans rfl
       clear b h z hfl FL3
       refine Hid.out ?_)
    | fail)
  refine hid ?_
  clear kPB0 kPB1 kPB2 kPB3
  have kPB0 : v3.cell? ⟨w.heap.size, 0, none⟩ = some (.int .i64 c) := (BoxAt.cell PB.out 0).trans rfl
  have kPB1 : v3.cell? ⟨w.heap.size, 1, none⟩ = some (.int .i64 m) := (BoxAt.cell PB.out 1).trans rfl
  have kPB2 : v3.cell? ⟨w.heap.size, 2, none⟩ = some (.bool k) := (BoxAt.cell PB.out 2).trans rfl
  have kPB3 : v3.cell? ⟨w.heap.size, 3, none⟩ = some (.slice sa M sc) := (BoxAt.cell PB.out 3).trans rfl
  have FL4 := hid trivial
  go_wp2_with (first
    | (have hfl := FL4.out
       at_builtin
       refine app_nilWt rfl (.tmp 9) rfl _ l rfl (HV.out.below HB.out) (by have := HL.out; omega) ?_
       intro uv4 v4 ho h
       obtain ⟨qv4, rfl, -⟩ := ho.sl
       have PB := hid (PB.out.belowAll h)
       have WB := hid (WB.out.belowAll h)
       have RB := hid (RB.out.belowAll h)
       have HB := hid (HB.out.trans (h.mono HB.out.size))
       have hsv4 : v3.heap.size ≤ v4.heap.size := by first | exact h.size | omega
       have HC := hid ho
       clear kPB0 kPB1 kPB2 kPB3
       have kPB0 : v4.cell? ⟨w.heap.size, 0, none⟩ = some (.int .i64 c) := (BoxAt.cell PB.out 0).trans rfl
       have kPB1 : v4.cell? ⟨w.heap.size, 1, none⟩ = some (.int .i64 m) := (BoxAt.cell PB.out 1).trans rfl
       have kPB2 : v4.cell? ⟨w.heap.size, 2, none⟩ = some (.bool k) := (BoxAt.cell PB.out 2).trans rfl
       have kPB3 : v4.cell? ⟨w.heap.size, 3, none⟩ = some (.slice sa M sc) := (BoxAt.cell PB.out 3).trans rfl
       clear ho h hfl FL4
       refine Hid.out ?_)
    | fail)
  refine hid ?_
  have HC := hid (HC.out.mono (base' := w.heap.size) (by omega))
  have FL5 := hid trivial
  go_wp2_with (first
    | (have hfl := FL5.out
       refine wpList_store_box rfl 22 _ _ rfl rfl (w.heap.size) 3 (.slice qv4.a qv4.n qv4.c) rfl rfl rfl rfl (by kernel_rfl) _ _ PB.out (by simp) ?_
       intro v5 b g z
       have hsv5 : v4.heap.size ≤ v5.heap.size := by omega
       have HC := hid (HC.out.put g PB.out (by decide))
       have PB := hid (show BoxAt v5 (w.heap.size) 24 #[.int .i64 c, .int .i64 m, .bool k, .slice qv4.a qv4.n qv4.c] from by simpa using b)
       have WB := hid (WB.out.grown g (fun e => by have := Option.some.inj e; omega))
       have RB := hid (RB.out.grown g (fun e => by have := Option.some.inj e; omega))
       have HB := hid (HB.out.trans (grown_below g (by omega) (by omega)))
       clear kPB0 kPB1 kPB2 kPB3
       have kPB0 : v5.cell? ⟨w.heap.size, 0, none⟩ = some (.int .i64 c) := (BoxAt.cell PB.out 0).trans rfl
       have kPB1 : v5.cell? ⟨w.heap.size, 1, none⟩ = some (.int .i64 m) := (BoxAt.cell PB.out 1).trans rfl
       have kPB2 : v5.cell? ⟨w.heap.size, 2, none⟩ = some (.bool k) := (BoxAt.cell PB.out 2).trans rfl
       have kPB3 : v5.cell? ⟨w.heap.size, 3, none⟩ = some (.slice qv4.a qv4.n qv4.c) := (BoxAt.cell PB.out 3).trans rfl
       clear b g z hfl FL5
       refine Hid.out ?_)
    | fail)
  refine hid ?_
  clear kPB0 kPB1 kPB2 kPB3
  have kPB0 : v5.cell? ⟨w.heap.size, 0, none⟩ = some (.int .i64 c) := (BoxAt.cell PB.out 0).trans rfl
  have kPB1 : v5.cell? ⟨w.heap.size, 1, none⟩ = some (.int .i64 m) := (BoxAt.cell PB.out 1).trans rfl
  have kPB2 : v5.cell? ⟨w.heap.size, 2, none⟩ = some (.bool k) := (BoxAt.cell PB.out 2).trans rfl
  have kPB3 : v5.cell? ⟨w.heap.size, 3, none⟩ = some (.slice qv4.a qv4.n qv4.c) := (BoxAt.cell PB.out 3).trans rfl
  have FL6 := hid trivial
  go_wp2_with (first
    | (refine wpList_load_box rfl 24 _ rfl (w.heap.size) rfl _ _ PB.out _ Try.underlying24 Try.infoSe ?_)
    | (have hfl := FL6.out
       refine wpList_store_whole rfl 24 _ _ rfl rfl (v2.heap.size) rfl [.int .i64 c, .int .i64 m, .bool k, .slice qv4.a qv4.n qv4.c] rfl _ _ RB.out rfl Try.infoSe (by simp [Value.oneCell']) ?_
       intro v6 b g z
       have hsv6 : v5.heap.size ≤ v6.heap.size := by omega
       have HC := hid (HC.out.put g RB.out (by decide))
       have RB := hid (show BoxAt v6 (v2.heap.size) 24 #[.int .i64 c, .int .i64 m, .bool k, .slice qv4.a qv4.n qv4.c] from b)
       have PB := hid (PB.out.grown g (fun e => by have := Option.some.inj e; omega))
       have WB := hid (WB.out.grown g (fun e => by have := Option.some.inj e; omega))
       have HB := hid (HB.out.trans (grown_below g (by omega) (by omega)))
       clear kPB0 kPB1 kPB2 kPB3
       have kPB0 : v6.cell? ⟨w.heap.size, 0, none⟩ = some (.int .i64 c) := (BoxAt.cell PB.out 0).trans rfl
       have kPB1 : v6.cell? ⟨w.heap.size, 1, none⟩ = some (.int .i64 m) := (BoxAt.cell PB.out 1).trans rfl
       have kPB2 : v6.cell? ⟨w.heap.size, 2, none⟩ = some (.bool k) := (BoxAt.cell PB.out 2).trans rfl
       have kPB3 : v6.cell? ⟨w.heap.size, 3, none⟩ = some (.slice qv4.a qv4.n qv4.c) := (BoxAt.cell PB.out 3).trans rfl
       clear b g z hfl FL6)
    | fail)
  refine bodyPost_ret (results_box_tmp rfl _ _ (v2.heap.size) 24 _ (0, 0) _ rfl RB.out Try.underlying24 rfl Try.infoSe) rfl ?_
  exact ⟨qv4, rfl, HC.out, HB.out⟩

set_option maxRecDepth 100000 in
set_option maxHeartbeats 1600000 in
theorem rget_yes (c m : Int) (k : Bool) {s : Sl} {l : List Wt} (p r v : Int) {w : World} (hs : SeesWt w s.val l) (hl : l.length ≤ 800000) (h0 : ¬ 0 < c) :
    Calls Try.prog 10 #[SeV.val ⟨c, m, k, s⟩, .agg #[.int .i64 p, .int .i64 r, .int .i64 v], .bool true] w fun e w' => ∃ (u : Sl), e = .returned (.tuple #[SeV.val ⟨c, m, k, u⟩, .int .i64 (6)]) ∧ OWt w' w.heap.size u.val (addP l ⟨p, r, v⟩ k) ∧ Below w.heap.size w w' := by
  have HV := hid hs
  obtain ⟨a2, c2, hs1, hc1, hc2, -⟩ := hs.form
  obtain ⟨sa, sn, sc⟩ := s
  simp only [Sl.val, Value.slice.injEq] at hs1
  obtain ⟨rfl, rfl, rfl⟩ := hs1
  unfold maxLen at hc2
  simp only [Sl.val] at HV
  clear hs
  unfold SeV.val
  simp only
  obtain ⟨M, hM⟩ : ∃ M, l.length = M := ⟨_, rfl⟩
  have HM := hid hM
  have HL := hid hl
  rw [hM] at hl hc1 HV ⊢
  clear hM
  have HB := hid (Below.refl w.heap.size w)
  go_enter Try.func10, Try.ntmps10
  have FL1 := hid trivial
  have FL2 := hid trivial
  have FL3 := hid trivial
  go_wp2_with (first
    | (have hfl := FL1.out
       refine wpList_box rfl 24 (.tmp 0) rfl #[.int .i64 c, .int .i64 m, .bool k, .slice sa M sc] rfl ?_
       intro v1 b h z
       have PB := hid (show BoxAt v1 w.heap.size 24 #[.int .i64 c, .int .i64 m, .bool k, .slice sa M sc] from b)
       have HB := hid (HB.out.trans (h.mono HB.out.size))
       have hsv1 : w.heap.size + 1 ≤ v1.heap.size := by first | exact h.size | omega
       clear b h z hfl FL1)
    | (have hfl := FL2.out
       refine wpList_box rfl 26 (.tmp 1) rfl #[.int .i64 p, .int .i64 r, .int .i64 v] rfl ?_
       intro v2 b h z
       have WB := hid (show BoxAt v2 v1.heap.size 26 #[.int .i64 p, .int .i64 r, .int .i64 v] from b)
       have PB := hid (PB.out.belowAll h)
       have HB := hid (HB.out.trans (h.mono HB.out.size))
       have hsv2 : v1.heap.size + 1 ≤ v2.heap.size := by first | exact h.size | omega
       have kPB0 : v2.cell? ⟨w.heap.size, 0, none⟩ = some (.int .i64 c) := (BoxAt.cell PB.out 0).trans rfl
       have kPB1 : v2.cell? ⟨w.heap.size, 1, none⟩ = some (.int .i64 m) := (BoxAt.cell PB.out 1).trans rfl
       have kPB2 : v2.cell? ⟨w.heap.size, 2, none⟩ = some (.bool k) := (BoxAt.cell PB.out 2).trans rfl
       have kPB3 : v2.cell? ⟨w.heap.size, 3, none⟩ = some (.slice sa M sc) := (BoxAt.cell PB.out 3).trans rfl
       clear b h z hfl FL2)
    | (have hfl := FL3.out
       refine wpList_new rfl 24 rfl _ Try.zeroSe ?_
       intro v3 b h z
       have RB := hid (show BoxAt v3 v2.heap.size 24 #[.int .i64 0, .int .i64 0, .bool false, .slice none 0 0] from b)
       have PB := hid (PB.out.belowAll h)
       have WB := hid (WB.out.belowAll h)
       have HB := hid (HB.out.trans (h.mono HB.out.size))
       have hsv3 : v2.heap.size + 1 ≤ v3.heap.size := by first | exact h.size | omega
       clear kPB0 kPB1 kPB2 kPB3
       have kPB0 : v3.cell? ⟨w.heap.size, 0, none⟩ = some (.int .i64 c) := (BoxAt.cell PB.out 0).trans rfl
       have kPB1 : v3.cell? ⟨w.heap.size, 1, none⟩ = some (.int .i64 m) := (BoxAt.cell PB.out 1).trans rfl
       have kPB2 : v3.cell? ⟨w.heap.size, 2, none⟩ = some (.bool k) := (BoxAt.cell PB.out 2).trans rfl
       have kPB3 : v3.cell? ⟨w.heap.size, 3, none⟩ = some (.slice sa M sc) := (BoxAt.cell PB.out 3).trans rfl
       clear b h z hfl FL3
       refine Hid.out ?_)
    | fail)
  refine hid ?_
  clear kPB0 kPB1 kPB2 kPB3
  have kPB0 : v3.cell? ⟨w.heap.size, 0, none⟩ = some (.int .i64 c) := (BoxAt.cell PB.out 0).trans rfl
  have kPB1 : v3.cell? ⟨w.heap.size, 1, none⟩ = some (.int .i64 m) := (BoxAt.cell PB.out 1).trans rfl
  have kPB2 : v3.cell? ⟨w.heap.size, 2, none⟩ = some (.bool k) := (BoxAt.cell PB.out 2).trans rfl
  have kPB3 : v3.cell? ⟨w.heap.size, 3, none⟩ = some (.slice sa M sc) := (BoxAt.cell PB.out 3).trans rfl
  have FL4 := hid trivial
  go_wp2_with (first
    | (have hfl := FL4.out
       at_builtin
       refine app_nilWt rfl (.tmp 9) rfl _ l rfl (HV.out.below HB.out) (by have := HL.out; omega) ?_
       intro uv4 v4 ho h
       obtain ⟨qv4, rfl, -⟩ := ho.sl
       have PB := hid (PB.out.belowAll h)
       have WB := hid (WB.out.belowAll h)
       have RB := hid (RB.out.belowAll h)
       have HB := hid (HB.out.trans (h.mono HB.out.size))
       have hsv4 : v3.heap.size ≤ v4.heap.size := by first | exact h.size | omega
       have HC := hid ho
       clear kPB0 kPB1 kPB2 kPB3
       have kPB0 : v4.cell? ⟨w.heap.size, 0, none⟩ = some (.int .i64 c) := (BoxAt.cell PB.out 0).trans rfl
       have kPB1 : v4.cell? ⟨w.heap.size, 1, none⟩ = some (.int .i64 m) := (BoxAt.cell PB.out 1).trans rfl
       have kPB2 : v4.cell? ⟨w.heap.size, 2, none⟩ = some (.bool k) := (BoxAt.cell PB.out 2).trans rfl
       have kPB3 : v4.cell? ⟨w.heap.size, 3, none⟩ = some (.slice sa M sc) := (BoxAt.cell PB.out 3).trans rfl
       clear ho h hfl FL4
       refine Hid.out ?_)
    | fail)
  refine hid ?_
  have HC := hid (HC.out.mono (base' := w.heap.size) (by omega))
  have FL5 := hid trivial
  go_wp2_with (first
    | (have hfl := FL5.out
       refine wpList_store_box rfl 22 _ _ rfl rfl (w.heap.size) 3 (.slice qv4.a qv4.n qv4.c) rfl rfl rfl rfl (by kernel_rfl) _ _ PB.out (by simp) ?_
       intro v5 b g z
       have hsv5 : v4.heap.size ≤ v5.heap.size := by omega
       have HC := hid (HC.out.put g PB.out (by decide))
       have PB := hid (show BoxAt v5 (w.heap.size) 24 #[.int .i64 c, .int .i64 m, .bool k, .slice qv4.a qv4.n qv4.c] from by simpa using b)
       have WB := hid (WB.out.grown g (fun e => by have := Option.some.inj e; omega))
       have RB := hid (RB.out.grown g (fun e => by have := Option.some.inj e; omega))
       have HB := hid (HB.out.trans (grown_below g (by omega) (by omega)))
       clear kPB0 kPB1 kPB2 kPB3
       have kPB0 : v5.cell? ⟨w.heap.size, 0, none⟩ = some (.int .i64 c) := (BoxAt.cell PB.out 0).trans rfl
       have kPB1 : v5.cell? ⟨w.heap.size, 1, none⟩ = some (.int .i64 m) := (BoxAt.cell PB.out 1).trans rfl
       have kPB2 : v5.cell? ⟨w.heap.size, 2, none⟩ = some (.bool k) := (BoxAt.cell PB.out 2).trans rfl
       have kPB3 : v5.cell? ⟨w.heap.size, 3, none⟩ = some (.slice qv4.a qv4.n qv4.c) := (BoxAt.cell PB.out 3).trans rfl
       clear b g z hfl FL5
       refine Hid.out ?_)
    | fail)
  refine hid ?_
  clear kPB0 kPB1 kPB2 kPB3
  have kPB0 : v5.cell? ⟨w.heap.size, 0, none⟩ = some (.int .i64 c) := (BoxAt.cell PB.out 0).trans rfl
  have kPB1 : v5.cell? ⟨w.heap.size, 1, none⟩ = some (.int .i64 m) := (BoxAt.cell PB.out 1).trans rfl
  have kPB2 : v5.cell? ⟨w.heap.size, 2, none⟩ = some (.bool k) := (BoxAt.cell PB.out 2).trans rfl
  have kPB3 : v5.cell? ⟨w.heap.size, 3, none⟩ = some (.slice qv4.a qv4.n qv4.c) := (BoxAt.cell PB.out 3).trans rfl
  go_wp2_with (first
    | (refine wpList_load_box rfl 26 _ rfl (v1.heap.size) rfl _ _ WB.out _ Try.underlying26 Try.infoWt ?_)
    | fail)
  have HBy := HB.out.size
  refine (radd_any ⟨p, r, v⟩ k HC.out.sees (by have := HL.out; omega)).mono ?_
  rintro e v6 ⟨uu, rfl, hu, hb⟩
  have PB := hid (PB.out.belowAll hb)
  have WB := hid (WB.out.belowAll hb)
  have RB := hid (RB.out.belowAll hb)
  have HC := hid (HC.out.below hb)
  have HB := hid (HB.out.trans (hb.mono HB.out.size))
  have hsv6 : v5.heap.size ≤ v6.heap.size := by first | exact hb.size | omega
  obtain ⟨u, rfl, -⟩ := hu.sl
  have HU := hid (hu.mono HBy)
  clear hu HBy HC
  clear kPB0 kPB1 kPB2 kPB3
  have kPB0 : v6.cell? ⟨w.heap.size, 0, none⟩ = some (.int .i64 c) := (BoxAt.cell PB.out 0).trans rfl
  have kPB1 : v6.cell? ⟨w.heap.size, 1, none⟩ = some (.int .i64 m) := (BoxAt.cell PB.out 1).trans rfl
  have kPB2 : v6.cell? ⟨w.heap.size, 2, none⟩ = some (.bool k) := (BoxAt.cell PB.out 2).trans rfl
  have kPB3 : v6.cell? ⟨w.heap.size, 3, none⟩ = some (.slice qv4.a qv4.n qv4.c) := (BoxAt.cell PB.out 3).trans rfl
  clear hb
  have FL6 := hid trivial
  have FL7 := hid trivial
  go_wp2_with (first
    | (have hfl := FL6.out
       refine wpList_store_box rfl 22 _ _ rfl rfl (w.heap.size) 3 (.slice u.a u.n u.c) rfl rfl rfl rfl (by kernel_rfl) _ _ PB.out (by simp) ?_
       intro v7 b g z
       have hsv7 : v6.heap.size ≤ v7.heap.size := by omega
       have HU := hid (HU.out.put g PB.out (by decide))
       have PB := hid (show BoxAt v7 (w.heap.size) 24 #[.int .i64 c, .int .i64 m, .bool k, .slice u.a u.n u.c] from by simpa using b)
       have WB := hid (WB.out.grown g (fun e => by have := Option.some.inj e; omega))
       have RB := hid (RB.out.grown g (fun e => by have := Option.some.inj e; omega))
       have HB := hid (HB.out.trans (grown_below g (by omega) (by omega)))
       clear kPB0 kPB1 kPB2 kPB3
       have kPB0 : v7.cell? ⟨w.heap.size, 0, none⟩ = some (.int .i64 c) := (BoxAt.cell PB.out 0).trans rfl
       have kPB1 : v7.cell? ⟨w.heap.size, 1, none⟩ = some (.int .i64 m) := (BoxAt.cell PB.out 1).trans rfl
       have kPB2 : v7.cell? ⟨w.heap.size, 2, none⟩ = some (.bool k) := (BoxAt.cell PB.out 2).trans rfl
       have kPB3 : v7.cell? ⟨w.heap.size, 3, none⟩ = some (.slice u.a u.n u.c) := (BoxAt.cell PB.out 3).trans rfl
       clear b g z hfl FL6)
    | (refine wpList_load_box rfl 24 _ rfl (w.heap.size) rfl _ _ PB.out _ Try.underlying24 Try.infoSe ?_)
    | (have hfl := FL7.out
       refine wpList_store_whole rfl 24 _ _ rfl rfl (v2.heap.size) rfl [.int .i64 c, .int .i64 m, .bool k, .slice u.a u.n u.c] rfl _ _ RB.out rfl Try.infoSe (by simp [Value.oneCell']) ?_
       intro v8 b g z
       have hsv8 : v7.heap.size ≤ v8.heap.size := by omega
       have HU := hid (HU.out.put g RB.out (by decide))
       have RB := hid (show BoxAt v8 (v2.heap.size) 24 #[.int .i64 c, .int .i64 m, .bool k, .slice u.a u.n u.c] from b)
       have PB := hid (PB.out.grown g (fun e => by have := Option.some.inj e; omega))
       have WB := hid (WB.out.grown g (fun e => by have := Option.some.inj e; omega))
       have HB := hid (HB.out.trans (grown_below g (by omega) (by omega)))
       clear kPB0 kPB1 kPB2 kPB3
       have kPB0 : v8.cell? ⟨w.heap.size, 0, none⟩ = some (.int .i64 c) := (BoxAt.cell PB.out 0).trans rfl
       have kPB1 : v8.cell? ⟨w.heap.size, 1, none⟩ = some (.int .i64 m) := (BoxAt.cell PB.out 1).trans rfl
       have kPB2 : v8.cell? ⟨w.heap.size, 2, none⟩ = some (.bool k) := (BoxAt.cell PB.out 2).trans rfl
       have kPB3 : v8.cell? ⟨w.heap.size, 3, none⟩ = some (.slice u.a u.n u.c) := (BoxAt.cell PB.out 3).trans rfl
       clear b g z hfl FL7)
    | fail)
  refine bodyPost_ret (results_box_tmp rfl _ _ (v2.heap.size) 24 _ (0, 0) _ rfl RB.out Try.underlying24 rfl Try.infoSe) rfl ?_
  exact ⟨u, rfl, HU.out, HB.out⟩

set_option maxRecDepth 100000 in
set_option maxHeartbeats 1600000 in
theorem rput_wake (c m : Int) (k : Bool) {s : Sl} {l : List Wt} (fp fr fv : Int) {w : World} (hs : SeesWt w s.val l) (hl : l.length ≤ 800000) (h1 : 0 < l.length) (hf : l.getD 0 Wt.zero = ⟨fp, fr, fv⟩) :
    Calls Try.prog 12 #[SeV.val ⟨c, m, k, s⟩] w fun e w' => ∃ (u q : Sl), e = .returned (.tuple #[SeV.val ⟨c, m, k, u⟩, .int .i64 (0), q.val]) ∧ SeesWt w' u.val (l.drop 1) ∧ OWk w' w.heap.size q.val ([⟨fp, 0, 0⟩]) ∧ Below w.heap.size w w' := by
  have HV := hid hs
  obtain ⟨a2, c2, hs1, hc1, hc2, -⟩ := hs.form
  obtain ⟨sa, sn, sc⟩ := s
  simp only [Sl.val, Value.slice.injEq] at hs1
  obtain ⟨rfl, rfl, rfl⟩ := hs1
  unfold maxLen at hc2
  simp only [Sl.val] at HV
  clear hs
  unfold SeV.val
  simp only
  obtain ⟨M, hM⟩ : ∃ M, l.length = M := ⟨_, rfl⟩
  have HM := hid hM
  have HL := hid hl
  rw [hM] at hl hc1 HV ⊢
  have H1 := hid h1
  clear hM h1
  have HB := hid (Below.refl w.heap.size w)
  go_enter Try.func12, Try.ntmps12
  have FL1 := hid trivial
  have FL2 := hid trivial
  go_wp2_with (first
    | (have hfl := FL1.out
       refine wpList_box rfl 24 (.tmp 0) rfl #[.int .i64 c, .int .i64 m, .bool k, .slice sa M sc] rfl ?_
       intro v1 b h z
       have PB := hid (show BoxAt v1 w.heap.size 24 #[.int .i64 c, .int .i64 m, .bool k, .slice sa M sc] from b)
       have HB := hid (HB.out.trans (h.mono HB.out.size))
       have hsv1 : w.heap.size + 1 ≤ v1.heap.size := by first | exact h.size | omega
       clear b h z hfl FL1)
    | (have hfl := FL2.out
       refine wpList_new rfl 24 rfl _ Try.zeroSe ?_
       intro v2 b h z
       have RB := hid (show BoxAt v2 v1.heap.size 24 #[.int .i64 0, .int .i64 0, .bool false, .slice none 0 0] from b)
       have PB := hid (PB.out.belowAll h)
       have HB := hid (HB.out.trans (h.mono HB.out.size))
       have hsv2 : v1.heap.size + 1 ≤ v2.heap.size := by first | exact h.size | omega
       have kPB0 : v2.cell? ⟨w.heap.size, 0, none⟩ = some (.int .i64 c) := (BoxAt.cell PB.out 0).trans rfl
       have kPB1 : v2.cell? ⟨w.heap.size, 1, none⟩ = some (.int .i64 m) := (BoxAt.cell PB.out 1).trans rfl
       have kPB2 : v2.cell? ⟨w.heap.size, 2, none⟩ = some (.bool k) := (BoxAt.cell PB.out 2).trans rfl
       have kPB3 : v2.cell? ⟨w.heap.size, 3, none⟩ = some (.slice sa M sc) := (BoxAt.cell PB.out 3).trans rfl
       clear b h z hfl FL2
       refine Hid.out ?_)
    | fail)
  refine hid ?_
  clear kPB0 kPB1 kPB2 kPB3
  have kPB0 : v2.cell? ⟨w.heap.size, 0, none⟩ = some (.int .i64 c) := (BoxAt.cell PB.out 0).trans rfl
  have kPB1 : v2.cell? ⟨w.heap.size, 1, none⟩ = some (.int .i64 m) := (BoxAt.cell PB.out 1).trans rfl
  have kPB2 : v2.cell? ⟨w.heap.size, 2, none⟩ = some (.bool k) := (BoxAt.cell PB.out 2).trans rfl
  have kPB3 : v2.cell? ⟨w.heap.size, 3, none⟩ = some (.slice sa M sc) := (BoxAt.cell PB.out 3).trans rfl
  go_wp2_with fail
  have HBf := HB.out.size
  refine (rfirst_yes (HV.out.below HB.out) HL.out H1.out fp fr fv hf).mono ?_
  rintro e v3 ⟨f, rfl, hu, hb⟩
  have PB := hid (PB.out.belowAll hb)
  have RB := hid (RB.out.belowAll hb)
  have HB := hid (HB.out.trans (hb.mono HB.out.size))
  have hsv3 : v2.heap.size ≤ v3.heap.size := by first | exact hb.size | omega
  have HF := hid (hu.mono HBf)
  clear hu HBf
  clear kPB0 kPB1 kPB2 kPB3
  have kPB0 : v3.cell? ⟨w.heap.size, 0, none⟩ = some (.int .i64 c) := (BoxAt.cell PB.out 0).trans rfl
  have kPB1 : v3.cell? ⟨w.heap.size, 1, none⟩ = some (.int .i64 m) := (BoxAt.cell PB.out 1).trans rfl
  have kPB2 : v3.cell? ⟨w.heap.size, 2, none⟩ = some (.bool k) := (BoxAt.cell PB.out 2).trans rfl
  have kPB3 : v3.cell? ⟨w.heap.size, 3, none⟩ = some (.slice sa M sc) := (BoxAt.cell PB.out 3).trans rfl
  clear hb
  have HFB := hid (fun k hk => (HF.out.lt k hk).2)
  have FL3 := hid trivial
  have FL4 := hid trivial
  go_wp2_with (first
    | (have hfl := FL3.out
       refine wpList_new rfl 26 rfl _ Try.zeroWt ?_
       intro v4 b h z
       have FB := hid (show BoxAt v4 v3.heap.size 26 #[.int .i64 0, .int .i64 0, .int .i64 0] from b)
       have PB := hid (PB.out.belowAll h)
       have RB := hid (RB.out.belowAll h)
       have HF := hid (HF.out.below h)
       have HB := hid (HB.out.trans (h.mono HB.out.size))
       have hsv4 : v3.heap.size + 1 ≤ v4.heap.size := by first | exact h.size | omega
       clear kPB0 kPB1 kPB2 kPB3
       have kPB0 : v4.cell? ⟨w.heap.size, 0, none⟩ = some (.int .i64 c) := (BoxAt.cell PB.out 0).trans rfl
       have kPB1 : v4.cell? ⟨w.heap.size, 1, none⟩ = some (.int .i64 m) := (BoxAt.cell PB.out 1).trans rfl
       have kPB2 : v4.cell? ⟨w.heap.size, 2, none⟩ = some (.bool k) := (BoxAt.cell PB.out 2).trans rfl
       have kPB3 : v4.cell? ⟨w.heap.size, 3, none⟩ = some (.slice sa M sc) := (BoxAt.cell PB.out 3).trans rfl
       clear b h z hfl FL3)
    | (have hfl := FL4.out
       refine wpList_store_whole rfl 26 _ _ rfl rfl (v3.heap.size) rfl [.int .i64 fp, .int .i64 fr, .int .i64 fv] rfl _ _ FB.out rfl Try.infoWt (by simp [Value.oneCell']) ?_
       intro v5 b g z
       have hsv5 : v4.heap.size ≤ v5.heap.size := by omega
       have HF := hid (HF.out.apart g (fun k hk => Nat.ne_of_lt (HFB.out k hk)))
       have FB := hid (show BoxAt v5 (v3.heap.size) 26 #[.int .i64 fp, .int .i64 fr, .int .i64 fv] from b)
       have PB := hid (PB.out.grown g (fun e => by have := Option.some.inj e; omega))
       have RB := hid (RB.out.grown g (fun e => by have := Option.some.inj e; omega))
       have HB := hid (HB.out.trans (grown_below g (by omega) (by omega)))
       clear kPB0 kPB1 kPB2 kPB3
       have kPB0 : v5.cell? ⟨w.heap.size, 0, none⟩ = some (.int .i64 c) := (BoxAt.cell PB.out 0).trans rfl
       have kPB1 : v5.cell? ⟨w.heap.size, 1, none⟩ = some (.int .i64 m) := (BoxAt.cell PB.out 1).trans rfl
       have kPB2 : v5.cell? ⟨w.heap.size, 2, none⟩ = some (.bool k) := (BoxAt.cell PB.out 2).trans rfl
       have kPB3 : v5.cell? ⟨w.heap.size, 3, none⟩ = some (.slice sa M sc) := (BoxAt.cell PB.out 3).trans rfl
       have kFB0 : v5.cell? ⟨v3.heap.size, 0, none⟩ = some (.int .i64 fp) := (BoxAt.cell FB.out 0).trans rfl
       clear b g z hfl FL4
       refine Hid.out ?_)
    | fail)
  refine hid ?_
  clear kPB0 kPB1 kPB2 kPB3 kFB0
  have kPB0 : v5.cell? ⟨w.heap.size, 0, none⟩ = some (.int .i64 c) := (BoxAt.cell PB.out 0).trans rfl
  have kPB1 : v5.cell? ⟨w.heap.size, 1, none⟩ = some (.int .i64 m) := (BoxAt.cell PB.out 1).trans rfl
  have kPB2 : v5.cell? ⟨w.heap.size, 2, none⟩ = some (.bool k) := (BoxAt.cell PB.out 2).trans rfl
  have kPB3 : v5.cell? ⟨w.heap.size, 3, none⟩ = some (.slice sa M sc) := (BoxAt.cell PB.out 3).trans rfl
  have kFB0 : v5.cell? ⟨v3.heap.size, 0, none⟩ = some (.int .i64 fp) := (BoxAt.cell FB.out 0).trans rfl
  have FL5 := hid trivial
  go_wp2_with (first
    | (have hfl := FL5.out
       refine wpList_store_box rfl 22 _ _ rfl rfl (w.heap.size) 3 (.slice f.a f.n f.c) rfl rfl rfl rfl (by kernel_rfl) _ _ PB.out (by simp) ?_
       intro v6 b g z
       have hsv6 : v5.heap.size ≤ v6.heap.size := by omega
       have HF := hid (HF.out.put g PB.out (by decide))
       have PB := hid (show BoxAt v6 (w.heap.size) 24 #[.int .i64 c, .int .i64 m, .bool k, .slice f.a f.n f.c] from by simpa using b)
       have RB := hid (RB.out.grown g (fun e => by have := Option.some.inj e; omega))
       have FB := hid (FB.out.grown g (fun e => by have := Option.some.inj e; omega))
       have HB := hid (HB.out.trans (grown_below g (by omega) (by omega)))
       clear kPB0 kPB1 kPB2 kPB3 kFB0
       have kPB0 : v6.cell? ⟨w.heap.size, 0, none⟩ = some (.int .i64 c) := (BoxAt.cell PB.out 0).trans rfl
       have kPB1 : v6.cell? ⟨w.heap.size, 1, none⟩ = some (.int .i64 m) := (BoxAt.cell PB.out 1).trans rfl
       have kPB2 : v6.cell? ⟨w.heap.size, 2, none⟩ = some (.bool k) := (BoxAt.cell PB.out 2).trans rfl
       have kPB3 : v6.cell? ⟨w.heap.size, 3, none⟩ = some (.slice f.a f.n f.c) := (BoxAt.cell PB.out 3).trans rfl
       have kFB0 : v6.cell? ⟨v3.heap.size, 0, none⟩ = some (.int .i64 fp) := (BoxAt.cell FB.out 0).trans rfl
       clear b g z hfl FL5
       refine Hid.out ?_)
    | fail)
  refine hid ?_
  clear kPB0 kPB1 kPB2 kPB3 kFB0
  have kPB0 : v6.cell? ⟨w.heap.size, 0, none⟩ = some (.int .i64 c) := (BoxAt.cell PB.out 0).trans rfl
  have kPB1 : v6.cell? ⟨w.heap.size, 1, none⟩ = some (.int .i64 m) := (BoxAt.cell PB.out 1).trans rfl
  have kPB2 : v6.cell? ⟨w.heap.size, 2, none⟩ = some (.bool k) := (BoxAt.cell PB.out 2).trans rfl
  have kPB3 : v6.cell? ⟨w.heap.size, 3, none⟩ = some (.slice f.a f.n f.c) := (BoxAt.cell PB.out 3).trans rfl
  have kFB0 : v6.cell? ⟨v3.heap.size, 0, none⟩ = some (.int .i64 fp) := (BoxAt.cell FB.out 0).trans rfl
  go_wp2_with fail
  clear kPB0 kPB1 kPB2 kPB3 kFB0
  have PB := hid (BoxAt.drew PB.out)
  have RB := hid (BoxAt.drew RB.out)
  have FB := hid (BoxAt.drew FB.out)
  have HF := hid (HF.out.below ((Below.refl v6.heap.size v6).drew))
  have HB := hid (HB.out.drew)
  have hsv7 : v6.heap.size ≤ v6.drew.heap.size := Nat.le_refl _
  refine wp_region_held_drew (S := (fun w' : World => BoxAt w' (v3.heap.size) 26 #[.int .i64 fp, .int .i64 fr, .int .i64 fv] ∧ BoxAt w' (w.heap.size) 24 #[.int .i64 c, .int .i64 m, .bool k, .slice f.a f.n f.c])) (by kernel_rfl) (⟨FB.out, PB.out⟩) (fun hHeld => ?_)
  generalize v6.drew = v7 at *
  refine wpAnyH_take (i := 0) (oi := { dst := some 18, op := Op.load 24 (Operand.tmp 1), type := 24, pos := "ref.go:28", after := _, guard := none }) (v := ?_) rfl (by kernel_rfl) (by kernel_rfl) (by kernel_rfl) (fun _ _ _ h => h) (Or.inl ⟨by rfl, ?_⟩) (by assumption) ?_
  rotate_left
  · (intro W hSw; (try dsimp only at hSw); obtain ⟨hs0S, hs1S⟩ := hSw; have c0_0 : W.cell? ⟨v3.heap.size, 0, none⟩ = some (.int .i64 fp) := (BoxAt.cell hs0S 0).trans rfl; have c0_1 : W.cell? ⟨v3.heap.size, 1, none⟩ = some (.int .i64 fr) := (BoxAt.cell hs0S 1).trans rfl; have c0_2 : W.cell? ⟨v3.heap.size, 2, none⟩ = some (.int .i64 fv) := (BoxAt.cell hs0S 2).trans rfl; have c1_0 : W.cell? ⟨w.heap.size, 0, none⟩ = some (.int .i64 c) := (BoxAt.cell hs1S 0).trans rfl; have c1_1 : W.cell? ⟨w.heap.size, 1, none⟩ = some (.int .i64 m) := (BoxAt.cell hs1S 1).trans rfl; have c1_2 : W.cell? ⟨w.heap.size, 2, none⟩ = some (.bool k) := (BoxAt.cell hs1S 2).trans rfl; have c1_3 : W.cell? ⟨w.heap.size, 3, none⟩ = some (.slice f.a f.n f.c) := (BoxAt.cell hs1S 3).trans rfl; clear hs0S hs1S; go_simp; try with_reducible rfl)
  simp only [Act.put, List.setIfInBounds_toArray, List.set_cons_zero, List.set_cons_succ]
  refine wpAnyH_take (i := 1) (oi := { dst := some 19, op := Op.fieldAddr 26 (Operand.tmp 5) 0, type := 0, pos := "ref.go:28", after := _, guard := none }) (v := ?_) rfl (by kernel_rfl) (by kernel_rfl) (by kernel_rfl) (fun _ _ _ h => h) (Or.inl ⟨by rfl, ?_⟩) (by assumption) ?_
  rotate_left
  · (intro w hSw; (try dsimp only at hSw); go_simp; try with_reducible rfl)
  simp only [Act.put, List.setIfInBounds_toArray, List.set_cons_zero, List.set_cons_succ]
  refine wpAnyH_take (i := 2) (oi := { dst := some 20, op := Op.load 3 (Operand.tmp 19), type := 3, pos := "ref.go:28", after := _, guard := none }) (v := ?_) rfl (by kernel_rfl) (by kernel_rfl) (by kernel_rfl) (fun _ _ _ h => h) (Or.inl ⟨by rfl, ?_⟩) (by assumption) ?_
  rotate_left
  · (intro W hSw; (try dsimp only at hSw); obtain ⟨hs0S, hs1S⟩ := hSw; have c0_0 : W.cell? ⟨v3.heap.size, 0, none⟩ = some (.int .i64 fp) := (BoxAt.cell hs0S 0).trans rfl; have c0_1 : W.cell? ⟨v3.heap.size, 1, none⟩ = some (.int .i64 fr) := (BoxAt.cell hs0S 1).trans rfl; have c0_2 : W.cell? ⟨v3.heap.size, 2, none⟩ = some (.int .i64 fv) := (BoxAt.cell hs0S 2).trans rfl; have c1_0 : W.cell? ⟨w.heap.size, 0, none⟩ = some (.int .i64 c) := (BoxAt.cell hs1S 0).trans rfl; have c1_1 : W.cell? ⟨w.heap.size, 1, none⟩ = some (.int .i64 m) := (BoxAt.cell hs1S 1).trans rfl; have c1_2 : W.cell? ⟨w.heap.size, 2, none⟩ = some (.bool k) := (BoxAt.cell hs1S 2).trans rfl; have c1_3 : W.cell? ⟨w.heap.size, 3, none⟩ = some (.slice f.a f.n f.c) := (BoxAt.cell hs1S 3).trans rfl; clear hs0S hs1S; go_simp; try with_reducible rfl)
  simp only [Act.put, List.setIfInBounds_toArray, List.set_cons_zero, List.set_cons_succ]
  refine wpAnyH_take (i := 3) (oi := { dst := some 21, op := Op.build 42 #[(0, Operand.tmp 20), (1, Operand.const (Value.int IntKind.i64 0))], type := 42, pos := "ref.go:28", after := _, guard := none }) (v := ?_) rfl (by kernel_rfl) (by kernel_rfl) (by kernel_rfl) (fun _ _ _ h => h) (Or.inl ⟨by rfl, ?_⟩) (by assumption) ?_
  rotate_left
  · (intro w hSw; (try dsimp only at hSw); go_simp; try with_reducible rfl)
  simp only [Act.put, List.setIfInBounds_toArray, List.set_cons_zero, List.set_cons_succ]
  refine wpAnyH_ready (rs := [4, 5]) (by kernel_rfl) (by simp) (AllReadyH.cons (o := { dst := some 22, op := Op.buildSlice 30 1 #[(0, Operand.tmp 21)], type := 30, pos := "ref.go:28", after := _, guard := none }) rfl (fun K1005 hK1005 => ?b1005_4) (AllReadyH.cons (o := { dst := none, op := Op.store 24 (Operand.tmp 2) (Operand.tmp 18), type := 0, pos := "ref.go:28", after := _, guard := none }) rfl (fun K1005 hK1005 => ?b1005_5) AllReadyH.nil))
  case' b1005_4 =>
    refine step_litk rfl (.tmp 21) rfl ((⟨fp, 0, 0⟩ : Wk)) rfl ?_
    intro v8 ho h
    have PB := hid (PB.out.belowAll h)
    have RB := hid (RB.out.belowAll h)
    have FB := hid (FB.out.belowAll h)
    have HF := hid (HF.out.below h)
    have HB := hid (HB.out.trans (h.mono HB.out.size))
    have hsv8 : v7.heap.size ≤ v8.heap.size := by first | exact h.size | omega
    have HQ := hid ho
    clear ho h
    refine hK1005.out _ _ (⟨FB.out, PB.out⟩) (fun hHeld1005 => ?_)
    clear hK1005 K1005
    try simp only [Act.put, List.setIfInBounds_toArray, List.set_cons_zero, List.set_cons_succ]
    refine wpAnyH_ready (rs := [5]) (by kernel_rfl) (by simp) (AllReadyH.cons (o := { dst := none, op := Op.store 24 (Operand.tmp 2) (Operand.tmp 18), type := 0, pos := "ref.go:28", after := _, guard := none }) rfl (fun K1006 hK1006 => ?_) AllReadyH.nil)
    refine step_store_whole rfl 24 _ _ rfl (v1.heap.size) rfl [.int .i64 c, .int .i64 m, .bool k, .slice f.a f.n f.c] rfl _ _ RB.out rfl Try.infoSe (by simp [Value.oneCell']) ?_
    intro v9 b g z
    have hsv9 : v8.heap.size ≤ v9.heap.size := by omega
    have HF := hid (HF.out.put g RB.out (by decide))
    have HQ := hid (HQ.out.put g RB.out (by decide))
    have RB := hid (show BoxAt v9 (v1.heap.size) 24 #[.int .i64 c, .int .i64 m, .bool k, .slice f.a f.n f.c] from b)
    have PB := hid (PB.out.grown g (fun e => by have := Option.some.inj e; omega))
    have FB := hid (FB.out.grown g (fun e => by have := Option.some.inj e; omega))
    have HB := hid (HB.out.trans (grown_below g (by omega) (by omega)))
    clear b g z
    refine hK1006.out _ _ (⟨FB.out, PB.out⟩) (fun hHeld1006 => ?_)
    clear hK1006 K1006
    try simp only [Act.put]
    refine wpAnyH_take (i := 6) (oi := { dst := some 3, op := Op.assign (Operand.const (Value.int IntKind.i64 0)), type := 3, pos := "ref.go:28", after := _, guard := none }) (v := ?_) rfl (by kernel_rfl) (by kernel_rfl) (by kernel_rfl) (fun _ _ _ h => h) (Or.inl ⟨by rfl, ?_⟩) (by assumption) ?_
    rotate_left
    · (intro w hSw; (try dsimp only at hSw); go_simp; try with_reducible rfl)
    simp only [Act.put, List.setIfInBounds_toArray, List.set_cons_zero, List.set_cons_succ]
    refine wpAnyH_take (i := 7) (oi := { dst := some 4, op := Op.assign (Operand.tmp 22), type := 30, pos := "ref.go:28", after := _, guard := none }) (v := ?_) rfl (by kernel_rfl) (by kernel_rfl) (by kernel_rfl) (fun _ _ _ h => h) (Or.inl ⟨by rfl, ?_⟩) (by assumption) ?_
    rotate_left
    · (intro w hSw; (try dsimp only at hSw); go_simp; try with_reducible rfl)
    simp only [Act.put, List.setIfInBounds_toArray, List.set_cons_zero, List.set_cons_succ]
    refine wpAnyH_done (by kernel_rfl) ?_ _
    clear hHeld hHeld1005 hHeld1006
    have kPB0 : v9.cell? ⟨w.heap.size, 0, none⟩ = some (.int .i64 c) := (BoxAt.cell PB.out 0).trans rfl
    have kPB1 : v9.cell? ⟨w.heap.size, 1, none⟩ = some (.int .i64 m) := (BoxAt.cell PB.out 1).trans rfl
    have kPB2 : v9.cell? ⟨w.heap.size, 2, none⟩ = some (.bool k) := (BoxAt.cell PB.out 2).trans rfl
    have kPB3 : v9.cell? ⟨w.heap.size, 3, none⟩ = some (.slice f.a f.n f.c) := (BoxAt.cell PB.out 3).trans rfl
    have kFB0 : v9.cell? ⟨v3.heap.size, 0, none⟩ = some (.int .i64 fp) := (BoxAt.cell FB.out 0).trans rfl
    go_wp2_with fail
    refine bodyPost_ret (results_box_tmp2 rfl _ _ (v1.heap.size) 24 _ (0, 0) _ rfl RB.out Try.underlying24 rfl Try.infoSe) rfl ?_
    exact ⟨f, ⟨some ⟨v7.heap.size, 0, none⟩, 1, 1⟩, rfl, HF.out.sees, HQ.out.mono (by omega), HB.out⟩
  case' b1005_5 =>
    refine step_store_whole rfl 24 _ _ rfl (v1.heap.size) rfl [.int .i64 c, .int .i64 m, .bool k, .slice f.a f.n f.c] rfl _ _ RB.out rfl Try.infoSe (by simp [Value.oneCell']) ?_
    intro v8 b g z
    have hsv8 : v7.heap.size ≤ v8.heap.size := by omega
    have HF := hid (HF.out.put g RB.out (by decide))
    have RB := hid (show BoxAt v8 (v1.heap.size) 24 #[.int .i64 c, .int .i64 m, .bool k, .slice f.a f.n f.c] from b)
    have PB := hid (PB.out.grown g (fun e => by have := Option.some.inj e; omega))
    have FB := hid (FB.out.grown g (fun e => by have := Option.some.inj e; omega))
    have HB := hid (HB.out.trans (grown_below g (by omega) (by omega)))
    clear b g z
    refine hK1005.out _ _ (⟨FB.out, PB.out⟩) (fun hHeld1005 => ?_)
    clear hK1005 K1005
    try simp only [Act.put]
    refine wpAnyH_take (i := 6) (oi := { dst := some 3, op := Op.assign (Operand.const (Value.int IntKind.i64 0)), type := 3, pos := "ref.go:28", after := _, guard := none }) (v := ?_) rfl (by kernel_rfl) (by kernel_rfl) (by kernel_rfl) (fun _ _ _ h => h) (Or.inl ⟨by rfl, ?_⟩) (by assumption) ?_
    rotate_left
    · (intro w hSw; (try dsimp only at hSw); go_simp; try with_reducible rfl)
    simp only [Act.put, List.setIfInBounds_toArray, List.set_cons_zero, List.set_cons_succ]
    refine wpAnyH_ready (rs := [4]) (by kernel_rfl) (by simp) (AllReadyH.cons (o := { dst := some 22, op := Op.buildSlice 30 1 #[(0, Operand.tmp 21)], type := 30, pos := "ref.go:28", after := _, guard := none }) rfl (fun K1010 hK1010 => ?_) AllReadyH.nil)
    refine step_litk rfl (.tmp 21) rfl ((⟨fp, 0, 0⟩ : Wk)) rfl ?_
    intro v9 ho h
    have PB := hid (PB.out.belowAll h)
    have RB := hid (RB.out.belowAll h)
    have FB := hid (FB.out.belowAll h)
    have HF := hid (HF.out.below h)
    have HB := hid (HB.out.trans (h.mono HB.out.size))
    have hsv9 : v8.heap.size ≤ v9.heap.size := by first | exact h.size | omega
    have HQ := hid ho
    clear ho h
    refine hK1010.out _ _ (⟨FB.out, PB.out⟩) (fun hHeld1010 => ?_)
    clear hK1010 K1010
    try simp only [Act.put, List.setIfInBounds_toArray, List.set_cons_zero, List.set_cons_succ]
    refine wpAnyH_take (i := 7) (oi := { dst := some 4, op := Op.assign (Operand.tmp 22), type := 30, pos := "ref.go:28", after := _, guard := none }) (v := ?_) rfl (by kernel_rfl) (by kernel_rfl) (by kernel_rfl) (fun _ _ _ h => h) (Or.inl ⟨by rfl, ?_⟩) (by assumption) ?_
    rotate_left
    · (intro w hSw; (try dsimp only at hSw); go_simp; try with_reducible rfl)
    simp only [Act.put, List.setIfInBounds_toArray, List.set_cons_zero, List.set_cons_succ]
    refine wpAnyH_done (by kernel_rfl) ?_ _
    clear hHeld hHeld1005 hHeld1010
    have kPB0 : v9.cell? ⟨w.heap.size, 0, none⟩ = some (.int .i64 c) := (BoxAt.cell PB.out 0).trans rfl
    have kPB1 : v9.cell? ⟨w.heap.size, 1, none⟩ = some (.int .i64 m) := (BoxAt.cell PB.out 1).trans rfl
    have kPB2 : v9.cell? ⟨w.heap.size, 2, none⟩ = some (.bool k) := (BoxAt.cell PB.out 2).trans rfl
    have kPB3 : v9.cell? ⟨w.heap.size, 3, none⟩ = some (.slice f.a f.n f.c) := (BoxAt.cell PB.out 3).trans rfl
    have kFB0 : v9.cell? ⟨v3.heap.size, 0, none⟩ = some (.int .i64 fp) := (BoxAt.cell FB.out 0).trans rfl
    go_wp2_with fail
    refine bodyPost_ret (results_box_tmp2 rfl _ _ (v1.heap.size) 24 _ (0, 0) _ rfl RB.out Try.underlying24 rfl Try.infoSe) rfl ?_
    exact ⟨f, ⟨some ⟨v8.heap.size, 0, none⟩, 1, 1⟩, rfl, HF.out.sees, HQ.out.mono (by omega), HB.out⟩

set_option maxRecDepth 100000 in
set_option maxHeartbeats 1600000 in
theorem rput_more (c m : Int) (k : Bool) {s : Sl} {l : List Wt} {w : World} (hs : SeesWt w s.val l) (hl : l.length ≤ 800000) (h1 : l.length = 0) (hd : c < m) :
    Calls Try.prog 12 #[SeV.val ⟨c, m, k, s⟩] w fun e w' => ∃ (u q : Sl), e = .returned (.tuple #[SeV.val ⟨wrap64 (c + 1), m, k, u⟩, .int .i64 (0), q.val]) ∧ SeesWt w' u.val (l) ∧ OWk w' w.heap.size q.val ([]) ∧ Below w.heap.size w w' := by
  have HV := hid hs
  obtain ⟨a2, c2, hs1, hc1, hc2, -⟩ := hs.form
  obtain ⟨sa, sn, sc⟩ := s
  simp only [Sl.val, Value.slice.injEq] at hs1
  obtain ⟨rfl, rfl, rfl⟩ := hs1
  unfold maxLen at hc2
  simp only [Sl.val] at HV
  clear hs
  unfold SeV.val
  simp only
  obtain ⟨M, hM⟩ : ∃ M, l.length = M := ⟨_, rfl⟩
  have HM := hid hM
  have HL := hid hl
  rw [hM] at hl hc1 HV ⊢
  have H1 := hid h1
  clear hM h1
  have HB := hid (Below.refl w.heap.size w)
  go_enter Try.func12, Try.ntmps12
  have FL1 := hid trivial
  have FL2 := hid trivial
  go_wp2_with (first
    | (have hfl := FL1.out
       refine wpList_box rfl 24 (.tmp 0) rfl #[.int .i64 c, .int .i64 m, .bool k, .slice sa M sc] rfl ?_
       intro v1 b h z
       have PB := hid (show BoxAt v1 w.heap.size 24 #[.int .i64 c, .int .i64 m, .bool k, .slice sa M sc] from b)
       have HB := hid (HB.out.trans (h.mono HB.out.size))
       have hsv1 : w.heap.size + 1 ≤ v1.heap.size := by first | exact h.size | omega
       clear b h z hfl FL1)
    | (have hfl := FL2.out
       refine wpList_new rfl 24 rfl _ Try.zeroSe ?_
       intro v2 b h z
       have RB := hid (show BoxAt v2 v1.heap.size 24 #[.int .i64 0, .int .i64 0, .bool false, .slice none 0 0] from b)
       have PB := hid (PB.out.belowAll h)
       have HB := hid (HB.out.trans (h.mono HB.out.size))
       have hsv2 : v1.heap.size + 1 ≤ v2.heap.size := by first | exact h.size | omega
       have kPB0 : v2.cell? ⟨w.heap.size, 0, none⟩ = some (.int .i64 c) := (BoxAt.cell PB.out 0).trans rfl
       have kPB1 : v2.cell? ⟨w.heap.size, 1, none⟩ = some (.int .i64 m) := (BoxAt.cell PB.out 1).trans rfl
       have kPB2 : v2.cell? ⟨w.heap.size, 2, none⟩ = some (.bool k) := (BoxAt.cell PB.out 2).trans rfl
       have kPB3 : v2.cell? ⟨w.heap.size, 3, none⟩ = some (.slice sa M sc) := (BoxAt.cell PB.out 3).trans rfl
       clear b h z hfl FL2
       refine Hid.out ?_)
    | fail)
  refine hid ?_
  clear kPB0 kPB1 kPB2 kPB3
  have kPB0 : v2.cell? ⟨w.heap.size, 0, none⟩ = some (.int .i64 c) := (BoxAt.cell PB.out 0).trans rfl
  have kPB1 : v2.cell? ⟨w.heap.size, 1, none⟩ = some (.int .i64 m) := (BoxAt.cell PB.out 1).trans rfl
  have kPB2 : v2.cell? ⟨w.heap.size, 2, none⟩ = some (.bool k) := (BoxAt.cell PB.out 2).trans rfl
  have kPB3 : v2.cell? ⟨w.heap.size, 3, none⟩ = some (.slice sa M sc) := (BoxAt.cell PB.out 3).trans rfl
  go_wp2_with fail
  have HBf := HB.out.size
  refine (rfirst_no (HV.out.below HB.out) H1.out).mono ?_
  rintro e v3 ⟨f, rfl, hu, hb⟩
  have PB := hid (PB.out.belowAll hb)
  have RB := hid (RB.out.belowAll hb)
  have HB := hid (HB.out.trans (hb.mono HB.out.size))
  have hsv3 : v2.heap.size ≤ v3.heap.size := by first | exact hb.size | omega
  have HF := hid (hu.mono HBf)
  clear hu HBf
  clear kPB0 kPB1 kPB2 kPB3
  have kPB0 : v3.cell? ⟨w.heap.size, 0, none⟩ = some (.int .i64 c) := (BoxAt.cell PB.out 0).trans rfl
  have kPB1 : v3.cell? ⟨w.heap.size, 1, none⟩ = some (.int .i64 m) := (BoxAt.cell PB.out 1).trans rfl
  have kPB2 : v3.cell? ⟨w.heap.size, 2, none⟩ = some (.bool k) := (BoxAt.cell PB.out 2).trans rfl
  have kPB3 : v3.cell? ⟨w.heap.size, 3, none⟩ = some (.slice sa M sc) := (BoxAt.cell PB.out 3).trans rfl
  clear hb
  have HFB := hid (fun k hk => (HF.out.lt k hk).2)
  have FL3 := hid trivial
  have FL4 := hid trivial
  go_wp2_with (first
    | (have hfl := FL3.out
       refine wpList_new rfl 26 rfl _ Try.zeroWt ?_
       intro v4 b h z
       have FB := hid (show BoxAt v4 v3.heap.size 26 #[.int .i64 0, .int .i64 0, .int .i64 0] from b)
       have PB := hid (PB.out.belowAll h)
       have RB := hid (RB.out.belowAll h)
       have HF := hid (HF.out.below h)
       have HB := hid (HB.out.trans (h.mono HB.out.size))
       have hsv4 : v3.heap.size + 1 ≤ v4.heap.size := by first | exact h.size | omega
       clear kPB0 kPB1 kPB2 kPB3
       have kPB0 : v4.cell? ⟨w.heap.size, 0, none⟩ = some (.int .i64 c) := (BoxAt.cell PB.out 0).trans rfl
       have kPB1 : v4.cell? ⟨w.heap.size, 1, none⟩ = some (.int .i64 m) := (BoxAt.cell PB.out 1).trans rfl
       have kPB2 : v4.cell? ⟨w.heap.size, 2, none⟩ = some (.bool k) := (BoxAt.cell PB.out 2).trans rfl
       have kPB3 : v4.cell? ⟨w.heap.size, 3, none⟩ = some (.slice sa M sc) := (BoxAt.cell PB.out 3).trans rfl
       clear b h z hfl FL3)
    | (have hfl := FL4.out
       refine wpList_store_whole rfl 26 _ _ rfl rfl (v3.heap.size) rfl [.int .i64 0, .int .i64 0, .int .i64 0] rfl _ _ FB.out rfl Try.infoWt (by simp [Value.oneCell']) ?_
       intro v5 b g z
       have hsv5 : v4.heap.size ≤ v5.heap.size := by omega
       have HF := hid (HF.out.apart g (fun k hk => Nat.ne_of_lt (HFB.out k hk)))
       have FB := hid (show BoxAt v5 (v3.heap.size) 26 #[.int .i64 0, .int .i64 0, .int .i64 0] from b)
       have PB := hid (PB.out.grown g (fun e => by have := Option.some.inj e; omega))
       have RB := hid (RB.out.grown g (fun e => by have := Option.some.inj e; omega))
       have HB := hid (HB.out.trans (grown_below g (by omega) (by omega)))
       clear kPB0 kPB1 kPB2 kPB3
       have kPB0 : v5.cell? ⟨w.heap.size, 0, none⟩ = some (.int .i64 c) := (BoxAt.cell PB.out 0).trans rfl
       have kPB1 : v5.cell? ⟨w.heap.size, 1, none⟩ = some (.int .i64 m) := (BoxAt.cell PB.out 1).trans rfl
       have kPB2 : v5.cell? ⟨w.heap.size, 2, none⟩ = some (.bool k) := (BoxAt.cell PB.out 2).trans rfl
       have kPB3 : v5.cell? ⟨w.heap.size, 3, none⟩ = some (.slice sa M sc) := (BoxAt.cell PB.out 3).trans rfl
       have kFB0 : v5.cell? ⟨v3.heap.size, 0, none⟩ = some (.int .i64 0) := (BoxAt.cell FB.out 0).trans rfl
       clear b g z hfl FL4
       refine Hid.out ?_)
    | fail)
  refine hid ?_
  clear kPB0 kPB1 kPB2 kPB3 kFB0
  have kPB0 : v5.cell? ⟨w.heap.size, 0, none⟩ = some (.int .i64 c) := (BoxAt.cell PB.out 0).trans rfl
  have kPB1 : v5.cell? ⟨w.heap.size, 1, none⟩ = some (.int .i64 m) := (BoxAt.cell PB.out 1).trans rfl
  have kPB2 : v5.cell? ⟨w.heap.size, 2, none⟩ = some (.bool k) := (BoxAt.cell PB.out 2).trans rfl
  have kPB3 : v5.cell? ⟨w.heap.size, 3, none⟩ = some (.slice sa M sc) := (BoxAt.cell PB.out 3).trans rfl
  have kFB0 : v5.cell? ⟨v3.heap.size, 0, none⟩ = some (.int .i64 0) := (BoxAt.cell FB.out 0).trans rfl
  have FL5 := hid trivial
  have FL6 := hid trivial
  go_wp2_with (first
    | (have hfl := FL5.out
       refine wpList_store_box rfl 3 _ _ rfl rfl (w.heap.size) 0 (.int .i64 (wrap64 (c + 1))) rfl rfl rfl rfl (by kernel_rfl) _ _ PB.out (by simp) ?_
       intro v6 b g z
       have hsv6 : v5.heap.size ≤ v6.heap.size := by omega
       have HF := hid (HF.out.put g PB.out (by decide))
       have PB := hid (show BoxAt v6 (w.heap.size) 24 #[.int .i64 (wrap64 (c + 1)), .int .i64 m, .bool k, .slice sa M sc] from by simpa using b)
       have RB := hid (RB.out.grown g (fun e => by have := Option.some.inj e; omega))
       have FB := hid (FB.out.grown g (fun e => by have := Option.some.inj e; omega))
       have HB := hid (HB.out.trans (grown_below g (by omega) (by omega)))
       clear kPB0 kPB1 kPB2 kPB3 kFB0
       have kPB0 : v6.cell? ⟨w.heap.size, 0, none⟩ = some (.int .i64 (wrap64 (c + 1))) := (BoxAt.cell PB.out 0).trans rfl
       have kPB1 : v6.cell? ⟨w.heap.size, 1, none⟩ = some (.int .i64 m) := (BoxAt.cell PB.out 1).trans rfl
       have kPB2 : v6.cell? ⟨w.heap.size, 2, none⟩ = some (.bool k) := (BoxAt.cell PB.out 2).trans rfl
       have kPB3 : v6.cell? ⟨w.heap.size, 3, none⟩ = some (.slice sa M sc) := (BoxAt.cell PB.out 3).trans rfl
       have kFB0 : v6.cell? ⟨v3.heap.size, 0, none⟩ = some (.int .i64 0) := (BoxAt.cell FB.out 0).trans rfl
       clear b g z hfl FL5)
    | (refine wpList_load_box rfl 24 _ rfl (w.heap.size) rfl _ _ PB.out _ Try.underlying24 Try.infoSe ?_)
    | (have hfl := FL6.out
       refine wpList_store_whole rfl 24 _ _ rfl rfl (v1.heap.size) rfl [.int .i64 (wrap64 (c + 1)), .int .i64 m, .bool k, .slice sa M sc] rfl _ _ RB.out rfl Try.infoSe (by simp [Value.oneCell']) ?_
       intro v7 b g z
       have hsv7 : v6.heap.size ≤ v7.heap.size := by omega
       have HF := hid (HF.out.put g RB.out (by decide))
       have RB := hid (show BoxAt v7 (v1.heap.size) 24 #[.int .i64 (wrap64 (c + 1)), .int .i64 m, .bool k, .slice sa M sc] from b)
       have PB := hid (PB.out.grown g (fun e => by have := Option.some.inj e; omega))
       have FB := hid (FB.out.grown g (fun e => by have := Option.some.inj e; omega))
       have HB := hid (HB.out.trans (grown_below g (by omega) (by omega)))
       clear kPB0 kPB1 kPB2 kPB3 kFB0
       have kPB0 : v7.cell? ⟨w.heap.size, 0, none⟩ = some (.int .i64 (wrap64 (c + 1))) := (BoxAt.cell PB.out 0).trans rfl
       have kPB1 : v7.cell? ⟨w.heap.size, 1, none⟩ = some (.int .i64 m) := (BoxAt.cell PB.out 1).trans rfl
       have kPB2 : v7.cell? ⟨w.heap.size, 2, none⟩ = some (.bool k) := (BoxAt.cell PB.out 2).trans rfl
       have kPB3 : v7.cell? ⟨w.heap.size, 3, none⟩ = some (.slice sa M sc) := (BoxAt.cell PB.out 3).trans rfl
       have kFB0 : v7.cell? ⟨v3.heap.size, 0, none⟩ = some (.int .i64 0) := (BoxAt.cell FB.out 0).trans rfl
       clear b g z hfl FL6)
    | fail)
  refine bodyPost_ret (results_box_tmp2 rfl _ _ (v1.heap.size) 24 _ (0, 0) _ rfl RB.out Try.underlying24 rfl Try.infoSe) rfl ?_
  exact ⟨⟨sa, M, sc⟩, ⟨none, 0, 0⟩, rfl, (HV.out.below HB.out), OWk.nil _ _, HB.out⟩

set_option maxRecDepth 100000 in
set_option maxHeartbeats 1600000 in
theorem rput_full (c m : Int) (k : Bool) {s : Sl} {l : List Wt} {w : World} (hs : SeesWt w s.val l) (hl : l.length ≤ 800000) (h1 : l.length = 0) (hd : ¬ c < m) :
    Calls Try.prog 12 #[SeV.val ⟨c, m, k, s⟩] w fun e w' => ∃ (u q : Sl), e = .returned (.tuple #[SeV.val ⟨c, m, k, u⟩, .int .i64 (1), q.val]) ∧ SeesWt w' u.val (l) ∧ OWk w' w.heap.size q.val ([]) ∧ Below w.heap.size w w' := by
  have HV := hid hs
  obtain ⟨a2, c2, hs1, hc1, hc2, -⟩ := hs.form
  obtain ⟨sa, sn, sc⟩ := s
  simp only [Sl.val, Value.slice.injEq] at hs1
  obtain ⟨rfl, rfl, rfl⟩ := hs1
  unfold maxLen at hc2
  simp only [Sl.val] at HV
  clear hs
  unfold SeV.val
  simp only
  obtain ⟨M, hM⟩ : ∃ M, l.length = M := ⟨_, rfl⟩
  have HM := hid hM
  have HL := hid hl
  rw [hM] at hl hc1 HV ⊢
  have H1 := hid h1
  clear hM h1
  have HB := hid (Below.refl w.heap.size w)
  go_enter Try.func12, Try.ntmps12
  have FL1 := hid trivial
  have FL2 := hid trivial
  go_wp2_with (first
    | (have hfl := FL1.out
       refine wpList_box rfl 24 (.tmp 0) rfl #[.int .i64 c, .int .i64 m, .bool k, .slice sa M sc] rfl ?_
       intro v1 b h z
       have PB := hid (show BoxAt v1 w.heap.size 24 #[.int .i64 c, .int .i64 m, .bool k, .slice sa M sc] from b)
       have HB := hid (HB.out.trans (h.mono HB.out.size))
       have hsv1 : w.heap.size + 1 ≤ v1.heap.size := by first | exact h.size | omega
       clear b h z hfl FL1)
    | (have hfl := FL2.out
       refine wpList_new rfl 24 rfl _ Try.zeroSe ?_
       intro v2 b h z
       have RB := hid (show BoxAt v2 v1.heap.size 24 #[.int .i64 0, .int .i64 0, .bool false, .slice none 0 0] from b)
       have PB := hid (PB.out.belowAll h)
       have HB := hid (HB.out.trans (h.mono HB.out.size))
       have hsv2 : v1.heap.size + 1 ≤ v2.heap.size := by first | exact h.size | omega
       have kPB0 : v2.cell? ⟨w.heap.size, 0, none⟩ = some (.int .i64 c) := (BoxAt.cell PB.out 0).trans rfl
       have kPB1 : v2.cell? ⟨w.heap.size, 1, none⟩ = some (.int .i64 m) := (BoxAt.cell PB.out 1).trans rfl
       have kPB2 : v2.cell? ⟨w.heap.size, 2, none⟩ = some (.bool k) := (BoxAt.cell PB.out 2).trans rfl
       have kPB3 : v2.cell? ⟨w.heap.size, 3, none⟩ = some (.slice sa M sc) := (BoxAt.cell PB.out 3).trans rfl
       clear b h z hfl FL2
       refine Hid.out ?_)
    | fail)
  refine hid ?_
  clear kPB0 kPB1 kPB2 kPB3
  have kPB0 : v2.cell? ⟨w.heap.size, 0, none⟩ = some (.int .i64 c) := (BoxAt.cell PB.out 0).trans rfl
  have kPB1 : v2.cell? ⟨w.heap.size, 1, none⟩ = some (.int .i64 m) := (BoxAt.cell PB.out 1).trans rfl
  have kPB2 : v2.cell? ⟨w.heap.size, 2, none⟩ = some (.bool k) := (BoxAt.cell PB.out 2).trans rfl
  have kPB3 : v2.cell? ⟨w.heap.size, 3, none⟩ = some (.slice sa M sc) := (BoxAt.cell PB.out 3).trans rfl
  go_wp2_with fail
  have HBf := HB.out.size
  refine (rfirst_no (HV.out.below HB.out) H1.out).mono ?_
  rintro e v3 ⟨f, rfl, hu, hb⟩
  have PB := hid (PB.out.belowAll hb)
  have RB := hid (RB.out.belowAll hb)
  have HB := hid (HB.out.trans (hb.mono HB.out.size))
  have hsv3 : v2.heap.size ≤ v3.heap.size := by first | exact hb.size | omega
  have HF := hid (hu.mono HBf)
  clear hu HBf
  clear kPB0 kPB1 kPB2 kPB3
  have kPB0 : v3.cell? ⟨w.heap.size, 0, none⟩ = some (.int .i64 c) := (BoxAt.cell PB.out 0).trans rfl
  have kPB1 : v3.cell? ⟨w.heap.size, 1, none⟩ = some (.int .i64 m) := (BoxAt.cell PB.out 1).trans rfl
  have kPB2 : v3.cell? ⟨w.heap.size, 2, none⟩ = some (.bool k) := (BoxAt.cell PB.out 2).trans rfl
  have kPB3 : v3.cell? ⟨w.heap.size, 3, none⟩ = some (.slice sa M sc) := (BoxAt.cell PB.out 3).trans rfl
  clear hb
  have HFB := hid (fun k hk => (HF.out.lt k hk).2)
  have FL3 := hid trivial
  have FL4 := hid trivial
  go_wp2_with (first
    | (have hfl := FL3.out
       refine wpList_new rfl 26 rfl _ Try.zeroWt ?_
       intro v4 b h z
       have FB := hid (show BoxAt v4 v3.heap.size 26 #[.int .i64 0, .int .i64 0, .int .i64 0] from b)
       have PB := hid (PB.out.belowAll h)
       have RB := hid (RB.out.belowAll h)
       have HF := hid (HF.out.below h)
       have HB := hid (HB.out.trans (h.mono HB.out.size))
       have hsv4 : v3.heap.size + 1 ≤ v4.heap.size := by first | exact h.size | omega
       clear kPB0 kPB1 kPB2 kPB3
       have kPB0 : v4.cell? ⟨w.heap.size, 0, none⟩ = some (.int .i64 c) := (BoxAt.cell PB.out 0).trans rfl
       have kPB1 : v4.cell? ⟨w.heap.size, 1, none⟩ = some (.int .i64 m) := (BoxAt.cell PB.out 1).trans rfl
       have kPB2 : v4.cell? ⟨w.heap.size, 2, none⟩ = some (.bool k) := (BoxAt.cell PB.out 2).trans rfl
       have kPB3 : v4.cell? ⟨w.heap.size, 3, none⟩ = some (.slice sa M sc) := (BoxAt.cell PB.out 3).trans rfl
       clear b h z hfl FL3)
    | (have hfl := FL4.out
       refine wpList_store_whole rfl 26 _ _ rfl rfl (v3.heap.size) rfl [.int .i64 0, .int .i64 0, .int .i64 0] rfl _ _ FB.out rfl Try.infoWt (by simp [Value.oneCell']) ?_
       intro v5 b g z
       have hsv5 : v4.heap.size ≤ v5.heap.size := by omega
       have HF := hid (HF.out.apart g (fun k hk => Nat.ne_of_lt (HFB.out k hk)))
       have FB := hid (show BoxAt v5 (v3.heap.size) 26 #[.int .i64 0, .int .i64 0, .int .i64 0] from b)
       have PB := hid (PB.out.grown g (fun e => by have := Option.some.inj e; omega))
       have RB := hid (RB.out.grown g (fun e => by have := Option.some.inj e; omega))
       have HB := hid (HB.out.trans (grown_below g (by omega) (by omega)))
       clear kPB0 kPB1 kPB2 kPB3
       have kPB0 : v5.cell? ⟨w.heap.size, 0, none⟩ = some (.int .i64 c) := (BoxAt.cell PB.out 0).trans rfl
       have kPB1 : v5.cell? ⟨w.heap.size, 1, none⟩ = some (.int .i64 m) := (BoxAt.cell PB.out 1).trans rfl
       have kPB2 : v5.cell? ⟨w.heap.size, 2, none⟩ = some (.bool k) := (BoxAt.cell PB.out 2).trans rfl
       have kPB3 : v5.cell? ⟨w.heap.size, 3, none⟩ = some (.slice sa M sc) := (BoxAt.cell PB.out 3).trans rfl
       have kFB0 : v5.cell? ⟨v3.heap.size, 0, none⟩ = some (.int .i64 0) := (BoxAt.cell FB.out 0).trans rfl
       clear b g z hfl FL4
       refine Hid.out ?_)
    | fail)
  refine hid ?_
  clear kPB0 kPB1 kPB2 kPB3 kFB0
  have kPB0 : v5.cell? ⟨w.heap.size, 0, none⟩ = some (.int .i64 c) := (BoxAt.cell PB.out 0).trans rfl
  have kPB1 : v5.cell? ⟨w.heap.size, 1, none⟩ = some (.int .i64 m) := (BoxAt.cell PB.out 1).trans rfl
  have kPB2 : v5.cell? ⟨w.heap.size, 2, none⟩ = some (.bool k) := (BoxAt.cell PB.out 2).trans rfl
  have kPB3 : v5.cell? ⟨w.heap.size, 3, none⟩ = some (.slice sa M sc) := (BoxAt.cell PB.out 3).trans rfl
  have kFB0 : v5.cell? ⟨v3.heap.size, 0, none⟩ = some (.int .i64 0) := (BoxAt.cell FB.out 0).trans rfl
  have FL5 := hid trivial
  go_wp2_with (first
    | (refine wpList_load_box rfl 24 _ rfl (w.heap.size) rfl _ _ PB.out _ Try.underlying24 Try.infoSe ?_)
    | (have hfl := FL5.out
       refine wpList_store_whole rfl 24 _ _ rfl rfl (v1.heap.size) rfl [.int .i64 c, .int .i64 m, .bool k, .slice sa M sc] rfl _ _ RB.out rfl Try.infoSe (by simp [Value.oneCell']) ?_
       intro v6 b g z
       have hsv6 : v5.heap.size ≤ v6.heap.size := by omega
       have HF := hid (HF.out.put g RB.out (by decide))
       have RB := hid (show BoxAt v6 (v1.heap.size) 24 #[.int .i64 c, .int .i64 m, .bool k, .slice sa M sc] from b)
       have PB := hid (PB.out.grown g (fun e => by have := Option.some.inj e; omega))
       have FB := hid (FB.out.grown g (fun e => by have := Option.some.inj e; omega))
       have HB := hid (HB.out.trans (grown_below g (by omega) (by omega)))
       clear kPB0 kPB1 kPB2 kPB3 kFB0
       have kPB0 : v6.cell? ⟨w.heap.size, 0, none⟩ = some (.int .i64 c) := (BoxAt.cell PB.out 0).trans rfl
       have kPB1 : v6.cell? ⟨w.heap.size, 1, none⟩ = some (.int .i64 m) := (BoxAt.cell PB.out 1).trans rfl
       have kPB2 : v6.cell? ⟨w.heap.size, 2, none⟩ = some (.bool k) := (BoxAt.cell PB.out 2).trans rfl
       have kPB3 : v6.cell? ⟨w.heap.size, 3, none⟩ = some (.slice sa M sc) := (BoxAt.cell PB.out 3).trans rfl
       have kFB0 : v6.cell? ⟨v3.heap.size, 0, none⟩ = some (.int .i64 0) := (BoxAt.cell FB.out 0).trans rfl
       clear b g z hfl FL5)
    | fail)
  refine bodyPost_ret (results_box_tmp2 rfl _ _ (v1.heap.size) 24 _ (0, 0) _ rfl RB.out Try.underlying24 rfl Try.infoSe) rfl ?_
  exact ⟨⟨sa, M, sc⟩, ⟨none, 0, 0⟩, rfl, (HV.out.below HB.out), OWk.nil _ _, HB.out⟩

set_option maxRecDepth 100000 in
set_option maxHeartbeats 1600000 in
theorem rsame_any (c m : Int) (k : Bool) {s r : Sl} {l : List Wt} {w : World} (hs : SeesWt w s.val l) (hr : SeesWt w r.val l) :
    Calls Try.prog 13 #[SeV.val ⟨c, m, k, s⟩, SeV.val ⟨c, m, k, r⟩] w fun e w' => e = .returned (.bool true) ∧ Below w.heap.size w w' := by
  have HS := hid hs
  have HR := hid hr
  clear hs hr
  unfold SeV.val
  simp only
  have hii : (k == k) = true := by cases k <;> rfl
  have hvv : (c == c) = true := by simp
  have hmm : (m == m) = true := by simp
  have HB := hid (Below.refl w.heap.size w)
  go_enter Try.func13, Try.ntmps13
  have FL1 := hid trivial
  have FL2 := hid trivial
  go_wp2_with (first
    | (have hfl := FL1.out
       refine wpList_box rfl 24 (.tmp 0) rfl #[.int .i64 c, .int .i64 m, .bool k, .slice s.a s.n s.c] rfl ?_
       intro v1 b h z
       have PA := hid (show BoxAt v1 w.heap.size 24 #[.int .i64 c, .int .i64 m, .bool k, .slice s.a s.n s.c] from b)
       have HB := hid (HB.out.trans (h.mono HB.out.size))
       have hsv1 : w.heap.size + 1 ≤ v1.heap.size := by first | exact h.size | omega
       clear b h z hfl FL1)
    | (have hfl := FL2.out
       refine wpList_box rfl 24 (.tmp 1) rfl #[.int .i64 c, .int .i64 m, .bool k, .slice r.a r.n r.c] rfl ?_
       intro v2 b h z
       have PB := hid (show BoxAt v2 v1.heap.size 24 #[.int .i64 c, .int .i64 m, .bool k, .slice r.a r.n r.c] from b)
       have PA := hid (PA.out.belowAll h)
       have HB := hid (HB.out.trans (h.mono HB.out.size))
       have hsv2 : v1.heap.size + 1 ≤ v2.heap.size := by first | exact h.size | omega
       clear b h z hfl FL2
       refine Hid.out ?_)
    | fail)
  refine hid ?_
  have kPA0 : v2.cell? ⟨w.heap.size, 0, none⟩ = some (.int .i64 c) := (BoxAt.cell PA.out 0).trans rfl
  have kPA1 : v2.cell? ⟨w.heap.size, 1, none⟩ = some (.int .i64 m) := (BoxAt.cell PA.out 1).trans rfl
  have kPA2 : v2.cell? ⟨w.heap.size, 2, none⟩ = some (.bool k) := (BoxAt.cell PA.out 2).trans rfl
  have kPA3 : v2.cell? ⟨w.heap.size, 3, none⟩ = some (.slice s.a s.n s.c) := (BoxAt.cell PA.out 3).trans rfl
  have kPB0 : v2.cell? ⟨v1.heap.size, 0, none⟩ = some (.int .i64 c) := (BoxAt.cell PB.out 0).trans rfl
  have kPB1 : v2.cell? ⟨v1.heap.size, 1, none⟩ = some (.int .i64 m) := (BoxAt.cell PB.out 1).trans rfl
  have kPB2 : v2.cell? ⟨v1.heap.size, 2, none⟩ = some (.bool k) := (BoxAt.cell PB.out 2).trans rfl
  have kPB3 : v2.cell? ⟨v1.heap.size, 3, none⟩ = some (.slice r.a r.n r.c) := (BoxAt.cell PB.out 3).trans rfl
  go_wp2_with fail
  refine (same_Wt (HS.out.below HB.out) (HR.out.below HB.out)).mono ?_
  rintro e v3 ⟨rfl, hb⟩
  have PA := hid (PA.out.belowAll hb)
  have PB := hid (PB.out.belowAll hb)
  have HB := hid (HB.out.trans (hb.mono HB.out.size))
  have hsv3 : v2.heap.size ≤ v3.heap.size := by first | exact hb.size | omega
  clear kPA0 kPA1 kPA2 kPA3 kPB0 kPB1 kPB2 kPB3
  have kPA0 : v3.cell? ⟨w.heap.size, 0, none⟩ = some (.int .i64 c) := (BoxAt.cell PA.out 0).trans rfl
  have kPA1 : v3.cell? ⟨w.heap.size, 1, none⟩ = some (.int .i64 m) := (BoxAt.cell PA.out 1).trans rfl
  have kPA2 : v3.cell? ⟨w.heap.size, 2, none⟩ = some (.bool k) := (BoxAt.cell PA.out 2).trans rfl
  have kPA3 : v3.cell? ⟨w.heap.size, 3, none⟩ = some (.slice s.a s.n s.c) := (BoxAt.cell PA.out 3).trans rfl
  have kPB0 : v3.cell? ⟨v1.heap.size, 0, none⟩ = some (.int .i64 c) := (BoxAt.cell PB.out 0).trans rfl
  have kPB1 : v3.cell? ⟨v1.heap.size, 1, none⟩ = some (.int .i64 m) := (BoxAt.cell PB.out 1).trans rfl
  have kPB2 : v3.cell? ⟨v1.heap.size, 2, none⟩ = some (.bool k) := (BoxAt.cell PB.out 2).trans rfl
  have kPB3 : v3.cell? ⟨v1.heap.size, 3, none⟩ = some (.slice r.a r.n r.c) := (BoxAt.cell PB.out 3).trans rfl
  clear hb
  go_wp2
  go_ret
  exact ⟨rfl, HB.out⟩

theorem rget_any (c m : Int) (k : Bool) {s : Sl} {l : List Wt} (p r v : Int) (may : Bool) {w : World} (hs : SeesWt w s.val l) (hl : l.length ≤ 800000) :
    Calls Try.prog 10 #[SeV.val ⟨c, m, k, s⟩, .agg #[.int .i64 p, .int .i64 r, .int .i64 v], .bool may] w fun e w' => ∃ (u : Sl), e = .returned (.tuple #[SeV.val ⟨getN c, m, k, u⟩, .int .i64 (getC c may)]) ∧ OWt w' w.heap.size u.val (getL c k l ⟨p, r, v⟩ may) ∧ Below w.heap.size w w' := by
  by_cases h0 : 0 < c
  · rw [show getN c = wrap64 (c - 1) from if_pos h0, show getC c may = 0 from if_pos h0, show getL c k l ⟨p, r, v⟩ may = l from if_pos h0]
    exact rget_one c m k p r v may hs hl h0
  · cases may
    · rw [show getN c = c from if_neg h0, show getC c false = 2 from if_neg h0, show getL c k l ⟨p, r, v⟩ false = l from if_neg h0]
      exact rget_no c m k p r v hs hl h0
    · rw [show getN c = c from if_neg h0, show getC c true = 6 from if_neg h0, show getL c k l ⟨p, r, v⟩ true = addP l ⟨p, r, v⟩ k from if_neg h0]
      exact rget_yes c m k p r v hs hl h0

theorem rput_any (c m : Int) (k : Bool) {s : Sl} {l : List Wt} {w : World} (hs : SeesWt w s.val l) (hl : l.length ≤ 800000) :
    Calls Try.prog 12 #[SeV.val ⟨c, m, k, s⟩] w fun e w' => ∃ (u q : Sl), e = .returned (.tuple #[SeV.val ⟨putN c m l, m, k, u⟩, .int .i64 (putC c m l), q.val]) ∧ SeesWt w' u.val (l.drop 1) ∧ OWk w' w.heap.size q.val (putW l) ∧ Below w.heap.size w w' := by
  by_cases h1 : 0 < l.length
  · obtain ⟨⟨fp, fr, fv⟩, hf⟩ : ∃ f, l.getD 0 Wt.zero = f := ⟨_, rfl⟩
    rw [show putN c m l = c from if_pos h1, show putC c m l = 0 from if_pos h1, show putW l = [⟨fp, 0, 0⟩] from by unfold putW; rw [if_pos h1, hf]]
    exact rput_wake c m k fp fr fv hs hl h1 hf
  · have h2 : l.length = 0 := by omega
    have hn := List.eq_nil_of_length_eq_zero h2
    rw [show putW l = [] from if_neg h1, show l.drop 1 = l from by rw [hn]; rfl]
    by_cases hd : c < m
    · rw [show putN c m l = wrap64 (c + 1) from (if_neg h1).trans (if_pos hd), show putC c m l = 0 from (if_neg h1).trans (if_pos hd)]
      exact rput_more c m k hs hl h2 hd
    · rw [show putN c m l = c from (if_neg h1).trans (if_neg hd), show putC c m l = 1 from (if_neg h1).trans (if_neg hd)]
      exact rput_full c m k hs hl h2 hd


end Go.Proofs.Ytjdaneppjgljpaa
