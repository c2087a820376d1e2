/-
  What a semaphore's Get and Put return, by its methods.
-/
import Derived.Test.YtjdaneppjgljpaaObLib
import Derived.Test.YtjdaneppjgljpaaSeReg
namespace Go.Proofs.Ytjdaneppjgljpaa
open Go.RowKit
set_option linter.unusedVariables false


theorem Try.infoOs : (Try.prog.info? 46).map (·.size) = some 4 := by kernel_rfl
theorem Try.zeroOs : (Try.prog.info? 46).bind (·.zero) = some (.agg SeV.zero.cells.toArray) := by kernel_rfl

set_option maxRecDepth 100000 in
set_option maxHeartbeats 1600000 in
theorem own_any (c m : Int) (k : Bool) {s : Sl} {l : List Wt} {w : World} (hs : SeesWt w s.val l) (hl : l.length ≤ 800000) :
    Calls Try.prog 15 #[SeV.val ⟨c, m, k, s⟩] w fun e w' => ∃ (x : Sl), e = .returned (SeV.val ⟨c, m, k, x⟩) ∧ OWt w' w.heap.size x.val l ∧ Below w.heap.size w w' := by
  have HV := hid hs
  obtain ⟨a2, c2, hs1, hc1, hc2, -⟩ := hs.form
  obtain ⟨sa, sn, sc⟩ := s
  simp only [Sl.val, Value.slice.injEq] at hs1
  obtain ⟨rfl, rfl, rfl⟩ := hs1
  unfold maxLen at hc2
  simp only [Sl.val] at HV
  clear hs
  unfold SeV.val
  simp only
  obtain ⟨M, hM⟩ : ∃ M, l.length = M := ⟨_, rfl⟩
  have HM := hid hM
  have HL := hid hl
  rw [hM] at hl hc1 HV ⊢
  clear hM
  have HB := hid (Below.refl w.heap.size w)
  go_enter Try.func15, Try.ntmps15
  have FL1 := hid trivial
  have FL2 := hid trivial
  go_wp2_with (first
    | (have hfl := FL1.out
       refine wpList_box rfl 24 (.tmp 0) rfl #[.int .i64 c, .int .i64 m, .bool k, .slice sa M sc] rfl ?_
       intro v1 b h z
       have PB := hid (show BoxAt v1 w.heap.size 24 #[.int .i64 c, .int .i64 m, .bool k, .slice sa M sc] from b)
       have HB := hid (HB.out.trans (h.mono HB.out.size))
       have hsv1 : w.heap.size + 1 ≤ v1.heap.size := by first | exact h.size | omega
       clear b h z hfl FL1)
    | (have hfl := FL2.out
       refine wpList_new rfl 46 rfl _ Try.zeroOs ?_
       intro v2 b h z
       have RB := hid (show BoxAt v2 v1.heap.size 46 #[.int .i64 0, .int .i64 0, .bool false, .slice none 0 0] from b)
       have PB := hid (PB.out.belowAll h)
       have HB := hid (HB.out.trans (h.mono HB.out.size))
       have hsv2 : v1.heap.size + 1 ≤ v2.heap.size := by first | exact h.size | omega
       have kPB3 : v2.cell? ⟨w.heap.size, 3, none⟩ = some (.slice sa M sc) := (BoxAt.cell PB.out 3).trans rfl
       clear b h z hfl FL2
       refine Hid.out ?_)
    | fail)
  refine hid ?_
  clear kPB3
  have kPB3 : v2.cell? ⟨w.heap.size, 3, none⟩ = some (.slice sa M sc) := (BoxAt.cell PB.out 3).trans rfl
  go_wp2_with fail
  have HBsx := HB.out.size
  refine (qclone_Wt (HV.out.below HB.out) (by have := HL.out; omega)).mono ?_
  rintro e v3 ⟨ux, rfl, hu, hb⟩
  have PB := hid (PB.out.belowAll hb)
  have RB := hid (RB.out.belowAll hb)
  have HB := hid (HB.out.trans (hb.mono HB.out.size))
  have hsv3 : v2.heap.size ≤ v3.heap.size := by first | exact hb.size | omega
  obtain ⟨x, rfl, -⟩ := hu.sl
  have HC := hid (hu.mono HBsx)
  clear hu HBsx
  clear kPB3
  have kPB3 : v3.cell? ⟨w.heap.size, 3, none⟩ = some (.slice sa M sc) := (BoxAt.cell PB.out 3).trans rfl
  clear hb
  have FL3 := hid trivial
  have FL4 := hid trivial
  go_wp2_with (first
    | (have hfl := FL3.out
       refine wpList_store_box rfl 22 _ _ rfl rfl (w.heap.size) 3 (.slice x.a x.n x.c) rfl rfl rfl rfl (by kernel_rfl) _ _ PB.out (by simp) ?_
       intro v4 b g z
       have hsv4 : v3.heap.size ≤ v4.heap.size := by omega
       have HC := hid (HC.out.put g PB.out (by decide))
       have PB := hid (show BoxAt v4 (w.heap.size) 24 #[.int .i64 c, .int .i64 m, .bool k, .slice x.a x.n x.c] from by simpa using b)
       have RB := hid (RB.out.grown g (fun e => by have := Option.some.inj e; omega))
       have HB := hid (HB.out.trans (grown_below g (by omega) (by omega)))
       clear kPB3
       have kPB3 : v4.cell? ⟨w.heap.size, 3, none⟩ = some (.slice x.a x.n x.c) := (BoxAt.cell PB.out 3).trans rfl
       clear b g z hfl FL3)
    | (refine wpList_load_box rfl 24 _ rfl (w.heap.size) rfl _ _ PB.out _ Try.underlying24 Try.infoSe ?_)
    | (have hfl := FL4.out
       refine wpList_store_whole rfl 46 _ _ rfl rfl (v1.heap.size) rfl [.int .i64 c, .int .i64 m, .bool k, .slice x.a x.n x.c] rfl _ _ RB.out rfl Try.infoOs (by simp [Value.oneCell']) ?_
       intro v5 b g z
       have hsv5 : v4.heap.size ≤ v5.heap.size := by omega
       have HC := hid (HC.out.put g RB.out (by decide))
       have RB := hid (show BoxAt v5 (v1.heap.size) 46 #[.int .i64 c, .int .i64 m, .bool k, .slice x.a x.n x.c] from b)
       have PB := hid (PB.out.grown g (fun e => by have := Option.some.inj e; omega))
       have HB := hid (HB.out.trans (grown_below g (by omega) (by omega)))
       clear kPB3
       have kPB3 : v5.cell? ⟨w.heap.size, 3, none⟩ = some (.slice x.a x.n x.c) := (BoxAt.cell PB.out 3).trans rfl
       clear b g z hfl FL4)
    | fail)
  refine bodyPost_ret (results_cell_row rfl _ _ (v1.heap.size) 46 _ (0, 0) _ rfl RB.out Try.underlying46 rfl Try.infoOs) rfl ?_
  exact ⟨x, rfl, HC.out, HB.out⟩

set_option maxRecDepth 100000 in
set_option maxHeartbeats 1600000 in
theorem sget_one {G D : Nat} (c m : Int) (k : Bool) {x : Sl} {l : List Wt} (p r v : Int) (may : Bool) {w : World} (hb : BoxAt w G 46 #[.int .i64 c, .int .i64 m, .bool k, .slice x.a x.n x.c]) (hD : D ≤ G) (ho : OWt w D (.slice x.a x.n x.c) l) (hl : l.length ≤ 800000) (h0 : 0 < c) :
    Calls Try.prog 16 #[.pointer (some ⟨G, 0, none⟩), .agg #[.int .i64 p, .int .i64 r, .int .i64 v], .bool may] w fun e w' => ∃ (u : Sl), e = .returned (.int .i64 (0)) ∧ BoxAt w' G 46 #[.int .i64 (wrap64 (c - 1)), .int .i64 m, .bool k, .slice u.a u.n u.c] ∧ OWt w' D (.slice u.a u.n u.c) (l) ∧ w.grownBy w' (some G) := by
  have GB := hid hb
  have HC := hid ho
  have HL := hid hl
  have hGw : G + 1 ≤ w.heap.size := hb.lt
  clear hb ho hl
  have HB := hid (World.grownBy.refl w (some G))
  go_enter Try.func16, Try.ntmps16
  have kGB0 : w.cell? ⟨G, 0, none⟩ = some (.int .i64 c) := (BoxAt.cell GB.out 0).trans rfl
  have kGB1 : w.cell? ⟨G, 1, none⟩ = some (.int .i64 m) := (BoxAt.cell GB.out 1).trans rfl
  have kGB2 : w.cell? ⟨G, 2, none⟩ = some (.bool k) := (BoxAt.cell GB.out 2).trans rfl
  have kGB3 : w.cell? ⟨G, 3, none⟩ = some (.slice x.a x.n x.c) := (BoxAt.cell GB.out 3).trans rfl
  have FL1 := hid trivial
  go_wp2_with (first
    | (have hfl := FL1.out
       refine wpList_box rfl 26 (.tmp 1) rfl #[.int .i64 p, .int .i64 r, .int .i64 v] rfl ?_
       intro v1 b h z
       have WB := hid (show BoxAt v1 w.heap.size 26 #[.int .i64 p, .int .i64 r, .int .i64 v] from b)
       have GB := hid (GB.out.belowAll h)
       have HC := hid (HC.out.below h)
       have HB := hid (grow_new HB.out h)
       have hsv1 : w.heap.size + 1 ≤ v1.heap.size := by first | exact h.size | omega
       clear kGB0 kGB1 kGB2 kGB3
       have kGB0 : v1.cell? ⟨G, 0, none⟩ = some (.int .i64 c) := (BoxAt.cell GB.out 0).trans rfl
       have kGB1 : v1.cell? ⟨G, 1, none⟩ = some (.int .i64 m) := (BoxAt.cell GB.out 1).trans rfl
       have kGB2 : v1.cell? ⟨G, 2, none⟩ = some (.bool k) := (BoxAt.cell GB.out 2).trans rfl
       have kGB3 : v1.cell? ⟨G, 3, none⟩ = some (.slice x.a x.n x.c) := (BoxAt.cell GB.out 3).trans rfl
       clear b h z hfl FL1
       refine Hid.out ?_)
    | fail)
  refine hid ?_
  clear kGB0 kGB1 kGB2 kGB3
  have kGB0 : v1.cell? ⟨G, 0, none⟩ = some (.int .i64 c) := (BoxAt.cell GB.out 0).trans rfl
  have kGB1 : v1.cell? ⟨G, 1, none⟩ = some (.int .i64 m) := (BoxAt.cell GB.out 1).trans rfl
  have kGB2 : v1.cell? ⟨G, 2, none⟩ = some (.bool k) := (BoxAt.cell GB.out 2).trans rfl
  have kGB3 : v1.cell? ⟨G, 3, none⟩ = some (.slice x.a x.n x.c) := (BoxAt.cell GB.out 3).trans rfl
  have FL2 := hid trivial
  go_wp2_with (first
    | (have hfl := FL2.out
       refine wpList_store_box rfl 3 _ _ rfl rfl (G) 0 (.int .i64 (wrap64 (c - 1))) rfl rfl rfl rfl (by kernel_rfl) _ _ GB.out (by simp) ?_
       intro v2 b g z
       have hsv2 : v1.heap.size ≤ v2.heap.size := by omega
       have HC := hid (HC.out.put g GB.out (by decide))
       have GB := hid (show BoxAt v2 (G) 46 #[.int .i64 (wrap64 (c - 1)), .int .i64 m, .bool k, .slice x.a x.n x.c] from by simpa using b)
       have WB := hid (WB.out.grown g (fun e => by have := Option.some.inj e; omega))
       have HB := hid (grown_trans HB.out g)
       clear kGB0 kGB1 kGB2 kGB3
       have kGB0 : v2.cell? ⟨G, 0, none⟩ = some (.int .i64 (wrap64 (c - 1))) := (BoxAt.cell GB.out 0).trans rfl
       have kGB1 : v2.cell? ⟨G, 1, none⟩ = some (.int .i64 m) := (BoxAt.cell GB.out 1).trans rfl
       have kGB2 : v2.cell? ⟨G, 2, none⟩ = some (.bool k) := (BoxAt.cell GB.out 2).trans rfl
       have kGB3 : v2.cell? ⟨G, 3, none⟩ = some (.slice x.a x.n x.c) := (BoxAt.cell GB.out 3).trans rfl
       clear b g z hfl FL2
       refine Hid.out ?_)
    | fail)
  refine hid ?_
  clear kGB0 kGB1 kGB2 kGB3
  have kGB0 : v2.cell? ⟨G, 0, none⟩ = some (.int .i64 (wrap64 (c - 1))) := (BoxAt.cell GB.out 0).trans rfl
  have kGB1 : v2.cell? ⟨G, 1, none⟩ = some (.int .i64 m) := (BoxAt.cell GB.out 1).trans rfl
  have kGB2 : v2.cell? ⟨G, 2, none⟩ = some (.bool k) := (BoxAt.cell GB.out 2).trans rfl
  have kGB3 : v2.cell? ⟨G, 3, none⟩ = some (.slice x.a x.n x.c) := (BoxAt.cell GB.out 3).trans rfl
  go_wp2
  go_ret
  exact ⟨x, rfl, GB.out, HC.out, HB.out⟩

set_option maxRecDepth 100000 in
set_option maxHeartbeats 1600000 in
theorem sget_no {G D : Nat} (c m : Int) (k : Bool) {x : Sl} {l : List Wt} (p r v : Int) {w : World} (hb : BoxAt w G 46 #[.int .i64 c, .int .i64 m, .bool k, .slice x.a x.n x.c]) (hD : D ≤ G) (ho : OWt w D (.slice x.a x.n x.c) l) (hl : l.length ≤ 800000) (h0 : ¬ 0 < c) :
    Calls Try.prog 16 #[.pointer (some ⟨G, 0, none⟩), .agg #[.int .i64 p, .int .i64 r, .int .i64 v], .bool false] w fun e w' => ∃ (u : Sl), e = .returned (.int .i64 (2)) ∧ BoxAt w' G 46 #[.int .i64 (c), .int .i64 m, .bool k, .slice u.a u.n u.c] ∧ OWt w' D (.slice u.a u.n u.c) (l) ∧ w.grownBy w' (some G) := by
  have GB := hid hb
  have HC := hid ho
  have HL := hid hl
  have hGw : G + 1 ≤ w.heap.size := hb.lt
  clear hb ho hl
  have HB := hid (World.grownBy.refl w (some G))
  go_enter Try.func16, Try.ntmps16
  have kGB0 : w.cell? ⟨G, 0, none⟩ = some (.int .i64 c) := (BoxAt.cell GB.out 0).trans rfl
  have kGB1 : w.cell? ⟨G, 1, none⟩ = some (.int .i64 m) := (BoxAt.cell GB.out 1).trans rfl
  have kGB2 : w.cell? ⟨G, 2, none⟩ = some (.bool k) := (BoxAt.cell GB.out 2).trans rfl
  have kGB3 : w.cell? ⟨G, 3, none⟩ = some (.slice x.a x.n x.c) := (BoxAt.cell GB.out 3).trans rfl
  have FL1 := hid trivial
  go_wp2_with (first
    | (have hfl := FL1.out
       refine wpList_box rfl 26 (.tmp 1) rfl #[.int .i64 p, .int .i64 r, .int .i64 v] rfl ?_
       intro v1 b h z
       have WB := hid (show BoxAt v1 w.heap.size 26 #[.int .i64 p, .int .i64 r, .int .i64 v] from b)
       have GB := hid (GB.out.belowAll h)
       have HC := hid (HC.out.below h)
       have HB := hid (grow_new HB.out h)
       have hsv1 : w.heap.size + 1 ≤ v1.heap.size := by first | exact h.size | omega
       clear kGB0 kGB1 kGB2 kGB3
       have kGB0 : v1.cell? ⟨G, 0, none⟩ = some (.int .i64 c) := (BoxAt.cell GB.out 0).trans rfl
       have kGB1 : v1.cell? ⟨G, 1, none⟩ = some (.int .i64 m) := (BoxAt.cell GB.out 1).trans rfl
       have kGB2 : v1.cell? ⟨G, 2, none⟩ = some (.bool k) := (BoxAt.cell GB.out 2).trans rfl
       have kGB3 : v1.cell? ⟨G, 3, none⟩ = some (.slice x.a x.n x.c) := (BoxAt.cell GB.out 3).trans rfl
       clear b h z hfl FL1
       refine Hid.out ?_)
    | fail)
  refine hid ?_
  clear kGB0 kGB1 kGB2 kGB3
  have kGB0 : v1.cell? ⟨G, 0, none⟩ = some (.int .i64 c) := (BoxAt.cell GB.out 0).trans rfl
  have kGB1 : v1.cell? ⟨G, 1, none⟩ = some (.int .i64 m) := (BoxAt.cell GB.out 1).trans rfl
  have kGB2 : v1.cell? ⟨G, 2, none⟩ = some (.bool k) := (BoxAt.cell GB.out 2).trans rfl
  have kGB3 : v1.cell? ⟨G, 3, none⟩ = some (.slice x.a x.n x.c) := (BoxAt.cell GB.out 3).trans rfl
  go_wp2
  go_ret
  exact ⟨x, rfl, GB.out, HC.out, HB.out⟩

set_option maxRecDepth 100000 in
set_option maxHeartbeats 1600000 in
theorem sget_yes {G D : Nat} (c m : Int) (k : Bool) {x : Sl} {l : List Wt} (p r v : Int) {w : World} (hb : BoxAt w G 46 #[.int .i64 c, .int .i64 m, .bool k, .slice x.a x.n x.c]) (hD : D ≤ G) (ho : OWt w D (.slice x.a x.n x.c) l) (hl : l.length ≤ 800000) (h0 : ¬ 0 < c) :
    Calls Try.prog 16 #[.pointer (some ⟨G, 0, none⟩), .agg #[.int .i64 p, .int .i64 r, .int .i64 v], .bool true] w fun e w' => ∃ (u : Sl), e = .returned (.int .i64 (6)) ∧ BoxAt w' G 46 #[.int .i64 (c), .int .i64 m, .bool k, .slice u.a u.n u.c] ∧ OWt w' D (.slice u.a u.n u.c) (addP l ⟨p, r, v⟩ k) ∧ w.grownBy w' (some G) := by
  have GB := hid hb
  have HC := hid ho
  have HL := hid hl
  have hGw : G + 1 ≤ w.heap.size := hb.lt
  clear hb ho hl
  have hwD : D ≤ w.heap.size := by omega
  have HB := hid (World.grownBy.refl w (some G))
  go_enter Try.func16, Try.ntmps16
  have kGB0 : w.cell? ⟨G, 0, none⟩ = some (.int .i64 c) := (BoxAt.cell GB.out 0).trans rfl
  have kGB1 : w.cell? ⟨G, 1, none⟩ = some (.int .i64 m) := (BoxAt.cell GB.out 1).trans rfl
  have kGB2 : w.cell? ⟨G, 2, none⟩ = some (.bool k) := (BoxAt.cell GB.out 2).trans rfl
  have kGB3 : w.cell? ⟨G, 3, none⟩ = some (.slice x.a x.n x.c) := (BoxAt.cell GB.out 3).trans rfl
  have FL1 := hid trivial
  go_wp2_with (first
    | (have hfl := FL1.out
       refine wpList_box rfl 26 (.tmp 1) rfl #[.int .i64 p, .int .i64 r, .int .i64 v] rfl ?_
       intro v1 b h z
       have WB := hid (show BoxAt v1 w.heap.size 26 #[.int .i64 p, .int .i64 r, .int .i64 v] from b)
       have GB := hid (GB.out.belowAll h)
       have HC := hid (HC.out.below h)
       have HB := hid (grow_new HB.out h)
       have hsv1 : w.heap.size + 1 ≤ v1.heap.size := by first | exact h.size | omega
       clear kGB0 kGB1 kGB2 kGB3
       have kGB0 : v1.cell? ⟨G, 0, none⟩ = some (.int .i64 c) := (BoxAt.cell GB.out 0).trans rfl
       have kGB1 : v1.cell? ⟨G, 1, none⟩ = some (.int .i64 m) := (BoxAt.cell GB.out 1).trans rfl
       have kGB2 : v1.cell? ⟨G, 2, none⟩ = some (.bool k) := (BoxAt.cell GB.out 2).trans rfl
       have kGB3 : v1.cell? ⟨G, 3, none⟩ = some (.slice x.a x.n x.c) := (BoxAt.cell GB.out 3).trans rfl
       clear b h z hfl FL1
       refine Hid.out ?_)
    | fail)
  refine hid ?_
  clear kGB0 kGB1 kGB2 kGB3
  have kGB0 : v1.cell? ⟨G, 0, none⟩ = some (.int .i64 c) := (BoxAt.cell GB.out 0).trans rfl
  have kGB1 : v1.cell? ⟨G, 1, none⟩ = some (.int .i64 m) := (BoxAt.cell GB.out 1).trans rfl
  have kGB2 : v1.cell? ⟨G, 2, none⟩ = some (.bool k) := (BoxAt.cell GB.out 2).trans rfl
  have kGB3 : v1.cell? ⟨G, 3, none⟩ = some (.slice x.a x.n x.c) := (BoxAt.cell GB.out 3).trans rfl
  have kWB0 : v1.cell? ⟨w.heap.size, 0, none⟩ = some (.int .i64 p) := (BoxAt.cell WB.out 0).trans rfl
  have kWB1 : v1.cell? ⟨w.heap.size, 1, none⟩ = some (.int .i64 r) := (BoxAt.cell WB.out 1).trans rfl
  have kWB2 : v1.cell? ⟨w.heap.size, 2, none⟩ = some (.int .i64 v) := (BoxAt.cell WB.out 2).trans rfl
  go_wp2_with fail
  clear kGB0 kGB1 kGB2 kGB3 kWB0 kWB1 kWB2
  have GB := hid (BoxAt.drew GB.out)
  have WB := hid (BoxAt.drew WB.out)
  have HC := hid (HC.out.below ((Below.refl v1.heap.size v1).drew))
  have HB := hid (grow_drew HB.out)
  have hsv2 : v1.heap.size ≤ v1.drew.heap.size := Nat.le_refl _
  refine wp_region_held_drew (S := (fun w' : World => BoxAt w' (w.heap.size) 26 #[.int .i64 p, .int .i64 r, .int .i64 v])) (by kernel_rfl) (WB.out) (fun hHeld => ?_)
  generalize v1.drew = v2 at *
  refine wpAnyH_take (i := 0) (oi := { dst := some 26, op := Op.move (Operand.tmp 0), type := 56, pos := "sema.go:43", after := _, guard := none }) (v := ?_) rfl (by kernel_rfl) (by kernel_rfl) (by kernel_rfl) (fun _ _ _ h => h) (Or.inl ⟨by rfl, ?_⟩) (by assumption) ?_
  rotate_left
  · (intro w hSw; (try dsimp only at hSw); go_simp; try with_reducible rfl)
  simp only [Act.put, List.setIfInBounds_toArray, List.set_cons_zero, List.set_cons_succ]
  refine wpAnyH_take (i := 1) (oi := { dst := some 27, op := Op.move (Operand.tmp 0), type := 56, pos := "sema.go:43", after := _, guard := none }) (v := ?_) rfl (by kernel_rfl) (by kernel_rfl) (by kernel_rfl) (fun _ _ _ h => h) (Or.inl ⟨by rfl, ?_⟩) (by assumption) ?_
  rotate_left
  · (intro w hSw; (try dsimp only at hSw); go_simp; try with_reducible rfl)
  simp only [Act.put, List.setIfInBounds_toArray, List.set_cons_zero, List.set_cons_succ]
  refine wpAnyH_take (i := 2) (oi := { dst := some 28, op := Op.nilCheck (Operand.tmp 27), type := 0, pos := "sema.go:43", after := _, guard := none }) (v := ?_) rfl (by kernel_rfl) (by kernel_rfl) (by kernel_rfl) (fun _ _ _ h => h) (Or.inl ⟨by rfl, ?_⟩) (by assumption) ?_
  rotate_left
  · (intro w hSw; (try dsimp only at hSw); go_simp; try with_reducible rfl)
  simp only [Act.put, List.setIfInBounds_toArray, List.set_cons_zero, List.set_cons_succ]
  refine wpAnyH_take (i := 3) (oi := { dst := some 29, op := Op.fieldAddr 46 (Operand.tmp 28) 0, type := 0, pos := "sema.go:43", after := _, guard := none }) (v := ?_) rfl (by kernel_rfl) (by kernel_rfl) (by kernel_rfl) (fun _ _ _ h => h) (Or.inl ⟨by rfl, ?_⟩) (by assumption) ?_
  rotate_left
  · (intro w hSw; (try dsimp only at hSw); go_simp; try with_reducible rfl)
  simp only [Act.put, List.setIfInBounds_toArray, List.set_cons_zero, List.set_cons_succ]
  refine wpAnyH_take (i := 4) (oi := { dst := some 30, op := Op.fieldAddr 24 (Operand.tmp 29) 3, type := 0, pos := "sema.go:43", after := _, guard := none }) (v := ?_) rfl (by kernel_rfl) (by kernel_rfl) (by kernel_rfl) (fun _ _ _ h => h) (Or.inl ⟨by rfl, ?_⟩) (by assumption) ?_
  rotate_left
  · (intro w hSw; (try dsimp only at hSw); go_simp; try with_reducible rfl)
  simp only [Act.put, List.setIfInBounds_toArray, List.set_cons_zero, List.set_cons_succ]
  refine wpAnyH_take (i := 6) (oi := { dst := some 32, op := Op.load 26 (Operand.tmp 4), type := 26, pos := "sema.go:43", after := _, guard := none }) (v := ?_) rfl (by kernel_rfl) (by kernel_rfl) (by kernel_rfl) (fun _ _ _ h => h) (Or.inl ⟨by rfl, ?_⟩) (by assumption) ?_
  rotate_left
  · (intro W hSw; (try dsimp only at hSw); have hs0S := hSw; have c0_0 : W.cell? ⟨w.heap.size, 0, none⟩ = some (.int .i64 p) := (BoxAt.cell hs0S 0).trans rfl; have c0_1 : W.cell? ⟨w.heap.size, 1, none⟩ = some (.int .i64 r) := (BoxAt.cell hs0S 1).trans rfl; have c0_2 : W.cell? ⟨w.heap.size, 2, none⟩ = some (.int .i64 v) := (BoxAt.cell hs0S 2).trans rfl; clear hs0S; go_simp; try with_reducible rfl)
  simp only [Act.put, List.setIfInBounds_toArray, List.set_cons_zero, List.set_cons_succ]
  refine wpAnyH_take (i := 7) (oi := { dst := some 33, op := Op.move (Operand.tmp 0), type := 56, pos := "sema.go:43", after := _, guard := none }) (v := ?_) rfl (by kernel_rfl) (by kernel_rfl) (by kernel_rfl) (fun _ _ _ h => h) (Or.inl ⟨by rfl, ?_⟩) (by assumption) ?_
  rotate_left
  · (intro w hSw; (try dsimp only at hSw); go_simp; try with_reducible rfl)
  simp only [Act.put, List.setIfInBounds_toArray, List.set_cons_zero, List.set_cons_succ]
  refine wpAnyH_take (i := 8) (oi := { dst := some 34, op := Op.nilCheck (Operand.tmp 33), type := 0, pos := "sema.go:43", after := _, guard := none }) (v := ?_) rfl (by kernel_rfl) (by kernel_rfl) (by kernel_rfl) (fun _ _ _ h => h) (Or.inl ⟨by rfl, ?_⟩) (by assumption) ?_
  rotate_left
  · (intro w hSw; (try dsimp only at hSw); go_simp; try with_reducible rfl)
  simp only [Act.put, List.setIfInBounds_toArray, List.set_cons_zero, List.set_cons_succ]
  refine wpAnyH_take (i := 9) (oi := { dst := some 35, op := Op.fieldAddr 46 (Operand.tmp 34) 0, type := 0, pos := "sema.go:43", after := _, guard := none }) (v := ?_) rfl (by kernel_rfl) (by kernel_rfl) (by kernel_rfl) (fun _ _ _ h => h) (Or.inl ⟨by rfl, ?_⟩) (by assumption) ?_
  rotate_left
  · (intro w hSw; (try dsimp only at hSw); go_simp; try with_reducible rfl)
  simp only [Act.put, List.setIfInBounds_toArray, List.set_cons_zero, List.set_cons_succ]
  refine wpAnyH_take (i := 10) (oi := { dst := some 36, op := Op.fieldAddr 24 (Operand.tmp 35) 2, type := 0, pos := "sema.go:43", after := _, guard := none }) (v := ?_) rfl (by kernel_rfl) (by kernel_rfl) (by kernel_rfl) (fun _ _ _ h => h) (Or.inl ⟨by rfl, ?_⟩) (by assumption) ?_
  rotate_left
  · (intro w hSw; (try dsimp only at hSw); go_simp; try with_reducible rfl)
  simp only [Act.put, List.setIfInBounds_toArray, List.set_cons_zero, List.set_cons_succ]
  refine wpAnyH_ready (rs := [5, 11]) (by kernel_rfl) (by simp) (AllReadyH.cons (o := { dst := some 31, op := Op.load 22 (Operand.tmp 30), type := 22, pos := "sema.go:43", after := _, guard := none }) rfl (fun K1011 hK1011 => ?b1011_5) (AllReadyH.cons (o := { dst := some 37, op := Op.load 4 (Operand.tmp 36), type := 4, pos := "sema.go:43", after := _, guard := none }) rfl (fun K1011 hK1011 => ?b1011_11) AllReadyH.nil))
  case' b1011_5 =>
    have cG : v2.cell? ⟨G, 3, none⟩ = some (.slice x.a x.n x.c) := (BoxAt.cell GB.out 3).trans rfl
    go_simp
    clear cG
    refine hK1011.out _ _ (WB.out) (fun hHeld1011 => ?_)
    clear hK1011 K1011
    try simp only [Act.put, List.setIfInBounds_toArray, List.set_cons_zero, List.set_cons_succ]
    refine wpAnyH_ready (rs := [11]) (by kernel_rfl) (by simp) (AllReadyH.cons (o := { dst := some 37, op := Op.load 4 (Operand.tmp 36), type := 4, pos := "sema.go:43", after := _, guard := none }) rfl (fun K1012 hK1012 => ?_) AllReadyH.nil)
    have cG : v2.cell? ⟨G, 2, none⟩ = some (.bool k) := (BoxAt.cell GB.out 2).trans rfl
    go_simp
    clear cG
    refine hK1012.out _ _ (WB.out) (fun hHeld1012 => ?_)
    clear hK1012 K1012
    try simp only [Act.put, List.setIfInBounds_toArray, List.set_cons_zero, List.set_cons_succ]
    refine wpAnyH_ready (rs := [12]) (by kernel_rfl) (by simp) (AllReadyH.cons (o := { dst := some 38, op := Op.call { callee := Callee.value (Operand.func 22), args := #[Operand.tmp 31, Operand.tmp 32, Operand.tmp 37], argTypes := #[22, 26, 4] }, type := 22, pos := "sema.go:43", after := _, guard := none }) rfl (fun K1013 hK1013 => ?_) AllReadyH.nil)
    have HBa : D ≤ v2.heap.size := by have := HB.out.size; omega
    go_simp
    refine (add_any ⟨p, r, v⟩ k HC.out.sees (by have := HL.out; omega)).mono ?_
    rintro e v3 ⟨uu, rfl, hu, hb⟩
    have GB := hid (GB.out.belowAll hb)
    have WB := hid (WB.out.belowAll hb)
    have HC := hid (HC.out.below hb)
    have HB := hid (grow_new HB.out hb)
    have hsv3 : v2.heap.size ≤ v3.heap.size := by first | exact hb.size | omega
    obtain ⟨u, rfl, -⟩ := hu.sl
    have HU := hid (hu.mono HBa)
    clear hu HBa HC
    clear hb
    refine hK1013.out _ _ (WB.out) (fun hHeld1013 => ?_)
    clear hK1013 K1013
    try simp only [Act.put, List.setIfInBounds_toArray, List.set_cons_zero, List.set_cons_succ]
    refine wpAnyH_take (i := 13) (oi := { dst := some 39, op := Op.nilCheck (Operand.tmp 26), type := 0, pos := "sema.go:43", after := _, guard := none }) (v := ?_) rfl (by kernel_rfl) (by kernel_rfl) (by kernel_rfl) (fun _ _ _ h => h) (Or.inl ⟨by rfl, ?_⟩) (by assumption) ?_
    rotate_left
    · (intro w hSw; (try dsimp only at hSw); go_simp; try with_reducible rfl)
    simp only [Act.put, List.setIfInBounds_toArray, List.set_cons_zero, List.set_cons_succ]
    refine wpAnyH_take (i := 14) (oi := { dst := some 40, op := Op.fieldAddr 46 (Operand.tmp 39) 0, type := 0, pos := "sema.go:43", after := _, guard := none }) (v := ?_) rfl (by kernel_rfl) (by kernel_rfl) (by kernel_rfl) (fun _ _ _ h => h) (Or.inl ⟨by rfl, ?_⟩) (by assumption) ?_
    rotate_left
    · (intro w hSw; (try dsimp only at hSw); go_simp; try with_reducible rfl)
    simp only [Act.put, List.setIfInBounds_toArray, List.set_cons_zero, List.set_cons_succ]
    refine wpAnyH_take (i := 15) (oi := { dst := some 41, op := Op.fieldAddr 24 (Operand.tmp 40) 3, type := 0, pos := "sema.go:43", after := _, guard := none }) (v := ?_) rfl (by kernel_rfl) (by kernel_rfl) (by kernel_rfl) (fun _ _ _ h => h) (Or.inl ⟨by rfl, ?_⟩) (by assumption) ?_
    rotate_left
    · (intro w hSw; (try dsimp only at hSw); go_simp; try with_reducible rfl)
    simp only [Act.put, List.setIfInBounds_toArray, List.set_cons_zero, List.set_cons_succ]
    refine wpAnyH_ready (rs := [16]) (by kernel_rfl) (by simp) (AllReadyH.cons (o := { dst := none, op := Op.store 22 (Operand.tmp 41) (Operand.tmp 38), type := 0, pos := "sema.go:43", after := _, guard := none }) rfl (fun K1017 hK1017 => ?_) AllReadyH.nil)
    refine step_store_box rfl 22 _ _ rfl (G) 3 (.slice u.a u.n u.c) rfl rfl rfl rfl (by kernel_rfl) _ _ GB.out (by simp) ?_
    intro v4 b g z
    have hsv4 : v3.heap.size ≤ v4.heap.size := by omega
    have HU := hid (HU.out.put g GB.out (by decide))
    have GB := hid (show BoxAt v4 (G) 46 #[.int .i64 c, .int .i64 m, .bool k, .slice u.a u.n u.c] from by simpa using b)
    have WB := hid (WB.out.grown g (fun e => by have := Option.some.inj e; omega))
    have HB := hid (grown_trans HB.out g)
    clear b g z
    refine hK1017.out _ _ (WB.out) (fun hHeld1017 => ?_)
    clear hK1017 K1017
    try simp only [Act.put]
    refine wpAnyH_done (by kernel_rfl) ?_ _
    clear hHeld hHeld1011 hHeld1012 hHeld1013 hHeld1017
    have kGB0 : v4.cell? ⟨G, 0, none⟩ = some (.int .i64 c) := (BoxAt.cell GB.out 0).trans rfl
    have kGB1 : v4.cell? ⟨G, 1, none⟩ = some (.int .i64 m) := (BoxAt.cell GB.out 1).trans rfl
    have kGB2 : v4.cell? ⟨G, 2, none⟩ = some (.bool k) := (BoxAt.cell GB.out 2).trans rfl
    have kGB3 : v4.cell? ⟨G, 3, none⟩ = some (.slice u.a u.n u.c) := (BoxAt.cell GB.out 3).trans rfl
    have kWB0 : v4.cell? ⟨w.heap.size, 0, none⟩ = some (.int .i64 p) := (BoxAt.cell WB.out 0).trans rfl
    have kWB1 : v4.cell? ⟨w.heap.size, 1, none⟩ = some (.int .i64 r) := (BoxAt.cell WB.out 1).trans rfl
    have kWB2 : v4.cell? ⟨w.heap.size, 2, none⟩ = some (.int .i64 v) := (BoxAt.cell WB.out 2).trans rfl
    go_wp2
    go_ret
    exact ⟨u, rfl, GB.out, HU.out, HB.out⟩
  case' b1011_11 =>
    have cG : v2.cell? ⟨G, 2, none⟩ = some (.bool k) := (BoxAt.cell GB.out 2).trans rfl
    go_simp
    clear cG
    refine hK1011.out _ _ (WB.out) (fun hHeld1011 => ?_)
    clear hK1011 K1011
    try simp only [Act.put, List.setIfInBounds_toArray, List.set_cons_zero, List.set_cons_succ]
    refine wpAnyH_ready (rs := [5]) (by kernel_rfl) (by simp) (AllReadyH.cons (o := { dst := some 31, op := Op.load 22 (Operand.tmp 30), type := 22, pos := "sema.go:43", after := _, guard := none }) rfl (fun K1018 hK1018 => ?_) AllReadyH.nil)
    have cG : v2.cell? ⟨G, 3, none⟩ = some (.slice x.a x.n x.c) := (BoxAt.cell GB.out 3).trans rfl
    go_simp
    clear cG
    refine hK1018.out _ _ (WB.out) (fun hHeld1018 => ?_)
    clear hK1018 K1018
    try simp only [Act.put, List.setIfInBounds_toArray, List.set_cons_zero, List.set_cons_succ]
    refine wpAnyH_ready (rs := [12]) (by kernel_rfl) (by simp) (AllReadyH.cons (o := { dst := some 38, op := Op.call { callee := Callee.value (Operand.func 22), args := #[Operand.tmp 31, Operand.tmp 32, Operand.tmp 37], argTypes := #[22, 26, 4] }, type := 22, pos := "sema.go:43", after := _, guard := none }) rfl (fun K1019 hK1019 => ?_) AllReadyH.nil)
    have HBa : D ≤ v2.heap.size := by have := HB.out.size; omega
    go_simp
    refine (add_any ⟨p, r, v⟩ k HC.out.sees (by have := HL.out; omega)).mono ?_
    rintro e v3 ⟨uu, rfl, hu, hb⟩
    have GB := hid (GB.out.belowAll hb)
    have WB := hid (WB.out.belowAll hb)
    have HC := hid (HC.out.below hb)
    have HB := hid (grow_new HB.out hb)
    have hsv3 : v2.heap.size ≤ v3.heap.size := by first | exact hb.size | omega
    obtain ⟨u, rfl, -⟩ := hu.sl
    have HU := hid (hu.mono HBa)
    clear hu HBa HC
    clear hb
    refine hK1019.out _ _ (WB.out) (fun hHeld1019 => ?_)
    clear hK1019 K1019
    try simp only [Act.put, List.setIfInBounds_toArray, List.set_cons_zero, List.set_cons_succ]
    refine wpAnyH_take (i := 13) (oi := { dst := some 39, op := Op.nilCheck (Operand.tmp 26), type := 0, pos := "sema.go:43", after := _, guard := none }) (v := ?_) rfl (by kernel_rfl) (by kernel_rfl) (by kernel_rfl) (fun _ _ _ h => h) (Or.inl ⟨by rfl, ?_⟩) (by assumption) ?_
    rotate_left
    · (intro w hSw; (try dsimp only at hSw); go_simp; try with_reducible rfl)
    simp only [Act.put, List.setIfInBounds_toArray, List.set_cons_zero, List.set_cons_succ]
    refine wpAnyH_take (i := 14) (oi := { dst := some 40, op := Op.fieldAddr 46 (Operand.tmp 39) 0, type := 0, pos := "sema.go:43", after := _, guard := none }) (v := ?_) rfl (by kernel_rfl) (by kernel_rfl) (by kernel_rfl) (fun _ _ _ h => h) (Or.inl ⟨by rfl, ?_⟩) (by assumption) ?_
    rotate_left
    · (intro w hSw; (try dsimp only at hSw); go_simp; try with_reducible rfl)
    simp only [Act.put, List.setIfInBounds_toArray, List.set_cons_zero, List.set_cons_succ]
    refine wpAnyH_take (i := 15) (oi := { dst := some 41, op := Op.fieldAddr 24 (Operand.tmp 40) 3, type := 0, pos := "sema.go:43", after := _, guard := none }) (v := ?_) rfl (by kernel_rfl) (by kernel_rfl) (by kernel_rfl) (fun _ _ _ h => h) (Or.inl ⟨by rfl, ?_⟩) (by assumption) ?_
    rotate_left
    · (intro w hSw; (try dsimp only at hSw); go_simp; try with_reducible rfl)
    simp only [Act.put, List.setIfInBounds_toArray, List.set_cons_zero, List.set_cons_succ]
    refine wpAnyH_ready (rs := [16]) (by kernel_rfl) (by simp) (AllReadyH.cons (o := { dst := none, op := Op.store 22 (Operand.tmp 41) (Operand.tmp 38), type := 0, pos := "sema.go:43", after := _, guard := none }) rfl (fun K1023 hK1023 => ?_) AllReadyH.nil)
    refine step_store_box rfl 22 _ _ rfl (G) 3 (.slice u.a u.n u.c) rfl rfl rfl rfl (by kernel_rfl) _ _ GB.out (by simp) ?_
    intro v4 b g z
    have hsv4 : v3.heap.size ≤ v4.heap.size := by omega
    have HU := hid (HU.out.put g GB.out (by decide))
    have GB := hid (show BoxAt v4 (G) 46 #[.int .i64 c, .int .i64 m, .bool k, .slice u.a u.n u.c] from by simpa using b)
    have WB := hid (WB.out.grown g (fun e => by have := Option.some.inj e; omega))
    have HB := hid (grown_trans HB.out g)
    clear b g z
    refine hK1023.out _ _ (WB.out) (fun hHeld1023 => ?_)
    clear hK1023 K1023
    try simp only [Act.put]
    refine wpAnyH_done (by kernel_rfl) ?_ _
    clear hHeld hHeld1011 hHeld1018 hHeld1019 hHeld1023
    have kGB0 : v4.cell? ⟨G, 0, none⟩ = some (.int .i64 c) := (BoxAt.cell GB.out 0).trans rfl
    have kGB1 : v4.cell? ⟨G, 1, none⟩ = some (.int .i64 m) := (BoxAt.cell GB.out 1).trans rfl
    have kGB2 : v4.cell? ⟨G, 2, none⟩ = some (.bool k) := (BoxAt.cell GB.out 2).trans rfl
    have kGB3 : v4.cell? ⟨G, 3, none⟩ = some (.slice u.a u.n u.c) := (BoxAt.cell GB.out 3).trans rfl
    have kWB0 : v4.cell? ⟨w.heap.size, 0, none⟩ = some (.int .i64 p) := (BoxAt.cell WB.out 0).trans rfl
    have kWB1 : v4.cell? ⟨w.heap.size, 1, none⟩ = some (.int .i64 r) := (BoxAt.cell WB.out 1).trans rfl
    have kWB2 : v4.cell? ⟨w.heap.size, 2, none⟩ = some (.int .i64 v) := (BoxAt.cell WB.out 2).trans rfl
    go_wp2
    go_ret
    exact ⟨u, rfl, GB.out, HU.out, HB.out⟩

set_option maxRecDepth 100000 in
set_option maxHeartbeats 1600000 in
theorem sput_wake {G D : Nat} (c m : Int) (k : Bool) {x : Sl} {l : List Wt} (fp fr fv : Int) {w : World} (hb : BoxAt w G 46 #[.int .i64 c, .int .i64 m, .bool k, .slice x.a x.n x.c]) (hD : D ≤ G) (ho : OWt w D (.slice x.a x.n x.c) l) (hl : l.length ≤ 800000) (h1 : 0 < l.length) (hf : l.getD 0 Wt.zero = ⟨fp, fr, fv⟩) :
    Calls Try.prog 18 #[.pointer (some ⟨G, 0, none⟩)] w fun e w' => ∃ (u q : Sl), e = .returned (.tuple #[.int .i64 (0), q.val]) ∧ BoxAt w' G 46 #[.int .i64 (c), .int .i64 m, .bool k, .slice u.a u.n u.c] ∧ OWt w' D (.slice u.a u.n u.c) (l.drop 1) ∧ OWk w' w.heap.size q.val ([⟨fp, 0, 0⟩]) ∧ w.grownBy w' (some G) := by
  have GB := hid hb
  have HC := hid ho
  have HL := hid hl
  have hGw : G + 1 ≤ w.heap.size := hb.lt
  clear hb ho hl
  have H1 := hid h1
  clear h1
  have HB := hid (World.grownBy.refl w (some G))
  go_enter Try.func18, Try.ntmps18
  have kGB0 : w.cell? ⟨G, 0, none⟩ = some (.int .i64 c) := (BoxAt.cell GB.out 0).trans rfl
  have kGB1 : w.cell? ⟨G, 1, none⟩ = some (.int .i64 m) := (BoxAt.cell GB.out 1).trans rfl
  have kGB2 : w.cell? ⟨G, 2, none⟩ = some (.bool k) := (BoxAt.cell GB.out 2).trans rfl
  have kGB3 : w.cell? ⟨G, 3, none⟩ = some (.slice x.a x.n x.c) := (BoxAt.cell GB.out 3).trans rfl
  go_wp2_with fail
  refine (first_yes HC.out.sees HL.out H1.out fp fr fv hf).mono ?_
  rintro e v1 ⟨f, rfl, hu, hb⟩
  have GB := hid (GB.out.belowAll hb)
  have HC := hid (HC.out.below hb)
  have HB := hid (grow_new HB.out hb)
  have hsv1 : w.heap.size ≤ v1.heap.size := by first | exact hb.size | omega
  have HF := hid hu
  clear hu
  clear kGB0 kGB1 kGB2 kGB3
  have kGB0 : v1.cell? ⟨G, 0, none⟩ = some (.int .i64 c) := (BoxAt.cell GB.out 0).trans rfl
  have kGB1 : v1.cell? ⟨G, 1, none⟩ = some (.int .i64 m) := (BoxAt.cell GB.out 1).trans rfl
  have kGB2 : v1.cell? ⟨G, 2, none⟩ = some (.bool k) := (BoxAt.cell GB.out 2).trans rfl
  have kGB3 : v1.cell? ⟨G, 3, none⟩ = some (.slice x.a x.n x.c) := (BoxAt.cell GB.out 3).trans rfl
  clear hb
  have HFB := hid (fun k hk => (HF.out.lt k hk).2)
  have HCB := hid (fun k hk => (HC.out.lt k hk).2)
  clear HC HCB
  have FL1 := hid trivial
  have FL2 := hid trivial
  go_wp2_with (first
    | (have hfl := FL1.out
       refine wpList_new rfl 26 rfl _ Try.zeroWt ?_
       intro v2 b h z
       have FB := hid (show BoxAt v2 v1.heap.size 26 #[.int .i64 0, .int .i64 0, .int .i64 0] from b)
       have GB := hid (GB.out.belowAll h)
       have HF := hid (HF.out.below h)
       have HB := hid (grow_new HB.out h)
       have hsv2 : v1.heap.size + 1 ≤ v2.heap.size := by first | exact h.size | omega
       clear kGB0 kGB1 kGB2 kGB3
       have kGB0 : v2.cell? ⟨G, 0, none⟩ = some (.int .i64 c) := (BoxAt.cell GB.out 0).trans rfl
       have kGB1 : v2.cell? ⟨G, 1, none⟩ = some (.int .i64 m) := (BoxAt.cell GB.out 1).trans rfl
       have kGB2 : v2.cell? ⟨G, 2, none⟩ = some (.bool k) := (BoxAt.cell GB.out 2).trans rfl
       have kGB3 : v2.cell? ⟨G, 3, none⟩ = some (.slice x.a x.n x.c) := (BoxAt.cell GB.out 3).trans rfl
       clear b h z hfl FL1)
    | (have hfl := FL2.out
       refine wpList_store_whole rfl 26 _ _ rfl rfl (v1.heap.size) rfl [.int .i64 fp, .int .i64 fr, .int .i64 fv] rfl _ _ FB.out rfl Try.infoWt (by simp [Value.oneCell']) ?_
       intro v3 b g z
       have hsv3 : v2.heap.size ≤ v3.heap.size := by omega
       have HF := hid (HF.out.apart g (fun k hk => Nat.ne_of_lt (HFB.out k hk)))
       have FB := hid (show BoxAt v3 (v1.heap.size) 26 #[.int .i64 fp, .int .i64 fr, .int .i64 fv] from b)
       have GB := hid (GB.out.grown g (fun e => by have := Option.some.inj e; omega))
       have HB := hid (grow_over HB.out g (by omega))
       clear kGB0 kGB1 kGB2 kGB3
       have kGB0 : v3.cell? ⟨G, 0, none⟩ = some (.int .i64 c) := (BoxAt.cell GB.out 0).trans rfl
       have kGB1 : v3.cell? ⟨G, 1, none⟩ = some (.int .i64 m) := (BoxAt.cell GB.out 1).trans rfl
       have kGB2 : v3.cell? ⟨G, 2, none⟩ = some (.bool k) := (BoxAt.cell GB.out 2).trans rfl
       have kGB3 : v3.cell? ⟨G, 3, none⟩ = some (.slice x.a x.n x.c) := (BoxAt.cell GB.out 3).trans rfl
       have kFB0 : v3.cell? ⟨v1.heap.size, 0, none⟩ = some (.int .i64 fp) := (BoxAt.cell FB.out 0).trans rfl
       clear b g z hfl FL2
       refine Hid.out ?_)
    | fail)
  refine hid ?_
  clear kGB0 kGB1 kGB2 kGB3 kFB0
  have kGB0 : v3.cell? ⟨G, 0, none⟩ = some (.int .i64 c) := (BoxAt.cell GB.out 0).trans rfl
  have kGB1 : v3.cell? ⟨G, 1, none⟩ = some (.int .i64 m) := (BoxAt.cell GB.out 1).trans rfl
  have kGB2 : v3.cell? ⟨G, 2, none⟩ = some (.bool k) := (BoxAt.cell GB.out 2).trans rfl
  have kGB3 : v3.cell? ⟨G, 3, none⟩ = some (.slice x.a x.n x.c) := (BoxAt.cell GB.out 3).trans rfl
  have kFB0 : v3.cell? ⟨v1.heap.size, 0, none⟩ = some (.int .i64 fp) := (BoxAt.cell FB.out 0).trans rfl
  have FL3 := hid trivial
  go_wp2_with (first
    | (have hfl := FL3.out
       refine wpList_store_box rfl 22 _ _ rfl rfl (G) 3 (.slice f.a f.n f.c) rfl rfl rfl rfl (by kernel_rfl) _ _ GB.out (by simp) ?_
       intro v4 b g z
       have hsv4 : v3.heap.size ≤ v4.heap.size := by omega
       have HF := hid (HF.out.put g GB.out (by decide))
       have GB := hid (show BoxAt v4 (G) 46 #[.int .i64 c, .int .i64 m, .bool k, .slice f.a f.n f.c] from by simpa using b)
       have FB := hid (FB.out.grown g (fun e => by have := Option.some.inj e; omega))
       have HB := hid (grown_trans HB.out g)
       clear kGB0 kGB1 kGB2 kGB3 kFB0
       have kGB0 : v4.cell? ⟨G, 0, none⟩ = some (.int .i64 c) := (BoxAt.cell GB.out 0).trans rfl
       have kGB1 : v4.cell? ⟨G, 1, none⟩ = some (.int .i64 m) := (BoxAt.cell GB.out 1).trans rfl
       have kGB2 : v4.cell? ⟨G, 2, none⟩ = some (.bool k) := (BoxAt.cell GB.out 2).trans rfl
       have kGB3 : v4.cell? ⟨G, 3, none⟩ = some (.slice f.a f.n f.c) := (BoxAt.cell GB.out 3).trans rfl
       have kFB0 : v4.cell? ⟨v1.heap.size, 0, none⟩ = some (.int .i64 fp) := (BoxAt.cell FB.out 0).trans rfl
       clear b g z hfl FL3
       refine Hid.out ?_)
    | fail)
  refine hid ?_
  clear kGB0 kGB1 kGB2 kGB3 kFB0
  have kGB0 : v4.cell? ⟨G, 0, none⟩ = some (.int .i64 c) := (BoxAt.cell GB.out 0).trans rfl
  have kGB1 : v4.cell? ⟨G, 1, none⟩ = some (.int .i64 m) := (BoxAt.cell GB.out 1).trans rfl
  have kGB2 : v4.cell? ⟨G, 2, none⟩ = some (.bool k) := (BoxAt.cell GB.out 2).trans rfl
  have kGB3 : v4.cell? ⟨G, 3, none⟩ = some (.slice f.a f.n f.c) := (BoxAt.cell GB.out 3).trans rfl
  have kFB0 : v4.cell? ⟨v1.heap.size, 0, none⟩ = some (.int .i64 fp) := (BoxAt.cell FB.out 0).trans rfl
  go_wp2_with fail
  clear kGB0 kGB1 kGB2 kGB3 kFB0
  have GB := hid (BoxAt.drew GB.out)
  have FB := hid (BoxAt.drew FB.out)
  have HF := hid (HF.out.below ((Below.refl v4.heap.size v4).drew))
  have HB := hid (grow_drew HB.out)
  have hsv5 : v4.heap.size ≤ v4.drew.heap.size := Nat.le_refl _
  refine wp_region_held_drew (S := (fun w' : World => BoxAt w' (v1.heap.size) 26 #[.int .i64 fp, .int .i64 fr, .int .i64 fv])) (by kernel_rfl) (FB.out) (fun hHeld => ?_)
  generalize v4.drew = v5 at *
  refine wpAnyH_take (i := 0) (oi := { dst := some 24, op := Op.fieldAddr 26 (Operand.tmp 4) 0, type := 0, pos := "sema.go:53", after := _, guard := none }) (v := ?_) rfl (by kernel_rfl) (by kernel_rfl) (by kernel_rfl) (fun _ _ _ h => h) (Or.inl ⟨by rfl, ?_⟩) (by assumption) ?_
  rotate_left
  · (intro w hSw; (try dsimp only at hSw); go_simp; try with_reducible rfl)
  simp only [Act.put, List.setIfInBounds_toArray, List.set_cons_zero, List.set_cons_succ]
  refine wpAnyH_take (i := 1) (oi := { dst := some 25, op := Op.load 3 (Operand.tmp 24), type := 3, pos := "sema.go:53", after := _, guard := none }) (v := ?_) rfl (by kernel_rfl) (by kernel_rfl) (by kernel_rfl) (fun _ _ _ h => h) (Or.inl ⟨by rfl, ?_⟩) (by assumption) ?_
  rotate_left
  · (intro W hSw; (try dsimp only at hSw); have hs0S := hSw; have c0_0 : W.cell? ⟨v1.heap.size, 0, none⟩ = some (.int .i64 fp) := (BoxAt.cell hs0S 0).trans rfl; have c0_1 : W.cell? ⟨v1.heap.size, 1, none⟩ = some (.int .i64 fr) := (BoxAt.cell hs0S 1).trans rfl; have c0_2 : W.cell? ⟨v1.heap.size, 2, none⟩ = some (.int .i64 fv) := (BoxAt.cell hs0S 2).trans rfl; clear hs0S; go_simp; try with_reducible rfl)
  simp only [Act.put, List.setIfInBounds_toArray, List.set_cons_zero, List.set_cons_succ]
  refine wpAnyH_take (i := 2) (oi := { dst := some 26, op := Op.build 42 #[(0, Operand.tmp 25), (1, Operand.const (Value.int IntKind.i64 0))], type := 42, pos := "sema.go:53", after := _, guard := none }) (v := ?_) rfl (by kernel_rfl) (by kernel_rfl) (by kernel_rfl) (fun _ _ _ h => h) (Or.inl ⟨by rfl, ?_⟩) (by assumption) ?_
  rotate_left
  · (intro w hSw; (try dsimp only at hSw); go_simp; try with_reducible rfl)
  simp only [Act.put, List.setIfInBounds_toArray, List.set_cons_zero, List.set_cons_succ]
  refine wpAnyH_take (i := 4) (oi := { dst := some 2, op := Op.assign (Operand.const (Value.int IntKind.i64 0)), type := 3, pos := "sema.go:53", after := _, guard := none }) (v := ?_) rfl (by kernel_rfl) (by kernel_rfl) (by kernel_rfl) (fun _ _ _ h => h) (Or.inl ⟨by rfl, ?_⟩) (by assumption) ?_
  rotate_left
  · (intro w hSw; (try dsimp only at hSw); go_simp; try with_reducible rfl)
  simp only [Act.put, List.setIfInBounds_toArray, List.set_cons_zero, List.set_cons_succ]
  refine wpAnyH_ready (rs := [3]) (by kernel_rfl) (by simp) (AllReadyH.cons (o := { dst := some 27, op := Op.buildSlice 30 1 #[(0, Operand.tmp 26)], type := 30, pos := "sema.go:53", after := _, guard := none }) rfl (fun K1005 hK1005 => ?_) AllReadyH.nil)
  refine step_litk rfl (.tmp 26) rfl ((⟨fp, 0, 0⟩ : Wk)) rfl ?_
  intro v6 ho h
  have GB := hid (GB.out.belowAll h)
  have FB := hid (FB.out.belowAll h)
  have HF := hid (HF.out.below h)
  have HB := hid (grow_new HB.out h)
  have hsv6 : v5.heap.size ≤ v6.heap.size := by first | exact h.size | omega
  have HQ := hid ho
  clear ho h
  refine hK1005.out _ _ (FB.out) (fun hHeld1005 => ?_)
  clear hK1005 K1005
  try simp only [Act.put, List.setIfInBounds_toArray, List.set_cons_zero, List.set_cons_succ]
  refine wpAnyH_take (i := 5) (oi := { dst := some 3, op := Op.assign (Operand.tmp 27), type := 30, pos := "sema.go:53", after := _, guard := none }) (v := ?_) rfl (by kernel_rfl) (by kernel_rfl) (by kernel_rfl) (fun _ _ _ h => h) (Or.inl ⟨by rfl, ?_⟩) (by assumption) ?_
  rotate_left
  · (intro w hSw; (try dsimp only at hSw); go_simp; try with_reducible rfl)
  simp only [Act.put, List.setIfInBounds_toArray, List.set_cons_zero, List.set_cons_succ]
  refine wpAnyH_done (by kernel_rfl) ?_ _
  clear hHeld hHeld1005
  have kGB0 : v6.cell? ⟨G, 0, none⟩ = some (.int .i64 c) := (BoxAt.cell GB.out 0).trans rfl
  have kGB1 : v6.cell? ⟨G, 1, none⟩ = some (.int .i64 m) := (BoxAt.cell GB.out 1).trans rfl
  have kGB2 : v6.cell? ⟨G, 2, none⟩ = some (.bool k) := (BoxAt.cell GB.out 2).trans rfl
  have kGB3 : v6.cell? ⟨G, 3, none⟩ = some (.slice f.a f.n f.c) := (BoxAt.cell GB.out 3).trans rfl
  have kFB0 : v6.cell? ⟨v1.heap.size, 0, none⟩ = some (.int .i64 fp) := (BoxAt.cell FB.out 0).trans rfl
  go_wp2
  go_ret2
  exact ⟨f, ⟨some ⟨v5.heap.size, 0, none⟩, 1, 1⟩, rfl, GB.out, HF.out.mono (by omega), HQ.out.mono (by omega), HB.out⟩

set_option maxRecDepth 100000 in
set_option maxHeartbeats 1600000 in
theorem sput_more {G D : Nat} (c m : Int) (k : Bool) {x : Sl} {l : List Wt} {w : World} (hb : BoxAt w G 46 #[.int .i64 c, .int .i64 m, .bool k, .slice x.a x.n x.c]) (hD : D ≤ G) (ho : OWt w D (.slice x.a x.n x.c) l) (hl : l.length ≤ 800000) (h1 : l.length = 0) (hd : c < m) :
    Calls Try.prog 18 #[.pointer (some ⟨G, 0, none⟩)] w fun e w' => ∃ (u q : Sl), e = .returned (.tuple #[.int .i64 (0), q.val]) ∧ BoxAt w' G 46 #[.int .i64 (wrap64 (c + 1)), .int .i64 m, .bool k, .slice u.a u.n u.c] ∧ OWt w' D (.slice u.a u.n u.c) (l) ∧ OWk w' w.heap.size q.val ([]) ∧ w.grownBy w' (some G) := by
  have GB := hid hb
  have HC := hid ho
  have HL := hid hl
  have hGw : G + 1 ≤ w.heap.size := hb.lt
  clear hb ho hl
  have H1 := hid h1
  have hdd : decide (c < m) = true := decide_eq_true hd
  clear h1
  have HB := hid (World.grownBy.refl w (some G))
  go_enter Try.func18, Try.ntmps18
  have kGB0 : w.cell? ⟨G, 0, none⟩ = some (.int .i64 c) := (BoxAt.cell GB.out 0).trans rfl
  have kGB1 : w.cell? ⟨G, 1, none⟩ = some (.int .i64 m) := (BoxAt.cell GB.out 1).trans rfl
  have kGB2 : w.cell? ⟨G, 2, none⟩ = some (.bool k) := (BoxAt.cell GB.out 2).trans rfl
  have kGB3 : w.cell? ⟨G, 3, none⟩ = some (.slice x.a x.n x.c) := (BoxAt.cell GB.out 3).trans rfl
  go_wp2_with fail
  refine (first_no HC.out.sees H1.out).mono ?_
  rintro e v1 ⟨f, rfl, hu, hb⟩
  have GB := hid (GB.out.belowAll hb)
  have HC := hid (HC.out.below hb)
  have HB := hid (grow_new HB.out hb)
  have hsv1 : w.heap.size ≤ v1.heap.size := by first | exact hb.size | omega
  have HF := hid hu
  clear hu
  clear kGB0 kGB1 kGB2 kGB3
  have kGB0 : v1.cell? ⟨G, 0, none⟩ = some (.int .i64 c) := (BoxAt.cell GB.out 0).trans rfl
  have kGB1 : v1.cell? ⟨G, 1, none⟩ = some (.int .i64 m) := (BoxAt.cell GB.out 1).trans rfl
  have kGB2 : v1.cell? ⟨G, 2, none⟩ = some (.bool k) := (BoxAt.cell GB.out 2).trans rfl
  have kGB3 : v1.cell? ⟨G, 3, none⟩ = some (.slice x.a x.n x.c) := (BoxAt.cell GB.out 3).trans rfl
  clear hb
  have HFB := hid (fun k hk => (HF.out.lt k hk).2)
  have HCB := hid (fun k hk => (HC.out.lt k hk).2)
  have FL1 := hid trivial
  have FL2 := hid trivial
  go_wp2_with (first
    | (have hfl := FL1.out
       refine wpList_new rfl 26 rfl _ Try.zeroWt ?_
       intro v2 b h z
       have FB := hid (show BoxAt v2 v1.heap.size 26 #[.int .i64 0, .int .i64 0, .int .i64 0] from b)
       have GB := hid (GB.out.belowAll h)
       have HC := hid (HC.out.below h)
       have HF := hid (HF.out.below h)
       have HB := hid (grow_new HB.out h)
       have hsv2 : v1.heap.size + 1 ≤ v2.heap.size := by first | exact h.size | omega
       clear kGB0 kGB1 kGB2 kGB3
       have kGB0 : v2.cell? ⟨G, 0, none⟩ = some (.int .i64 c) := (BoxAt.cell GB.out 0).trans rfl
       have kGB1 : v2.cell? ⟨G, 1, none⟩ = some (.int .i64 m) := (BoxAt.cell GB.out 1).trans rfl
       have kGB2 : v2.cell? ⟨G, 2, none⟩ = some (.bool k) := (BoxAt.cell GB.out 2).trans rfl
       have kGB3 : v2.cell? ⟨G, 3, none⟩ = some (.slice x.a x.n x.c) := (BoxAt.cell GB.out 3).trans rfl
       clear b h z hfl FL1)
    | (have hfl := FL2.out
       refine wpList_store_whole rfl 26 _ _ rfl rfl (v1.heap.size) rfl [.int .i64 0, .int .i64 0, .int .i64 0] rfl _ _ FB.out rfl Try.infoWt (by simp [Value.oneCell']) ?_
       intro v3 b g z
       have hsv3 : v2.heap.size ≤ v3.heap.size := by omega
       have HC := hid (HC.out.apart g (fun k hk => Nat.ne_of_lt (HCB.out k hk)))
       have HF := hid (HF.out.apart g (fun k hk => Nat.ne_of_lt (HFB.out k hk)))
       have FB := hid (show BoxAt v3 (v1.heap.size) 26 #[.int .i64 0, .int .i64 0, .int .i64 0] from b)
       have GB := hid (GB.out.grown g (fun e => by have := Option.some.inj e; omega))
       have HB := hid (grow_over HB.out g (by omega))
       clear kGB0 kGB1 kGB2 kGB3
       have kGB0 : v3.cell? ⟨G, 0, none⟩ = some (.int .i64 c) := (BoxAt.cell GB.out 0).trans rfl
       have kGB1 : v3.cell? ⟨G, 1, none⟩ = some (.int .i64 m) := (BoxAt.cell GB.out 1).trans rfl
       have kGB2 : v3.cell? ⟨G, 2, none⟩ = some (.bool k) := (BoxAt.cell GB.out 2).trans rfl
       have kGB3 : v3.cell? ⟨G, 3, none⟩ = some (.slice x.a x.n x.c) := (BoxAt.cell GB.out 3).trans rfl
       have kFB0 : v3.cell? ⟨v1.heap.size, 0, none⟩ = some (.int .i64 0) := (BoxAt.cell FB.out 0).trans rfl
       clear b g z hfl FL2
       refine Hid.out ?_)
    | fail)
  refine hid ?_
  clear kGB0 kGB1 kGB2 kGB3 kFB0
  have kGB0 : v3.cell? ⟨G, 0, none⟩ = some (.int .i64 c) := (BoxAt.cell GB.out 0).trans rfl
  have kGB1 : v3.cell? ⟨G, 1, none⟩ = some (.int .i64 m) := (BoxAt.cell GB.out 1).trans rfl
  have kGB2 : v3.cell? ⟨G, 2, none⟩ = some (.bool k) := (BoxAt.cell GB.out 2).trans rfl
  have kGB3 : v3.cell? ⟨G, 3, none⟩ = some (.slice x.a x.n x.c) := (BoxAt.cell GB.out 3).trans rfl
  have kFB0 : v3.cell? ⟨v1.heap.size, 0, none⟩ = some (.int .i64 0) := (BoxAt.cell FB.out 0).trans rfl
  go_wp2_with fail
  clear kGB0 kGB1 kGB2 kGB3 kFB0
  have GB := hid (BoxAt.drew GB.out)
  have FB := hid (BoxAt.drew FB.out)
  have HC := hid (HC.out.below ((Below.refl v3.heap.size v3).drew))
  have HF := hid (HF.out.below ((Below.refl v3.heap.size v3).drew))
  have HB := hid (grow_drew HB.out)
  have hsv4 : v3.heap.size ≤ v3.drew.heap.size := Nat.le_refl _
  refine wp_region_held_drew (S := (fun w' : World => BoxAt w' (G) 46 #[.int .i64 c, .int .i64 m, .bool k, .slice x.a x.n x.c])) (by kernel_rfl) (GB.out) (fun hHeld => ?_)
  generalize v3.drew = v4 at *
  refine wpAnyH_take (i := 0) (oi := { dst := some 29, op := Op.move (Operand.tmp 0), type := 56, pos := "sema.go:54", after := _, guard := none }) (v := ?_) rfl (by kernel_rfl) (by kernel_rfl) (by kernel_rfl) (fun _ _ _ h => h) (Or.inl ⟨by rfl, ?_⟩) (by assumption) ?_
  rotate_left
  · (intro w hSw; (try dsimp only at hSw); go_simp; try with_reducible rfl)
  simp only [Act.put, List.setIfInBounds_toArray, List.set_cons_zero, List.set_cons_succ]
  refine wpAnyH_take (i := 1) (oi := { dst := some 30, op := Op.nilCheck (Operand.tmp 29), type := 0, pos := "sema.go:54", after := _, guard := none }) (v := ?_) rfl (by kernel_rfl) (by kernel_rfl) (by kernel_rfl) (fun _ _ _ h => h) (Or.inl ⟨by rfl, ?_⟩) (by assumption) ?_
  rotate_left
  · (intro w hSw; (try dsimp only at hSw); go_simp; try with_reducible rfl)
  simp only [Act.put, List.setIfInBounds_toArray, List.set_cons_zero, List.set_cons_succ]
  refine wpAnyH_take (i := 2) (oi := { dst := some 31, op := Op.fieldAddr 46 (Operand.tmp 30) 0, type := 0, pos := "sema.go:54", after := _, guard := none }) (v := ?_) rfl (by kernel_rfl) (by kernel_rfl) (by kernel_rfl) (fun _ _ _ h => h) (Or.inl ⟨by rfl, ?_⟩) (by assumption) ?_
  rotate_left
  · (intro w hSw; (try dsimp only at hSw); go_simp; try with_reducible rfl)
  simp only [Act.put, List.setIfInBounds_toArray, List.set_cons_zero, List.set_cons_succ]
  refine wpAnyH_take (i := 3) (oi := { dst := some 32, op := Op.fieldAddr 24 (Operand.tmp 31) 0, type := 0, pos := "sema.go:54", after := _, guard := none }) (v := ?_) rfl (by kernel_rfl) (by kernel_rfl) (by kernel_rfl) (fun _ _ _ h => h) (Or.inl ⟨by rfl, ?_⟩) (by assumption) ?_
  rotate_left
  · (intro w hSw; (try dsimp only at hSw); go_simp; try with_reducible rfl)
  simp only [Act.put, List.setIfInBounds_toArray, List.set_cons_zero, List.set_cons_succ]
  refine wpAnyH_take (i := 4) (oi := { dst := some 33, op := Op.load 3 (Operand.tmp 32), type := 3, pos := "sema.go:54", after := _, guard := none }) (v := ?_) rfl (by kernel_rfl) (by kernel_rfl) (by kernel_rfl) (fun _ _ _ h => h) (Or.inl ⟨by rfl, ?_⟩) (by assumption) ?_
  rotate_left
  · (intro W hSw; (try dsimp only at hSw); have hs0S := hSw; have c0_0 : W.cell? ⟨G, 0, none⟩ = some (.int .i64 c) := (BoxAt.cell hs0S 0).trans rfl; have c0_1 : W.cell? ⟨G, 1, none⟩ = some (.int .i64 m) := (BoxAt.cell hs0S 1).trans rfl; have c0_2 : W.cell? ⟨G, 2, none⟩ = some (.bool k) := (BoxAt.cell hs0S 2).trans rfl; have c0_3 : W.cell? ⟨G, 3, none⟩ = some (.slice x.a x.n x.c) := (BoxAt.cell hs0S 3).trans rfl; clear hs0S; go_simp; try with_reducible rfl)
  simp only [Act.put, List.setIfInBounds_toArray, List.set_cons_zero, List.set_cons_succ]
  refine wpAnyH_take (i := 5) (oi := { dst := some 34, op := Op.move (Operand.tmp 0), type := 56, pos := "sema.go:54", after := _, guard := none }) (v := ?_) rfl (by kernel_rfl) (by kernel_rfl) (by kernel_rfl) (fun _ _ _ h => h) (Or.inl ⟨by rfl, ?_⟩) (by assumption) ?_
  rotate_left
  · (intro w hSw; (try dsimp only at hSw); go_simp; try with_reducible rfl)
  simp only [Act.put, List.setIfInBounds_toArray, List.set_cons_zero, List.set_cons_succ]
  refine wpAnyH_take (i := 6) (oi := { dst := some 35, op := Op.nilCheck (Operand.tmp 34), type := 0, pos := "sema.go:54", after := _, guard := none }) (v := ?_) rfl (by kernel_rfl) (by kernel_rfl) (by kernel_rfl) (fun _ _ _ h => h) (Or.inl ⟨by rfl, ?_⟩) (by assumption) ?_
  rotate_left
  · (intro w hSw; (try dsimp only at hSw); go_simp; try with_reducible rfl)
  simp only [Act.put, List.setIfInBounds_toArray, List.set_cons_zero, List.set_cons_succ]
  refine wpAnyH_take (i := 7) (oi := { dst := some 36, op := Op.fieldAddr 46 (Operand.tmp 35) 0, type := 0, pos := "sema.go:54", after := _, guard := none }) (v := ?_) rfl (by kernel_rfl) (by kernel_rfl) (by kernel_rfl) (fun _ _ _ h => h) (Or.inl ⟨by rfl, ?_⟩) (by assumption) ?_
  rotate_left
  · (intro w hSw; (try dsimp only at hSw); go_simp; try with_reducible rfl)
  simp only [Act.put, List.setIfInBounds_toArray, List.set_cons_zero, List.set_cons_succ]
  refine wpAnyH_take (i := 8) (oi := { dst := some 37, op := Op.fieldAddr 24 (Operand.tmp 36) 1, type := 0, pos := "sema.go:54", after := _, guard := none }) (v := ?_) rfl (by kernel_rfl) (by kernel_rfl) (by kernel_rfl) (fun _ _ _ h => h) (Or.inl ⟨by rfl, ?_⟩) (by assumption) ?_
  rotate_left
  · (intro w hSw; (try dsimp only at hSw); go_simp; try with_reducible rfl)
  simp only [Act.put, List.setIfInBounds_toArray, List.set_cons_zero, List.set_cons_succ]
  refine wpAnyH_take (i := 9) (oi := { dst := some 38, op := Op.load 3 (Operand.tmp 37), type := 3, pos := "sema.go:54", after := _, guard := none }) (v := ?_) rfl (by kernel_rfl) (by kernel_rfl) (by kernel_rfl) (fun _ _ _ h => h) (Or.inl ⟨by rfl, ?_⟩) (by assumption) ?_
  rotate_left
  · (intro W hSw; (try dsimp only at hSw); have hs0S := hSw; have c0_0 : W.cell? ⟨G, 0, none⟩ = some (.int .i64 c) := (BoxAt.cell hs0S 0).trans rfl; have c0_1 : W.cell? ⟨G, 1, none⟩ = some (.int .i64 m) := (BoxAt.cell hs0S 1).trans rfl; have c0_2 : W.cell? ⟨G, 2, none⟩ = some (.bool k) := (BoxAt.cell hs0S 2).trans rfl; have c0_3 : W.cell? ⟨G, 3, none⟩ = some (.slice x.a x.n x.c) := (BoxAt.cell hs0S 3).trans rfl; clear hs0S; go_simp; try with_reducible rfl)
  simp only [Act.put, List.setIfInBounds_toArray, List.set_cons_zero, List.set_cons_succ]
  refine wpAnyH_take (i := 10) (oi := { dst := some 39, op := Op.binOp BinOp.lss 3 (Operand.tmp 33) (Operand.tmp 38) 3, type := 4, pos := "sema.go:54", after := _, guard := none }) (v := ?_) rfl (by kernel_rfl) (by kernel_rfl) (by kernel_rfl) (fun _ _ _ h => h) (Or.inl ⟨by rfl, ?_⟩) (by assumption) ?_
  rotate_left
  · (intro W hSw; (try dsimp only at hSw); have hs0S := hSw; clear hs0S; go_simp; try with_reducible rfl)
  simp only [Act.put, List.setIfInBounds_toArray, List.set_cons_zero, List.set_cons_succ]
  refine wpAnyH_take (i := 11) (oi := { dst := some 28, op := Op.assign (Operand.tmp 39), type := 4, pos := "sema.go:54", after := _, guard := none }) (v := ?_) rfl (by kernel_rfl) (by kernel_rfl) (by kernel_rfl) (fun _ _ _ h => h) (Or.inl ⟨by rfl, ?_⟩) (by assumption) ?_
  rotate_left
  · (intro w hSw; (try dsimp only at hSw); go_simp; try with_reducible rfl)
  simp only [Act.put, List.setIfInBounds_toArray, List.set_cons_zero, List.set_cons_succ]
  refine wpAnyH_done (by kernel_rfl) ?_ _
  clear hHeld
  have kGB0 : v4.cell? ⟨G, 0, none⟩ = some (.int .i64 c) := (BoxAt.cell GB.out 0).trans rfl
  have kGB1 : v4.cell? ⟨G, 1, none⟩ = some (.int .i64 m) := (BoxAt.cell GB.out 1).trans rfl
  have kGB2 : v4.cell? ⟨G, 2, none⟩ = some (.bool k) := (BoxAt.cell GB.out 2).trans rfl
  have kGB3 : v4.cell? ⟨G, 3, none⟩ = some (.slice x.a x.n x.c) := (BoxAt.cell GB.out 3).trans rfl
  have kFB0 : v4.cell? ⟨v1.heap.size, 0, none⟩ = some (.int .i64 0) := (BoxAt.cell FB.out 0).trans rfl
  have FL3 := hid trivial
  go_wp2_with (first
    | (have hfl := FL3.out
       refine wpList_store_box rfl 3 _ _ rfl rfl (G) 0 (.int .i64 (wrap64 (c + 1))) rfl rfl rfl rfl (by kernel_rfl) _ _ GB.out (by simp) ?_
       intro v5 b g z
       have hsv5 : v4.heap.size ≤ v5.heap.size := by omega
       have HC := hid (HC.out.put g GB.out (by decide))
       have HF := hid (HF.out.put g GB.out (by decide))
       have GB := hid (show BoxAt v5 (G) 46 #[.int .i64 (wrap64 (c + 1)), .int .i64 m, .bool k, .slice x.a x.n x.c] from by simpa using b)
       have FB := hid (FB.out.grown g (fun e => by have := Option.some.inj e; omega))
       have HB := hid (grown_trans HB.out g)
       clear kGB0 kGB1 kGB2 kGB3 kFB0
       have kGB0 : v5.cell? ⟨G, 0, none⟩ = some (.int .i64 (wrap64 (c + 1))) := (BoxAt.cell GB.out 0).trans rfl
       have kGB1 : v5.cell? ⟨G, 1, none⟩ = some (.int .i64 m) := (BoxAt.cell GB.out 1).trans rfl
       have kGB2 : v5.cell? ⟨G, 2, none⟩ = some (.bool k) := (BoxAt.cell GB.out 2).trans rfl
       have kGB3 : v5.cell? ⟨G, 3, none⟩ = some (.slice x.a x.n x.c) := (BoxAt.cell GB.out 3).trans rfl
       have kFB0 : v5.cell? ⟨v1.heap.size, 0, none⟩ = some (.int .i64 0) := (BoxAt.cell FB.out 0).trans rfl
       clear b g z hfl FL3
       refine Hid.out ?_)
    | fail)
  refine hid ?_
  clear kGB0 kGB1 kGB2 kGB3 kFB0
  have kGB0 : v5.cell? ⟨G, 0, none⟩ = some (.int .i64 (wrap64 (c + 1))) := (BoxAt.cell GB.out 0).trans rfl
  have kGB1 : v5.cell? ⟨G, 1, none⟩ = some (.int .i64 m) := (BoxAt.cell GB.out 1).trans rfl
  have kGB2 : v5.cell? ⟨G, 2, none⟩ = some (.bool k) := (BoxAt.cell GB.out 2).trans rfl
  have kGB3 : v5.cell? ⟨G, 3, none⟩ = some (.slice x.a x.n x.c) := (BoxAt.cell GB.out 3).trans rfl
  have kFB0 : v5.cell? ⟨v1.heap.size, 0, none⟩ = some (.int .i64 0) := (BoxAt.cell FB.out 0).trans rfl
  go_wp2
  go_ret2
  exact ⟨x, ⟨none, 0, 0⟩, rfl, GB.out, HC.out, OWk.nil _ _, HB.out⟩

set_option maxRecDepth 100000 in
set_option maxHeartbeats 1600000 in
theorem sput_full {G D : Nat} (c m : Int) (k : Bool) {x : Sl} {l : List Wt} {w : World} (hb : BoxAt w G 46 #[.int .i64 c, .int .i64 m, .bool k, .slice x.a x.n x.c]) (hD : D ≤ G) (ho : OWt w D (.slice x.a x.n x.c) l) (hl : l.length ≤ 800000) (h1 : l.length = 0) (hd : ¬ c < m) :
    Calls Try.prog 18 #[.pointer (some ⟨G, 0, none⟩)] w fun e w' => ∃ (u q : Sl), e = .returned (.tuple #[.int .i64 (1), q.val]) ∧ BoxAt w' G 46 #[.int .i64 (c), .int .i64 m, .bool k, .slice u.a u.n u.c] ∧ OWt w' D (.slice u.a u.n u.c) (l) ∧ OWk w' w.heap.size q.val ([]) ∧ w.grownBy w' (some G) := by
  have GB := hid hb
  have HC := hid ho
  have HL := hid hl
  have hGw : G + 1 ≤ w.heap.size := hb.lt
  clear hb ho hl
  have H1 := hid h1
  have hdd : decide (c < m) = false := decide_eq_false hd
  clear h1
  have HB := hid (World.grownBy.refl w (some G))
  go_enter Try.func18, Try.ntmps18
  have kGB0 : w.cell? ⟨G, 0, none⟩ = some (.int .i64 c) := (BoxAt.cell GB.out 0).trans rfl
  have kGB1 : w.cell? ⟨G, 1, none⟩ = some (.int .i64 m) := (BoxAt.cell GB.out 1).trans rfl
  have kGB2 : w.cell? ⟨G, 2, none⟩ = some (.bool k) := (BoxAt.cell GB.out 2).trans rfl
  have kGB3 : w.cell? ⟨G, 3, none⟩ = some (.slice x.a x.n x.c) := (BoxAt.cell GB.out 3).trans rfl
  go_wp2_with fail
  refine (first_no HC.out.sees H1.out).mono ?_
  rintro e v1 ⟨f, rfl, hu, hb⟩
  have GB := hid (GB.out.belowAll hb)
  have HC := hid (HC.out.below hb)
  have HB := hid (grow_new HB.out hb)
  have hsv1 : w.heap.size ≤ v1.heap.size := by first | exact hb.size | omega
  have HF := hid hu
  clear hu
  clear kGB0 kGB1 kGB2 kGB3
  have kGB0 : v1.cell? ⟨G, 0, none⟩ = some (.int .i64 c) := (BoxAt.cell GB.out 0).trans rfl
  have kGB1 : v1.cell? ⟨G, 1, none⟩ = some (.int .i64 m) := (BoxAt.cell GB.out 1).trans rfl
  have kGB2 : v1.cell? ⟨G, 2, none⟩ = some (.bool k) := (BoxAt.cell GB.out 2).trans rfl
  have kGB3 : v1.cell? ⟨G, 3, none⟩ = some (.slice x.a x.n x.c) := (BoxAt.cell GB.out 3).trans rfl
  clear hb
  have HFB := hid (fun k hk => (HF.out.lt k hk).2)
  have HCB := hid (fun k hk => (HC.out.lt k hk).2)
  have FL1 := hid trivial
  have FL2 := hid trivial
  go_wp2_with (first
    | (have hfl := FL1.out
       refine wpList_new rfl 26 rfl _ Try.zeroWt ?_
       intro v2 b h z
       have FB := hid (show BoxAt v2 v1.heap.size 26 #[.int .i64 0, .int .i64 0, .int .i64 0] from b)
       have GB := hid (GB.out.belowAll h)
       have HC := hid (HC.out.below h)
       have HF := hid (HF.out.below h)
       have HB := hid (grow_new HB.out h)
       have hsv2 : v1.heap.size + 1 ≤ v2.heap.size := by first | exact h.size | omega
       clear kGB0 kGB1 kGB2 kGB3
       have kGB0 : v2.cell? ⟨G, 0, none⟩ = some (.int .i64 c) := (BoxAt.cell GB.out 0).trans rfl
       have kGB1 : v2.cell? ⟨G, 1, none⟩ = some (.int .i64 m) := (BoxAt.cell GB.out 1).trans rfl
       have kGB2 : v2.cell? ⟨G, 2, none⟩ = some (.bool k) := (BoxAt.cell GB.out 2).trans rfl
       have kGB3 : v2.cell? ⟨G, 3, none⟩ = some (.slice x.a x.n x.c) := (BoxAt.cell GB.out 3).trans rfl
       clear b h z hfl FL1)
    | (have hfl := FL2.out
       refine wpList_store_whole rfl 26 _ _ rfl rfl (v1.heap.size) rfl [.int .i64 0, .int .i64 0, .int .i64 0] rfl _ _ FB.out rfl Try.infoWt (by simp [Value.oneCell']) ?_
       intro v3 b g z
       have hsv3 : v2.heap.size ≤ v3.heap.size := by omega
       have HC := hid (HC.out.apart g (fun k hk => Nat.ne_of_lt (HCB.out k hk)))
       have HF := hid (HF.out.apart g (fun k hk => Nat.ne_of_lt (HFB.out k hk)))
       have FB := hid (show BoxAt v3 (v1.heap.size) 26 #[.int .i64 0, .int .i64 0, .int .i64 0] from b)
       have GB := hid (GB.out.grown g (fun e => by have := Option.some.inj e; omega))
       have HB := hid (grow_over HB.out g (by omega))
       clear kGB0 kGB1 kGB2 kGB3
       have kGB0 : v3.cell? ⟨G, 0, none⟩ = some (.int .i64 c) := (BoxAt.cell GB.out 0).trans rfl
       have kGB1 : v3.cell? ⟨G, 1, none⟩ = some (.int .i64 m) := (BoxAt.cell GB.out 1).trans rfl
       have kGB2 : v3.cell? ⟨G, 2, none⟩ = some (.bool k) := (BoxAt.cell GB.out 2).trans rfl
       have kGB3 : v3.cell? ⟨G, 3, none⟩ = some (.slice x.a x.n x.c) := (BoxAt.cell GB.out 3).trans rfl
       have kFB0 : v3.cell? ⟨v1.heap.size, 0, none⟩ = some (.int .i64 0) := (BoxAt.cell FB.out 0).trans rfl
       clear b g z hfl FL2
       refine Hid.out ?_)
    | fail)
  refine hid ?_
  clear kGB0 kGB1 kGB2 kGB3 kFB0
  have kGB0 : v3.cell? ⟨G, 0, none⟩ = some (.int .i64 c) := (BoxAt.cell GB.out 0).trans rfl
  have kGB1 : v3.cell? ⟨G, 1, none⟩ = some (.int .i64 m) := (BoxAt.cell GB.out 1).trans rfl
  have kGB2 : v3.cell? ⟨G, 2, none⟩ = some (.bool k) := (BoxAt.cell GB.out 2).trans rfl
  have kGB3 : v3.cell? ⟨G, 3, none⟩ = some (.slice x.a x.n x.c) := (BoxAt.cell GB.out 3).trans rfl
  have kFB0 : v3.cell? ⟨v1.heap.size, 0, none⟩ = some (.int .i64 0) := (BoxAt.cell FB.out 0).trans rfl
  go_wp2_with fail
  clear kGB0 kGB1 kGB2 kGB3 kFB0
  have GB := hid (BoxAt.drew GB.out)
  have FB := hid (BoxAt.drew FB.out)
  have HC := hid (HC.out.below ((Below.refl v3.heap.size v3).drew))
  have HF := hid (HF.out.below ((Below.refl v3.heap.size v3).drew))
  have HB := hid (grow_drew HB.out)
  have hsv4 : v3.heap.size ≤ v3.drew.heap.size := Nat.le_refl _
  refine wp_region_held_drew (S := (fun w' : World => BoxAt w' (G) 46 #[.int .i64 c, .int .i64 m, .bool k, .slice x.a x.n x.c])) (by kernel_rfl) (GB.out) (fun hHeld => ?_)
  generalize v3.drew = v4 at *
  refine wpAnyH_take (i := 0) (oi := { dst := some 29, op := Op.move (Operand.tmp 0), type := 56, pos := "sema.go:54", after := _, guard := none }) (v := ?_) rfl (by kernel_rfl) (by kernel_rfl) (by kernel_rfl) (fun _ _ _ h => h) (Or.inl ⟨by rfl, ?_⟩) (by assumption) ?_
  rotate_left
  · (intro w hSw; (try dsimp only at hSw); go_simp; try with_reducible rfl)
  simp only [Act.put, List.setIfInBounds_toArray, List.set_cons_zero, List.set_cons_succ]
  refine wpAnyH_take (i := 1) (oi := { dst := some 30, op := Op.nilCheck (Operand.tmp 29), type := 0, pos := "sema.go:54", after := _, guard := none }) (v := ?_) rfl (by kernel_rfl) (by kernel_rfl) (by kernel_rfl) (fun _ _ _ h => h) (Or.inl ⟨by rfl, ?_⟩) (by assumption) ?_
  rotate_left
  · (intro w hSw; (try dsimp only at hSw); go_simp; try with_reducible rfl)
  simp only [Act.put, List.setIfInBounds_toArray, List.set_cons_zero, List.set_cons_succ]
  refine wpAnyH_take (i := 2) (oi := { dst := some 31, op := Op.fieldAddr 46 (Operand.tmp 30) 0, type := 0, pos := "sema.go:54", after := _, guard := none }) (v := ?_) rfl (by kernel_rfl) (by kernel_rfl) (by kernel_rfl) (fun _ _ _ h => h) (Or.inl ⟨by rfl, ?_⟩) (by assumption) ?_
  rotate_left
  · (intro w hSw; (try dsimp only at hSw); go_simp; try with_reducible rfl)
  simp only [Act.put, List.setIfInBounds_toArray, List.set_cons_zero, List.set_cons_succ]
  refine wpAnyH_take (i := 3) (oi := { dst := some 32, op := Op.fieldAddr 24 (Operand.tmp 31) 0, type := 0, pos := "sema.go:54", after := _, guard := none }) (v := ?_) rfl (by kernel_rfl) (by kernel_rfl) (by kernel_rfl) (fun _ _ _ h => h) (Or.inl ⟨by rfl, ?_⟩) (by assumption) ?_
  rotate_left
  · (intro w hSw; (try dsimp only at hSw); go_simp; try with_reducible rfl)
  simp only [Act.put, List.setIfInBounds_toArray, List.set_cons_zero, List.set_cons_succ]
  refine wpAnyH_take (i := 4) (oi := { dst := some 33, op := Op.load 3 (Operand.tmp 32), type := 3, pos := "sema.go:54", after := _, guard := none }) (v := ?_) rfl (by kernel_rfl) (by kernel_rfl) (by kernel_rfl) (fun _ _ _ h => h) (Or.inl ⟨by rfl, ?_⟩) (by assumption) ?_
  rotate_left
  · (intro W hSw; (try dsimp only at hSw); have hs0S := hSw; have c0_0 : W.cell? ⟨G, 0, none⟩ = some (.int .i64 c) := (BoxAt.cell hs0S 0).trans rfl; have c0_1 : W.cell? ⟨G, 1, none⟩ = some (.int .i64 m) := (BoxAt.cell hs0S 1).trans rfl; have c0_2 : W.cell? ⟨G, 2, none⟩ = some (.bool k) := (BoxAt.cell hs0S 2).trans rfl; have c0_3 : W.cell? ⟨G, 3, none⟩ = some (.slice x.a x.n x.c) := (BoxAt.cell hs0S 3).trans rfl; clear hs0S; go_simp; try with_reducible rfl)
  simp only [Act.put, List.setIfInBounds_toArray, List.set_cons_zero, List.set_cons_succ]
  refine wpAnyH_take (i := 5) (oi := { dst := some 34, op := Op.move (Operand.tmp 0), type := 56, pos := "sema.go:54", after := _, guard := none }) (v := ?_) rfl (by kernel_rfl) (by kernel_rfl) (by kernel_rfl) (fun _ _ _ h => h) (Or.inl ⟨by rfl, ?_⟩) (by assumption) ?_
  rotate_left
  · (intro w hSw; (try dsimp only at hSw); go_simp; try with_reducible rfl)
  simp only [Act.put, List.setIfInBounds_toArray, List.set_cons_zero, List.set_cons_succ]
  refine wpAnyH_take (i := 6) (oi := { dst := some 35, op := Op.nilCheck (Operand.tmp 34), type := 0, pos := "sema.go:54", after := _, guard := none }) (v := ?_) rfl (by kernel_rfl) (by kernel_rfl) (by kernel_rfl) (fun _ _ _ h => h) (Or.inl ⟨by rfl, ?_⟩) (by assumption) ?_
  rotate_left
  · (intro w hSw; (try dsimp only at hSw); go_simp; try with_reducible rfl)
  simp only [Act.put, List.setIfInBounds_toArray, List.set_cons_zero, List.set_cons_succ]
  refine wpAnyH_take (i := 7) (oi := { dst := some 36, op := Op.fieldAddr 46 (Operand.tmp 35) 0, type := 0, pos := "sema.go:54", after := _, guard := none }) (v := ?_) rfl (by kernel_rfl) (by kernel_rfl) (by kernel_rfl) (fun _ _ _ h => h) (Or.inl ⟨by rfl, ?_⟩) (by assumption) ?_
  rotate_left
  · (intro w hSw; (try dsimp only at hSw); go_simp; try with_reducible rfl)
  simp only [Act.put, List.setIfInBounds_toArray, List.set_cons_zero, List.set_cons_succ]
  refine wpAnyH_take (i := 8) (oi := { dst := some 37, op := Op.fieldAddr 24 (Operand.tmp 36) 1, type := 0, pos := "sema.go:54", after := _, guard := none }) (v := ?_) rfl (by kernel_rfl) (by kernel_rfl) (by kernel_rfl) (fun _ _ _ h => h) (Or.inl ⟨by rfl, ?_⟩) (by assumption) ?_
  rotate_left
  · (intro w hSw; (try dsimp only at hSw); go_simp; try with_reducible rfl)
  simp only [Act.put, List.setIfInBounds_toArray, List.set_cons_zero, List.set_cons_succ]
  refine wpAnyH_take (i := 9) (oi := { dst := some 38, op := Op.load 3 (Operand.tmp 37), type := 3, pos := "sema.go:54", after := _, guard := none }) (v := ?_) rfl (by kernel_rfl) (by kernel_rfl) (by kernel_rfl) (fun _ _ _ h => h) (Or.inl ⟨by rfl, ?_⟩) (by assumption) ?_
  rotate_left
  · (intro W hSw; (try dsimp only at hSw); have hs0S := hSw; have c0_0 : W.cell? ⟨G, 0, none⟩ = some (.int .i64 c) := (BoxAt.cell hs0S 0).trans rfl; have c0_1 : W.cell? ⟨G, 1, none⟩ = some (.int .i64 m) := (BoxAt.cell hs0S 1).trans rfl; have c0_2 : W.cell? ⟨G, 2, none⟩ = some (.bool k) := (BoxAt.cell hs0S 2).trans rfl; have c0_3 : W.cell? ⟨G, 3, none⟩ = some (.slice x.a x.n x.c) := (BoxAt.cell hs0S 3).trans rfl; clear hs0S; go_simp; try with_reducible rfl)
  simp only [Act.put, List.setIfInBounds_toArray, List.set_cons_zero, List.set_cons_succ]
  refine wpAnyH_take (i := 10) (oi := { dst := some 39, op := Op.binOp BinOp.lss 3 (Operand.tmp 33) (Operand.tmp 38) 3, type := 4, pos := "sema.go:54", after := _, guard := none }) (v := ?_) rfl (by kernel_rfl) (by kernel_rfl) (by kernel_rfl) (fun _ _ _ h => h) (Or.inl ⟨by rfl, ?_⟩) (by assumption) ?_
  rotate_left
  · (intro W hSw; (try dsimp only at hSw); have hs0S := hSw; clear hs0S; go_simp; try with_reducible rfl)
  simp only [Act.put, List.setIfInBounds_toArray, List.set_cons_zero, List.set_cons_succ]
  refine wpAnyH_take (i := 11) (oi := { dst := some 28, op := Op.assign (Operand.tmp 39), type := 4, pos := "sema.go:54", after := _, guard := none }) (v := ?_) rfl (by kernel_rfl) (by kernel_rfl) (by kernel_rfl) (fun _ _ _ h => h) (Or.inl ⟨by rfl, ?_⟩) (by assumption) ?_
  rotate_left
  · (intro w hSw; (try dsimp only at hSw); go_simp; try with_reducible rfl)
  simp only [Act.put, List.setIfInBounds_toArray, List.set_cons_zero, List.set_cons_succ]
  refine wpAnyH_done (by kernel_rfl) ?_ _
  clear hHeld
  have kGB0 : v4.cell? ⟨G, 0, none⟩ = some (.int .i64 c) := (BoxAt.cell GB.out 0).trans rfl
  have kGB1 : v4.cell? ⟨G, 1, none⟩ = some (.int .i64 m) := (BoxAt.cell GB.out 1).trans rfl
  have kGB2 : v4.cell? ⟨G, 2, none⟩ = some (.bool k) := (BoxAt.cell GB.out 2).trans rfl
  have kGB3 : v4.cell? ⟨G, 3, none⟩ = some (.slice x.a x.n x.c) := (BoxAt.cell GB.out 3).trans rfl
  have kFB0 : v4.cell? ⟨v1.heap.size, 0, none⟩ = some (.int .i64 0) := (BoxAt.cell FB.out 0).trans rfl
  go_wp2
  go_ret2
  exact ⟨x, ⟨none, 0, 0⟩, rfl, GB.out, HC.out, OWk.nil _ _, HB.out⟩

def getN (c : Int) : Int := if 0 < c then wrap64 (c - 1) else c
def getC (c : Int) (may : Bool) : Int := if 0 < c then 0 else if may then 6 else 2
def getL (c : Int) (k : Bool) (l : List Wt) (y : Wt) (may : Bool) : List Wt := if 0 < c then l else if may then addP l y k else l
def putN (c m : Int) (l : List Wt) : Int := if 0 < l.length then c else if c < m then wrap64 (c + 1) else c
def putC (c m : Int) (l : List Wt) : Int := if 0 < l.length then 0 else if c < m then 0 else 1
def putW (l : List Wt) : List Wk := if 0 < l.length then [⟨(l.getD 0 Wt.zero).p, 0, 0⟩] else []


theorem sget_any {G D : Nat} (c m : Int) (k : Bool) {x : Sl} {l : List Wt} (p r v : Int) (may : Bool) {w : World} (hb : BoxAt w G 46 #[.int .i64 c, .int .i64 m, .bool k, .slice x.a x.n x.c]) (hD : D ≤ G) (ho : OWt w D (.slice x.a x.n x.c) l) (hl : l.length ≤ 800000) :
    Calls Try.prog 16 #[.pointer (some ⟨G, 0, none⟩), .agg #[.int .i64 p, .int .i64 r, .int .i64 v], .bool may] w fun e w' => ∃ (u : Sl), e = .returned (.int .i64 (getC c may)) ∧ BoxAt w' G 46 #[.int .i64 (getN c), .int .i64 m, .bool k, .slice u.a u.n u.c] ∧ OWt w' D (.slice u.a u.n u.c) (getL c k l ⟨p, r, v⟩ may) ∧ w.grownBy w' (some G) := by
  by_cases h0 : 0 < c
  · rw [show getN c = wrap64 (c - 1) from if_pos h0, show getC c may = 0 from if_pos h0, show getL c k l ⟨p, r, v⟩ may = l from if_pos h0]
    exact sget_one c m k p r v may hb hD ho hl h0
  · cases may
    · rw [show getN c = c from if_neg h0, show getC c false = 2 from if_neg h0, show getL c k l ⟨p, r, v⟩ false = l from if_neg h0]
      exact sget_no c m k p r v hb hD ho hl h0
    · rw [show getN c = c from if_neg h0, show getC c true = 6 from if_neg h0, show getL c k l ⟨p, r, v⟩ true = addP l ⟨p, r, v⟩ k from if_neg h0]
      exact sget_yes c m k p r v hb hD ho hl h0


theorem sput_any {G D : Nat} (c m : Int) (k : Bool) {x : Sl} {l : List Wt} {w : World} (hb : BoxAt w G 46 #[.int .i64 c, .int .i64 m, .bool k, .slice x.a x.n x.c]) (hD : D ≤ G) (ho : OWt w D (.slice x.a x.n x.c) l) (hl : l.length ≤ 800000) :
    Calls Try.prog 18 #[.pointer (some ⟨G, 0, none⟩)] w fun e w' => ∃ (u q : Sl), e = .returned (.tuple #[.int .i64 (putC c m l), q.val]) ∧ BoxAt w' G 46 #[.int .i64 (putN c m l), .int .i64 m, .bool k, .slice u.a u.n u.c] ∧ OWt w' D (.slice u.a u.n u.c) (l.drop 1) ∧ OWk w' w.heap.size q.val (putW l) ∧ w.grownBy w' (some G) := by
  by_cases h1 : 0 < l.length
  · obtain ⟨⟨fp, fr, fv⟩, hf⟩ : ∃ f, l.getD 0 Wt.zero = f := ⟨_, rfl⟩
    rw [show putN c m l = c from if_pos h1, show putC c m l = 0 from if_pos h1, show putW l = [⟨fp, 0, 0⟩] from by unfold putW; rw [if_pos h1, hf]]
    exact sput_wake c m k fp fr fv hb hD ho hl h1 hf
  · have h2 : l.length = 0 := by omega
    have hn := List.eq_nil_of_length_eq_zero h2
    rw [show putW l = [] from if_neg h1, show l.drop 1 = [] from by rw [hn]; rfl]
    by_cases hd : c < m
    · rw [show putN c m l = wrap64 (c + 1) from (if_neg h1).trans (if_pos hd), show putC c m l = 0 from (if_neg h1).trans (if_pos hd)]
      exact (sput_more c m k hb hD ho hl h2 hd).mono (by intro e w' h; rwa [hn] at h)
    · rw [show putN c m l = c from (if_neg h1).trans (if_neg hd), show putC c m l = 1 from (if_neg h1).trans (if_neg hd)]
      exact (sput_full c m k hb hD ho hl h2 hd).mono (by intro e w' h; rwa [hn] at h)


end Go.Proofs.Ytjdaneppjgljpaa
