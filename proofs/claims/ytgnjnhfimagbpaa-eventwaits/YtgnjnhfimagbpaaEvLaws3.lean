/-
  EventWaits: the walk.
-/
import Derived.Test.YtgnjnhfimagbpaaEvAwake
import Derived.Test.YtgnjnhfimagbpaaEvOpen
import Derived.BigQuiet
namespace Go.Proofs.Ytgnjnhfimagbpaa
open Go.RowKit
set_option linter.unusedVariables false


theorem addP_last (l : List Wt) (y : Wt) : addP l y false = l ++ [y] := by
  unfold addP putP
  simp
theorem addP_at (l : List Wt) (y : Wt) : (addP l y false).getD l.length Wt.zero = y := by
  rw [addP_last]
  simp [List.getD]


set_option maxRecDepth 100000 in
set_option maxHeartbeats 3200000 in
theorem walk_EventWaits (w : World) (vl : Value) (l : List Wt) (hv : SeesWt w vl l) (hf : ∀ r ∈ l, r.fit) (y : Wt) (f1 : y.fit) :
    Calls Try.prog 6 #[vl, y.val] w fun e w' => e = .returned (.bool true) ∧ Below w.heap.size w w' := by
  obtain ⟨p, r, v⟩ := y
  clear f1
  unfold Wt.val
  clear hf
  have HV := hid hv
  obtain ⟨al, cl, rfl, hl1, hl2, hlc⟩ := hv.form
  unfold maxLen at hl2
  obtain ⟨N, hN⟩ : ∃ n, l.length = n := ⟨_, rfl⟩
  rw [hN] at hl1 hlc HV ⊢
  have HN := hid hN
  clear hv hlc hN
  have HB := hid (Below.refl w.heap.size w)
  have epp : (p == p) = true := by simp
  have err : (r == r) = true := by simp
  have evv : (v == v) = true := by simp
  have enn : ((N : Int) == (N : Int)) = true := by simp
  go_enter Try.func6, Try.ntmps6
  have FL1 := hid trivial
  go_wp2_with (first
    | (have hfl := FL1.out
       refine wpList_box rfl 26 (.tmp 1) rfl #[.int .i64 p, .int .i64 r, .int .i64 v] rfl ?_
       intro v1 b h z
       have WB := hid (show BoxAt v1 w.heap.size 26 #[.int .i64 p, .int .i64 r, .int .i64 v] from b)
       have HB := hid (HB.out.trans (h.mono HB.out.size))
       have hsv1 : w.heap.size + 1 ≤ v1.heap.size := by first | exact h.size | omega
       clear b h z hfl FL1)
    | fail)
  refine (evawake_any _).mono ?_
  rintro e v2 ⟨rfl, hb⟩
  have WB := hid (WB.out.belowAll hb)
  have HB := hid (HB.out.trans (hb.mono HB.out.size))
  have hsv2 : v1.heap.size ≤ v2.heap.size := by first | exact hb.size | omega
  clear hb
  by_cases hgd0 : (60 : Int) < (N : Int)
  · go_wp2
    go_ret
    exact ⟨rfl, HB.out⟩
  have HL := hid (show l.length ≤ 60 by have := HN.out; omega)
  go_wp2_with (first
    | (refine wpList_load_box rfl 26 _ rfl (w.heap.size) rfl _ _ WB.out _ Try.underlying26 Try.infoWt ?_)
    | fail)
  refine (await_any false p r v true (s := ⟨al, N, cl⟩) (HV.out.below HB.out) (by have := HL.out; omega)).mono ?_
  rintro e v3 ⟨x1, rfl, hu, hb⟩
  have WB := hid (WB.out.belowAll hb)
  have HB := hid (HB.out.trans (hb.mono HB.out.size))
  have hsv3 : v2.heap.size ≤ v3.heap.size := by first | exact hb.size | omega
  rw [show awC false true = 6 from rfl]
  rw [show awL false true l ⟨p, r, v⟩ = addP l ⟨p, r, v⟩ false from rfl] at hu
  have HU1 := hid hu
  clear hu
  clear hb
  have FL2 := hid trivial
  have FL3 := hid trivial
  go_wp2_with (first
    | (have hfl := FL2.out
       refine wpList_new rfl 24 rfl _ Try.zeroEv ?_
       intro v4 b h z
       have AB := hid (show BoxAt v4 v3.heap.size 24 #[.bool false, .slice none 0 0] from b)
       have WB := hid (WB.out.belowAll h)
       have HU1 := hid (HU1.out.below h)
       have HB := hid (HB.out.trans (h.mono HB.out.size))
       have hsv4 : v3.heap.size + 1 ≤ v4.heap.size := by first | exact h.size | omega
       clear b h z hfl FL2)
    | (have hfl := FL3.out
       refine wpList_store_whole rfl 24 _ _ rfl rfl (v3.heap.size) rfl [.bool false, .slice x1.a x1.n x1.c] rfl _ _ AB.out rfl Try.infoEv (by simp [Value.oneCell']) ?_
       intro v5 b g z
       have hsv5 : v4.heap.size ≤ v5.heap.size := by omega
       have HU1 := hid (HU1.out.put g AB.out (by decide))
       have AB := hid (show BoxAt v5 (v3.heap.size) 24 #[.bool false, .slice x1.a x1.n x1.c] from b)
       have WB := hid (WB.out.grown g (fun e => by have := Option.some.inj e; omega))
       have HB := hid (HB.out.trans (grown_below g (by omega) (by omega)))
       clear b g z hfl FL3)
    | (refine wpList_load_box rfl 26 _ rfl (w.heap.size) rfl _ _ WB.out _ Try.underlying26 Try.infoWt ?_)
    | fail)
  refine (await_any false p r v false (s := ⟨al, N, cl⟩) (HV.out.below HB.out) (by have := HL.out; omega)).mono ?_
  rintro e v6 ⟨x2, rfl, hu, hb⟩
  have WB := hid (WB.out.belowAll hb)
  have AB := hid (AB.out.belowAll hb)
  have HU1 := hid (HU1.out.below hb)
  have HB := hid (HB.out.trans (hb.mono HB.out.size))
  have hsv6 : v5.heap.size ≤ v6.heap.size := by first | exact hb.size | omega
  rw [show awC false false = 2 from rfl]
  rw [show awL false false l ⟨p, r, v⟩ = l from rfl] at hu
  have hun := hu.n
  rw [HN.out] at hun
  obtain ⟨xa, xn, xc⟩ := x2
  simp only at hun
  subst hun
  clear hu
  clear hb
  have FL4 := hid trivial
  have FL5 := hid trivial
  go_wp2_with (first
    | (have hfl := FL4.out
       refine wpList_new rfl 24 rfl _ Try.zeroEv ?_
       intro v7 b h z
       have BB := hid (show BoxAt v7 v6.heap.size 24 #[.bool false, .slice none 0 0] from b)
       have WB := hid (WB.out.belowAll h)
       have AB := hid (AB.out.belowAll h)
       have HU1 := hid (HU1.out.below h)
       have HB := hid (HB.out.trans (h.mono HB.out.size))
       have hsv7 : v6.heap.size + 1 ≤ v7.heap.size := by first | exact h.size | omega
       clear b h z hfl FL4)
    | (have hfl := FL5.out
       refine wpList_store_whole rfl 24 _ _ rfl rfl (v6.heap.size) rfl [.bool false, .slice xa xn xc] rfl _ _ BB.out rfl Try.infoEv (by simp [Value.oneCell']) ?_
       intro v8 b g z
       have hsv8 : v7.heap.size ≤ v8.heap.size := by omega
       have HU1 := hid (HU1.out.put g BB.out (by decide))
       have BB := hid (show BoxAt v8 (v6.heap.size) 24 #[.bool false, .slice xa xn xc] from b)
       have WB := hid (WB.out.grown g (fun e => by have := Option.some.inj e; omega))
       have AB := hid (AB.out.grown g (fun e => by have := Option.some.inj e; omega))
       have HB := hid (HB.out.trans (grown_below g (by omega) (by omega)))
       clear b g z hfl FL5)
    | (refine wpList_load_box rfl 26 _ rfl (w.heap.size) rfl _ _ WB.out _ Try.underlying26 Try.infoWt ?_)
    | fail)
  refine (await_any true p r v true (s := ⟨al, xn, cl⟩) (HV.out.below HB.out) (by have := HL.out; omega)).mono ?_
  rintro e v9 ⟨x3, rfl, hu, hb⟩
  have WB := hid (WB.out.belowAll hb)
  have AB := hid (AB.out.belowAll hb)
  have BB := hid (BB.out.belowAll hb)
  have HU1 := hid (HU1.out.below hb)
  have HB := hid (HB.out.trans (hb.mono HB.out.size))
  have hsv9 : v8.heap.size ≤ v9.heap.size := by first | exact hb.size | omega
  rw [show awC true true = 0 from rfl]
  rw [show awL true true l ⟨p, r, v⟩ = l from rfl] at hu
  have hun3 := hu.n
  rw [HN.out] at hun3
  obtain ⟨ya, yn, yc⟩ := x3
  simp only at hun3
  subst hun3
  clear hu
  clear hb
  have FL6 := hid trivial
  have FL7 := hid trivial
  go_wp2_with (first
    | (have hfl := FL6.out
       refine wpList_new rfl 24 rfl _ Try.zeroEv ?_
       intro v10 b h z
       have CB := hid (show BoxAt v10 v9.heap.size 24 #[.bool false, .slice none 0 0] from b)
       have WB := hid (WB.out.belowAll h)
       have AB := hid (AB.out.belowAll h)
       have BB := hid (BB.out.belowAll h)
       have HU1 := hid (HU1.out.below h)
       have HB := hid (HB.out.trans (h.mono HB.out.size))
       have hsv10 : v9.heap.size + 1 ≤ v10.heap.size := by first | exact h.size | omega
       clear b h z hfl FL6)
    | (have hfl := FL7.out
       refine wpList_store_whole rfl 24 _ _ rfl rfl (v9.heap.size) rfl [.bool true, .slice ya yn yc] rfl _ _ CB.out rfl Try.infoEv (by simp [Value.oneCell']) ?_
       intro v11 b g z
       have hsv11 : v10.heap.size ≤ v11.heap.size := by omega
       have HU1 := hid (HU1.out.put g CB.out (by decide))
       have CB := hid (show BoxAt v11 (v9.heap.size) 24 #[.bool true, .slice ya yn yc] from b)
       have WB := hid (WB.out.grown g (fun e => by have := Option.some.inj e; omega))
       have AB := hid (AB.out.grown g (fun e => by have := Option.some.inj e; omega))
       have BB := hid (BB.out.grown g (fun e => by have := Option.some.inj e; omega))
       have HB := hid (HB.out.trans (grown_below g (by omega) (by omega)))
       clear b g z hfl FL7
       refine Hid.out ?_)
    | fail)
  refine hid ?_
  have hun1 := HU1.out.n
  rw [addP_len, HN.out] at hun1
  have hlast := addP_at l ⟨p, r, v⟩
  rw [HN.out] at hlast
  obtain ⟨ga, gcap, hgv, -⟩ := owns_formQ HU1.out (by rw [addP_len]; omega)
  simp only [Sl.val, Value.slice.injEq] at hgv
  obtain ⟨hga, -, -⟩ := hgv
  obtain ⟨za, zn, zc⟩ := x1
  simp only at hga hun1
  subst hga
  subst hun1
  have HLA := hid hlast
  have hlx : yn < (addP l ⟨p, r, v⟩ false).length := by rw [addP_len, HN.out]; omega
  have c0 := hid (OWt.at HU1.out yn 0 hlx (by decide))
  have c1 := hid (OWt.at HU1.out yn 1 hlx (by decide))
  have c2 := hid (OWt.at HU1.out yn 2 hlx (by decide))
  rw [HLA.out] at c0 c1 c2
  simp only [Wt.cells, List.getD_cons_zero, List.getD_cons_succ, Nat.add_zero] at c0 c1 c2
  have hs9 : yn ≤ 60 := by have := HL.out; have := HN.out; omega
  obtain ⟨N1, hN1⟩ : ∃ n, yn + 1 = n := ⟨_, rfl⟩
  have hin : (yn : Int) < (N1 : Int) := by omega
  have hin2 : yn < N1 := by omega
  have e11 : ((N1 : Int) == (N1 : Int)) = true := by simp
  have hbb1 : -9223372036854775808 ≤ (N1 : Int) := by omega
  have hbb2 : (N1 : Int) ≤ 9223372036854775807 := by omega
  have hsum : (yn : Int) + 1 = (N1 : Int) := by omega
  rw [hN1] at AB ⊢
  have hw1 : wrap64 ((yn : Int) + 1) = (N1 : Int) := by rw [hsum]; exact wrap64_id _ hbb1 hbb2
  have hw2 : IntKind.i64.wrap ((yn : Int) + 1) = (N1 : Int) := by rw [hsum]; exact wrapi_id _ hbb1 hbb2
  have hgl : ga < v11.heap.size := (HU1.out.lt ga rfl).2
  clear hlast hlx HLA HU1 hsum hbb1 hbb2 hN1 hs9
  have HBV := hid (Below.refl v11.heap.size v11)
  go_wp2_with fail
  have WB := hid (BoxAt.drew WB.out)
  have AB := hid (BoxAt.drew AB.out)
  have BB := hid (BoxAt.drew BB.out)
  have CB := hid (BoxAt.drew CB.out)
  have HBV := hid (HBV.out.trans (((Below.refl v11.heap.size v11).drew).mono HBV.out.size))
  have HB := hid (HB.out.drew)
  have hsv12 : v11.heap.size ≤ v11.drew.heap.size := Nat.le_refl _
  refine wp_region_held_drew (S := (fun w' : World => BoxAt w' (v3.heap.size) 24 #[.bool false, .slice (some ⟨ga, 0, none⟩) N1 zc] ∧ BoxAt w' (v6.heap.size) 24 #[.bool false, .slice xa yn xc] ∧ BoxAt w' (v9.heap.size) 24 #[.bool true, .slice ya yn yc] ∧ BoxAt w' (w.heap.size) 26 #[.int .i64 p, .int .i64 r, .int .i64 v] ∧ w'.cell? ⟨ga, yn * 3, none⟩ = some (.int .i64 p) ∧ w'.cell? ⟨ga, yn * 3 + 1, none⟩ = some (.int .i64 r) ∧ w'.cell? ⟨ga, yn * 3 + 2, none⟩ = some (.int .i64 v))) (by kernel_rfl) (⟨AB.out, BB.out, CB.out, WB.out, (HBV.out.cell (by exact hgl)).trans c0.out, (HBV.out.cell (by exact hgl)).trans c1.out, (HBV.out.cell (by exact hgl)).trans c2.out⟩) (fun hHeld => ?_)
  generalize v11.drew = v12 at *
  refine wpAnyH_take (i := 0) (oi := { dst := some 42, op := Op.move (Operand.tmp 7), type := 3, pos := "more.go:31", after := _, guard := none }) (v := ?_) rfl (by kernel_rfl) (by kernel_rfl) (by kernel_rfl) (fun _ _ _ h => h) (Or.inl ⟨by rfl, ?_⟩) (by assumption) ?_
  rotate_left
  · (intro w hSw; (try dsimp only at hSw); go_simp; try with_reducible rfl)
  simp only [Act.put, List.setIfInBounds_toArray, List.set_cons_zero, List.set_cons_succ]
  refine wpAnyH_take (i := 1) (oi := { dst := some 43, op := Op.binOp BinOp.eql 3 (Operand.tmp 42) (Operand.const (Value.int IntKind.i64 6)) 3, type := 4, pos := "more.go:31", after := _, guard := none }) (v := ?_) rfl (by kernel_rfl) (by kernel_rfl) (by kernel_rfl) (fun _ _ _ h => h) (Or.inl ⟨by rfl, ?_⟩) (by assumption) ?_
  rotate_left
  · (intro W hSw; (try dsimp only at hSw); obtain ⟨hs0S, hs1S, hs2S, hs3S, hs4S, hs5S, hs6S⟩ := hSw; clear hs0S hs1S hs2S hs3S; go_simp; try with_reducible rfl)
  simp only [Act.put, List.setIfInBounds_toArray, List.set_cons_zero, List.set_cons_succ]
  refine wpAnyH_take (i := 2) (oi := { dst := some 44, op := Op.move (Operand.tmp 43), type := 4, pos := "more.go:31", after := _, guard := none }) (v := ?_) rfl (by kernel_rfl) (by kernel_rfl) (by kernel_rfl) (fun _ _ _ h => h) (Or.inl ⟨by rfl, ?_⟩) (by assumption) ?_
  rotate_left
  · (intro w hSw; (try dsimp only at hSw); go_simp; try with_reducible rfl)
  simp only [Act.put, List.setIfInBounds_toArray, List.set_cons_zero, List.set_cons_succ]
  refine wpAnyH_take (i := 3) (oi := { dst := some 45, op := Op.fieldAddr 24 (Operand.tmp 6) 1, type := 0, pos := "more.go:31", after := _, guard := some (2, true) }) (v := ?_) rfl (by kernel_rfl) (by kernel_rfl) (by kernel_rfl) (fun _ _ _ h => h) (Or.inl ⟨by rfl, ?_⟩) (by assumption) ?_
  rotate_left
  · (intro w hSw; (try dsimp only at hSw); go_simp; try with_reducible rfl)
  simp only [Act.put, List.setIfInBounds_toArray, List.set_cons_zero, List.set_cons_succ]
  refine wpAnyH_take (i := 4) (oi := { dst := some 46, op := Op.load 22 (Operand.tmp 45), type := 22, pos := "more.go:31", after := _, guard := some (2, true) }) (v := ?_) rfl (by kernel_rfl) (by kernel_rfl) (by kernel_rfl) (fun _ _ _ h => h) (Or.inl ⟨by rfl, ?_⟩) (by assumption) ?_
  rotate_left
  · (intro W hSw; (try dsimp only at hSw); obtain ⟨hs0S, hs1S, hs2S, hs3S, hs4S, hs5S, hs6S⟩ := hSw; have c0_0 : W.cell? ⟨v3.heap.size, 0, none⟩ = some (.bool false) := (BoxAt.cell hs0S 0).trans rfl; have c0_1 : W.cell? ⟨v3.heap.size, 1, none⟩ = some (.slice (some ⟨ga, 0, none⟩) N1 zc) := (BoxAt.cell hs0S 1).trans rfl; have c1_0 : W.cell? ⟨v6.heap.size, 0, none⟩ = some (.bool false) := (BoxAt.cell hs1S 0).trans rfl; have c1_1 : W.cell? ⟨v6.heap.size, 1, none⟩ = some (.slice xa yn xc) := (BoxAt.cell hs1S 1).trans rfl; have c2_0 : W.cell? ⟨v9.heap.size, 0, none⟩ = some (.bool true) := (BoxAt.cell hs2S 0).trans rfl; have c2_1 : W.cell? ⟨v9.heap.size, 1, none⟩ = some (.slice ya yn yc) := (BoxAt.cell hs2S 1).trans rfl; have c3_0 : W.cell? ⟨w.heap.size, 0, none⟩ = some (.int .i64 p) := (BoxAt.cell hs3S 0).trans rfl; have c3_1 : W.cell? ⟨w.heap.size, 1, none⟩ = some (.int .i64 r) := (BoxAt.cell hs3S 1).trans rfl; have c3_2 : W.cell? ⟨w.heap.size, 2, none⟩ = some (.int .i64 v) := (BoxAt.cell hs3S 2).trans rfl; clear hs0S hs1S hs2S hs3S; go_simp; try with_reducible rfl)
  simp only [Act.put, List.setIfInBounds_toArray, List.set_cons_zero, List.set_cons_succ]
  refine wpAnyH_take (i := 5) (oi := { dst := some 47, op := Op.call { callee := Callee.builtin Builtin.len, args := #[Operand.tmp 46], argTypes := #[22] }, type := 3, pos := "more.go:31", after := _, guard := some (2, true) }) (v := ?_) rfl (by kernel_rfl) (by kernel_rfl) (by kernel_rfl) (fun _ _ _ h => h) (Or.inl ⟨by rfl, ?_⟩) (by assumption) ?_
  rotate_left
  · (intro w hSw; (try dsimp only at hSw); go_simp; try with_reducible rfl)
  simp only [Act.put, List.setIfInBounds_toArray, List.set_cons_zero, List.set_cons_succ]
  refine wpAnyH_take (i := 6) (oi := { dst := some 48, op := Op.move (Operand.tmp 0), type := 22, pos := "more.go:31", after := _, guard := some (2, true) }) (v := ?_) rfl (by kernel_rfl) (by kernel_rfl) (by kernel_rfl) (fun _ _ _ h => h) (Or.inl ⟨by rfl, ?_⟩) (by assumption) ?_
  rotate_left
  · (intro w hSw; (try dsimp only at hSw); go_simp; try with_reducible rfl)
  simp only [Act.put, List.setIfInBounds_toArray, List.set_cons_zero, List.set_cons_succ]
  refine wpAnyH_take (i := 7) (oi := { dst := some 49, op := Op.call { callee := Callee.builtin Builtin.len, args := #[Operand.tmp 48], argTypes := #[22] }, type := 3, pos := "more.go:31", after := _, guard := some (2, true) }) (v := ?_) rfl (by kernel_rfl) (by kernel_rfl) (by kernel_rfl) (fun _ _ _ h => h) (Or.inl ⟨by rfl, ?_⟩) (by assumption) ?_
  rotate_left
  · (intro w hSw; (try dsimp only at hSw); go_simp; try with_reducible rfl)
  simp only [Act.put, List.setIfInBounds_toArray, List.set_cons_zero, List.set_cons_succ]
  refine wpAnyH_take (i := 8) (oi := { dst := some 50, op := Op.binOp BinOp.add 3 (Operand.tmp 49) (Operand.const (Value.int IntKind.i64 1)) 3, type := 3, pos := "more.go:31", after := _, guard := some (2, true) }) (v := ?_) rfl (by kernel_rfl) (by kernel_rfl) (by kernel_rfl) (fun _ _ _ h => h) (Or.inl ⟨by rfl, ?_⟩) (by assumption) ?_
  rotate_left
  · (intro W hSw; (try dsimp only at hSw); obtain ⟨hs0S, hs1S, hs2S, hs3S, hs4S, hs5S, hs6S⟩ := hSw; clear hs0S hs1S hs2S hs3S; go_simp; try with_reducible rfl)
  simp only [Act.put, List.setIfInBounds_toArray, List.set_cons_zero, List.set_cons_succ]
  refine wpAnyH_take (i := 9) (oi := { dst := some 51, op := Op.binOp BinOp.eql 3 (Operand.tmp 47) (Operand.tmp 50) 3, type := 4, pos := "more.go:31", after := _, guard := some (2, true) }) (v := ?_) rfl (by kernel_rfl) (by kernel_rfl) (by kernel_rfl) (fun _ _ _ h => h) (Or.inl ⟨by rfl, ?_⟩) (by assumption) ?_
  rotate_left
  · (intro W hSw; (try dsimp only at hSw); obtain ⟨hs0S, hs1S, hs2S, hs3S, hs4S, hs5S, hs6S⟩ := hSw; clear hs0S hs1S hs2S hs3S; go_simp; try with_reducible rfl)
  simp only [Act.put, List.setIfInBounds_toArray, List.set_cons_zero, List.set_cons_succ]
  refine wpAnyH_take (i := 10) (oi := { dst := some 52, op := Op.pick (Operand.tmp 44) (Operand.tmp 51) (Operand.const (Value.bool false)), type := 4, pos := "more.go:31", after := _, guard := none }) (v := ?_) rfl (by kernel_rfl) (by kernel_rfl) (by kernel_rfl) (fun _ _ _ h => h) (Or.inl ⟨by rfl, ?_⟩) (by assumption) ?_
  rotate_left
  · (intro w hSw; (try dsimp only at hSw); go_simp; try with_reducible rfl)
  simp only [Act.put, List.setIfInBounds_toArray, List.set_cons_zero, List.set_cons_succ]
  refine wpAnyH_take (i := 11) (oi := { dst := some 53, op := Op.move (Operand.tmp 52), type := 4, pos := "more.go:31", after := _, guard := none }) (v := ?_) rfl (by kernel_rfl) (by kernel_rfl) (by kernel_rfl) (fun _ _ _ h => h) (Or.inl ⟨by rfl, ?_⟩) (by assumption) ?_
  rotate_left
  · (intro w hSw; (try dsimp only at hSw); go_simp; try with_reducible rfl)
  simp only [Act.put, List.setIfInBounds_toArray, List.set_cons_zero, List.set_cons_succ]
  refine wpAnyH_take (i := 12) (oi := { dst := some 54, op := Op.fieldAddr 24 (Operand.tmp 6) 1, type := 0, pos := "more.go:31", after := _, guard := some (11, true) }) (v := ?_) rfl (by kernel_rfl) (by kernel_rfl) (by kernel_rfl) (fun _ _ _ h => h) (Or.inl ⟨by rfl, ?_⟩) (by assumption) ?_
  rotate_left
  · (intro w hSw; (try dsimp only at hSw); go_simp; try with_reducible rfl)
  simp only [Act.put, List.setIfInBounds_toArray, List.set_cons_zero, List.set_cons_succ]
  refine wpAnyH_take (i := 13) (oi := { dst := some 55, op := Op.load 22 (Operand.tmp 54), type := 22, pos := "more.go:31", after := _, guard := some (11, true) }) (v := ?_) rfl (by kernel_rfl) (by kernel_rfl) (by kernel_rfl) (fun _ _ _ h => h) (Or.inl ⟨by rfl, ?_⟩) (by assumption) ?_
  rotate_left
  · (intro W hSw; (try dsimp only at hSw); obtain ⟨hs0S, hs1S, hs2S, hs3S, hs4S, hs5S, hs6S⟩ := hSw; have c0_0 : W.cell? ⟨v3.heap.size, 0, none⟩ = some (.bool false) := (BoxAt.cell hs0S 0).trans rfl; have c0_1 : W.cell? ⟨v3.heap.size, 1, none⟩ = some (.slice (some ⟨ga, 0, none⟩) N1 zc) := (BoxAt.cell hs0S 1).trans rfl; have c1_0 : W.cell? ⟨v6.heap.size, 0, none⟩ = some (.bool false) := (BoxAt.cell hs1S 0).trans rfl; have c1_1 : W.cell? ⟨v6.heap.size, 1, none⟩ = some (.slice xa yn xc) := (BoxAt.cell hs1S 1).trans rfl; have c2_0 : W.cell? ⟨v9.heap.size, 0, none⟩ = some (.bool true) := (BoxAt.cell hs2S 0).trans rfl; have c2_1 : W.cell? ⟨v9.heap.size, 1, none⟩ = some (.slice ya yn yc) := (BoxAt.cell hs2S 1).trans rfl; have c3_0 : W.cell? ⟨w.heap.size, 0, none⟩ = some (.int .i64 p) := (BoxAt.cell hs3S 0).trans rfl; have c3_1 : W.cell? ⟨w.heap.size, 1, none⟩ = some (.int .i64 r) := (BoxAt.cell hs3S 1).trans rfl; have c3_2 : W.cell? ⟨w.heap.size, 2, none⟩ = some (.int .i64 v) := (BoxAt.cell hs3S 2).trans rfl; clear hs0S hs1S hs2S hs3S; go_simp; try with_reducible rfl)
  simp only [Act.put, List.setIfInBounds_toArray, List.set_cons_zero, List.set_cons_succ]
  refine wpAnyH_take (i := 14) (oi := { dst := some 56, op := Op.move (Operand.tmp 0), type := 22, pos := "more.go:31", after := _, guard := some (11, true) }) (v := ?_) rfl (by kernel_rfl) (by kernel_rfl) (by kernel_rfl) (fun _ _ _ h => h) (Or.inl ⟨by rfl, ?_⟩) (by assumption) ?_
  rotate_left
  · (intro w hSw; (try dsimp only at hSw); go_simp; try with_reducible rfl)
  simp only [Act.put, List.setIfInBounds_toArray, List.set_cons_zero, List.set_cons_succ]
  refine wpAnyH_take (i := 15) (oi := { dst := some 57, op := Op.call { callee := Callee.builtin Builtin.len, args := #[Operand.tmp 56], argTypes := #[22] }, type := 3, pos := "more.go:31", after := _, guard := some (11, true) }) (v := ?_) rfl (by kernel_rfl) (by kernel_rfl) (by kernel_rfl) (fun _ _ _ h => h) (Or.inl ⟨by rfl, ?_⟩) (by assumption) ?_
  rotate_left
  · (intro w hSw; (try dsimp only at hSw); go_simp; try with_reducible rfl)
  simp only [Act.put, List.setIfInBounds_toArray, List.set_cons_zero, List.set_cons_succ]
  refine wpAnyH_take (i := 16) (oi := { dst := some 58, op := Op.indexAddr 22 (Operand.tmp 55) (Operand.tmp 57), type := 0, pos := "more.go:31", after := _, guard := some (11, true) }) (v := ?_) rfl (by kernel_rfl) (by kernel_rfl) (by kernel_rfl) (fun _ _ _ h => h) (Or.inl ⟨by rfl, ?_⟩) (by assumption) ?_
  rotate_left
  · (intro w hSw; (try dsimp only at hSw); go_simp; try with_reducible rfl)
  simp only [Act.put, List.setIfInBounds_toArray, List.set_cons_zero, List.set_cons_succ]
  refine wpAnyH_take (i := 17) (oi := { dst := some 59, op := Op.load 26 (Operand.tmp 58), type := 26, pos := "more.go:31", after := _, guard := some (11, true) }) (v := ?_) rfl (by kernel_rfl) (by kernel_rfl) (by kernel_rfl) (fun _ _ _ h => h) (Or.inl ⟨by rfl, ?_⟩) (by assumption) ?_
  rotate_left
  · (intro W hSw; (try dsimp only at hSw); obtain ⟨hs0S, hs1S, hs2S, hs3S, hs4S, hs5S, hs6S⟩ := hSw; have c0_0 : W.cell? ⟨v3.heap.size, 0, none⟩ = some (.bool false) := (BoxAt.cell hs0S 0).trans rfl; have c0_1 : W.cell? ⟨v3.heap.size, 1, none⟩ = some (.slice (some ⟨ga, 0, none⟩) N1 zc) := (BoxAt.cell hs0S 1).trans rfl; have c1_0 : W.cell? ⟨v6.heap.size, 0, none⟩ = some (.bool false) := (BoxAt.cell hs1S 0).trans rfl; have c1_1 : W.cell? ⟨v6.heap.size, 1, none⟩ = some (.slice xa yn xc) := (BoxAt.cell hs1S 1).trans rfl; have c2_0 : W.cell? ⟨v9.heap.size, 0, none⟩ = some (.bool true) := (BoxAt.cell hs2S 0).trans rfl; have c2_1 : W.cell? ⟨v9.heap.size, 1, none⟩ = some (.slice ya yn yc) := (BoxAt.cell hs2S 1).trans rfl; have c3_0 : W.cell? ⟨w.heap.size, 0, none⟩ = some (.int .i64 p) := (BoxAt.cell hs3S 0).trans rfl; have c3_1 : W.cell? ⟨w.heap.size, 1, none⟩ = some (.int .i64 r) := (BoxAt.cell hs3S 1).trans rfl; have c3_2 : W.cell? ⟨w.heap.size, 2, none⟩ = some (.int .i64 v) := (BoxAt.cell hs3S 2).trans rfl; clear hs0S hs1S hs2S hs3S; go_simp; try with_reducible rfl)
  simp only [Act.put, List.setIfInBounds_toArray, List.set_cons_zero, List.set_cons_succ]
  refine wpAnyH_take (i := 18) (oi := { dst := some 60, op := Op.load 26 (Operand.tmp 3), type := 26, pos := "more.go:31", after := _, guard := some (11, true) }) (v := ?_) rfl (by kernel_rfl) (by kernel_rfl) (by kernel_rfl) (fun _ _ _ h => h) (Or.inl ⟨by rfl, ?_⟩) (by assumption) ?_
  rotate_left
  · (intro W hSw; (try dsimp only at hSw); obtain ⟨hs0S, hs1S, hs2S, hs3S, hs4S, hs5S, hs6S⟩ := hSw; have c0_0 : W.cell? ⟨v3.heap.size, 0, none⟩ = some (.bool false) := (BoxAt.cell hs0S 0).trans rfl; have c0_1 : W.cell? ⟨v3.heap.size, 1, none⟩ = some (.slice (some ⟨ga, 0, none⟩) N1 zc) := (BoxAt.cell hs0S 1).trans rfl; have c1_0 : W.cell? ⟨v6.heap.size, 0, none⟩ = some (.bool false) := (BoxAt.cell hs1S 0).trans rfl; have c1_1 : W.cell? ⟨v6.heap.size, 1, none⟩ = some (.slice xa yn xc) := (BoxAt.cell hs1S 1).trans rfl; have c2_0 : W.cell? ⟨v9.heap.size, 0, none⟩ = some (.bool true) := (BoxAt.cell hs2S 0).trans rfl; have c2_1 : W.cell? ⟨v9.heap.size, 1, none⟩ = some (.slice ya yn yc) := (BoxAt.cell hs2S 1).trans rfl; have c3_0 : W.cell? ⟨w.heap.size, 0, none⟩ = some (.int .i64 p) := (BoxAt.cell hs3S 0).trans rfl; have c3_1 : W.cell? ⟨w.heap.size, 1, none⟩ = some (.int .i64 r) := (BoxAt.cell hs3S 1).trans rfl; have c3_2 : W.cell? ⟨w.heap.size, 2, none⟩ = some (.int .i64 v) := (BoxAt.cell hs3S 2).trans rfl; clear hs0S hs1S hs2S hs3S; go_simp; try with_reducible rfl)
  simp only [Act.put, List.setIfInBounds_toArray, List.set_cons_zero, List.set_cons_succ]
  refine wpAnyH_take (i := 19) (oi := { dst := some 61, op := Op.binOp BinOp.eql 26 (Operand.tmp 59) (Operand.tmp 60) 26, type := 4, pos := "more.go:31", after := _, guard := some (11, true) }) (v := ?_) rfl (by kernel_rfl) (by kernel_rfl) (by kernel_rfl) (fun _ _ _ h => h) (Or.inl ⟨by rfl, ?_⟩) (by assumption) ?_
  rotate_left
  · (intro W hSw; (try dsimp only at hSw); obtain ⟨hs0S, hs1S, hs2S, hs3S, hs4S, hs5S, hs6S⟩ := hSw; clear hs0S hs1S hs2S hs3S; go_simp; try with_reducible rfl)
  simp only [Act.put, List.setIfInBounds_toArray, List.set_cons_zero, List.set_cons_succ]
  refine wpAnyH_take (i := 20) (oi := { dst := some 62, op := Op.pick (Operand.tmp 53) (Operand.tmp 61) (Operand.const (Value.bool false)), type := 4, pos := "more.go:31", after := _, guard := none }) (v := ?_) rfl (by kernel_rfl) (by kernel_rfl) (by kernel_rfl) (fun _ _ _ h => h) (Or.inl ⟨by rfl, ?_⟩) (by assumption) ?_
  rotate_left
  · (intro w hSw; (try dsimp only at hSw); go_simp; try with_reducible rfl)
  simp only [Act.put, List.setIfInBounds_toArray, List.set_cons_zero, List.set_cons_succ]
  refine wpAnyH_take (i := 21) (oi := { dst := some 63, op := Op.move (Operand.tmp 62), type := 4, pos := "more.go:31", after := _, guard := none }) (v := ?_) rfl (by kernel_rfl) (by kernel_rfl) (by kernel_rfl) (fun _ _ _ h => h) (Or.inl ⟨by rfl, ?_⟩) (by assumption) ?_
  rotate_left
  · (intro w hSw; (try dsimp only at hSw); go_simp; try with_reducible rfl)
  simp only [Act.put, List.setIfInBounds_toArray, List.set_cons_zero, List.set_cons_succ]
  refine wpAnyH_take (i := 22) (oi := { dst := some 64, op := Op.move (Operand.tmp 9), type := 3, pos := "more.go:31", after := _, guard := some (21, true) }) (v := ?_) rfl (by kernel_rfl) (by kernel_rfl) (by kernel_rfl) (fun _ _ _ h => h) (Or.inl ⟨by rfl, ?_⟩) (by assumption) ?_
  rotate_left
  · (intro w hSw; (try dsimp only at hSw); go_simp; try with_reducible rfl)
  simp only [Act.put, List.setIfInBounds_toArray, List.set_cons_zero, List.set_cons_succ]
  refine wpAnyH_take (i := 23) (oi := { dst := some 65, op := Op.binOp BinOp.eql 3 (Operand.tmp 64) (Operand.const (Value.int IntKind.i64 2)) 3, type := 4, pos := "more.go:31", after := _, guard := some (21, true) }) (v := ?_) rfl (by kernel_rfl) (by kernel_rfl) (by kernel_rfl) (fun _ _ _ h => h) (Or.inl ⟨by rfl, ?_⟩) (by assumption) ?_
  rotate_left
  · (intro W hSw; (try dsimp only at hSw); obtain ⟨hs0S, hs1S, hs2S, hs3S, hs4S, hs5S, hs6S⟩ := hSw; clear hs0S hs1S hs2S hs3S; go_simp; try with_reducible rfl)
  simp only [Act.put, List.setIfInBounds_toArray, List.set_cons_zero, List.set_cons_succ]
  refine wpAnyH_take (i := 24) (oi := { dst := some 66, op := Op.pick (Operand.tmp 63) (Operand.tmp 65) (Operand.const (Value.bool false)), type := 4, pos := "more.go:31", after := _, guard := none }) (v := ?_) rfl (by kernel_rfl) (by kernel_rfl) (by kernel_rfl) (fun _ _ _ h => h) (Or.inl ⟨by rfl, ?_⟩) (by assumption) ?_
  rotate_left
  · (intro w hSw; (try dsimp only at hSw); go_simp; try with_reducible rfl)
  simp only [Act.put, List.setIfInBounds_toArray, List.set_cons_zero, List.set_cons_succ]
  refine wpAnyH_take (i := 25) (oi := { dst := some 67, op := Op.move (Operand.tmp 66), type := 4, pos := "more.go:31", after := _, guard := none }) (v := ?_) rfl (by kernel_rfl) (by kernel_rfl) (by kernel_rfl) (fun _ _ _ h => h) (Or.inl ⟨by rfl, ?_⟩) (by assumption) ?_
  rotate_left
  · (intro w hSw; (try dsimp only at hSw); go_simp; try with_reducible rfl)
  simp only [Act.put, List.setIfInBounds_toArray, List.set_cons_zero, List.set_cons_succ]
  refine wpAnyH_take (i := 26) (oi := { dst := some 68, op := Op.fieldAddr 24 (Operand.tmp 8) 1, type := 0, pos := "more.go:31", after := _, guard := some (25, true) }) (v := ?_) rfl (by kernel_rfl) (by kernel_rfl) (by kernel_rfl) (fun _ _ _ h => h) (Or.inl ⟨by rfl, ?_⟩) (by assumption) ?_
  rotate_left
  · (intro w hSw; (try dsimp only at hSw); go_simp; try with_reducible rfl)
  simp only [Act.put, List.setIfInBounds_toArray, List.set_cons_zero, List.set_cons_succ]
  refine wpAnyH_take (i := 27) (oi := { dst := some 69, op := Op.load 22 (Operand.tmp 68), type := 22, pos := "more.go:31", after := _, guard := some (25, true) }) (v := ?_) rfl (by kernel_rfl) (by kernel_rfl) (by kernel_rfl) (fun _ _ _ h => h) (Or.inl ⟨by rfl, ?_⟩) (by assumption) ?_
  rotate_left
  · (intro W hSw; (try dsimp only at hSw); obtain ⟨hs0S, hs1S, hs2S, hs3S, hs4S, hs5S, hs6S⟩ := hSw; have c0_0 : W.cell? ⟨v3.heap.size, 0, none⟩ = some (.bool false) := (BoxAt.cell hs0S 0).trans rfl; have c0_1 : W.cell? ⟨v3.heap.size, 1, none⟩ = some (.slice (some ⟨ga, 0, none⟩) N1 zc) := (BoxAt.cell hs0S 1).trans rfl; have c1_0 : W.cell? ⟨v6.heap.size, 0, none⟩ = some (.bool false) := (BoxAt.cell hs1S 0).trans rfl; have c1_1 : W.cell? ⟨v6.heap.size, 1, none⟩ = some (.slice xa yn xc) := (BoxAt.cell hs1S 1).trans rfl; have c2_0 : W.cell? ⟨v9.heap.size, 0, none⟩ = some (.bool true) := (BoxAt.cell hs2S 0).trans rfl; have c2_1 : W.cell? ⟨v9.heap.size, 1, none⟩ = some (.slice ya yn yc) := (BoxAt.cell hs2S 1).trans rfl; have c3_0 : W.cell? ⟨w.heap.size, 0, none⟩ = some (.int .i64 p) := (BoxAt.cell hs3S 0).trans rfl; have c3_1 : W.cell? ⟨w.heap.size, 1, none⟩ = some (.int .i64 r) := (BoxAt.cell hs3S 1).trans rfl; have c3_2 : W.cell? ⟨w.heap.size, 2, none⟩ = some (.int .i64 v) := (BoxAt.cell hs3S 2).trans rfl; clear hs0S hs1S hs2S hs3S; go_simp; try with_reducible rfl)
  simp only [Act.put, List.setIfInBounds_toArray, List.set_cons_zero, List.set_cons_succ]
  refine wpAnyH_take (i := 28) (oi := { dst := some 70, op := Op.call { callee := Callee.builtin Builtin.len, args := #[Operand.tmp 69], argTypes := #[22] }, type := 3, pos := "more.go:31", after := _, guard := some (25, true) }) (v := ?_) rfl (by kernel_rfl) (by kernel_rfl) (by kernel_rfl) (fun _ _ _ h => h) (Or.inl ⟨by rfl, ?_⟩) (by assumption) ?_
  rotate_left
  · (intro w hSw; (try dsimp only at hSw); go_simp; try with_reducible rfl)
  simp only [Act.put, List.setIfInBounds_toArray, List.set_cons_zero, List.set_cons_succ]
  refine wpAnyH_take (i := 29) (oi := { dst := some 71, op := Op.move (Operand.tmp 0), type := 22, pos := "more.go:31", after := _, guard := some (25, true) }) (v := ?_) rfl (by kernel_rfl) (by kernel_rfl) (by kernel_rfl) (fun _ _ _ h => h) (Or.inl ⟨by rfl, ?_⟩) (by assumption) ?_
  rotate_left
  · (intro w hSw; (try dsimp only at hSw); go_simp; try with_reducible rfl)
  simp only [Act.put, List.setIfInBounds_toArray, List.set_cons_zero, List.set_cons_succ]
  refine wpAnyH_take (i := 30) (oi := { dst := some 72, op := Op.call { callee := Callee.builtin Builtin.len, args := #[Operand.tmp 71], argTypes := #[22] }, type := 3, pos := "more.go:31", after := _, guard := some (25, true) }) (v := ?_) rfl (by kernel_rfl) (by kernel_rfl) (by kernel_rfl) (fun _ _ _ h => h) (Or.inl ⟨by rfl, ?_⟩) (by assumption) ?_
  rotate_left
  · (intro w hSw; (try dsimp only at hSw); go_simp; try with_reducible rfl)
  simp only [Act.put, List.setIfInBounds_toArray, List.set_cons_zero, List.set_cons_succ]
  refine wpAnyH_take (i := 31) (oi := { dst := some 73, op := Op.binOp BinOp.eql 3 (Operand.tmp 70) (Operand.tmp 72) 3, type := 4, pos := "more.go:31", after := _, guard := some (25, true) }) (v := ?_) rfl (by kernel_rfl) (by kernel_rfl) (by kernel_rfl) (fun _ _ _ h => h) (Or.inl ⟨by rfl, ?_⟩) (by assumption) ?_
  rotate_left
  · (intro W hSw; (try dsimp only at hSw); obtain ⟨hs0S, hs1S, hs2S, hs3S, hs4S, hs5S, hs6S⟩ := hSw; clear hs0S hs1S hs2S hs3S; go_simp; try with_reducible rfl)
  simp only [Act.put, List.setIfInBounds_toArray, List.set_cons_zero, List.set_cons_succ]
  refine wpAnyH_take (i := 32) (oi := { dst := some 74, op := Op.pick (Operand.tmp 67) (Operand.tmp 73) (Operand.const (Value.bool false)), type := 4, pos := "more.go:31", after := _, guard := none }) (v := ?_) rfl (by kernel_rfl) (by kernel_rfl) (by kernel_rfl) (fun _ _ _ h => h) (Or.inl ⟨by rfl, ?_⟩) (by assumption) ?_
  rotate_left
  · (intro w hSw; (try dsimp only at hSw); go_simp; try with_reducible rfl)
  simp only [Act.put, List.setIfInBounds_toArray, List.set_cons_zero, List.set_cons_succ]
  refine wpAnyH_take (i := 33) (oi := { dst := some 75, op := Op.move (Operand.tmp 74), type := 4, pos := "more.go:31", after := _, guard := none }) (v := ?_) rfl (by kernel_rfl) (by kernel_rfl) (by kernel_rfl) (fun _ _ _ h => h) (Or.inl ⟨by rfl, ?_⟩) (by assumption) ?_
  rotate_left
  · (intro w hSw; (try dsimp only at hSw); go_simp; try with_reducible rfl)
  simp only [Act.put, List.setIfInBounds_toArray, List.set_cons_zero, List.set_cons_succ]
  refine wpAnyH_take (i := 34) (oi := { dst := some 76, op := Op.move (Operand.tmp 11), type := 3, pos := "more.go:31", after := _, guard := some (33, true) }) (v := ?_) rfl (by kernel_rfl) (by kernel_rfl) (by kernel_rfl) (fun _ _ _ h => h) (Or.inl ⟨by rfl, ?_⟩) (by assumption) ?_
  rotate_left
  · (intro w hSw; (try dsimp only at hSw); go_simp; try with_reducible rfl)
  simp only [Act.put, List.setIfInBounds_toArray, List.set_cons_zero, List.set_cons_succ]
  refine wpAnyH_take (i := 35) (oi := { dst := some 77, op := Op.binOp BinOp.eql 3 (Operand.tmp 76) (Operand.const (Value.int IntKind.i64 0)) 3, type := 4, pos := "more.go:31", after := _, guard := some (33, true) }) (v := ?_) rfl (by kernel_rfl) (by kernel_rfl) (by kernel_rfl) (fun _ _ _ h => h) (Or.inl ⟨by rfl, ?_⟩) (by assumption) ?_
  rotate_left
  · (intro W hSw; (try dsimp only at hSw); obtain ⟨hs0S, hs1S, hs2S, hs3S, hs4S, hs5S, hs6S⟩ := hSw; clear hs0S hs1S hs2S hs3S; go_simp; try with_reducible rfl)
  simp only [Act.put, List.setIfInBounds_toArray, List.set_cons_zero, List.set_cons_succ]
  refine wpAnyH_take (i := 36) (oi := { dst := some 78, op := Op.pick (Operand.tmp 75) (Operand.tmp 77) (Operand.const (Value.bool false)), type := 4, pos := "more.go:31", after := _, guard := none }) (v := ?_) rfl (by kernel_rfl) (by kernel_rfl) (by kernel_rfl) (fun _ _ _ h => h) (Or.inl ⟨by rfl, ?_⟩) (by assumption) ?_
  rotate_left
  · (intro w hSw; (try dsimp only at hSw); go_simp; try with_reducible rfl)
  simp only [Act.put, List.setIfInBounds_toArray, List.set_cons_zero, List.set_cons_succ]
  refine wpAnyH_take (i := 37) (oi := { dst := some 79, op := Op.move (Operand.tmp 78), type := 4, pos := "more.go:31", after := _, guard := none }) (v := ?_) rfl (by kernel_rfl) (by kernel_rfl) (by kernel_rfl) (fun _ _ _ h => h) (Or.inl ⟨by rfl, ?_⟩) (by assumption) ?_
  rotate_left
  · (intro w hSw; (try dsimp only at hSw); go_simp; try with_reducible rfl)
  simp only [Act.put, List.setIfInBounds_toArray, List.set_cons_zero, List.set_cons_succ]
  refine wpAnyH_take (i := 38) (oi := { dst := some 80, op := Op.fieldAddr 24 (Operand.tmp 10) 1, type := 0, pos := "more.go:31", after := _, guard := some (37, true) }) (v := ?_) rfl (by kernel_rfl) (by kernel_rfl) (by kernel_rfl) (fun _ _ _ h => h) (Or.inl ⟨by rfl, ?_⟩) (by assumption) ?_
  rotate_left
  · (intro w hSw; (try dsimp only at hSw); go_simp; try with_reducible rfl)
  simp only [Act.put, List.setIfInBounds_toArray, List.set_cons_zero, List.set_cons_succ]
  refine wpAnyH_take (i := 39) (oi := { dst := some 81, op := Op.load 22 (Operand.tmp 80), type := 22, pos := "more.go:31", after := _, guard := some (37, true) }) (v := ?_) rfl (by kernel_rfl) (by kernel_rfl) (by kernel_rfl) (fun _ _ _ h => h) (Or.inl ⟨by rfl, ?_⟩) (by assumption) ?_
  rotate_left
  · (intro W hSw; (try dsimp only at hSw); obtain ⟨hs0S, hs1S, hs2S, hs3S, hs4S, hs5S, hs6S⟩ := hSw; have c0_0 : W.cell? ⟨v3.heap.size, 0, none⟩ = some (.bool false) := (BoxAt.cell hs0S 0).trans rfl; have c0_1 : W.cell? ⟨v3.heap.size, 1, none⟩ = some (.slice (some ⟨ga, 0, none⟩) N1 zc) := (BoxAt.cell hs0S 1).trans rfl; have c1_0 : W.cell? ⟨v6.heap.size, 0, none⟩ = some (.bool false) := (BoxAt.cell hs1S 0).trans rfl; have c1_1 : W.cell? ⟨v6.heap.size, 1, none⟩ = some (.slice xa yn xc) := (BoxAt.cell hs1S 1).trans rfl; have c2_0 : W.cell? ⟨v9.heap.size, 0, none⟩ = some (.bool true) := (BoxAt.cell hs2S 0).trans rfl; have c2_1 : W.cell? ⟨v9.heap.size, 1, none⟩ = some (.slice ya yn yc) := (BoxAt.cell hs2S 1).trans rfl; have c3_0 : W.cell? ⟨w.heap.size, 0, none⟩ = some (.int .i64 p) := (BoxAt.cell hs3S 0).trans rfl; have c3_1 : W.cell? ⟨w.heap.size, 1, none⟩ = some (.int .i64 r) := (BoxAt.cell hs3S 1).trans rfl; have c3_2 : W.cell? ⟨w.heap.size, 2, none⟩ = some (.int .i64 v) := (BoxAt.cell hs3S 2).trans rfl; clear hs0S hs1S hs2S hs3S; go_simp; try with_reducible rfl)
  simp only [Act.put, List.setIfInBounds_toArray, List.set_cons_zero, List.set_cons_succ]
  refine wpAnyH_take (i := 40) (oi := { dst := some 82, op := Op.call { callee := Callee.builtin Builtin.len, args := #[Operand.tmp 81], argTypes := #[22] }, type := 3, pos := "more.go:31", after := _, guard := some (37, true) }) (v := ?_) rfl (by kernel_rfl) (by kernel_rfl) (by kernel_rfl) (fun _ _ _ h => h) (Or.inl ⟨by rfl, ?_⟩) (by assumption) ?_
  rotate_left
  · (intro w hSw; (try dsimp only at hSw); go_simp; try with_reducible rfl)
  simp only [Act.put, List.setIfInBounds_toArray, List.set_cons_zero, List.set_cons_succ]
  refine wpAnyH_take (i := 41) (oi := { dst := some 83, op := Op.move (Operand.tmp 0), type := 22, pos := "more.go:31", after := _, guard := some (37, true) }) (v := ?_) rfl (by kernel_rfl) (by kernel_rfl) (by kernel_rfl) (fun _ _ _ h => h) (Or.inl ⟨by rfl, ?_⟩) (by assumption) ?_
  rotate_left
  · (intro w hSw; (try dsimp only at hSw); go_simp; try with_reducible rfl)
  simp only [Act.put, List.setIfInBounds_toArray, List.set_cons_zero, List.set_cons_succ]
  refine wpAnyH_take (i := 42) (oi := { dst := some 84, op := Op.call { callee := Callee.builtin Builtin.len, args := #[Operand.tmp 83], argTypes := #[22] }, type := 3, pos := "more.go:31", after := _, guard := some (37, true) }) (v := ?_) rfl (by kernel_rfl) (by kernel_rfl) (by kernel_rfl) (fun _ _ _ h => h) (Or.inl ⟨by rfl, ?_⟩) (by assumption) ?_
  rotate_left
  · (intro w hSw; (try dsimp only at hSw); go_simp; try with_reducible rfl)
  simp only [Act.put, List.setIfInBounds_toArray, List.set_cons_zero, List.set_cons_succ]
  refine wpAnyH_take (i := 43) (oi := { dst := some 85, op := Op.binOp BinOp.eql 3 (Operand.tmp 82) (Operand.tmp 84) 3, type := 4, pos := "more.go:31", after := _, guard := some (37, true) }) (v := ?_) rfl (by kernel_rfl) (by kernel_rfl) (by kernel_rfl) (fun _ _ _ h => h) (Or.inl ⟨by rfl, ?_⟩) (by assumption) ?_
  rotate_left
  · (intro W hSw; (try dsimp only at hSw); obtain ⟨hs0S, hs1S, hs2S, hs3S, hs4S, hs5S, hs6S⟩ := hSw; clear hs0S hs1S hs2S hs3S; go_simp; try with_reducible rfl)
  simp only [Act.put, List.setIfInBounds_toArray, List.set_cons_zero, List.set_cons_succ]
  refine wpAnyH_take (i := 44) (oi := { dst := some 86, op := Op.pick (Operand.tmp 79) (Operand.tmp 85) (Operand.const (Value.bool false)), type := 4, pos := "more.go:31", after := _, guard := none }) (v := ?_) rfl (by kernel_rfl) (by kernel_rfl) (by kernel_rfl) (fun _ _ _ h => h) (Or.inl ⟨by rfl, ?_⟩) (by assumption) ?_
  rotate_left
  · (intro w hSw; (try dsimp only at hSw); go_simp; try with_reducible rfl)
  simp only [Act.put, List.setIfInBounds_toArray, List.set_cons_zero, List.set_cons_succ]
  refine wpAnyH_take (i := 45) (oi := { dst := some 4, op := Op.assign (Operand.tmp 86), type := 4, pos := "more.go:31", after := _, guard := none }) (v := ?_) rfl (by kernel_rfl) (by kernel_rfl) (by kernel_rfl) (fun _ _ _ h => h) (Or.inl ⟨by rfl, ?_⟩) (by assumption) ?_
  rotate_left
  · (intro w hSw; (try dsimp only at hSw); go_simp; try with_reducible rfl)
  simp only [Act.put, List.setIfInBounds_toArray, List.set_cons_zero, List.set_cons_succ]
  refine wpAnyH_done (by kernel_rfl) ?_ _
  clear hHeld
  go_wp2
  go_ret
  exact ⟨rfl, HB.out⟩

end Go.Proofs.Ytgnjnhfimagbpaa
