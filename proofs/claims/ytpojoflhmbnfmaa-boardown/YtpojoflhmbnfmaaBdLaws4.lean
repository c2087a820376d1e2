/-
  BoardOwn: the walk.
-/
import Derived.Test.YtpojoflhmbnfmaaBdAwake
import Derived.Test.YtpojoflhmbnfmaaBdOpen
import Derived.BigQuiet
namespace Go.Proofs.Ytpojoflhmbnfmaa
open Go.RowKit
set_option linter.unusedVariables false


theorem readL_len (is : Bool) (l : List Wt) (y : Wt) : l.length ≤ (readL is true l y).length ∧ (readL is true l y).length ≤ l.length + 1 := by
  have := addP_len l y false
  cases is
  · show l.length ≤ (addP l y false).length ∧ (addP l y false).length ≤ l.length + 1
    omega
  · show l.length ≤ l.length ∧ l.length ≤ l.length + 1
    omega


set_option maxRecDepth 100000 in
set_option maxHeartbeats 3200000 in
theorem walk_BoardOwn (w : World) (x0 : BdX) (f0 : x0.fit w) (y : Wt) (f1 : y.fit) (x : Int) (hx : (Lit.int .i64 x).wf = true) :
    Calls Try.prog 6 #[x0.val, y.val, .int .i64 x] w fun e w' => e = .returned (.bool true) ∧ Below w.heap.size w w' := by
  clear hx
  obtain ⟨⟨is, v, s⟩, ⟨is', v', l⟩⟩ := x0
  obtain ⟨⟨h1, h2, hs⟩, -⟩ := f0
  simp only at h1 h2 hs
  subst h1 h2
  clear f1
  have HV := hid hs
  obtain ⟨a, c, hsv, hc1, hc2, hlc⟩ := hs.form
  have HC := hid hlc
  clear hlc
  obtain ⟨sa, sn, sc⟩ := s
  simp only [Sl.val, Value.slice.injEq] at hsv
  obtain ⟨rfl, rfl, rfl⟩ := hsv
  unfold maxLen at hc2
  simp only [Sl.val] at HV
  clear hs
  unfold BdX.val BdV.val Wt.val
  simp only
  have HB := hid (Below.refl w.heap.size w)
  go_enter Try.func6, Try.ntmps6
  have FL1 := hid trivial
  have FL2 := hid trivial
  go_wp2_with (first
    | (have hfl := FL1.out
       refine wpList_box rfl 24 (.tmp 0) rfl #[.bool is, .int .i64 v, .slice sa l.length sc] rfl ?_
       intro v1 b h z
       have PB := hid (show BoxAt v1 w.heap.size 24 #[.bool is, .int .i64 v, .slice sa l.length sc] from b)
       have HB := hid (HB.out.trans (h.mono HB.out.size))
       have hsv1 : w.heap.size + 1 ≤ v1.heap.size := by first | exact h.size | omega
       clear b h z hfl FL1)
    | (have hfl := FL2.out
       refine wpList_box rfl 26 (.tmp 1) rfl #[.int .i64 y.p, .int .i64 y.r, .int .i64 y.v] rfl ?_
       intro v2 b h z
       have WB := hid (show BoxAt v2 v1.heap.size 26 #[.int .i64 y.p, .int .i64 y.r, .int .i64 y.v] from b)
       have PB := hid (PB.out.belowAll h)
       have HB := hid (HB.out.trans (h.mono HB.out.size))
       have hsv2 : v1.heap.size + 1 ≤ v2.heap.size := by first | exact h.size | omega
       clear b h z hfl FL2)
    | fail)
  refine (bdawake_any _).mono ?_
  rintro e v3 ⟨rfl, hb⟩
  have PB := hid (PB.out.belowAll hb)
  have WB := hid (WB.out.belowAll hb)
  have HB := hid (HB.out.trans (hb.mono HB.out.size))
  have hsv3 : v2.heap.size ≤ v3.heap.size := by first | exact hb.size | omega
  have kPB2 : v3.cell? ⟨w.heap.size, 2, none⟩ = some (.slice sa l.length sc) := (BoxAt.cell PB.out 2).trans rfl
  clear hb
  by_cases h60 : 60 < l.length
  · have h60' : (60 : Int) < l.length := by omega
    go_wp2
    go_ret
    exact ⟨rfl, HB.out⟩
  have h60' : ¬ (60 : Int) < l.length := by omega
  have hl : l.length ≤ 800000 := by omega
  have FL3 := hid trivial
  go_wp2_with (first
    | (have hfl := FL3.out
       at_builtin
       refine app_nilWt rfl (.tmp 25) rfl _ l rfl (HV.out.below HB.out) (by omega) ?_
       intro uv4 v4 ho h
       obtain ⟨qv4, rfl, -⟩ := ho.sl
       have PB := hid (PB.out.belowAll h)
       have WB := hid (WB.out.belowAll h)
       have HB := hid (HB.out.trans (h.mono HB.out.size))
       have hsv4 : v3.heap.size ≤ v4.heap.size := by first | exact h.size | omega
       have HW := hid ho
       clear kPB2
       have kPB2 : v4.cell? ⟨w.heap.size, 2, none⟩ = some (.slice sa l.length sc) := (BoxAt.cell PB.out 2).trans rfl
       clear ho h hfl FL3
       refine Hid.out ?_)
    | fail)
  refine hid ?_
  have hqn : qv4.n = l.length := OWt.n (s := qv4) HW.out
  obtain ⟨qa, qn, qc⟩ := qv4
  simp only at hqn HW ⊢
  subst hqn
  have HWL := hid (fun k hk => (HW.out.lt k hk).2)
  go_wp2_with (first
    | (refine wpList_load_box rfl 24 _ rfl (w.heap.size) rfl _ _ PB.out _ Try.underlying24 Try.infoBd ?_)
    | fail)
  refine (bwrite_any is v x (s := ⟨sa, l.length, sc⟩) (HV.out.below HB.out) hl).mono ?_
  rintro e v5 ⟨u1, rfl, hu, hb⟩
  have PB := hid (PB.out.belowAll hb)
  have WB := hid (WB.out.belowAll hb)
  have HW := hid (HW.out.below hb)
  have HB := hid (HB.out.trans (hb.mono HB.out.size))
  have hsv5 : v4.heap.size ≤ v5.heap.size := by first | exact hb.size | omega
  clear hu
  clear kPB2
  have kPB2 : v5.cell? ⟨w.heap.size, 2, none⟩ = some (.slice sa l.length sc) := (BoxAt.cell PB.out 2).trans rfl
  clear hb
  go_wp2_with (first
    | (refine wpList_load_box rfl 24 _ rfl (w.heap.size) rfl _ _ PB.out _ Try.underlying24 Try.infoBd ?_)
    | fail)
  refine (bclear_any is v (s := ⟨sa, l.length, sc⟩) (HV.out.below HB.out) hl).mono ?_
  rintro e v6 ⟨u2, rfl, hu, hb⟩
  have PB := hid (PB.out.belowAll hb)
  have WB := hid (WB.out.belowAll hb)
  have HW := hid (HW.out.below hb)
  have HB := hid (HB.out.trans (hb.mono HB.out.size))
  have hsv6 : v5.heap.size ≤ v6.heap.size := by first | exact hb.size | omega
  clear hu
  clear kPB2
  have kPB2 : v6.cell? ⟨w.heap.size, 2, none⟩ = some (.slice sa l.length sc) := (BoxAt.cell PB.out 2).trans rfl
  clear hb
  go_wp2_with (first
    | (refine wpList_load_box rfl 24 _ rfl (w.heap.size) rfl _ _ PB.out _ Try.underlying24 Try.infoBd ?_)
    | (refine wpList_load_box rfl 26 _ rfl (v1.heap.size) rfl _ _ WB.out _ Try.underlying26 Try.infoWt ?_)
    | fail)
  refine (bread_any is v (s := ⟨sa, l.length, sc⟩) y true (HV.out.below HB.out) hl).mono ?_
  rintro e v7 ⟨u3, rfl, hu, hb⟩
  have PB := hid (PB.out.belowAll hb)
  have WB := hid (WB.out.belowAll hb)
  have HW := hid (HW.out.below hb)
  have HB := hid (HB.out.trans (hb.mono HB.out.size))
  have hsv7 : v6.heap.size ≤ v7.heap.size := by first | exact hb.size | omega
  have HX := hid hu
  have HXN := hid hu.n
  obtain ⟨RC, hRC⟩ : ∃ r, readC is true = r := ⟨_, rfl⟩
  rw [hRC]
  obtain ⟨RV, hRV⟩ : ∃ r, readV is v = r := ⟨_, rfl⟩
  rw [hRV]
  clear hu hRC hRV
  have hrl := readL_len is l y
  obtain ⟨L, hL⟩ : ∃ L, readL is true l y = L := ⟨_, rfl⟩
  rw [hL] at HX HXN hrl
  have HRL := hid hrl
  clear hL hrl
  clear kPB2
  have kPB2 : v7.cell? ⟨w.heap.size, 2, none⟩ = some (.slice sa l.length sc) := (BoxAt.cell PB.out 2).trans rfl
  clear hb
  have FL4 := hid trivial
  have FL5 := hid trivial
  go_wp2_with (first
    | (have hfl := FL4.out
       refine wpList_new rfl 24 rfl _ Try.zeroBd ?_
       intro v8 b h z
       have XB := hid (show BoxAt v8 v7.heap.size 24 #[.bool false, .int .i64 0, .slice none 0 0] from b)
       have PB := hid (PB.out.belowAll h)
       have WB := hid (WB.out.belowAll h)
       have HW := hid (HW.out.below h)
       have HX := hid (HX.out.below h)
       have HB := hid (HB.out.trans (h.mono HB.out.size))
       have hsv8 : v7.heap.size + 1 ≤ v8.heap.size := by first | exact h.size | omega
       clear kPB2
       have kPB2 : v8.cell? ⟨w.heap.size, 2, none⟩ = some (.slice sa l.length sc) := (BoxAt.cell PB.out 2).trans rfl
       clear b h z hfl FL4)
    | (have hfl := FL5.out
       refine wpList_store_whole rfl 24 _ _ rfl rfl (v7.heap.size) rfl [.bool is, .int .i64 v, .slice u3.a u3.n u3.c] rfl _ _ XB.out rfl Try.infoBd (by simp [Value.oneCell']) ?_
       intro v9 b g z
       have hsv9 : v8.heap.size ≤ v9.heap.size := by omega
       have HW := hid (HW.out.put g XB.out (by decide))
       have HX := hid (HX.out.put g XB.out (by decide))
       have XB := hid (show BoxAt v9 (v7.heap.size) 24 #[.bool is, .int .i64 v, .slice u3.a u3.n u3.c] from b)
       have PB := hid (PB.out.grown g (fun e => by have := Option.some.inj e; omega))
       have WB := hid (WB.out.grown g (fun e => by have := Option.some.inj e; omega))
       have HB := hid (HB.out.trans (grown_below g (by omega) (by omega)))
       clear kPB2
       have kPB2 : v9.cell? ⟨w.heap.size, 2, none⟩ = some (.slice sa l.length sc) := (BoxAt.cell PB.out 2).trans rfl
       clear b g z hfl FL5)
    | (refine wpList_load_box rfl 24 _ rfl (v7.heap.size) rfl _ _ XB.out _ Try.underlying24 Try.infoBd ?_)
    | fail)
  refine (bclear_any is v (s := u3) HX.out.sees (by have := HRL.out; omega)).mono ?_
  rintro e v10 ⟨u4, rfl, hu, hb⟩
  have PB := hid (PB.out.belowAll hb)
  have WB := hid (WB.out.belowAll hb)
  have XB := hid (XB.out.belowAll hb)
  have HW := hid (HW.out.below hb)
  have HX := hid (HX.out.below hb)
  have HB := hid (HB.out.trans (hb.mono HB.out.size))
  have hsv10 : v9.heap.size ≤ v10.heap.size := by first | exact hb.size | omega
  have HU := hid hu
  have HUN := hid hu.n
  have HUL := hid hu.lt
  obtain ⟨ua, un, uc⟩ := u4
  clear hu
  clear kPB2
  have kPB2 : v10.cell? ⟨w.heap.size, 2, none⟩ = some (.slice sa l.length sc) := (BoxAt.cell PB.out 2).trans rfl
  clear hb
  clear HX
  have FL6 := hid trivial
  have FL7 := hid trivial
  go_wp2_with (first
    | (have hfl := FL6.out
       refine wpList_new rfl 24 rfl _ Try.zeroBd ?_
       intro v11 b h z
       have YB := hid (show BoxAt v11 v10.heap.size 24 #[.bool false, .int .i64 0, .slice none 0 0] from b)
       have PB := hid (PB.out.belowAll h)
       have WB := hid (WB.out.belowAll h)
       have XB := hid (XB.out.belowAll h)
       have HW := hid (HW.out.below h)
       have HU := hid (HU.out.below h)
       have HB := hid (HB.out.trans (h.mono HB.out.size))
       have hsv11 : v10.heap.size + 1 ≤ v11.heap.size := by first | exact h.size | omega
       clear kPB2
       have kPB2 : v11.cell? ⟨w.heap.size, 2, none⟩ = some (.slice sa l.length sc) := (BoxAt.cell PB.out 2).trans rfl
       clear b h z hfl FL6)
    | (have hfl := FL7.out
       refine wpList_store_whole rfl 24 _ _ rfl rfl (v10.heap.size) rfl [.bool false, .int .i64 0, .slice ua un uc] rfl _ _ YB.out rfl Try.infoBd (by simp [Value.oneCell']) ?_
       intro v12 b g z
       have hsv12 : v11.heap.size ≤ v12.heap.size := by omega
       have HW := hid (HW.out.put g YB.out (by decide))
       have HU := hid (HU.out.put g YB.out (by decide))
       have YB := hid (show BoxAt v12 (v10.heap.size) 24 #[.bool false, .int .i64 0, .slice ua un uc] from b)
       have PB := hid (PB.out.grown g (fun e => by have := Option.some.inj e; omega))
       have WB := hid (WB.out.grown g (fun e => by have := Option.some.inj e; omega))
       have XB := hid (XB.out.grown g (fun e => by have := Option.some.inj e; omega))
       have HB := hid (HB.out.trans (grown_below g (by omega) (by omega)))
       clear kPB2
       have kPB2 : v12.cell? ⟨w.heap.size, 2, none⟩ = some (.slice sa l.length sc) := (BoxAt.cell PB.out 2).trans rfl
       clear b g z hfl FL7
       refine Hid.out ?_)
    | fail)
  refine hid ?_
  clear kPB2
  have kPB2 : v12.cell? ⟨w.heap.size, 2, none⟩ = some (.slice sa l.length sc) := (BoxAt.cell PB.out 2).trans rfl
  have kYB2 : v12.cell? ⟨v10.heap.size, 2, none⟩ = some (.slice ua un uc) := (BoxAt.cell YB.out 2).trans rfl
  by_cases h0 : 0 < un
  · have hUL := HUN.out
    have hun : 0 < L.length := by have : un = L.length := HUN.out; omega
    obtain ⟨G, cap, hgv, -⟩ := owns_formQ HU.out hun
    simp only [Sl.val, Value.slice.injEq] at hgv
    obtain ⟨rfl, -, -⟩ := hgv
    obtain ⟨hG1, hG2⟩ := HUL.out G rfl
    obtain ⟨V, hV⟩ : ∃ V, (L.getD 0 Wt.zero).v = V := ⟨_, rfl⟩
    have HVV := hid hV
    have hG3 : v10.heap.size ≤ v12.heap.size := by omega
    clear hUL hV
    go_wp2_with fail
    clear kPB2 kYB2
    have PB := hid (BoxAt.drew PB.out)
    have WB := hid (BoxAt.drew WB.out)
    have XB := hid (BoxAt.drew XB.out)
    have YB := hid (BoxAt.drew YB.out)
    have HW := hid (HW.out.below ((Below.refl v12.heap.size v12).drew))
    have HU := hid (HU.out.below ((Below.refl v12.heap.size v12).drew))
    have HB := hid HB.out.drew
    have hsv13 : v12.heap.size ≤ v12.drew.heap.size := Nat.le_refl _
    refine wp_region_held_drew (S := (fun w' : World => BoxAt w' (v10.heap.size) 24 #[.bool false, .int .i64 0, .slice (some ⟨G, 0, none⟩) un uc])) (by kernel_rfl) (YB.out) (fun hHeld => ?_)
    generalize v12.drew = v13 at *
    refine wpAnyH_take (i := 0) (oi := { dst := some 45, op := Op.fieldAddr 24 (Operand.tmp 12) 2, type := 0, pos := "more.go:41", after := #[], guard := none }) (v := ?_) rfl (by kernel_rfl) (by kernel_rfl) (by kernel_rfl) (fun _ _ _ h => h) (Or.inl ⟨by rfl, ?_⟩) (by assumption) ?_
    rotate_left
    · (intro w hSw; (try dsimp only at hSw); go_simp; try with_reducible rfl)
    simp only [Act.put, List.setIfInBounds_toArray, List.set_cons_zero, List.set_cons_succ]
    refine wpAnyH_take (i := 1) (oi := { dst := some 46, op := Op.load 22 (Operand.tmp 45), type := 22, pos := "more.go:41", after := #[{ on := 0, ground := Ground.data }], guard := none }) (v := ?_) rfl (by kernel_rfl) (by kernel_rfl) (by kernel_rfl) (fun _ _ _ h => h) (Or.inl ⟨by rfl, ?_⟩) (by assumption) ?_
    rotate_left
    · (intro W hSw; (try dsimp only at hSw); have x0 := hSw; have c0_0 : W.cell? ⟨v10.heap.size, 0, none⟩ = some (.bool false) := (BoxAt.cell x0 0).trans rfl; have c0_1 : W.cell? ⟨v10.heap.size, 1, none⟩ = some (.int .i64 0) := (BoxAt.cell x0 1).trans rfl; have c0_2 : W.cell? ⟨v10.heap.size, 2, none⟩ = some (.slice (some ⟨G, 0, none⟩) un uc) := (BoxAt.cell x0 2).trans rfl; clear x0; go_simp; try with_reducible rfl)
    simp only [Act.put, List.setIfInBounds_toArray, List.set_cons_zero, List.set_cons_succ]
    refine wpAnyH_take (i := 2) (oi := { dst := some 47, op := Op.fieldAddr 24 (Operand.tmp 12) 2, type := 0, pos := "more.go:41", after := #[], guard := none }) (v := ?_) rfl (by kernel_rfl) (by kernel_rfl) (by kernel_rfl) (fun _ _ _ h => h) (Or.inl ⟨by rfl, ?_⟩) (by assumption) ?_
    rotate_left
    · (intro w hSw; (try dsimp only at hSw); go_simp; try with_reducible rfl)
    simp only [Act.put, List.setIfInBounds_toArray, List.set_cons_zero, List.set_cons_succ]
    refine wpAnyH_take (i := 3) (oi := { dst := some 48, op := Op.load 22 (Operand.tmp 47), type := 22, pos := "more.go:41", after := #[{ on := 2, ground := Ground.data }], guard := none }) (v := ?_) rfl (by kernel_rfl) (by kernel_rfl) (by kernel_rfl) (fun _ _ _ h => h) (Or.inl ⟨by rfl, ?_⟩) (by assumption) ?_
    rotate_left
    · (intro W hSw; (try dsimp only at hSw); have x0 := hSw; have c0_0 : W.cell? ⟨v10.heap.size, 0, none⟩ = some (.bool false) := (BoxAt.cell x0 0).trans rfl; have c0_1 : W.cell? ⟨v10.heap.size, 1, none⟩ = some (.int .i64 0) := (BoxAt.cell x0 1).trans rfl; have c0_2 : W.cell? ⟨v10.heap.size, 2, none⟩ = some (.slice (some ⟨G, 0, none⟩) un uc) := (BoxAt.cell x0 2).trans rfl; clear x0; go_simp; try with_reducible rfl)
    simp only [Act.put, List.setIfInBounds_toArray, List.set_cons_zero, List.set_cons_succ]
    refine wpAnyH_take (i := 4) (oi := { dst := some 49, op := Op.indexAddr 22 (Operand.tmp 48) (Operand.const (Value.int IntKind.i64 0)), type := 0, pos := "more.go:41", after := #[{ on := 3, ground := Ground.data }], guard := none }) (v := ?_) rfl (by kernel_rfl) (by kernel_rfl) (by kernel_rfl) (fun _ _ _ h => h) (Or.inl ⟨by rfl, ?_⟩) (by assumption) ?_
    rotate_left
    · (intro w hSw; (try dsimp only at hSw); go_simp; try with_reducible rfl)
    simp only [Act.put, List.setIfInBounds_toArray, List.set_cons_zero, List.set_cons_succ]
    refine wpAnyH_take (i := 5) (oi := { dst := some 50, op := Op.fieldAddr 26 (Operand.tmp 49) 2, type := 0, pos := "more.go:41", after := #[{ on := 4, ground := Ground.data }], guard := none }) (v := ?_) rfl (by kernel_rfl) (by kernel_rfl) (by kernel_rfl) (fun _ _ _ h => h) (Or.inl ⟨by rfl, ?_⟩) (by assumption) ?_
    rotate_left
    · (intro w hSw; (try dsimp only at hSw); go_simp; try with_reducible rfl)
    simp only [Act.put, List.setIfInBounds_toArray, List.set_cons_zero, List.set_cons_succ]
    refine wpAnyH_ready (rs := [6]) (by kernel_rfl) (by simp) (AllReadyH.cons (o := { dst := some 51, op := Op.load 3 (Operand.tmp 50), type := 3, pos := "more.go:41", after := #[{ on := 5, ground := Ground.data }], guard := none }) rfl (fun K1007 hK1007 => ?_) AllReadyH.nil)
    have cG : v13.cell? ⟨G, 2, none⟩ = some (.int .i64 V) := (by have h := OWt.at HU.out 0 2 hun (by decide); rw [Nat.zero_mul, Nat.zero_add] at h; rw [h]; exact congrArg (fun v => some (Value.int .i64 v)) HVV.out)
    go_simp
    clear cG
    refine hK1007.out _ _ (YB.out) (fun hHeld1007 => ?_)
    clear hK1007 K1007
    try simp only [Act.put, List.setIfInBounds_toArray, List.set_cons_zero, List.set_cons_succ]
    refine wpAnyH_take (i := 7) (oi := { dst := some 52, op := Op.binOp BinOp.add 3 (Operand.tmp 51) (Operand.const (Value.int IntKind.i64 1)) 3, type := 3, pos := "more.go:41", after := #[{ on := 6, ground := Ground.data }], guard := none }) (v := ?_) rfl (by kernel_rfl) (by kernel_rfl) (by kernel_rfl) (fun _ _ _ h => h) (Or.inl ⟨by rfl, ?_⟩) (by assumption) ?_
    rotate_left
    · (intro W hSw; (try dsimp only at hSw); have x0 := hSw; clear x0; go_simp; try with_reducible rfl)
    simp only [Act.put, List.setIfInBounds_toArray, List.set_cons_zero, List.set_cons_succ]
    refine wpAnyH_take (i := 8) (oi := { dst := some 53, op := Op.indexAddr 22 (Operand.tmp 46) (Operand.const (Value.int IntKind.i64 0)), type := 0, pos := "more.go:41", after := #[{ on := 1, ground := Ground.data }, { on := 0, ground := Ground.phase }, { on := 1, ground := Ground.phase }, { on := 2, ground := Ground.phase }, { on := 3, ground := Ground.phase }, { on := 4, ground := Ground.phase }, { on := 5, ground := Ground.phase }, { on := 6, ground := Ground.phase }, { on := 7, ground := Ground.phase }], guard := none }) (v := ?_) rfl (by kernel_rfl) (by kernel_rfl) (by kernel_rfl) (fun _ _ _ h => h) (Or.inl ⟨by rfl, ?_⟩) (by assumption) ?_
    rotate_left
    · (intro w hSw; (try dsimp only at hSw); go_simp; try with_reducible rfl)
    simp only [Act.put, List.setIfInBounds_toArray, List.set_cons_zero, List.set_cons_succ]
    refine wpAnyH_take (i := 9) (oi := { dst := some 54, op := Op.fieldAddr 26 (Operand.tmp 53) 2, type := 0, pos := "more.go:41", after := #[{ on := 8, ground := Ground.data }, { on := 0, ground := Ground.phase }, { on := 1, ground := Ground.phase }, { on := 2, ground := Ground.phase }, { on := 3, ground := Ground.phase }, { on := 4, ground := Ground.phase }, { on := 5, ground := Ground.phase }, { on := 6, ground := Ground.phase }, { on := 7, ground := Ground.phase }], guard := none }) (v := ?_) rfl (by kernel_rfl) (by kernel_rfl) (by kernel_rfl) (fun _ _ _ h => h) (Or.inl ⟨by rfl, ?_⟩) (by assumption) ?_
    rotate_left
    · (intro w hSw; (try dsimp only at hSw); go_simp; try with_reducible rfl)
    simp only [Act.put, List.setIfInBounds_toArray, List.set_cons_zero, List.set_cons_succ]
    refine wpAnyH_ready (rs := [10]) (by kernel_rfl) (by simp) (AllReadyH.cons (o := { dst := none, op := Op.store 3 (Operand.tmp 54) (Operand.tmp 52), type := 0, pos := "more.go:41", after := #[{ on := 9, ground := Ground.data }, { on := 7, ground := Ground.data }, { on := 0, ground := Ground.phase }, { on := 1, ground := Ground.phase }, { on := 2, ground := Ground.phase }, { on := 3, ground := Ground.phase }, { on := 4, ground := Ground.phase }, { on := 5, ground := Ground.phase }, { on := 6, ground := Ground.phase }, { on := 7, ground := Ground.phase }], guard := none }) rfl (fun K1011 hK1011 => ?_) AllReadyH.nil)
    refine step_set_Wt rfl 3 _ _ rfl _ G _ _ L HU.out 0 2 hun (by decide) 2 rfl rfl _ rfl rfl rfl (by kernel_rfl) ?_
    intro v14 g z
    have hsv14 : v13.heap.size ≤ v14.heap.size := by omega
    have PB := hid (PB.out.grown g (fun e => by have := Option.some.inj e; omega))
    have WB := hid (WB.out.grown g (fun e => by have := Option.some.inj e; omega))
    have XB := hid (XB.out.grown g (fun e => by have := Option.some.inj e; omega))
    have YB := hid (YB.out.grown g (fun e => by have := Option.some.inj e; omega))
    have HW := hid (HW.out.apart g (fun k hk => by have := HWL.out k hk; omega))
    have HB := hid (HB.out.trans (grown_below g (by omega) (by omega)))
    have kPB2 : v14.cell? ⟨w.heap.size, 2, none⟩ = some (.slice sa l.length sc) := (BoxAt.cell PB.out 2).trans rfl
    have kYB2 : v14.cell? ⟨v10.heap.size, 2, none⟩ = some (.slice (some ⟨G, 0, none⟩) un uc) := (BoxAt.cell YB.out 2).trans rfl
    clear g z
    refine hK1011.out _ _ (YB.out) (fun hHeld1011 => ?_)
    clear hK1011 K1011
    try simp only [Act.put]
    refine wpAnyH_done (by kernel_rfl) ?_ _
    clear hHeld hHeld1007 hHeld1011
    clear kPB2 kYB2
    have kPB2 : v14.cell? ⟨w.heap.size, 2, none⟩ = some (.slice sa l.length sc) := (BoxAt.cell PB.out 2).trans rfl
    have kYB2 : v14.cell? ⟨v10.heap.size, 2, none⟩ = some (.slice (some ⟨G, 0, none⟩) un uc) := (BoxAt.cell YB.out 2).trans rfl
    have HW := hid HW.out
    have hge : (l.length : Int) ≤ (u3.n : Int) := by have := HRL.out; have := HXN.out; omega
    go_wp2_with fail
    go_loopw [13] (fun t wc => ∃ j : Nat, j ≤ l.length ∧ t = .int .i64 j ∧ Below v14.heap.size v14 wc) (fun t _ => l.length - (intOf t).toNat)
    case atStart => exact ⟨0, by omega, rfl, Below.refl _ _⟩
    case round =>
      obtain ⟨j, hj, rfl, hbel⟩ := hrel
      have PB := hid (PB.out.belowAll hbel)
      have XB := hid (XB.out.belowAll hbel)
      have YB := hid (YB.out.belowAll hbel)
      have HB := hid (HB.out.trans (hbel.mono HB.out.size))
      clear kPB2 kYB2
      have kPB2 : wr.cell? ⟨w.heap.size, 2, none⟩ = some (.slice sa l.length sc) := (BoxAt.cell PB.out 2).trans rfl
      have kXB2 : wr.cell? ⟨v7.heap.size, 2, none⟩ = some (.slice u3.a u3.n u3.c) := (BoxAt.cell XB.out 2).trans rfl
      by_cases hlt : j < l.length
      · obtain ⟨bb, off, rfl, hbw, hcell⟩ := HC.out (by omega)
        obtain ⟨xa, xc, hxv, -, -, hxcell⟩ := HW.out.sees.form
        simp only [Value.slice.injEq] at hxv
        obtain ⟨hxa, -, -⟩ := hxv
        obtain ⟨xb, xo, hxx, hxw, hxc⟩ := hxcell (by omega)
        have hqa : qa = some ⟨xb, xo, none⟩ := hxa.trans hxx
        have c0 := (HB.out.cell (by exact hbw)).trans (hcell j hlt 0 (by decide))
        have c1 := (HB.out.cell (by exact hbw)).trans (hcell j hlt 1 (by decide))
        have c2 := (HB.out.cell (by exact hbw)).trans (hcell j hlt 2 (by decide))
        have e0 := (hbel.cell (by exact hxw)).trans (hxc j hlt 0 (by decide))
        have e1 := (hbel.cell (by exact hxw)).trans (hxc j hlt 1 (by decide))
        have e2 := (hbel.cell (by exact hxw)).trans (hxc j hlt 2 (by decide))
        obtain ⟨e, he⟩ : ∃ e, l.getD j Wt.zero = e := ⟨_, rfl⟩
        rw [he] at c0 c1 c2 e0 e1 e2
        clear he hcell HC hxc hxcell hxa hxx
        obtain ⟨y0, y1, y2⟩ := e
        simp only [Wt.cells, List.getD_cons_zero, List.getD_cons_succ, Nat.add_zero] at c0 c1 c2 e0 e1 e2
        have n0 : (y0 != y0) = false := by simp
        have n1 : (y1 != y1) = false := by simp
        have n2 : (y2 != y2) = false := by simp
        subst hqa
        have HBE := hid hbel
        clear hbel
        go_wp2
        go_quiet (fail)
        go_wp2
        go_roundw
        case rel => exact ⟨j + 1, by omega, by go_num, below_drewB HBE.out nq⟩
        case measure => simp [intOf]; omega
      · go_wp2
        go_ret
        exact ⟨rfl, HB.out⟩
  · have HW := hid HW.out
    have hge : (l.length : Int) ≤ (u3.n : Int) := by have := HRL.out; have := HXN.out; omega
    go_wp2_with fail
    go_loopw [13] (fun t wc => ∃ j : Nat, j ≤ l.length ∧ t = .int .i64 j ∧ Below v12.heap.size v12 wc) (fun t _ => l.length - (intOf t).toNat)
    case atStart => exact ⟨0, by omega, rfl, Below.refl _ _⟩
    case round =>
      obtain ⟨j, hj, rfl, hbel⟩ := hrel
      have PB := hid (PB.out.belowAll hbel)
      have XB := hid (XB.out.belowAll hbel)
      have YB := hid (YB.out.belowAll hbel)
      have HB := hid (HB.out.trans (hbel.mono HB.out.size))
      clear kPB2 kYB2
      have kPB2 : wr.cell? ⟨w.heap.size, 2, none⟩ = some (.slice sa l.length sc) := (BoxAt.cell PB.out 2).trans rfl
      have kXB2 : wr.cell? ⟨v7.heap.size, 2, none⟩ = some (.slice u3.a u3.n u3.c) := (BoxAt.cell XB.out 2).trans rfl
      by_cases hlt : j < l.length
      · obtain ⟨bb, off, rfl, hbw, hcell⟩ := HC.out (by omega)
        obtain ⟨xa, xc, hxv, -, -, hxcell⟩ := HW.out.sees.form
        simp only [Value.slice.injEq] at hxv
        obtain ⟨hxa, -, -⟩ := hxv
        obtain ⟨xb, xo, hxx, hxw, hxc⟩ := hxcell (by omega)
        have hqa : qa = some ⟨xb, xo, none⟩ := hxa.trans hxx
        have c0 := (HB.out.cell (by exact hbw)).trans (hcell j hlt 0 (by decide))
        have c1 := (HB.out.cell (by exact hbw)).trans (hcell j hlt 1 (by decide))
        have c2 := (HB.out.cell (by exact hbw)).trans (hcell j hlt 2 (by decide))
        have e0 := (hbel.cell (by exact hxw)).trans (hxc j hlt 0 (by decide))
        have e1 := (hbel.cell (by exact hxw)).trans (hxc j hlt 1 (by decide))
        have e2 := (hbel.cell (by exact hxw)).trans (hxc j hlt 2 (by decide))
        obtain ⟨e, he⟩ : ∃ e, l.getD j Wt.zero = e := ⟨_, rfl⟩
        rw [he] at c0 c1 c2 e0 e1 e2
        clear he hcell HC hxc hxcell hxa hxx
        obtain ⟨y0, y1, y2⟩ := e
        simp only [Wt.cells, List.getD_cons_zero, List.getD_cons_succ, Nat.add_zero] at c0 c1 c2 e0 e1 e2
        have n0 : (y0 != y0) = false := by simp
        have n1 : (y1 != y1) = false := by simp
        have n2 : (y2 != y2) = false := by simp
        subst hqa
        have HBE := hid hbel
        clear hbel
        go_wp2
        go_quiet (fail)
        go_wp2
        go_roundw
        case rel => exact ⟨j + 1, by omega, by go_num, below_drewB HBE.out nq⟩
        case measure => simp [intOf]; omega
      · go_wp2
        go_ret
        exact ⟨rfl, HB.out⟩

end Go.Proofs.Ytpojoflhmbnfmaa
