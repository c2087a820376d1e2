/-
  Send: there is room.
-/
import Derived.Test.YtehpmjaldghdiaaBfFrom
namespace Go.Proofs.Ytehpmjaldghdiaa
open Go.RowKit
set_option linter.unusedVariables false


set_option maxRecDepth 100000 in
set_option maxHeartbeats 1600000 in
theorem send_put1 (d : Int) (k : Bool) {vs s : Sl} {xs : List Int} {l : List Wt} (p r v : Int) (fp fr fv : Int) (may : Bool) {w : World} (hv : Sees w .i64 vs.val xs) (hs : SeesWt w s.val l) (hx : xs.length ≤ 800000) (hl : l.length ≤ 800000) (h0 : 0 < xs.length) (h1 : 0 < l.length) (hf : l.getD 0 Wt.zero = ⟨fp, fr, fv⟩) (hd : (xs.length : Int) < d) :
    Calls Try.prog 9 #[BfV.val ⟨d, k, vs, s⟩, .agg #[.int .i64 p, .int .i64 r, .int .i64 v], .bool may] w fun e w' => ∃ (x u q : Sl), e = .returned (.tuple #[BfV.val ⟨d, k, x, u⟩, .int .i64 (0), q.val]) ∧ OI w' w.heap.size x.val (xs ++ [v]) ∧ OWt w' w.heap.size u.val (l) ∧ OWk w' w.heap.size q.val ([]) ∧ Below w.heap.size w w' := by
  have HX := hid hv
  have HV := hid hs
  obtain ⟨a1, c1, hv1, hx1, hx2, hxc⟩ := hv.form
  obtain ⟨xa, xn, xc⟩ := vs
  simp only [Sl.val, Value.slice.injEq] at hv1
  obtain ⟨rfl, rfl, rfl⟩ := hv1
  obtain ⟨a2, c2, hs1, hc1, hc2, -⟩ := hs.form
  obtain ⟨sa, sn, sc⟩ := s
  simp only [Sl.val, Value.slice.injEq] at hs1
  obtain ⟨rfl, rfl, rfl⟩ := hs1
  unfold maxLen at hx2 hc2
  simp only [Sl.val] at HX HV
  have HXC := hid hxc
  clear hv hs hxc
  unfold BfV.val
  simp only
  obtain ⟨N, hN⟩ : ∃ N, xs.length = N := ⟨_, rfl⟩
  obtain ⟨M, hM⟩ : ∃ M, l.length = M := ⟨_, rfl⟩
  have HN := hid hN
  have HM := hid hM
  have HXL := hid hx
  have HL := hid hl
  rw [hN] at hx hx1 HX HXC ⊢
  rw [hM] at hl hc1 HV ⊢
  have H0 := hid h0
  have H1 := hid h1
  have t0 : ((N : Int) == 0) = false := beq_eq_false_iff_ne.2 (by omega)
  rw [hN] at hd
  clear hN hM h0 h1
  have HB := hid (Below.refl w.heap.size w)
  go_enter Try.func9, Try.ntmps9
  have FL1 := hid trivial
  have FL2 := hid trivial
  have FL3 := hid trivial
  go_wp2_with (first
    | (have hfl := FL1.out
       refine wpList_box rfl 25 (.tmp 0) rfl #[.int .i64 d, .bool k, .slice xa N xc, .slice sa M sc] rfl ?_
       intro v1 b h z
       have PB := hid (show BoxAt v1 w.heap.size 25 #[.int .i64 d, .bool k, .slice xa N xc, .slice sa M sc] from b)
       have HB := hid (HB.out.trans (h.mono HB.out.size))
       have hsv1 : w.heap.size + 1 ≤ v1.heap.size := by first | exact h.size | omega
       clear b h z hfl FL1)
    | (have hfl := FL2.out
       refine wpList_box rfl 27 (.tmp 1) rfl #[.int .i64 p, .int .i64 r, .int .i64 v] rfl ?_
       intro v2 b h z
       have WB := hid (show BoxAt v2 v1.heap.size 27 #[.int .i64 p, .int .i64 r, .int .i64 v] from b)
       have PB := hid (PB.out.belowAll h)
       have HB := hid (HB.out.trans (h.mono HB.out.size))
       have hsv2 : v1.heap.size + 1 ≤ v2.heap.size := by first | exact h.size | omega
       have kPB0 : v2.cell? ⟨w.heap.size, 0, none⟩ = some (.int .i64 d) := (BoxAt.cell PB.out 0).trans rfl
       have kPB1 : v2.cell? ⟨w.heap.size, 1, none⟩ = some (.bool k) := (BoxAt.cell PB.out 1).trans rfl
       have kPB2 : v2.cell? ⟨w.heap.size, 2, none⟩ = some (.slice xa N xc) := (BoxAt.cell PB.out 2).trans rfl
       have kPB3 : v2.cell? ⟨w.heap.size, 3, none⟩ = some (.slice sa M sc) := (BoxAt.cell PB.out 3).trans rfl
       clear b h z hfl FL2)
    | (have hfl := FL3.out
       refine wpList_new rfl 25 rfl _ Try.zeroBf ?_
       intro v3 b h z
       have RB := hid (show BoxAt v3 v2.heap.size 25 #[.int .i64 0, .bool false, .slice none 0 0, .slice none 0 0] from b)
       have PB := hid (PB.out.belowAll h)
       have WB := hid (WB.out.belowAll h)
       have HB := hid (HB.out.trans (h.mono HB.out.size))
       have hsv3 : v2.heap.size + 1 ≤ v3.heap.size := by first | exact h.size | omega
       clear kPB0 kPB1 kPB2 kPB3
       have kPB0 : v3.cell? ⟨w.heap.size, 0, none⟩ = some (.int .i64 d) := (BoxAt.cell PB.out 0).trans rfl
       have kPB1 : v3.cell? ⟨w.heap.size, 1, none⟩ = some (.bool k) := (BoxAt.cell PB.out 1).trans rfl
       have kPB2 : v3.cell? ⟨w.heap.size, 2, none⟩ = some (.slice xa N xc) := (BoxAt.cell PB.out 2).trans rfl
       have kPB3 : v3.cell? ⟨w.heap.size, 3, none⟩ = some (.slice sa M sc) := (BoxAt.cell PB.out 3).trans rfl
       have kWB0 : v3.cell? ⟨v1.heap.size, 0, none⟩ = some (.int .i64 p) := (BoxAt.cell WB.out 0).trans rfl
       have kWB1 : v3.cell? ⟨v1.heap.size, 1, none⟩ = some (.int .i64 r) := (BoxAt.cell WB.out 1).trans rfl
       have kWB2 : v3.cell? ⟨v1.heap.size, 2, none⟩ = some (.int .i64 v) := (BoxAt.cell WB.out 2).trans rfl
       clear b h z hfl FL3
       refine Hid.out ?_)
    | fail)
  refine hid ?_
  clear kPB0 kPB1 kPB2 kPB3 kWB0 kWB1 kWB2
  have kPB0 : v3.cell? ⟨w.heap.size, 0, none⟩ = some (.int .i64 d) := (BoxAt.cell PB.out 0).trans rfl
  have kPB1 : v3.cell? ⟨w.heap.size, 1, none⟩ = some (.bool k) := (BoxAt.cell PB.out 1).trans rfl
  have kPB2 : v3.cell? ⟨w.heap.size, 2, none⟩ = some (.slice xa N xc) := (BoxAt.cell PB.out 2).trans rfl
  have kPB3 : v3.cell? ⟨w.heap.size, 3, none⟩ = some (.slice sa M sc) := (BoxAt.cell PB.out 3).trans rfl
  have kWB0 : v3.cell? ⟨v1.heap.size, 0, none⟩ = some (.int .i64 p) := (BoxAt.cell WB.out 0).trans rfl
  have kWB1 : v3.cell? ⟨v1.heap.size, 1, none⟩ = some (.int .i64 r) := (BoxAt.cell WB.out 1).trans rfl
  have kWB2 : v3.cell? ⟨v1.heap.size, 2, none⟩ = some (.int .i64 v) := (BoxAt.cell WB.out 2).trans rfl
  go_wp2_with fail
  have HBf := HB.out.size
  refine (first_yes (HV.out.below HB.out) HL.out H1.out fp fr fv hf).mono ?_
  rintro e v4 ⟨f, rfl, hu, hb⟩
  have PB := hid (PB.out.belowAll hb)
  have WB := hid (WB.out.belowAll hb)
  have RB := hid (RB.out.belowAll hb)
  have HB := hid (HB.out.trans (hb.mono HB.out.size))
  have hsv4 : v3.heap.size ≤ v4.heap.size := by first | exact hb.size | omega
  have HF := hid (hu.mono HBf)
  clear hu HBf
  clear kPB0 kPB1 kPB2 kPB3 kWB0 kWB1 kWB2
  have kPB0 : v4.cell? ⟨w.heap.size, 0, none⟩ = some (.int .i64 d) := (BoxAt.cell PB.out 0).trans rfl
  have kPB1 : v4.cell? ⟨w.heap.size, 1, none⟩ = some (.bool k) := (BoxAt.cell PB.out 1).trans rfl
  have kPB2 : v4.cell? ⟨w.heap.size, 2, none⟩ = some (.slice xa N xc) := (BoxAt.cell PB.out 2).trans rfl
  have kPB3 : v4.cell? ⟨w.heap.size, 3, none⟩ = some (.slice sa M sc) := (BoxAt.cell PB.out 3).trans rfl
  have kWB0 : v4.cell? ⟨v1.heap.size, 0, none⟩ = some (.int .i64 p) := (BoxAt.cell WB.out 0).trans rfl
  have kWB1 : v4.cell? ⟨v1.heap.size, 1, none⟩ = some (.int .i64 r) := (BoxAt.cell WB.out 1).trans rfl
  have kWB2 : v4.cell? ⟨v1.heap.size, 2, none⟩ = some (.int .i64 v) := (BoxAt.cell WB.out 2).trans rfl
  clear hb
  have HFB := hid (fun k hk => (HF.out.lt k hk).2)
  have FL4 := hid trivial
  have FL5 := hid trivial
  go_wp2_with (first
    | (have hfl := FL4.out
       refine wpList_new rfl 27 rfl _ Try.zeroWt ?_
       intro v5 b h z
       have FB := hid (show BoxAt v5 v4.heap.size 27 #[.int .i64 0, .int .i64 0, .int .i64 0] from b)
       have PB := hid (PB.out.belowAll h)
       have WB := hid (WB.out.belowAll h)
       have RB := hid (RB.out.belowAll h)
       have HF := hid (HF.out.below h)
       have HB := hid (HB.out.trans (h.mono HB.out.size))
       have hsv5 : v4.heap.size + 1 ≤ v5.heap.size := by first | exact h.size | omega
       clear kPB0 kPB1 kPB2 kPB3 kWB0 kWB1 kWB2
       have kPB0 : v5.cell? ⟨w.heap.size, 0, none⟩ = some (.int .i64 d) := (BoxAt.cell PB.out 0).trans rfl
       have kPB1 : v5.cell? ⟨w.heap.size, 1, none⟩ = some (.bool k) := (BoxAt.cell PB.out 1).trans rfl
       have kPB2 : v5.cell? ⟨w.heap.size, 2, none⟩ = some (.slice xa N xc) := (BoxAt.cell PB.out 2).trans rfl
       have kPB3 : v5.cell? ⟨w.heap.size, 3, none⟩ = some (.slice sa M sc) := (BoxAt.cell PB.out 3).trans rfl
       have kWB0 : v5.cell? ⟨v1.heap.size, 0, none⟩ = some (.int .i64 p) := (BoxAt.cell WB.out 0).trans rfl
       have kWB1 : v5.cell? ⟨v1.heap.size, 1, none⟩ = some (.int .i64 r) := (BoxAt.cell WB.out 1).trans rfl
       have kWB2 : v5.cell? ⟨v1.heap.size, 2, none⟩ = some (.int .i64 v) := (BoxAt.cell WB.out 2).trans rfl
       clear b h z hfl FL4)
    | (have hfl := FL5.out
       refine wpList_store_whole rfl 27 _ _ rfl rfl (v4.heap.size) rfl [.int .i64 fp, .int .i64 fr, .int .i64 fv] rfl _ _ FB.out rfl Try.infoWt (by simp [Value.oneCell']) ?_
       intro v6 b g z
       have hsv6 : v5.heap.size ≤ v6.heap.size := by omega
       have HF := hid (HF.out.apart g (fun k hk => Nat.ne_of_lt (HFB.out k hk)))
       have FB := hid (show BoxAt v6 (v4.heap.size) 27 #[.int .i64 fp, .int .i64 fr, .int .i64 fv] from b)
       have PB := hid (PB.out.grown g (fun e => by have := Option.some.inj e; omega))
       have WB := hid (WB.out.grown g (fun e => by have := Option.some.inj e; omega))
       have RB := hid (RB.out.grown g (fun e => by have := Option.some.inj e; omega))
       have HB := hid (HB.out.trans (grown_below g (by omega) (by omega)))
       clear kPB0 kPB1 kPB2 kPB3 kWB0 kWB1 kWB2
       have kPB0 : v6.cell? ⟨w.heap.size, 0, none⟩ = some (.int .i64 d) := (BoxAt.cell PB.out 0).trans rfl
       have kPB1 : v6.cell? ⟨w.heap.size, 1, none⟩ = some (.bool k) := (BoxAt.cell PB.out 1).trans rfl
       have kPB2 : v6.cell? ⟨w.heap.size, 2, none⟩ = some (.slice xa N xc) := (BoxAt.cell PB.out 2).trans rfl
       have kPB3 : v6.cell? ⟨w.heap.size, 3, none⟩ = some (.slice sa M sc) := (BoxAt.cell PB.out 3).trans rfl
       have kWB0 : v6.cell? ⟨v1.heap.size, 0, none⟩ = some (.int .i64 p) := (BoxAt.cell WB.out 0).trans rfl
       have kWB1 : v6.cell? ⟨v1.heap.size, 1, none⟩ = some (.int .i64 r) := (BoxAt.cell WB.out 1).trans rfl
       have kWB2 : v6.cell? ⟨v1.heap.size, 2, none⟩ = some (.int .i64 v) := (BoxAt.cell WB.out 2).trans rfl
       have kFB0 : v6.cell? ⟨v4.heap.size, 0, none⟩ = some (.int .i64 fp) := (BoxAt.cell FB.out 0).trans rfl
       have kFB2 : v6.cell? ⟨v4.heap.size, 2, none⟩ = some (.int .i64 fv) := (BoxAt.cell FB.out 2).trans rfl
       clear b g z hfl FL5
       refine Hid.out ?_)
    | fail)
  refine hid ?_
  clear kPB0 kPB1 kPB2 kPB3 kWB0 kWB1 kWB2 kFB0 kFB2
  have kPB0 : v6.cell? ⟨w.heap.size, 0, none⟩ = some (.int .i64 d) := (BoxAt.cell PB.out 0).trans rfl
  have kPB1 : v6.cell? ⟨w.heap.size, 1, none⟩ = some (.bool k) := (BoxAt.cell PB.out 1).trans rfl
  have kPB2 : v6.cell? ⟨w.heap.size, 2, none⟩ = some (.slice xa N xc) := (BoxAt.cell PB.out 2).trans rfl
  have kPB3 : v6.cell? ⟨w.heap.size, 3, none⟩ = some (.slice sa M sc) := (BoxAt.cell PB.out 3).trans rfl
  have kWB0 : v6.cell? ⟨v1.heap.size, 0, none⟩ = some (.int .i64 p) := (BoxAt.cell WB.out 0).trans rfl
  have kWB1 : v6.cell? ⟨v1.heap.size, 1, none⟩ = some (.int .i64 r) := (BoxAt.cell WB.out 1).trans rfl
  have kWB2 : v6.cell? ⟨v1.heap.size, 2, none⟩ = some (.int .i64 v) := (BoxAt.cell WB.out 2).trans rfl
  have kFB0 : v6.cell? ⟨v4.heap.size, 0, none⟩ = some (.int .i64 fp) := (BoxAt.cell FB.out 0).trans rfl
  have kFB2 : v6.cell? ⟨v4.heap.size, 2, none⟩ = some (.int .i64 fv) := (BoxAt.cell FB.out 2).trans rfl
  go_wp2_with fail
  clear kPB0 kPB1 kPB2 kPB3 kWB0 kWB1 kWB2 kFB0 kFB2
  have PB := hid (BoxAt.drew PB.out)
  have WB := hid (BoxAt.drew WB.out)
  have RB := hid (BoxAt.drew RB.out)
  have FB := hid (BoxAt.drew FB.out)
  have HF := hid (HF.out.below ((Below.refl v6.heap.size v6).drew))
  have HB := hid HB.out.drew
  have hsv7 : v6.heap.size ≤ v6.drew.heap.size := Nat.le_refl _
  refine wp_region_held_drew (S := (fun w' : World => BoxAt w' (v1.heap.size) 27 #[.int .i64 p, .int .i64 r, .int .i64 v])) (by kernel_rfl) (WB.out) (fun hHeld => ?_)
  generalize v6.drew = v7 at *
  refine wpAnyH_take (i := 0) (oi := { dst := some 43, op := Op.fieldAddr 25 (Operand.tmp 3) 2, type := 0, pos := "buffer.go:19", after := _, guard := none }) (v := ?_) rfl (by kernel_rfl) (by kernel_rfl) (by kernel_rfl) (fun _ _ _ h => h) (Or.inl ⟨by rfl, ?_⟩) (by assumption) ?_
  rotate_left
  · (intro w hSw; (try dsimp only at hSw); go_simp; try with_reducible rfl)
  simp only [Act.put, List.setIfInBounds_toArray, List.set_cons_zero, List.set_cons_succ]
  refine wpAnyH_take (i := 3) (oi := { dst := some 46, op := Op.fieldAddr 27 (Operand.tmp 4) 2, type := 0, pos := "buffer.go:19", after := _, guard := none }) (v := ?_) rfl (by kernel_rfl) (by kernel_rfl) (by kernel_rfl) (fun _ _ _ h => h) (Or.inl ⟨by rfl, ?_⟩) (by assumption) ?_
  rotate_left
  · (intro w hSw; (try dsimp only at hSw); go_simp; try with_reducible rfl)
  simp only [Act.put, List.setIfInBounds_toArray, List.set_cons_zero, List.set_cons_succ]
  refine wpAnyH_take (i := 4) (oi := { dst := some 47, op := Op.load 3 (Operand.tmp 46), type := 3, pos := "buffer.go:19", after := _, guard := none }) (v := ?_) rfl (by kernel_rfl) (by kernel_rfl) (by kernel_rfl) (fun _ _ _ h => h) (Or.inl ⟨by rfl, ?_⟩) (by assumption) ?_
  rotate_left
  · (intro W hSw; (try dsimp only at hSw); have x0 := hSw; have c0_0 : W.cell? ⟨v1.heap.size, 0, none⟩ = some (.int .i64 p) := (BoxAt.cell x0 0).trans rfl; have c0_1 : W.cell? ⟨v1.heap.size, 1, none⟩ = some (.int .i64 r) := (BoxAt.cell x0 1).trans rfl; have c0_2 : W.cell? ⟨v1.heap.size, 2, none⟩ = some (.int .i64 v) := (BoxAt.cell x0 2).trans rfl; clear x0; go_simp; try with_reducible rfl)
  simp only [Act.put, List.setIfInBounds_toArray, List.set_cons_zero, List.set_cons_succ]
  refine wpAnyH_take (i := 7) (oi := { dst := some 50, op := Op.fieldAddr 25 (Operand.tmp 3) 3, type := 0, pos := "buffer.go:19", after := _, guard := none }) (v := ?_) rfl (by kernel_rfl) (by kernel_rfl) (by kernel_rfl) (fun _ _ _ h => h) (Or.inl ⟨by rfl, ?_⟩) (by assumption) ?_
  rotate_left
  · (intro w hSw; (try dsimp only at hSw); go_simp; try with_reducible rfl)
  simp only [Act.put, List.setIfInBounds_toArray, List.set_cons_zero, List.set_cons_succ]
  refine wpAnyH_ready (rs := [1, 5, 8]) (by kernel_rfl) (by simp) (AllReadyH.cons (o := { dst := some 44, op := Op.load 22 (Operand.tmp 43), type := 22, pos := "buffer.go:19", after := _, guard := none }) rfl (fun K1005 hK1005 => ?b1005_1) (AllReadyH.cons (o := { dst := some 48, op := Op.buildSlice 22 1 #[(0, Operand.tmp 47)], type := 22, pos := "buffer.go:19", after := _, guard := none }) rfl (fun K1005 hK1005 => ?b1005_5) (AllReadyH.cons (o := { dst := some 51, op := Op.load 23 (Operand.tmp 50), type := 23, pos := "buffer.go:19", after := _, guard := none }) rfl (fun K1005 hK1005 => ?b1005_8) AllReadyH.nil)))
  case' b1005_1 =>
    have cG : v7.cell? ⟨w.heap.size, 2, none⟩ = some (.slice xa N xc) := (BoxAt.cell PB.out 2).trans rfl
    go_simp
    clear cG
    refine hK1005.out _ _ (WB.out) (fun hHeld1005 => ?_)
    clear hK1005 K1005
    try simp only [Act.put, List.setIfInBounds_toArray, List.set_cons_zero, List.set_cons_succ]
    refine wpAnyH_ready (rs := [2, 5, 8]) (by kernel_rfl) (by simp) (AllReadyH.cons (o := { dst := some 45, op := Op.call { callee := Callee.value (Operand.func 17), args := #[Operand.tmp 44, Operand.const (Value.int IntKind.i64 0)], argTypes := #[22, 3] }, type := 22, pos := "buffer.go:19", after := _, guard := none }) rfl (fun K1006 hK1006 => ?b1006_2) (AllReadyH.cons (o := { dst := some 48, op := Op.buildSlice 22 1 #[(0, Operand.tmp 47)], type := 22, pos := "buffer.go:19", after := _, guard := none }) rfl (fun K1006 hK1006 => ?b1006_5) (AllReadyH.cons (o := { dst := some 51, op := Op.load 23 (Operand.tmp 50), type := 23, pos := "buffer.go:19", after := _, guard := none }) rfl (fun K1006 hK1006 => ?b1006_8) AllReadyH.nil)))
    case' b1006_2 =>
      go_simp
      refine (from_left0 HX.out HN.out).mono ?_
      rintro e v8 ⟨ga, rfl, hu, hb⟩
      have PB := hid (PB.out.belowAll hb)
      have WB := hid (WB.out.belowAll hb)
      have RB := hid (RB.out.belowAll hb)
      have FB := hid (FB.out.belowAll hb)
      have HF := hid (HF.out.below hb)
      have HB := hid (HB.out.trans (hb.mono HB.out.size))
      have hsv8 : v7.heap.size ≤ v8.heap.size := by first | exact hb.size | omega
      have HG := hid hu
      clear hu
      clear hb
      refine hK1006.out _ _ (WB.out) (fun hHeld1006 => ?_)
      clear hK1006 K1006
      try simp only [Act.put, List.setIfInBounds_toArray, List.set_cons_zero, List.set_cons_succ]
      refine wpAnyH_ready (rs := [5, 8]) (by kernel_rfl) (by simp) (AllReadyH.cons (o := { dst := some 48, op := Op.buildSlice 22 1 #[(0, Operand.tmp 47)], type := 22, pos := "buffer.go:19", after := _, guard := none }) rfl (fun K1007 hK1007 => ?b1007_5) (AllReadyH.cons (o := { dst := some 51, op := Op.load 23 (Operand.tmp 50), type := 23, pos := "buffer.go:19", after := _, guard := none }) rfl (fun K1007 hK1007 => ?b1007_8) AllReadyH.nil))
      case' b1007_5 =>
        refine step_litI rfl (.tmp 47) rfl (v) rfl ?_
        intro v9 b h
        have LB := hid (show BoxAt v9 v8.heap.size 3 #[.int .i64 (v)] from b)
        have PB := hid (PB.out.belowAll h)
        have WB := hid (WB.out.belowAll h)
        have RB := hid (RB.out.belowAll h)
        have FB := hid (FB.out.belowAll h)
        have HF := hid (HF.out.below h)
        have HB := hid (HB.out.trans (h.mono HB.out.size))
        have hsv9 : v8.heap.size ≤ v9.heap.size := by first | exact h.size | omega
        clear b h
        refine hK1007.out _ _ (WB.out) (fun hHeld1007 => ?_)
        clear hK1007 K1007
        try simp only [Act.put, List.setIfInBounds_toArray, List.set_cons_zero, List.set_cons_succ]
        refine wpAnyH_ready (rs := [6, 8]) (by kernel_rfl) (by simp) (AllReadyH.cons (o := { dst := some 49, op := Op.call { callee := Callee.builtin Builtin.append, args := #[Operand.tmp 45, Operand.tmp 48], argTypes := #[22, 22] }, type := 22, pos := "buffer.go:19", after := _, guard := none }) rfl (fun K1008 hK1008 => ?b1008_6) (AllReadyH.cons (o := { dst := some 51, op := Op.load 23 (Operand.tmp 50), type := 23, pos := "buffer.go:19", after := _, guard := none }) rfl (fun K1008 hK1008 => ?b1008_8) AllReadyH.nil))
        case' b1008_6 =>
          have HBp := HB.out.size
          refine step_app_full rfl (.tmp 45) (.tmp 48) rfl _ _ rfl HN.out.symm (HG.out.below HB.out) _ (v) _ rfl LB.out (by have := HXL.out; omega) ?_
          intro uv10 v10 ho h
          obtain ⟨qv10, rfl, -⟩ := ho.sl
          have PB := hid (PB.out.belowAll h)
          have WB := hid (WB.out.belowAll h)
          have RB := hid (RB.out.belowAll h)
          have FB := hid (FB.out.belowAll h)
          have LB := hid (LB.out.belowAll h)
          have HF := hid (HF.out.below h)
          have HB := hid (HB.out.trans (h.mono HB.out.size))
          have hsv10 : v9.heap.size ≤ v10.heap.size := by first | exact h.size | omega
          have HC := hid ho
          clear ho h
          have HC := hid (HC.out.mono HBp)
          clear HBp HG
          refine hK1008.out _ _ (WB.out) (fun hHeld1008 => ?_)
          clear hK1008 K1008
          try simp only [Act.put, List.setIfInBounds_toArray, List.set_cons_zero, List.set_cons_succ]
          refine wpAnyH_ready (rs := [8]) (by kernel_rfl) (by simp) (AllReadyH.cons (o := { dst := some 51, op := Op.load 23 (Operand.tmp 50), type := 23, pos := "buffer.go:19", after := _, guard := none }) rfl (fun K1009 hK1009 => ?_) AllReadyH.nil)
          have cG : v10.cell? ⟨w.heap.size, 3, none⟩ = some (.slice sa M sc) := (BoxAt.cell PB.out 3).trans rfl
          go_simp
          clear cG
          refine hK1009.out _ _ (WB.out) (fun hHeld1009 => ?_)
          clear hK1009 K1009
          try simp only [Act.put, List.setIfInBounds_toArray, List.set_cons_zero, List.set_cons_succ]
          refine wpAnyH_take (i := 10) (oi := { dst := some 53, op := Op.fieldAddr 25 (Operand.tmp 3) 2, type := 0, pos := "buffer.go:19", after := _, guard := none }) (v := ?_) rfl (by kernel_rfl) (by kernel_rfl) (by kernel_rfl) (fun _ _ _ h => h) (Or.inl ⟨by rfl, ?_⟩) (by assumption) ?_
          rotate_left
          · (intro w hSw; (try dsimp only at hSw); go_simp; try with_reducible rfl)
          simp only [Act.put, List.setIfInBounds_toArray, List.set_cons_zero, List.set_cons_succ]
          refine wpAnyH_ready (rs := [9]) (by kernel_rfl) (by simp) (AllReadyH.cons (o := { dst := some 52, op := Op.call { callee := Callee.value (Operand.func 18), args := #[Operand.tmp 51], argTypes := #[23] }, type := 23, pos := "buffer.go:19", after := _, guard := none }) rfl (fun K1011 hK1011 => ?_) AllReadyH.nil)
          have HBc := HB.out.size
          go_simp
          refine (qclone_Wt (HV.out.below HB.out) (by have := HL.out; omega)).mono ?_
          rintro e v11 ⟨uu, rfl, hu, hb⟩
          have PB := hid (PB.out.belowAll hb)
          have WB := hid (WB.out.belowAll hb)
          have RB := hid (RB.out.belowAll hb)
          have FB := hid (FB.out.belowAll hb)
          have LB := hid (LB.out.belowAll hb)
          have HF := hid (HF.out.below hb)
          have HC := hid (HC.out.below hb)
          have HB := hid (HB.out.trans (hb.mono HB.out.size))
          have hsv11 : v10.heap.size ≤ v11.heap.size := by first | exact hb.size | omega
          obtain ⟨u, rfl, -⟩ := hu.sl
          have HU := hid (hu.mono HBc)
          clear hu HBc
          clear hb
          refine hK1011.out _ _ (WB.out) (fun hHeld1011 => ?_)
          clear hK1011 K1011
          try simp only [Act.put, List.setIfInBounds_toArray, List.set_cons_zero, List.set_cons_succ]
          refine wpAnyH_ready (rs := [11]) (by kernel_rfl) (by simp) (AllReadyH.cons (o := { dst := none, op := Op.store 22 (Operand.tmp 53) (Operand.tmp 49), type := 0, pos := "buffer.go:19", after := _, guard := none }) rfl (fun K1012 hK1012 => ?_) AllReadyH.nil)
          refine step_store_box rfl 22 _ _ rfl (w.heap.size) 2 (.slice qv10.a qv10.n qv10.c) rfl rfl rfl rfl (by kernel_rfl) _ _ PB.out (by simp) ?_
          intro v12 b g z
          have hsv12 : v11.heap.size ≤ v12.heap.size := by omega
          have HF := hid (HF.out.put g PB.out (by decide))
          have HC := hid (HC.out.put g PB.out (by decide))
          have HU := hid (HU.out.put g PB.out (by decide))
          have PB := hid (show BoxAt v12 (w.heap.size) 25 #[.int .i64 d, .bool k, .slice qv10.a qv10.n qv10.c, .slice sa M sc] from by simpa using b)
          have WB := hid (WB.out.grown g (fun e => by have := Option.some.inj e; omega))
          have RB := hid (RB.out.grown g (fun e => by have := Option.some.inj e; omega))
          have FB := hid (FB.out.grown g (fun e => by have := Option.some.inj e; omega))
          have LB := hid (LB.out.grown g (fun e => by have := Option.some.inj e; omega))
          have HB := hid (HB.out.trans (grown_below g (by omega) (by omega)))
          clear b g z
          refine hK1012.out _ _ (WB.out) (fun hHeld1012 => ?_)
          clear hK1012 K1012
          try simp only [Act.put]
          refine wpAnyH_take (i := 12) (oi := { dst := some 54, op := Op.fieldAddr 25 (Operand.tmp 3) 3, type := 0, pos := "buffer.go:19", after := _, guard := none }) (v := ?_) rfl (by kernel_rfl) (by kernel_rfl) (by kernel_rfl) (fun _ _ _ h => h) (Or.inl ⟨by rfl, ?_⟩) (by assumption) ?_
          rotate_left
          · (intro w hSw; (try dsimp only at hSw); go_simp; try with_reducible rfl)
          simp only [Act.put, List.setIfInBounds_toArray, List.set_cons_zero, List.set_cons_succ]
          refine wpAnyH_ready (rs := [13]) (by kernel_rfl) (by simp) (AllReadyH.cons (o := { dst := none, op := Op.store 23 (Operand.tmp 54) (Operand.tmp 52), type := 0, pos := "buffer.go:19", after := _, guard := none }) rfl (fun K1014 hK1014 => ?_) AllReadyH.nil)
          refine step_store_box rfl 23 _ _ rfl (w.heap.size) 3 (.slice u.a u.n u.c) rfl rfl rfl rfl (by kernel_rfl) _ _ PB.out (by simp) ?_
          intro v13 b g z
          have hsv13 : v12.heap.size ≤ v13.heap.size := by omega
          have HF := hid (HF.out.put g PB.out (by decide))
          have HC := hid (HC.out.put g PB.out (by decide))
          have HU := hid (HU.out.put g PB.out (by decide))
          have PB := hid (show BoxAt v13 (w.heap.size) 25 #[.int .i64 d, .bool k, .slice qv10.a qv10.n qv10.c, .slice u.a u.n u.c] from by simpa using b)
          have WB := hid (WB.out.grown g (fun e => by have := Option.some.inj e; omega))
          have RB := hid (RB.out.grown g (fun e => by have := Option.some.inj e; omega))
          have FB := hid (FB.out.grown g (fun e => by have := Option.some.inj e; omega))
          have LB := hid (LB.out.grown g (fun e => by have := Option.some.inj e; omega))
          have HB := hid (HB.out.trans (grown_below g (by omega) (by omega)))
          clear b g z
          refine hK1014.out _ _ (WB.out) (fun hHeld1014 => ?_)
          clear hK1014 K1014
          try simp only [Act.put]
          refine wpAnyH_done (by kernel_rfl) ?_ _
          clear hHeld hHeld1005 hHeld1006 hHeld1007 hHeld1008 hHeld1009 hHeld1011 hHeld1012 hHeld1014
          have kPB0 : v13.cell? ⟨w.heap.size, 0, none⟩ = some (.int .i64 d) := (BoxAt.cell PB.out 0).trans rfl
          have kPB1 : v13.cell? ⟨w.heap.size, 1, none⟩ = some (.bool k) := (BoxAt.cell PB.out 1).trans rfl
          have kPB2 : v13.cell? ⟨w.heap.size, 2, none⟩ = some (.slice qv10.a qv10.n qv10.c) := (BoxAt.cell PB.out 2).trans rfl
          have kPB3 : v13.cell? ⟨w.heap.size, 3, none⟩ = some (.slice u.a u.n u.c) := (BoxAt.cell PB.out 3).trans rfl
          have kWB0 : v13.cell? ⟨v1.heap.size, 0, none⟩ = some (.int .i64 p) := (BoxAt.cell WB.out 0).trans rfl
          have kWB1 : v13.cell? ⟨v1.heap.size, 1, none⟩ = some (.int .i64 r) := (BoxAt.cell WB.out 1).trans rfl
          have kWB2 : v13.cell? ⟨v1.heap.size, 2, none⟩ = some (.int .i64 v) := (BoxAt.cell WB.out 2).trans rfl
          have kFB0 : v13.cell? ⟨v4.heap.size, 0, none⟩ = some (.int .i64 fp) := (BoxAt.cell FB.out 0).trans rfl
          have kFB2 : v13.cell? ⟨v4.heap.size, 2, none⟩ = some (.int .i64 fv) := (BoxAt.cell FB.out 2).trans rfl
          have FL6 := hid trivial
          go_wp2_with (first
            | (refine wpList_load_box rfl 25 _ rfl (w.heap.size) rfl _ _ PB.out _ Try.underlying25 Try.infoBf ?_)
            | (have hfl := FL6.out
               refine wpList_store_whole rfl 25 _ _ rfl rfl (v2.heap.size) rfl [.int .i64 d, .bool k, .slice qv10.a qv10.n qv10.c, .slice u.a u.n u.c] rfl _ _ RB.out rfl Try.infoBf (by simp [Value.oneCell']) ?_
               intro v14 b g z
               have hsv14 : v13.heap.size ≤ v14.heap.size := by omega
               have HF := hid (HF.out.put g RB.out (by decide))
               have HC := hid (HC.out.put g RB.out (by decide))
               have HU := hid (HU.out.put g RB.out (by decide))
               have RB := hid (show BoxAt v14 (v2.heap.size) 25 #[.int .i64 d, .bool k, .slice qv10.a qv10.n qv10.c, .slice u.a u.n u.c] from b)
               have PB := hid (PB.out.grown g (fun e => by have := Option.some.inj e; omega))
               have WB := hid (WB.out.grown g (fun e => by have := Option.some.inj e; omega))
               have FB := hid (FB.out.grown g (fun e => by have := Option.some.inj e; omega))
               have LB := hid (LB.out.grown g (fun e => by have := Option.some.inj e; omega))
               have HB := hid (HB.out.trans (grown_below g (by omega) (by omega)))
               clear kPB0 kPB1 kPB2 kPB3 kWB0 kWB1 kWB2 kFB0 kFB2
               have kPB0 : v14.cell? ⟨w.heap.size, 0, none⟩ = some (.int .i64 d) := (BoxAt.cell PB.out 0).trans rfl
               have kPB1 : v14.cell? ⟨w.heap.size, 1, none⟩ = some (.bool k) := (BoxAt.cell PB.out 1).trans rfl
               have kPB2 : v14.cell? ⟨w.heap.size, 2, none⟩ = some (.slice qv10.a qv10.n qv10.c) := (BoxAt.cell PB.out 2).trans rfl
               have kPB3 : v14.cell? ⟨w.heap.size, 3, none⟩ = some (.slice u.a u.n u.c) := (BoxAt.cell PB.out 3).trans rfl
               have kWB0 : v14.cell? ⟨v1.heap.size, 0, none⟩ = some (.int .i64 p) := (BoxAt.cell WB.out 0).trans rfl
               have kWB1 : v14.cell? ⟨v1.heap.size, 1, none⟩ = some (.int .i64 r) := (BoxAt.cell WB.out 1).trans rfl
               have kWB2 : v14.cell? ⟨v1.heap.size, 2, none⟩ = some (.int .i64 v) := (BoxAt.cell WB.out 2).trans rfl
               have kFB0 : v14.cell? ⟨v4.heap.size, 0, none⟩ = some (.int .i64 fp) := (BoxAt.cell FB.out 0).trans rfl
               have kFB2 : v14.cell? ⟨v4.heap.size, 2, none⟩ = some (.int .i64 fv) := (BoxAt.cell FB.out 2).trans rfl
               clear b g z hfl FL6)
            | fail)
          refine bodyPost_ret (results_box_tmp2 rfl _ _ (v2.heap.size) 25 _ (0, 0) _ rfl RB.out Try.underlying25 rfl Try.infoBf) rfl ?_
          exact ⟨qv10, u, ⟨none, 0, 0⟩, rfl, HC.out, HU.out, OWk.nil _ _, HB.out⟩
        case' b1008_8 =>
          have cG : v9.cell? ⟨w.heap.size, 3, none⟩ = some (.slice sa M sc) := (BoxAt.cell PB.out 3).trans rfl
          go_simp
          clear cG
          refine hK1008.out _ _ (WB.out) (fun hHeld1008 => ?_)
          clear hK1008 K1008
          try simp only [Act.put, List.setIfInBounds_toArray, List.set_cons_zero, List.set_cons_succ]
          refine wpAnyH_ready (rs := [6]) (by kernel_rfl) (by simp) (AllReadyH.cons (o := { dst := some 49, op := Op.call { callee := Callee.builtin Builtin.append, args := #[Operand.tmp 45, Operand.tmp 48], argTypes := #[22, 22] }, type := 22, pos := "buffer.go:19", after := _, guard := none }) rfl (fun K1015 hK1015 => ?_) AllReadyH.nil)
          have HBp := HB.out.size
          refine step_app_full rfl (.tmp 45) (.tmp 48) rfl _ _ rfl HN.out.symm (HG.out.below HB.out) _ (v) _ rfl LB.out (by have := HXL.out; omega) ?_
          intro uv10 v10 ho h
          obtain ⟨qv10, rfl, -⟩ := ho.sl
          have PB := hid (PB.out.belowAll h)
          have WB := hid (WB.out.belowAll h)
          have RB := hid (RB.out.belowAll h)
          have FB := hid (FB.out.belowAll h)
          have LB := hid (LB.out.belowAll h)
          have HF := hid (HF.out.below h)
          have HB := hid (HB.out.trans (h.mono HB.out.size))
          have hsv10 : v9.heap.size ≤ v10.heap.size := by first | exact h.size | omega
          have HC := hid ho
          clear ho h
          have HC := hid (HC.out.mono HBp)
          clear HBp HG
          refine hK1015.out _ _ (WB.out) (fun hHeld1015 => ?_)
          clear hK1015 K1015
          try simp only [Act.put, List.setIfInBounds_toArray, List.set_cons_zero, List.set_cons_succ]
          refine wpAnyH_take (i := 10) (oi := { dst := some 53, op := Op.fieldAddr 25 (Operand.tmp 3) 2, type := 0, pos := "buffer.go:19", after := _, guard := none }) (v := ?_) rfl (by kernel_rfl) (by kernel_rfl) (by kernel_rfl) (fun _ _ _ h => h) (Or.inl ⟨by rfl, ?_⟩) (by assumption) ?_
          rotate_left
          · (intro w hSw; (try dsimp only at hSw); go_simp; try with_reducible rfl)
          simp only [Act.put, List.setIfInBounds_toArray, List.set_cons_zero, List.set_cons_succ]
          refine wpAnyH_ready (rs := [9]) (by kernel_rfl) (by simp) (AllReadyH.cons (o := { dst := some 52, op := Op.call { callee := Callee.value (Operand.func 18), args := #[Operand.tmp 51], argTypes := #[23] }, type := 23, pos := "buffer.go:19", after := _, guard := none }) rfl (fun K1017 hK1017 => ?_) AllReadyH.nil)
          have HBc := HB.out.size
          go_simp
          refine (qclone_Wt (HV.out.below HB.out) (by have := HL.out; omega)).mono ?_
          rintro e v11 ⟨uu, rfl, hu, hb⟩
          have PB := hid (PB.out.belowAll hb)
          have WB := hid (WB.out.belowAll hb)
          have RB := hid (RB.out.belowAll hb)
          have FB := hid (FB.out.belowAll hb)
          have LB := hid (LB.out.belowAll hb)
          have HF := hid (HF.out.below hb)
          have HC := hid (HC.out.below hb)
          have HB := hid (HB.out.trans (hb.mono HB.out.size))
          have hsv11 : v10.heap.size ≤ v11.heap.size := by first | exact hb.size | omega
          obtain ⟨u, rfl, -⟩ := hu.sl
          have HU := hid (hu.mono HBc)
          clear hu HBc
          clear hb
          refine hK1017.out _ _ (WB.out) (fun hHeld1017 => ?_)
          clear hK1017 K1017
          try simp only [Act.put, List.setIfInBounds_toArray, List.set_cons_zero, List.set_cons_succ]
          refine wpAnyH_ready (rs := [11]) (by kernel_rfl) (by simp) (AllReadyH.cons (o := { dst := none, op := Op.store 22 (Operand.tmp 53) (Operand.tmp 49), type := 0, pos := "buffer.go:19", after := _, guard := none }) rfl (fun K1018 hK1018 => ?_) AllReadyH.nil)
          refine step_store_box rfl 22 _ _ rfl (w.heap.size) 2 (.slice qv10.a qv10.n qv10.c) rfl rfl rfl rfl (by kernel_rfl) _ _ PB.out (by simp) ?_
          intro v12 b g z
          have hsv12 : v11.heap.size ≤ v12.heap.size := by omega
          have HF := hid (HF.out.put g PB.out (by decide))
          have HC := hid (HC.out.put g PB.out (by decide))
          have HU := hid (HU.out.put g PB.out (by decide))
          have PB := hid (show BoxAt v12 (w.heap.size) 25 #[.int .i64 d, .bool k, .slice qv10.a qv10.n qv10.c, .slice sa M sc] from by simpa using b)
          have WB := hid (WB.out.grown g (fun e => by have := Option.some.inj e; omega))
          have RB := hid (RB.out.grown g (fun e => by have := Option.some.inj e; omega))
          have FB := hid (FB.out.grown g (fun e => by have := Option.some.inj e; omega))
          have LB := hid (LB.out.grown g (fun e => by have := Option.some.inj e; omega))
          have HB := hid (HB.out.trans (grown_below g (by omega) (by omega)))
          clear b g z
          refine hK1018.out _ _ (WB.out) (fun hHeld1018 => ?_)
          clear hK1018 K1018
          try simp only [Act.put]
          refine wpAnyH_take (i := 12) (oi := { dst := some 54, op := Op.fieldAddr 25 (Operand.tmp 3) 3, type := 0, pos := "buffer.go:19", after := _, guard := none }) (v := ?_) rfl (by kernel_rfl) (by kernel_rfl) (by kernel_rfl) (fun _ _ _ h => h) (Or.inl ⟨by rfl, ?_⟩) (by assumption) ?_
          rotate_left
          · (intro w hSw; (try dsimp only at hSw); go_simp; try with_reducible rfl)
          simp only [Act.put, List.setIfInBounds_toArray, List.set_cons_zero, List.set_cons_succ]
          refine wpAnyH_ready (rs := [13]) (by kernel_rfl) (by simp) (AllReadyH.cons (o := { dst := none, op := Op.store 23 (Operand.tmp 54) (Operand.tmp 52), type := 0, pos := "buffer.go:19", after := _, guard := none }) rfl (fun K1020 hK1020 => ?_) AllReadyH.nil)
          refine step_store_box rfl 23 _ _ rfl (w.heap.size) 3 (.slice u.a u.n u.c) rfl rfl rfl rfl (by kernel_rfl) _ _ PB.out (by simp) ?_
          intro v13 b g z
          have hsv13 : v12.heap.size ≤ v13.heap.size := by omega
          have HF := hid (HF.out.put g PB.out (by decide))
          have HC := hid (HC.out.put g PB.out (by decide))
          have HU := hid (HU.out.put g PB.out (by decide))
          have PB := hid (show BoxAt v13 (w.heap.size) 25 #[.int .i64 d, .bool k, .slice qv10.a qv10.n qv10.c, .slice u.a u.n u.c] from by simpa using b)
          have WB := hid (WB.out.grown g (fun e => by have := Option.some.inj e; omega))
          have RB := hid (RB.out.grown g (fun e => by have := Option.some.inj e; omega))
          have FB := hid (FB.out.grown g (fun e => by have := Option.some.inj e; omega))
          have LB := hid (LB.out.grown g (fun e => by have := Option.some.inj e; omega))
          have HB := hid (HB.out.trans (grown_below g (by omega) (by omega)))
          clear b g z
          refine hK1020.out _ _ (WB.out) (fun hHeld1020 => ?_)
          clear hK1020 K1020
          try simp only [Act.put]
          refine wpAnyH_done (by kernel_rfl) ?_ _
          clear hHeld hHeld1005 hHeld1006 hHeld1007 hHeld1008 hHeld1015 hHeld1017 hHeld1018 hHeld1020
          have kPB0 : v13.cell? ⟨w.heap.size, 0, none⟩ = some (.int .i64 d) := (BoxAt.cell PB.out 0).trans rfl
          have kPB1 : v13.cell? ⟨w.heap.size, 1, none⟩ = some (.bool k) := (BoxAt.cell PB.out 1).trans rfl
          have kPB2 : v13.cell? ⟨w.heap.size, 2, none⟩ = some (.slice qv10.a qv10.n qv10.c) := (BoxAt.cell PB.out 2).trans rfl
          have kPB3 : v13.cell? ⟨w.heap.size, 3, none⟩ = some (.slice u.a u.n u.c) := (BoxAt.cell PB.out 3).trans rfl
          have kWB0 : v13.cell? ⟨v1.heap.size, 0, none⟩ = some (.int .i64 p) := (BoxAt.cell WB.out 0).trans rfl
          have kWB1 : v13.cell? ⟨v1.heap.size, 1, none⟩ = some (.int .i64 r) := (BoxAt.cell WB.out 1).trans rfl
          have kWB2 : v13.cell? ⟨v1.heap.size, 2, none⟩ = some (.int .i64 v) := (BoxAt.cell WB.out 2).trans rfl
          have kFB0 : v13.cell? ⟨v4.heap.size, 0, none⟩ = some (.int .i64 fp) := (BoxAt.cell FB.out 0).trans rfl
          have kFB2 : v13.cell? ⟨v4.heap.size, 2, none⟩ = some (.int .i64 fv) := (BoxAt.cell FB.out 2).trans rfl
          have FL6 := hid trivial
          go_wp2_with (first
            | (refine wpList_load_box rfl 25 _ rfl (w.heap.size) rfl _ _ PB.out _ Try.underlying25 Try.infoBf ?_)
            | (have hfl := FL6.out
               refine wpList_store_whole rfl 25 _ _ rfl rfl (v2.heap.size) rfl [.int .i64 d, .bool k, .slice qv10.a qv10.n qv10.c, .slice u.a u.n u.c] rfl _ _ RB.out rfl Try.infoBf (by simp [Value.oneCell']) ?_
               intro v14 b g z
               have hsv14 : v13.heap.size ≤ v14.heap.size := by omega
               have HF := hid (HF.out.put g RB.out (by decide))
               have HC := hid (HC.out.put g RB.out (by decide))
               have HU := hid (HU.out.put g RB.out (by decide))
               have RB := hid (show BoxAt v14 (v2.heap.size) 25 #[.int .i64 d, .bool k, .slice qv10.a qv10.n qv10.c, .slice u.a u.n u.c] from b)
               have PB := hid (PB.out.grown g (fun e => by have := Option.some.inj e; omega))
               have WB := hid (WB.out.grown g (fun e => by have := Option.some.inj e; omega))
               have FB := hid (FB.out.grown g (fun e => by have := Option.some.inj e; omega))
               have LB := hid (LB.out.grown g (fun e => by have := Option.some.inj e; omega))
               have HB := hid (HB.out.trans (grown_below g (by omega) (by omega)))
               clear kPB0 kPB1 kPB2 kPB3 kWB0 kWB1 kWB2 kFB0 kFB2
               have kPB0 : v14.cell? ⟨w.heap.size, 0, none⟩ = some (.int .i64 d) := (BoxAt.cell PB.out 0).trans rfl
               have kPB1 : v14.cell? ⟨w.heap.size, 1, none⟩ = some (.bool k) := (BoxAt.cell PB.out 1).trans rfl
               have kPB2 : v14.cell? ⟨w.heap.size, 2, none⟩ = some (.slice qv10.a qv10.n qv10.c) := (BoxAt.cell PB.out 2).trans rfl
               have kPB3 : v14.cell? ⟨w.heap.size, 3, none⟩ = some (.slice u.a u.n u.c) := (BoxAt.cell PB.out 3).trans rfl
               have kWB0 : v14.cell? ⟨v1.heap.size, 0, none⟩ = some (.int .i64 p) := (BoxAt.cell WB.out 0).trans rfl
               have kWB1 : v14.cell? ⟨v1.heap.size, 1, none⟩ = some (.int .i64 r) := (BoxAt.cell WB.out 1).trans rfl
               have kWB2 : v14.cell? ⟨v1.heap.size, 2, none⟩ = some (.int .i64 v) := (BoxAt.cell WB.out 2).trans rfl
               have kFB0 : v14.cell? ⟨v4.heap.size, 0, none⟩ = some (.int .i64 fp) := (BoxAt.cell FB.out 0).trans rfl
               have kFB2 : v14.cell? ⟨v4.heap.size, 2, none⟩ = some (.int .i64 fv) := (BoxAt.cell FB.out 2).trans rfl
               clear b g z hfl FL6)
            | fail)
          refine bodyPost_ret (results_box_tmp2 rfl _ _ (v2.heap.size) 25 _ (0, 0) _ rfl RB.out Try.underlying25 rfl Try.infoBf) rfl ?_
          exact ⟨qv10, u, ⟨none, 0, 0⟩, rfl, HC.out, HU.out, OWk.nil _ _, HB.out⟩
      case' b1007_8 =>
        have cG : v8.cell? ⟨w.heap.size, 3, none⟩ = some (.slice sa M sc) := (BoxAt.cell PB.out 3).trans rfl
        go_simp
        clear cG
        refine hK1007.out _ _ (WB.out) (fun hHeld1007 => ?_)
        clear hK1007 K1007
        try simp only [Act.put, List.setIfInBounds_toArray, List.set_cons_zero, List.set_cons_succ]
        refine wpAnyH_ready (rs := [5]) (by kernel_rfl) (by simp) (AllReadyH.cons (o := { dst := some 48, op := Op.buildSlice 22 1 #[(0, Operand.tmp 47)], type := 22, pos := "buffer.go:19", after := _, guard := none }) rfl (fun K1021 hK1021 => ?_) AllReadyH.nil)
        refine step_litI rfl (.tmp 47) rfl (v) rfl ?_
        intro v9 b h
        have LB := hid (show BoxAt v9 v8.heap.size 3 #[.int .i64 (v)] from b)
        have PB := hid (PB.out.belowAll h)
        have WB := hid (WB.out.belowAll h)
        have RB := hid (RB.out.belowAll h)
        have FB := hid (FB.out.belowAll h)
        have HF := hid (HF.out.below h)
        have HB := hid (HB.out.trans (h.mono HB.out.size))
        have hsv9 : v8.heap.size ≤ v9.heap.size := by first | exact h.size | omega
        clear b h
        refine hK1021.out _ _ (WB.out) (fun hHeld1021 => ?_)
        clear hK1021 K1021
        try simp only [Act.put, List.setIfInBounds_toArray, List.set_cons_zero, List.set_cons_succ]
        refine wpAnyH_ready (rs := [6]) (by kernel_rfl) (by simp) (AllReadyH.cons (o := { dst := some 49, op := Op.call { callee := Callee.builtin Builtin.append, args := #[Operand.tmp 45, Operand.tmp 48], argTypes := #[22, 22] }, type := 22, pos := "buffer.go:19", after := _, guard := none }) rfl (fun K1022 hK1022 => ?_) AllReadyH.nil)
        have HBp := HB.out.size
        refine step_app_full rfl (.tmp 45) (.tmp 48) rfl _ _ rfl HN.out.symm (HG.out.below HB.out) _ (v) _ rfl LB.out (by have := HXL.out; omega) ?_
        intro uv10 v10 ho h
        obtain ⟨qv10, rfl, -⟩ := ho.sl
        have PB := hid (PB.out.belowAll h)
        have WB := hid (WB.out.belowAll h)
        have RB := hid (RB.out.belowAll h)
        have FB := hid (FB.out.belowAll h)
        have LB := hid (LB.out.belowAll h)
        have HF := hid (HF.out.below h)
        have HB := hid (HB.out.trans (h.mono HB.out.size))
        have hsv10 : v9.heap.size ≤ v10.heap.size := by first | exact h.size | omega
        have HC := hid ho
        clear ho h
        have HC := hid (HC.out.mono HBp)
        clear HBp HG
        refine hK1022.out _ _ (WB.out) (fun hHeld1022 => ?_)
        clear hK1022 K1022
        try simp only [Act.put, List.setIfInBounds_toArray, List.set_cons_zero, List.set_cons_succ]
        refine wpAnyH_take (i := 10) (oi := { dst := some 53, op := Op.fieldAddr 25 (Operand.tmp 3) 2, type := 0, pos := "buffer.go:19", after := _, guard := none }) (v := ?_) rfl (by kernel_rfl) (by kernel_rfl) (by kernel_rfl) (fun _ _ _ h => h) (Or.inl ⟨by rfl, ?_⟩) (by assumption) ?_
        rotate_left
        · (intro w hSw; (try dsimp only at hSw); go_simp; try with_reducible rfl)
        simp only [Act.put, List.setIfInBounds_toArray, List.set_cons_zero, List.set_cons_succ]
        refine wpAnyH_ready (rs := [9]) (by kernel_rfl) (by simp) (AllReadyH.cons (o := { dst := some 52, op := Op.call { callee := Callee.value (Operand.func 18), args := #[Operand.tmp 51], argTypes := #[23] }, type := 23, pos := "buffer.go:19", after := _, guard := none }) rfl (fun K1024 hK1024 => ?_) AllReadyH.nil)
        have HBc := HB.out.size
        go_simp
        refine (qclone_Wt (HV.out.below HB.out) (by have := HL.out; omega)).mono ?_
        rintro e v11 ⟨uu, rfl, hu, hb⟩
        have PB := hid (PB.out.belowAll hb)
        have WB := hid (WB.out.belowAll hb)
        have RB := hid (RB.out.belowAll hb)
        have FB := hid (FB.out.belowAll hb)
        have LB := hid (LB.out.belowAll hb)
        have HF := hid (HF.out.below hb)
        have HC := hid (HC.out.below hb)
        have HB := hid (HB.out.trans (hb.mono HB.out.size))
        have hsv11 : v10.heap.size ≤ v11.heap.size := by first | exact hb.size | omega
        obtain ⟨u, rfl, -⟩ := hu.sl
        have HU := hid (hu.mono HBc)
        clear hu HBc
        clear hb
        refine hK1024.out _ _ (WB.out) (fun hHeld1024 => ?_)
        clear hK1024 K1024
        try simp only [Act.put, List.setIfInBounds_toArray, List.set_cons_zero, List.set_cons_succ]
        refine wpAnyH_ready (rs := [11]) (by kernel_rfl) (by simp) (AllReadyH.cons (o := { dst := none, op := Op.store 22 (Operand.tmp 53) (Operand.tmp 49), type := 0, pos := "buffer.go:19", after := _, guard := none }) rfl (fun K1025 hK1025 => ?_) AllReadyH.nil)
        refine step_store_box rfl 22 _ _ rfl (w.heap.size) 2 (.slice qv10.a qv10.n qv10.c) rfl rfl rfl rfl (by kernel_rfl) _ _ PB.out (by simp) ?_
        intro v12 b g z
        have hsv12 : v11.heap.size ≤ v12.heap.size := by omega
        have HF := hid (HF.out.put g PB.out (by decide))
        have HC := hid (HC.out.put g PB.out (by decide))
        have HU := hid (HU.out.put g PB.out (by decide))
        have PB := hid (show BoxAt v12 (w.heap.size) 25 #[.int .i64 d, .bool k, .slice qv10.a qv10.n qv10.c, .slice sa M sc] from by simpa using b)
        have WB := hid (WB.out.grown g (fun e => by have := Option.some.inj e; omega))
        have RB := hid (RB.out.grown g (fun e => by have := Option.some.inj e; omega))
        have FB := hid (FB.out.grown g (fun e => by have := Option.some.inj e; omega))
        have LB := hid (LB.out.grown g (fun e => by have := Option.some.inj e; omega))
        have HB := hid (HB.out.trans (grown_below g (by omega) (by omega)))
        clear b g z
        refine hK1025.out _ _ (WB.out) (fun hHeld1025 => ?_)
        clear hK1025 K1025
        try simp only [Act.put]
        refine wpAnyH_take (i := 12) (oi := { dst := some 54, op := Op.fieldAddr 25 (Operand.tmp 3) 3, type := 0, pos := "buffer.go:19", after := _, guard := none }) (v := ?_) rfl (by kernel_rfl) (by kernel_rfl) (by kernel_rfl) (fun _ _ _ h => h) (Or.inl ⟨by rfl, ?_⟩) (by assumption) ?_
        rotate_left
        · (intro w hSw; (try dsimp only at hSw); go_simp; try with_reducible rfl)
        simp only [Act.put, List.setIfInBounds_toArray, List.set_cons_zero, List.set_cons_succ]
        refine wpAnyH_ready (rs := [13]) (by kernel_rfl) (by simp) (AllReadyH.cons (o := { dst := none, op := Op.store 23 (Operand.tmp 54) (Operand.tmp 52), type := 0, pos := "buffer.go:19", after := _, guard := none }) rfl (fun K1027 hK1027 => ?_) AllReadyH.nil)
        refine step_store_box rfl 23 _ _ rfl (w.heap.size) 3 (.slice u.a u.n u.c) rfl rfl rfl rfl (by kernel_rfl) _ _ PB.out (by simp) ?_
        intro v13 b g z
        have hsv13 : v12.heap.size ≤ v13.heap.size := by omega
        have HF := hid (HF.out.put g PB.out (by decide))
        have HC := hid (HC.out.put g PB.out (by decide))
        have HU := hid (HU.out.put g PB.out (by decide))
        have PB := hid (show BoxAt v13 (w.heap.size) 25 #[.int .i64 d, .bool k, .slice qv10.a qv10.n qv10.c, .slice u.a u.n u.c] from by simpa using b)
        have WB := hid (WB.out.grown g (fun e => by have := Option.some.inj e; omega))
        have RB := hid (RB.out.grown g (fun e => by have := Option.some.inj e; omega))
        have FB := hid (FB.out.grown g (fun e => by have := Option.some.inj e; omega))
        have LB := hid (LB.out.grown g (fun e => by have := Option.some.inj e; omega))
        have HB := hid (HB.out.trans (grown_below g (by omega) (by omega)))
        clear b g z
        refine hK1027.out _ _ (WB.out) (fun hHeld1027 => ?_)
        clear hK1027 K1027
        try simp only [Act.put]
        refine wpAnyH_done (by kernel_rfl) ?_ _
        clear hHeld hHeld1005 hHeld1006 hHeld1007 hHeld1021 hHeld1022 hHeld1024 hHeld1025 hHeld1027
        have kPB0 : v13.cell? ⟨w.heap.size, 0, none⟩ = some (.int .i64 d) := (BoxAt.cell PB.out 0).trans rfl
        have kPB1 : v13.cell? ⟨w.heap.size, 1, none⟩ = some (.bool k) := (BoxAt.cell PB.out 1).trans rfl
        have kPB2 : v13.cell? ⟨w.heap.size, 2, none⟩ = some (.slice qv10.a qv10.n qv10.c) := (BoxAt.cell PB.out 2).trans rfl
        have kPB3 : v13.cell? ⟨w.heap.size, 3, none⟩ = some (.slice u.a u.n u.c) := (BoxAt.cell PB.out 3).trans rfl
        have kWB0 : v13.cell? ⟨v1.heap.size, 0, none⟩ = some (.int .i64 p) := (BoxAt.cell WB.out 0).trans rfl
        have kWB1 : v13.cell? ⟨v1.heap.size, 1, none⟩ = some (.int .i64 r) := (BoxAt.cell WB.out 1).trans rfl
        have kWB2 : v13.cell? ⟨v1.heap.size, 2, none⟩ = some (.int .i64 v) := (BoxAt.cell WB.out 2).trans rfl
        have kFB0 : v13.cell? ⟨v4.heap.size, 0, none⟩ = some (.int .i64 fp) := (BoxAt.cell FB.out 0).trans rfl
        have kFB2 : v13.cell? ⟨v4.heap.size, 2, none⟩ = some (.int .i64 fv) := (BoxAt.cell FB.out 2).trans rfl
        have FL6 := hid trivial
        go_wp2_with (first
          | (refine wpList_load_box rfl 25 _ rfl (w.heap.size) rfl _ _ PB.out _ Try.underlying25 Try.infoBf ?_)
          | (have hfl := FL6.out
             refine wpList_store_whole rfl 25 _ _ rfl rfl (v2.heap.size) rfl [.int .i64 d, .bool k, .slice qv10.a qv10.n qv10.c, .slice u.a u.n u.c] rfl _ _ RB.out rfl Try.infoBf (by simp [Value.oneCell']) ?_
             intro v14 b g z
             have hsv14 : v13.heap.size ≤ v14.heap.size := by omega
             have HF := hid (HF.out.put g RB.out (by decide))
             have HC := hid (HC.out.put g RB.out (by decide))
             have HU := hid (HU.out.put g RB.out (by decide))
             have RB := hid (show BoxAt v14 (v2.heap.size) 25 #[.int .i64 d, .bool k, .slice qv10.a qv10.n qv10.c, .slice u.a u.n u.c] from b)
             have PB := hid (PB.out.grown g (fun e => by have := Option.some.inj e; omega))
             have WB := hid (WB.out.grown g (fun e => by have := Option.some.inj e; omega))
             have FB := hid (FB.out.grown g (fun e => by have := Option.some.inj e; omega))
             have LB := hid (LB.out.grown g (fun e => by have := Option.some.inj e; omega))
             have HB := hid (HB.out.trans (grown_below g (by omega) (by omega)))
             clear kPB0 kPB1 kPB2 kPB3 kWB0 kWB1 kWB2 kFB0 kFB2
             have kPB0 : v14.cell? ⟨w.heap.size, 0, none⟩ = some (.int .i64 d) := (BoxAt.cell PB.out 0).trans rfl
             have kPB1 : v14.cell? ⟨w.heap.size, 1, none⟩ = some (.bool k) := (BoxAt.cell PB.out 1).trans rfl
             have kPB2 : v14.cell? ⟨w.heap.size, 2, none⟩ = some (.slice qv10.a qv10.n qv10.c) := (BoxAt.cell PB.out 2).trans rfl
             have kPB3 : v14.cell? ⟨w.heap.size, 3, none⟩ = some (.slice u.a u.n u.c) := (BoxAt.cell PB.out 3).trans rfl
             have kWB0 : v14.cell? ⟨v1.heap.size, 0, none⟩ = some (.int .i64 p) := (BoxAt.cell WB.out 0).trans rfl
             have kWB1 : v14.cell? ⟨v1.heap.size, 1, none⟩ = some (.int .i64 r) := (BoxAt.cell WB.out 1).trans rfl
             have kWB2 : v14.cell? ⟨v1.heap.size, 2, none⟩ = some (.int .i64 v) := (BoxAt.cell WB.out 2).trans rfl
             have kFB0 : v14.cell? ⟨v4.heap.size, 0, none⟩ = some (.int .i64 fp) := (BoxAt.cell FB.out 0).trans rfl
             have kFB2 : v14.cell? ⟨v4.heap.size, 2, none⟩ = some (.int .i64 fv) := (BoxAt.cell FB.out 2).trans rfl
             clear b g z hfl FL6)
          | fail)
        refine bodyPost_ret (results_box_tmp2 rfl _ _ (v2.heap.size) 25 _ (0, 0) _ rfl RB.out Try.underlying25 rfl Try.infoBf) rfl ?_
        exact ⟨qv10, u, ⟨none, 0, 0⟩, rfl, HC.out, HU.out, OWk.nil _ _, HB.out⟩
    case' b1006_5 =>
      refine step_litI rfl (.tmp 47) rfl (v) rfl ?_
      intro v8 b h
      have LB := hid (show BoxAt v8 v7.heap.size 3 #[.int .i64 (v)] from b)
      have PB := hid (PB.out.belowAll h)
      have WB := hid (WB.out.belowAll h)
      have RB := hid (RB.out.belowAll h)
      have FB := hid (FB.out.belowAll h)
      have HF := hid (HF.out.below h)
      have HB := hid (HB.out.trans (h.mono HB.out.size))
      have hsv8 : v7.heap.size ≤ v8.heap.size := by first | exact h.size | omega
      clear b h
      refine hK1006.out _ _ (WB.out) (fun hHeld1006 => ?_)
      clear hK1006 K1006
      try simp only [Act.put, List.setIfInBounds_toArray, List.set_cons_zero, List.set_cons_succ]
      refine wpAnyH_ready (rs := [2, 8]) (by kernel_rfl) (by simp) (AllReadyH.cons (o := { dst := some 45, op := Op.call { callee := Callee.value (Operand.func 17), args := #[Operand.tmp 44, Operand.const (Value.int IntKind.i64 0)], argTypes := #[22, 3] }, type := 22, pos := "buffer.go:19", after := _, guard := none }) rfl (fun K1028 hK1028 => ?b1028_2) (AllReadyH.cons (o := { dst := some 51, op := Op.load 23 (Operand.tmp 50), type := 23, pos := "buffer.go:19", after := _, guard := none }) rfl (fun K1028 hK1028 => ?b1028_8) AllReadyH.nil))
      case' b1028_2 =>
        go_simp
        refine (from_left0 HX.out HN.out).mono ?_
        rintro e v9 ⟨ga, rfl, hu, hb⟩
        have PB := hid (PB.out.belowAll hb)
        have WB := hid (WB.out.belowAll hb)
        have RB := hid (RB.out.belowAll hb)
        have FB := hid (FB.out.belowAll hb)
        have LB := hid (LB.out.belowAll hb)
        have HF := hid (HF.out.below hb)
        have HB := hid (HB.out.trans (hb.mono HB.out.size))
        have hsv9 : v8.heap.size ≤ v9.heap.size := by first | exact hb.size | omega
        have HG := hid hu
        clear hu
        clear hb
        refine hK1028.out _ _ (WB.out) (fun hHeld1028 => ?_)
        clear hK1028 K1028
        try simp only [Act.put, List.setIfInBounds_toArray, List.set_cons_zero, List.set_cons_succ]
        refine wpAnyH_ready (rs := [6, 8]) (by kernel_rfl) (by simp) (AllReadyH.cons (o := { dst := some 49, op := Op.call { callee := Callee.builtin Builtin.append, args := #[Operand.tmp 45, Operand.tmp 48], argTypes := #[22, 22] }, type := 22, pos := "buffer.go:19", after := _, guard := none }) rfl (fun K1029 hK1029 => ?b1029_6) (AllReadyH.cons (o := { dst := some 51, op := Op.load 23 (Operand.tmp 50), type := 23, pos := "buffer.go:19", after := _, guard := none }) rfl (fun K1029 hK1029 => ?b1029_8) AllReadyH.nil))
        case' b1029_6 =>
          have HBp := HB.out.size
          refine step_app_full rfl (.tmp 45) (.tmp 48) rfl _ _ rfl HN.out.symm (HG.out.below HB.out) _ (v) _ rfl LB.out (by have := HXL.out; omega) ?_
          intro uv10 v10 ho h
          obtain ⟨qv10, rfl, -⟩ := ho.sl
          have PB := hid (PB.out.belowAll h)
          have WB := hid (WB.out.belowAll h)
          have RB := hid (RB.out.belowAll h)
          have FB := hid (FB.out.belowAll h)
          have LB := hid (LB.out.belowAll h)
          have HF := hid (HF.out.below h)
          have HB := hid (HB.out.trans (h.mono HB.out.size))
          have hsv10 : v9.heap.size ≤ v10.heap.size := by first | exact h.size | omega
          have HC := hid ho
          clear ho h
          have HC := hid (HC.out.mono HBp)
          clear HBp HG
          refine hK1029.out _ _ (WB.out) (fun hHeld1029 => ?_)
          clear hK1029 K1029
          try simp only [Act.put, List.setIfInBounds_toArray, List.set_cons_zero, List.set_cons_succ]
          refine wpAnyH_ready (rs := [8]) (by kernel_rfl) (by simp) (AllReadyH.cons (o := { dst := some 51, op := Op.load 23 (Operand.tmp 50), type := 23, pos := "buffer.go:19", after := _, guard := none }) rfl (fun K1030 hK1030 => ?_) AllReadyH.nil)
          have cG : v10.cell? ⟨w.heap.size, 3, none⟩ = some (.slice sa M sc) := (BoxAt.cell PB.out 3).trans rfl
          go_simp
          clear cG
          refine hK1030.out _ _ (WB.out) (fun hHeld1030 => ?_)
          clear hK1030 K1030
          try simp only [Act.put, List.setIfInBounds_toArray, List.set_cons_zero, List.set_cons_succ]
          refine wpAnyH_take (i := 10) (oi := { dst := some 53, op := Op.fieldAddr 25 (Operand.tmp 3) 2, type := 0, pos := "buffer.go:19", after := _, guard := none }) (v := ?_) rfl (by kernel_rfl) (by kernel_rfl) (by kernel_rfl) (fun _ _ _ h => h) (Or.inl ⟨by rfl, ?_⟩) (by assumption) ?_
          rotate_left
          · (intro w hSw; (try dsimp only at hSw); go_simp; try with_reducible rfl)
          simp only [Act.put, List.setIfInBounds_toArray, List.set_cons_zero, List.set_cons_succ]
          refine wpAnyH_ready (rs := [9]) (by kernel_rfl) (by simp) (AllReadyH.cons (o := { dst := some 52, op := Op.call { callee := Callee.value (Operand.func 18), args := #[Operand.tmp 51], argTypes := #[23] }, type := 23, pos := "buffer.go:19", after := _, guard := none }) rfl (fun K1032 hK1032 => ?_) AllReadyH.nil)
          have HBc := HB.out.size
          go_simp
          refine (qclone_Wt (HV.out.below HB.out) (by have := HL.out; omega)).mono ?_
          rintro e v11 ⟨uu, rfl, hu, hb⟩
          have PB := hid (PB.out.belowAll hb)
          have WB := hid (WB.out.belowAll hb)
          have RB := hid (RB.out.belowAll hb)
          have FB := hid (FB.out.belowAll hb)
          have LB := hid (LB.out.belowAll hb)
          have HF := hid (HF.out.below hb)
          have HC := hid (HC.out.below hb)
          have HB := hid (HB.out.trans (hb.mono HB.out.size))
          have hsv11 : v10.heap.size ≤ v11.heap.size := by first | exact hb.size | omega
          obtain ⟨u, rfl, -⟩ := hu.sl
          have HU := hid (hu.mono HBc)
          clear hu HBc
          clear hb
          refine hK1032.out _ _ (WB.out) (fun hHeld1032 => ?_)
          clear hK1032 K1032
          try simp only [Act.put, List.setIfInBounds_toArray, List.set_cons_zero, List.set_cons_succ]
          refine wpAnyH_ready (rs := [11]) (by kernel_rfl) (by simp) (AllReadyH.cons (o := { dst := none, op := Op.store 22 (Operand.tmp 53) (Operand.tmp 49), type := 0, pos := "buffer.go:19", after := _, guard := none }) rfl (fun K1033 hK1033 => ?_) AllReadyH.nil)
          refine step_store_box rfl 22 _ _ rfl (w.heap.size) 2 (.slice qv10.a qv10.n qv10.c) rfl rfl rfl rfl (by kernel_rfl) _ _ PB.out (by simp) ?_
          intro v12 b g z
          have hsv12 : v11.heap.size ≤ v12.heap.size := by omega
          have HF := hid (HF.out.put g PB.out (by decide))
          have HC := hid (HC.out.put g PB.out (by decide))
          have HU := hid (HU.out.put g PB.out (by decide))
          have PB := hid (show BoxAt v12 (w.heap.size) 25 #[.int .i64 d, .bool k, .slice qv10.a qv10.n qv10.c, .slice sa M sc] from by simpa using b)
          have WB := hid (WB.out.grown g (fun e => by have := Option.some.inj e; omega))
          have RB := hid (RB.out.grown g (fun e => by have := Option.some.inj e; omega))
          have FB := hid (FB.out.grown g (fun e => by have := Option.some.inj e; omega))
          have LB := hid (LB.out.grown g (fun e => by have := Option.some.inj e; omega))
          have HB := hid (HB.out.trans (grown_below g (by omega) (by omega)))
          clear b g z
          refine hK1033.out _ _ (WB.out) (fun hHeld1033 => ?_)
          clear hK1033 K1033
          try simp only [Act.put]
          refine wpAnyH_take (i := 12) (oi := { dst := some 54, op := Op.fieldAddr 25 (Operand.tmp 3) 3, type := 0, pos := "buffer.go:19", after := _, guard := none }) (v := ?_) rfl (by kernel_rfl) (by kernel_rfl) (by kernel_rfl) (fun _ _ _ h => h) (Or.inl ⟨by rfl, ?_⟩) (by assumption) ?_
          rotate_left
          · (intro w hSw; (try dsimp only at hSw); go_simp; try with_reducible rfl)
          simp only [Act.put, List.setIfInBounds_toArray, List.set_cons_zero, List.set_cons_succ]
          refine wpAnyH_ready (rs := [13]) (by kernel_rfl) (by simp) (AllReadyH.cons (o := { dst := none, op := Op.store 23 (Operand.tmp 54) (Operand.tmp 52), type := 0, pos := "buffer.go:19", after := _, guard := none }) rfl (fun K1035 hK1035 => ?_) AllReadyH.nil)
          refine step_store_box rfl 23 _ _ rfl (w.heap.size) 3 (.slice u.a u.n u.c) rfl rfl rfl rfl (by kernel_rfl) _ _ PB.out (by simp) ?_
          intro v13 b g z
          have hsv13 : v12.heap.size ≤ v13.heap.size := by omega
          have HF := hid (HF.out.put g PB.out (by decide))
          have HC := hid (HC.out.put g PB.out (by decide))
          have HU := hid (HU.out.put g PB.out (by decide))
          have PB := hid (show BoxAt v13 (w.heap.size) 25 #[.int .i64 d, .bool k, .slice qv10.a qv10.n qv10.c, .slice u.a u.n u.c] from by simpa using b)
          have WB := hid (WB.out.grown g (fun e => by have := Option.some.inj e; omega))
          have RB := hid (RB.out.grown g (fun e => by have := Option.some.inj e; omega))
          have FB := hid (FB.out.grown g (fun e => by have := Option.some.inj e; omega))
          have LB := hid (LB.out.grown g (fun e => by have := Option.some.inj e; omega))
          have HB := hid (HB.out.trans (grown_below g (by omega) (by omega)))
          clear b g z
          refine hK1035.out _ _ (WB.out) (fun hHeld1035 => ?_)
          clear hK1035 K1035
          try simp only [Act.put]
          refine wpAnyH_done (by kernel_rfl) ?_ _
          clear hHeld hHeld1005 hHeld1006 hHeld1028 hHeld1029 hHeld1030 hHeld1032 hHeld1033 hHeld1035
          have kPB0 : v13.cell? ⟨w.heap.size, 0, none⟩ = some (.int .i64 d) := (BoxAt.cell PB.out 0).trans rfl
          have kPB1 : v13.cell? ⟨w.heap.size, 1, none⟩ = some (.bool k) := (BoxAt.cell PB.out 1).trans rfl
          have kPB2 : v13.cell? ⟨w.heap.size, 2, none⟩ = some (.slice qv10.a qv10.n qv10.c) := (BoxAt.cell PB.out 2).trans rfl
          have kPB3 : v13.cell? ⟨w.heap.size, 3, none⟩ = some (.slice u.a u.n u.c) := (BoxAt.cell PB.out 3).trans rfl
          have kWB0 : v13.cell? ⟨v1.heap.size, 0, none⟩ = some (.int .i64 p) := (BoxAt.cell WB.out 0).trans rfl
          have kWB1 : v13.cell? ⟨v1.heap.size, 1, none⟩ = some (.int .i64 r) := (BoxAt.cell WB.out 1).trans rfl
          have kWB2 : v13.cell? ⟨v1.heap.size, 2, none⟩ = some (.int .i64 v) := (BoxAt.cell WB.out 2).trans rfl
          have kFB0 : v13.cell? ⟨v4.heap.size, 0, none⟩ = some (.int .i64 fp) := (BoxAt.cell FB.out 0).trans rfl
          have kFB2 : v13.cell? ⟨v4.heap.size, 2, none⟩ = some (.int .i64 fv) := (BoxAt.cell FB.out 2).trans rfl
          have FL6 := hid trivial
          go_wp2_with (first
            | (refine wpList_load_box rfl 25 _ rfl (w.heap.size) rfl _ _ PB.out _ Try.underlying25 Try.infoBf ?_)
            | (have hfl := FL6.out
               refine wpList_store_whole rfl 25 _ _ rfl rfl (v2.heap.size) rfl [.int .i64 d, .bool k, .slice qv10.a qv10.n qv10.c, .slice u.a u.n u.c] rfl _ _ RB.out rfl Try.infoBf (by simp [Value.oneCell']) ?_
               intro v14 b g z
               have hsv14 : v13.heap.size ≤ v14.heap.size := by omega
               have HF := hid (HF.out.put g RB.out (by decide))
               have HC := hid (HC.out.put g RB.out (by decide))
               have HU := hid (HU.out.put g RB.out (by decide))
               have RB := hid (show BoxAt v14 (v2.heap.size) 25 #[.int .i64 d, .bool k, .slice qv10.a qv10.n qv10.c, .slice u.a u.n u.c] from b)
               have PB := hid (PB.out.grown g (fun e => by have := Option.some.inj e; omega))
               have WB := hid (WB.out.grown g (fun e => by have := Option.some.inj e; omega))
               have FB := hid (FB.out.grown g (fun e => by have := Option.some.inj e; omega))
               have LB := hid (LB.out.grown g (fun e => by have := Option.some.inj e; omega))
               have HB := hid (HB.out.trans (grown_below g (by omega) (by omega)))
               clear kPB0 kPB1 kPB2 kPB3 kWB0 kWB1 kWB2 kFB0 kFB2
               have kPB0 : v14.cell? ⟨w.heap.size, 0, none⟩ = some (.int .i64 d) := (BoxAt.cell PB.out 0).trans rfl
               have kPB1 : v14.cell? ⟨w.heap.size, 1, none⟩ = some (.bool k) := (BoxAt.cell PB.out 1).trans rfl
               have kPB2 : v14.cell? ⟨w.heap.size, 2, none⟩ = some (.slice qv10.a qv10.n qv10.c) := (BoxAt.cell PB.out 2).trans rfl
               have kPB3 : v14.cell? ⟨w.heap.size, 3, none⟩ = some (.slice u.a u.n u.c) := (BoxAt.cell PB.out 3).trans rfl
               have kWB0 : v14.cell? ⟨v1.heap.size, 0, none⟩ = some (.int .i64 p) := (BoxAt.cell WB.out 0).trans rfl
               have kWB1 : v14.cell? ⟨v1.heap.size, 1, none⟩ = some (.int .i64 r) := (BoxAt.cell WB.out 1).trans rfl
               have kWB2 : v14.cell? ⟨v1.heap.size, 2, none⟩ = some (.int .i64 v) := (BoxAt.cell WB.out 2).trans rfl
               have kFB0 : v14.cell? ⟨v4.heap.size, 0, none⟩ = some (.int .i64 fp) := (BoxAt.cell FB.out 0).trans rfl
               have kFB2 : v14.cell? ⟨v4.heap.size, 2, none⟩ = some (.int .i64 fv) := (BoxAt.cell FB.out 2).trans rfl
               clear b g z hfl FL6)
            | fail)
          refine bodyPost_ret (results_box_tmp2 rfl _ _ (v2.heap.size) 25 _ (0, 0) _ rfl RB.out Try.underlying25 rfl Try.infoBf) rfl ?_
          exact ⟨qv10, u, ⟨none, 0, 0⟩, rfl, HC.out, HU.out, OWk.nil _ _, HB.out⟩
        case' b1029_8 =>
          have cG : v9.cell? ⟨w.heap.size, 3, none⟩ = some (.slice sa M sc) := (BoxAt.cell PB.out 3).trans rfl
          go_simp
          clear cG
          refine hK1029.out _ _ (WB.out) (fun hHeld1029 => ?_)
          clear hK1029 K1029
          try simp only [Act.put, List.setIfInBounds_toArray, List.set_cons_zero, List.set_cons_succ]
          refine wpAnyH_ready (rs := [6]) (by kernel_rfl) (by simp) (AllReadyH.cons (o := { dst := some 49, op := Op.call { callee := Callee.builtin Builtin.append, args := #[Operand.tmp 45, Operand.tmp 48], argTypes := #[22, 22] }, type := 22, pos := "buffer.go:19", after := _, guard := none }) rfl (fun K1036 hK1036 => ?_) AllReadyH.nil)
          have HBp := HB.out.size
          refine step_app_full rfl (.tmp 45) (.tmp 48) rfl _ _ rfl HN.out.symm (HG.out.below HB.out) _ (v) _ rfl LB.out (by have := HXL.out; omega) ?_
          intro uv10 v10 ho h
          obtain ⟨qv10, rfl, -⟩ := ho.sl
          have PB := hid (PB.out.belowAll h)
          have WB := hid (WB.out.belowAll h)
          have RB := hid (RB.out.belowAll h)
          have FB := hid (FB.out.belowAll h)
          have LB := hid (LB.out.belowAll h)
          have HF := hid (HF.out.below h)
          have HB := hid (HB.out.trans (h.mono HB.out.size))
          have hsv10 : v9.heap.size ≤ v10.heap.size := by first | exact h.size | omega
          have HC := hid ho
          clear ho h
          have HC := hid (HC.out.mono HBp)
          clear HBp HG
          refine hK1036.out _ _ (WB.out) (fun hHeld1036 => ?_)
          clear hK1036 K1036
          try simp only [Act.put, List.setIfInBounds_toArray, List.set_cons_zero, List.set_cons_succ]
          refine wpAnyH_take (i := 10) (oi := { dst := some 53, op := Op.fieldAddr 25 (Operand.tmp 3) 2, type := 0, pos := "buffer.go:19", after := _, guard := none }) (v := ?_) rfl (by kernel_rfl) (by kernel_rfl) (by kernel_rfl) (fun _ _ _ h => h) (Or.inl ⟨by rfl, ?_⟩) (by assumption) ?_
          rotate_left
          · (intro w hSw; (try dsimp only at hSw); go_simp; try with_reducible rfl)
          simp only [Act.put, List.setIfInBounds_toArray, List.set_cons_zero, List.set_cons_succ]
          refine wpAnyH_ready (rs := [9]) (by kernel_rfl) (by simp) (AllReadyH.cons (o := { dst := some 52, op := Op.call { callee := Callee.value (Operand.func 18), args := #[Operand.tmp 51], argTypes := #[23] }, type := 23, pos := "buffer.go:19", after := _, guard := none }) rfl (fun K1038 hK1038 => ?_) AllReadyH.nil)
          have HBc := HB.out.size
          go_simp
          refine (qclone_Wt (HV.out.below HB.out) (by have := HL.out; omega)).mono ?_
          rintro e v11 ⟨uu, rfl, hu, hb⟩
          have PB := hid (PB.out.belowAll hb)
          have WB := hid (WB.out.belowAll hb)
          have RB := hid (RB.out.belowAll hb)
          have FB := hid (FB.out.belowAll hb)
          have LB := hid (LB.out.belowAll hb)
          have HF := hid (HF.out.below hb)
          have HC := hid (HC.out.below hb)
          have HB := hid (HB.out.trans (hb.mono HB.out.size))
          have hsv11 : v10.heap.size ≤ v11.heap.size := by first | exact hb.size | omega
          obtain ⟨u, rfl, -⟩ := hu.sl
          have HU := hid (hu.mono HBc)
          clear hu HBc
          clear hb
          refine hK1038.out _ _ (WB.out) (fun hHeld1038 => ?_)
          clear hK1038 K1038
          try simp only [Act.put, List.setIfInBounds_toArray, List.set_cons_zero, List.set_cons_succ]
          refine wpAnyH_ready (rs := [11]) (by kernel_rfl) (by simp) (AllReadyH.cons (o := { dst := none, op := Op.store 22 (Operand.tmp 53) (Operand.tmp 49), type := 0, pos := "buffer.go:19", after := _, guard := none }) rfl (fun K1039 hK1039 => ?_) AllReadyH.nil)
          refine step_store_box rfl 22 _ _ rfl (w.heap.size) 2 (.slice qv10.a qv10.n qv10.c) rfl rfl rfl rfl (by kernel_rfl) _ _ PB.out (by simp) ?_
          intro v12 b g z
          have hsv12 : v11.heap.size ≤ v12.heap.size := by omega
          have HF := hid (HF.out.put g PB.out (by decide))
          have HC := hid (HC.out.put g PB.out (by decide))
          have HU := hid (HU.out.put g PB.out (by decide))
          have PB := hid (show BoxAt v12 (w.heap.size) 25 #[.int .i64 d, .bool k, .slice qv10.a qv10.n qv10.c, .slice sa M sc] from by simpa using b)
          have WB := hid (WB.out.grown g (fun e => by have := Option.some.inj e; omega))
          have RB := hid (RB.out.grown g (fun e => by have := Option.some.inj e; omega))
          have FB := hid (FB.out.grown g (fun e => by have := Option.some.inj e; omega))
          have LB := hid (LB.out.grown g (fun e => by have := Option.some.inj e; omega))
          have HB := hid (HB.out.trans (grown_below g (by omega) (by omega)))
          clear b g z
          refine hK1039.out _ _ (WB.out) (fun hHeld1039 => ?_)
          clear hK1039 K1039
          try simp only [Act.put]
          refine wpAnyH_take (i := 12) (oi := { dst := some 54, op := Op.fieldAddr 25 (Operand.tmp 3) 3, type := 0, pos := "buffer.go:19", after := _, guard := none }) (v := ?_) rfl (by kernel_rfl) (by kernel_rfl) (by kernel_rfl) (fun _ _ _ h => h) (Or.inl ⟨by rfl, ?_⟩) (by assumption) ?_
          rotate_left
          · (intro w hSw; (try dsimp only at hSw); go_simp; try with_reducible rfl)
          simp only [Act.put, List.setIfInBounds_toArray, List.set_cons_zero, List.set_cons_succ]
          refine wpAnyH_ready (rs := [13]) (by kernel_rfl) (by simp) (AllReadyH.cons (o := { dst := none, op := Op.store 23 (Operand.tmp 54) (Operand.tmp 52), type := 0, pos := "buffer.go:19", after := _, guard := none }) rfl (fun K1041 hK1041 => ?_) AllReadyH.nil)
          refine step_store_box rfl 23 _ _ rfl (w.heap.size) 3 (.slice u.a u.n u.c) rfl rfl rfl rfl (by kernel_rfl) _ _ PB.out (by simp) ?_
          intro v13 b g z
          have hsv13 : v12.heap.size ≤ v13.heap.size := by omega
          have HF := hid (HF.out.put g PB.out (by decide))
          have HC := hid (HC.out.put g PB.out (by decide))
          have HU := hid (HU.out.put g PB.out (by decide))
          have PB := hid (show BoxAt v13 (w.heap.size) 25 #[.int .i64 d, .bool k, .slice qv10.a qv10.n qv10.c, .slice u.a u.n u.c] from by simpa using b)
          have WB := hid (WB.out.grown g (fun e => by have := Option.some.inj e; omega))
          have RB := hid (RB.out.grown g (fun e => by have := Option.some.inj e; omega))
          have FB := hid (FB.out.grown g (fun e => by have := Option.some.inj e; omega))
          have LB := hid (LB.out.grown g (fun e => by have := Option.some.inj e; omega))
          have HB := hid (HB.out.trans (grown_below g (by omega) (by omega)))
          clear b g z
          refine hK1041.out _ _ (WB.out) (fun hHeld1041 => ?_)
          clear hK1041 K1041
          try simp only [Act.put]
          refine wpAnyH_done (by kernel_rfl) ?_ _
          clear hHeld hHeld1005 hHeld1006 hHeld1028 hHeld1029 hHeld1036 hHeld1038 hHeld1039 hHeld1041
          have kPB0 : v13.cell? ⟨w.heap.size, 0, none⟩ = some (.int .i64 d) := (BoxAt.cell PB.out 0).trans rfl
          have kPB1 : v13.cell? ⟨w.heap.size, 1, none⟩ = some (.bool k) := (BoxAt.cell PB.out 1).trans rfl
          have kPB2 : v13.cell? ⟨w.heap.size, 2, none⟩ = some (.slice qv10.a qv10.n qv10.c) := (BoxAt.cell PB.out 2).trans rfl
          have kPB3 : v13.cell? ⟨w.heap.size, 3, none⟩ = some (.slice u.a u.n u.c) := (BoxAt.cell PB.out 3).trans rfl
          have kWB0 : v13.cell? ⟨v1.heap.size, 0, none⟩ = some (.int .i64 p) := (BoxAt.cell WB.out 0).trans rfl
          have kWB1 : v13.cell? ⟨v1.heap.size, 1, none⟩ = some (.int .i64 r) := (BoxAt.cell WB.out 1).trans rfl
          have kWB2 : v13.cell? ⟨v1.heap.size, 2, none⟩ = some (.int .i64 v) := (BoxAt.cell WB.out 2).trans rfl
          have kFB0 : v13.cell? ⟨v4.heap.size, 0, none⟩ = some (.int .i64 fp) := (BoxAt.cell FB.out 0).trans rfl
          have kFB2 : v13.cell? ⟨v4.heap.size, 2, none⟩ = some (.int .i64 fv) := (BoxAt.cell FB.out 2).trans rfl
          have FL6 := hid trivial
          go_wp2_with (first
            | (refine wpList_load_box rfl 25 _ rfl (w.heap.size) rfl _ _ PB.out _ Try.underlying25 Try.infoBf ?_)
            | (have hfl := FL6.out
               refine wpList_store_whole rfl 25 _ _ rfl rfl (v2.heap.size) rfl [.int .i64 d, .bool k, .slice qv10.a qv10.n qv10.c, .slice u.a u.n u.c] rfl _ _ RB.out rfl Try.infoBf (by simp [Value.oneCell']) ?_
               intro v14 b g z
               have hsv14 : v13.heap.size ≤ v14.heap.size := by omega
               have HF := hid (HF.out.put g RB.out (by decide))
               have HC := hid (HC.out.put g RB.out (by decide))
               have HU := hid (HU.out.put g RB.out (by decide))
               have RB := hid (show BoxAt v14 (v2.heap.size) 25 #[.int .i64 d, .bool k, .slice qv10.a qv10.n qv10.c, .slice u.a u.n u.c] from b)
               have PB := hid (PB.out.grown g (fun e => by have := Option.some.inj e; omega))
               have WB := hid (WB.out.grown g (fun e => by have := Option.some.inj e; omega))
               have FB := hid (FB.out.grown g (fun e => by have := Option.some.inj e; omega))
               have LB := hid (LB.out.grown g (fun e => by have := Option.some.inj e; omega))
               have HB := hid (HB.out.trans (grown_below g (by omega) (by omega)))
               clear kPB0 kPB1 kPB2 kPB3 kWB0 kWB1 kWB2 kFB0 kFB2
               have kPB0 : v14.cell? ⟨w.heap.size, 0, none⟩ = some (.int .i64 d) := (BoxAt.cell PB.out 0).trans rfl
               have kPB1 : v14.cell? ⟨w.heap.size, 1, none⟩ = some (.bool k) := (BoxAt.cell PB.out 1).trans rfl
               have kPB2 : v14.cell? ⟨w.heap.size, 2, none⟩ = some (.slice qv10.a qv10.n qv10.c) := (BoxAt.cell PB.out 2).trans rfl
               have kPB3 : v14.cell? ⟨w.heap.size, 3, none⟩ = some (.slice u.a u.n u.c) := (BoxAt.cell PB.out 3).trans rfl
               have kWB0 : v14.cell? ⟨v1.heap.size, 0, none⟩ = some (.int .i64 p) := (BoxAt.cell WB.out 0).trans rfl
               have kWB1 : v14.cell? ⟨v1.heap.size, 1, none⟩ = some (.int .i64 r) := (BoxAt.cell WB.out 1).trans rfl
               have kWB2 : v14.cell? ⟨v1.heap.size, 2, none⟩ = some (.int .i64 v) := (BoxAt.cell WB.out 2).trans rfl
               have kFB0 : v14.cell? ⟨v4.heap.size, 0, none⟩ = some (.int .i64 fp) := (BoxAt.cell FB.out 0).trans rfl
               have kFB2 : v14.cell? ⟨v4.heap.size, 2, none⟩ = some (.int .i64 fv) := (BoxAt.cell FB.out 2).trans rfl
               clear b g z hfl FL6)
            | fail)
          refine bodyPost_ret (results_box_tmp2 rfl _ _ (v2.heap.size) 25 _ (0, 0) _ rfl RB.out Try.underlying25 rfl Try.infoBf) rfl ?_
          exact ⟨qv10, u, ⟨none, 0, 0⟩, rfl, HC.out, HU.out, OWk.nil _ _, HB.out⟩
      case' b1028_8 =>
        have cG : v8.cell? ⟨w.heap.size, 3, none⟩ = some (.slice sa M sc) := (BoxAt.cell PB.out 3).trans rfl
        go_simp
        clear cG
        refine hK1028.out _ _ (WB.out) (fun hHeld1028 => ?_)
        clear hK1028 K1028
        try simp only [Act.put, List.setIfInBounds_toArray, List.set_cons_zero, List.set_cons_succ]
        refine wpAnyH_ready (rs := [2]) (by kernel_rfl) (by simp) (AllReadyH.cons (o := { dst := some 45, op := Op.call { callee := Callee.value (Operand.func 17), args := #[Operand.tmp 44, Operand.const (Value.int IntKind.i64 0)], argTypes := #[22, 3] }, type := 22, pos := "buffer.go:19", after := _, guard := none }) rfl (fun K1042 hK1042 => ?_) AllReadyH.nil)
        go_simp
        refine (from_left0 HX.out HN.out).mono ?_
        rintro e v9 ⟨ga, rfl, hu, hb⟩
        have PB := hid (PB.out.belowAll hb)
        have WB := hid (WB.out.belowAll hb)
        have RB := hid (RB.out.belowAll hb)
        have FB := hid (FB.out.belowAll hb)
        have LB := hid (LB.out.belowAll hb)
        have HF := hid (HF.out.below hb)
        have HB := hid (HB.out.trans (hb.mono HB.out.size))
        have hsv9 : v8.heap.size ≤ v9.heap.size := by first | exact hb.size | omega
        have HG := hid hu
        clear hu
        clear hb
        refine hK1042.out _ _ (WB.out) (fun hHeld1042 => ?_)
        clear hK1042 K1042
        try simp only [Act.put, List.setIfInBounds_toArray, List.set_cons_zero, List.set_cons_succ]
        refine wpAnyH_ready (rs := [6]) (by kernel_rfl) (by simp) (AllReadyH.cons (o := { dst := some 49, op := Op.call { callee := Callee.builtin Builtin.append, args := #[Operand.tmp 45, Operand.tmp 48], argTypes := #[22, 22] }, type := 22, pos := "buffer.go:19", after := _, guard := none }) rfl (fun K1043 hK1043 => ?_) AllReadyH.nil)
        have HBp := HB.out.size
        refine step_app_full rfl (.tmp 45) (.tmp 48) rfl _ _ rfl HN.out.symm (HG.out.below HB.out) _ (v) _ rfl LB.out (by have := HXL.out; omega) ?_
        intro uv10 v10 ho h
        obtain ⟨qv10, rfl, -⟩ := ho.sl
        have PB := hid (PB.out.belowAll h)
        have WB := hid (WB.out.belowAll h)
        have RB := hid (RB.out.belowAll h)
        have FB := hid (FB.out.belowAll h)
        have LB := hid (LB.out.belowAll h)
        have HF := hid (HF.out.below h)
        have HB := hid (HB.out.trans (h.mono HB.out.size))
        have hsv10 : v9.heap.size ≤ v10.heap.size := by first | exact h.size | omega
        have HC := hid ho
        clear ho h
        have HC := hid (HC.out.mono HBp)
        clear HBp HG
        refine hK1043.out _ _ (WB.out) (fun hHeld1043 => ?_)
        clear hK1043 K1043
        try simp only [Act.put, List.setIfInBounds_toArray, List.set_cons_zero, List.set_cons_succ]
        refine wpAnyH_take (i := 10) (oi := { dst := some 53, op := Op.fieldAddr 25 (Operand.tmp 3) 2, type := 0, pos := "buffer.go:19", after := _, guard := none }) (v := ?_) rfl (by kernel_rfl) (by kernel_rfl) (by kernel_rfl) (fun _ _ _ h => h) (Or.inl ⟨by rfl, ?_⟩) (by assumption) ?_
        rotate_left
        · (intro w hSw; (try dsimp only at hSw); go_simp; try with_reducible rfl)
        simp only [Act.put, List.setIfInBounds_toArray, List.set_cons_zero, List.set_cons_succ]
        refine wpAnyH_ready (rs := [9]) (by kernel_rfl) (by simp) (AllReadyH.cons (o := { dst := some 52, op := Op.call { callee := Callee.value (Operand.func 18), args := #[Operand.tmp 51], argTypes := #[23] }, type := 23, pos := "buffer.go:19", after := _, guard := none }) rfl (fun K1045 hK1045 => ?_) AllReadyH.nil)
        have HBc := HB.out.size
        go_simp
        refine (qclone_Wt (HV.out.below HB.out) (by have := HL.out; omega)).mono ?_
        rintro e v11 ⟨uu, rfl, hu, hb⟩
        have PB := hid (PB.out.belowAll hb)
        have WB := hid (WB.out.belowAll hb)
        have RB := hid (RB.out.belowAll hb)
        have FB := hid (FB.out.belowAll hb)
        have LB := hid (LB.out.belowAll hb)
        have HF := hid (HF.out.below hb)
        have HC := hid (HC.out.below hb)
        have HB := hid (HB.out.trans (hb.mono HB.out.size))
        have hsv11 : v10.heap.size ≤ v11.heap.size := by first | exact hb.size | omega
        obtain ⟨u, rfl, -⟩ := hu.sl
        have HU := hid (hu.mono HBc)
        clear hu HBc
        clear hb
        refine hK1045.out _ _ (WB.out) (fun hHeld1045 => ?_)
        clear hK1045 K1045
        try simp only [Act.put, List.setIfInBounds_toArray, List.set_cons_zero, List.set_cons_succ]
        refine wpAnyH_ready (rs := [11]) (by kernel_rfl) (by simp) (AllReadyH.cons (o := { dst := none, op := Op.store 22 (Operand.tmp 53) (Operand.tmp 49), type := 0, pos := "buffer.go:19", after := _, guard := none }) rfl (fun K1046 hK1046 => ?_) AllReadyH.nil)
        refine step_store_box rfl 22 _ _ rfl (w.heap.size) 2 (.slice qv10.a qv10.n qv10.c) rfl rfl rfl rfl (by kernel_rfl) _ _ PB.out (by simp) ?_
        intro v12 b g z
        have hsv12 : v11.heap.size ≤ v12.heap.size := by omega
        have HF := hid (HF.out.put g PB.out (by decide))
        have HC := hid (HC.out.put g PB.out (by decide))
        have HU := hid (HU.out.put g PB.out (by decide))
        have PB := hid (show BoxAt v12 (w.heap.size) 25 #[.int .i64 d, .bool k, .slice qv10.a qv10.n qv10.c, .slice sa M sc] from by simpa using b)
        have WB := hid (WB.out.grown g (fun e => by have := Option.some.inj e; omega))
        have RB := hid (RB.out.grown g (fun e => by have := Option.some.inj e; omega))
        have FB := hid (FB.out.grown g (fun e => by have := Option.some.inj e; omega))
        have LB := hid (LB.out.grown g (fun e => by have := Option.some.inj e; omega))
        have HB := hid (HB.out.trans (grown_below g (by omega) (by omega)))
        clear b g z
        refine hK1046.out _ _ (WB.out) (fun hHeld1046 => ?_)
        clear hK1046 K1046
        try simp only [Act.put]
        refine wpAnyH_take (i := 12) (oi := { dst := some 54, op := Op.fieldAddr 25 (Operand.tmp 3) 3, type := 0, pos := "buffer.go:19", after := _, guard := none }) (v := ?_) rfl (by kernel_rfl) (by kernel_rfl) (by kernel_rfl) (fun _ _ _ h => h) (Or.inl ⟨by rfl, ?_⟩) (by assumption) ?_
        rotate_left
        · (intro w hSw; (try dsimp only at hSw); go_simp; try with_reducible rfl)
        simp only [Act.put, List.setIfInBounds_toArray, List.set_cons_zero, List.set_cons_succ]
        refine wpAnyH_ready (rs := [13]) (by kernel_rfl) (by simp) (AllReadyH.cons (o := { dst := none, op := Op.store 23 (Operand.tmp 54) (Operand.tmp 52), type := 0, pos := "buffer.go:19", after := _, guard := none }) rfl (fun K1048 hK1048 => ?_) AllReadyH.nil)
        refine step_store_box rfl 23 _ _ rfl (w.heap.size) 3 (.slice u.a u.n u.c) rfl rfl rfl rfl (by kernel_rfl) _ _ PB.out (by simp) ?_
        intro v13 b g z
        have hsv13 : v12.heap.size ≤ v13.heap.size := by omega
        have HF := hid (HF.out.put g PB.out (by decide))
        have HC := hid (HC.out.put g PB.out (by decide))
        have HU := hid (HU.out.put g PB.out (by decide))
        have PB := hid (show BoxAt v13 (w.heap.size) 25 #[.int .i64 d, .bool k, .slice qv10.a qv10.n qv10.c, .slice u.a u.n u.c] from by simpa using b)
        have WB := hid (WB.out.grown g (fun e => by have := Option.some.inj e; omega))
        have RB := hid (RB.out.grown g (fun e => by have := Option.some.inj e; omega))
        have FB := hid (FB.out.grown g (fun e => by have := Option.some.inj e; omega))
        have LB := hid (LB.out.grown g (fun e => by have := Option.some.inj e; omega))
        have HB := hid (HB.out.trans (grown_below g (by omega) (by omega)))
        clear b g z
        refine hK1048.out _ _ (WB.out) (fun hHeld1048 => ?_)
        clear hK1048 K1048
        try simp only [Act.put]
        refine wpAnyH_done (by kernel_rfl) ?_ _
        clear hHeld hHeld1005 hHeld1006 hHeld1028 hHeld1042 hHeld1043 hHeld1045 hHeld1046 hHeld1048
        have kPB0 : v13.cell? ⟨w.heap.size, 0, none⟩ = some (.int .i64 d) := (BoxAt.cell PB.out 0).trans rfl
        have kPB1 : v13.cell? ⟨w.heap.size, 1, none⟩ = some (.bool k) := (BoxAt.cell PB.out 1).trans rfl
        have kPB2 : v13.cell? ⟨w.heap.size, 2, none⟩ = some (.slice qv10.a qv10.n qv10.c) := (BoxAt.cell PB.out 2).trans rfl
        have kPB3 : v13.cell? ⟨w.heap.size, 3, none⟩ = some (.slice u.a u.n u.c) := (BoxAt.cell PB.out 3).trans rfl
        have kWB0 : v13.cell? ⟨v1.heap.size, 0, none⟩ = some (.int .i64 p) := (BoxAt.cell WB.out 0).trans rfl
        have kWB1 : v13.cell? ⟨v1.heap.size, 1, none⟩ = some (.int .i64 r) := (BoxAt.cell WB.out 1).trans rfl
        have kWB2 : v13.cell? ⟨v1.heap.size, 2, none⟩ = some (.int .i64 v) := (BoxAt.cell WB.out 2).trans rfl
        have kFB0 : v13.cell? ⟨v4.heap.size, 0, none⟩ = some (.int .i64 fp) := (BoxAt.cell FB.out 0).trans rfl
        have kFB2 : v13.cell? ⟨v4.heap.size, 2, none⟩ = some (.int .i64 fv) := (BoxAt.cell FB.out 2).trans rfl
        have FL6 := hid trivial
        go_wp2_with (first
          | (refine wpList_load_box rfl 25 _ rfl (w.heap.size) rfl _ _ PB.out _ Try.underlying25 Try.infoBf ?_)
          | (have hfl := FL6.out
             refine wpList_store_whole rfl 25 _ _ rfl rfl (v2.heap.size) rfl [.int .i64 d, .bool k, .slice qv10.a qv10.n qv10.c, .slice u.a u.n u.c] rfl _ _ RB.out rfl Try.infoBf (by simp [Value.oneCell']) ?_
             intro v14 b g z
             have hsv14 : v13.heap.size ≤ v14.heap.size := by omega
             have HF := hid (HF.out.put g RB.out (by decide))
             have HC := hid (HC.out.put g RB.out (by decide))
             have HU := hid (HU.out.put g RB.out (by decide))
             have RB := hid (show BoxAt v14 (v2.heap.size) 25 #[.int .i64 d, .bool k, .slice qv10.a qv10.n qv10.c, .slice u.a u.n u.c] from b)
             have PB := hid (PB.out.grown g (fun e => by have := Option.some.inj e; omega))
             have WB := hid (WB.out.grown g (fun e => by have := Option.some.inj e; omega))
             have FB := hid (FB.out.grown g (fun e => by have := Option.some.inj e; omega))
             have LB := hid (LB.out.grown g (fun e => by have := Option.some.inj e; omega))
             have HB := hid (HB.out.trans (grown_below g (by omega) (by omega)))
             clear kPB0 kPB1 kPB2 kPB3 kWB0 kWB1 kWB2 kFB0 kFB2
             have kPB0 : v14.cell? ⟨w.heap.size, 0, none⟩ = some (.int .i64 d) := (BoxAt.cell PB.out 0).trans rfl
             have kPB1 : v14.cell? ⟨w.heap.size, 1, none⟩ = some (.bool k) := (BoxAt.cell PB.out 1).trans rfl
             have kPB2 : v14.cell? ⟨w.heap.size, 2, none⟩ = some (.slice qv10.a qv10.n qv10.c) := (BoxAt.cell PB.out 2).trans rfl
             have kPB3 : v14.cell? ⟨w.heap.size, 3, none⟩ = some (.slice u.a u.n u.c) := (BoxAt.cell PB.out 3).trans rfl
             have kWB0 : v14.cell? ⟨v1.heap.size, 0, none⟩ = some (.int .i64 p) := (BoxAt.cell WB.out 0).trans rfl
             have kWB1 : v14.cell? ⟨v1.heap.size, 1, none⟩ = some (.int .i64 r) := (BoxAt.cell WB.out 1).trans rfl
             have kWB2 : v14.cell? ⟨v1.heap.size, 2, none⟩ = some (.int .i64 v) := (BoxAt.cell WB.out 2).trans rfl
             have kFB0 : v14.cell? ⟨v4.heap.size, 0, none⟩ = some (.int .i64 fp) := (BoxAt.cell FB.out 0).trans rfl
             have kFB2 : v14.cell? ⟨v4.heap.size, 2, none⟩ = some (.int .i64 fv) := (BoxAt.cell FB.out 2).trans rfl
             clear b g z hfl FL6)
          | fail)
        refine bodyPost_ret (results_box_tmp2 rfl _ _ (v2.heap.size) 25 _ (0, 0) _ rfl RB.out Try.underlying25 rfl Try.infoBf) rfl ?_
        exact ⟨qv10, u, ⟨none, 0, 0⟩, rfl, HC.out, HU.out, OWk.nil _ _, HB.out⟩
    case' b1006_8 =>
      have cG : v7.cell? ⟨w.heap.size, 3, none⟩ = some (.slice sa M sc) := (BoxAt.cell PB.out 3).trans rfl
      go_simp
      clear cG
      refine hK1006.out _ _ (WB.out) (fun hHeld1006 => ?_)
      clear hK1006 K1006
      try simp only [Act.put, List.setIfInBounds_toArray, List.set_cons_zero, List.set_cons_succ]
      refine wpAnyH_ready (rs := [2, 5]) (by kernel_rfl) (by simp) (AllReadyH.cons (o := { dst := some 45, op := Op.call { callee := Callee.value (Operand.func 17), args := #[Operand.tmp 44, Operand.const (Value.int IntKind.i64 0)], argTypes := #[22, 3] }, type := 22, pos := "buffer.go:19", after := _, guard := none }) rfl (fun K1049 hK1049 => ?b1049_2) (AllReadyH.cons (o := { dst := some 48, op := Op.buildSlice 22 1 #[(0, Operand.tmp 47)], type := 22, pos := "buffer.go:19", after := _, guard := none }) rfl (fun K1049 hK1049 => ?b1049_5) AllReadyH.nil))
      case' b1049_2 =>
        go_simp
        refine (from_left0 HX.out HN.out).mono ?_
        rintro e v8 ⟨ga, rfl, hu, hb⟩
        have PB := hid (PB.out.belowAll hb)
        have WB := hid (WB.out.belowAll hb)
        have RB := hid (RB.out.belowAll hb)
        have FB := hid (FB.out.belowAll hb)
        have HF := hid (HF.out.below hb)
        have HB := hid (HB.out.trans (hb.mono HB.out.size))
        have hsv8 : v7.heap.size ≤ v8.heap.size := by first | exact hb.size | omega
        have HG := hid hu
        clear hu
        clear hb
        refine hK1049.out _ _ (WB.out) (fun hHeld1049 => ?_)
        clear hK1049 K1049
        try simp only [Act.put, List.setIfInBounds_toArray, List.set_cons_zero, List.set_cons_succ]
        refine wpAnyH_ready (rs := [5]) (by kernel_rfl) (by simp) (AllReadyH.cons (o := { dst := some 48, op := Op.buildSlice 22 1 #[(0, Operand.tmp 47)], type := 22, pos := "buffer.go:19", after := _, guard := none }) rfl (fun K1050 hK1050 => ?_) AllReadyH.nil)
        refine step_litI rfl (.tmp 47) rfl (v) rfl ?_
        intro v9 b h
        have LB := hid (show BoxAt v9 v8.heap.size 3 #[.int .i64 (v)] from b)
        have PB := hid (PB.out.belowAll h)
        have WB := hid (WB.out.belowAll h)
        have RB := hid (RB.out.belowAll h)
        have FB := hid (FB.out.belowAll h)
        have HF := hid (HF.out.below h)
        have HB := hid (HB.out.trans (h.mono HB.out.size))
        have hsv9 : v8.heap.size ≤ v9.heap.size := by first | exact h.size | omega
        clear b h
        refine hK1050.out _ _ (WB.out) (fun hHeld1050 => ?_)
        clear hK1050 K1050
        try simp only [Act.put, List.setIfInBounds_toArray, List.set_cons_zero, List.set_cons_succ]
        refine wpAnyH_ready (rs := [6]) (by kernel_rfl) (by simp) (AllReadyH.cons (o := { dst := some 49, op := Op.call { callee := Callee.builtin Builtin.append, args := #[Operand.tmp 45, Operand.tmp 48], argTypes := #[22, 22] }, type := 22, pos := "buffer.go:19", after := _, guard := none }) rfl (fun K1051 hK1051 => ?_) AllReadyH.nil)
        have HBp := HB.out.size
        refine step_app_full rfl (.tmp 45) (.tmp 48) rfl _ _ rfl HN.out.symm (HG.out.below HB.out) _ (v) _ rfl LB.out (by have := HXL.out; omega) ?_
        intro uv10 v10 ho h
        obtain ⟨qv10, rfl, -⟩ := ho.sl
        have PB := hid (PB.out.belowAll h)
        have WB := hid (WB.out.belowAll h)
        have RB := hid (RB.out.belowAll h)
        have FB := hid (FB.out.belowAll h)
        have LB := hid (LB.out.belowAll h)
        have HF := hid (HF.out.below h)
        have HB := hid (HB.out.trans (h.mono HB.out.size))
        have hsv10 : v9.heap.size ≤ v10.heap.size := by first | exact h.size | omega
        have HC := hid ho
        clear ho h
        have HC := hid (HC.out.mono HBp)
        clear HBp HG
        refine hK1051.out _ _ (WB.out) (fun hHeld1051 => ?_)
        clear hK1051 K1051
        try simp only [Act.put, List.setIfInBounds_toArray, List.set_cons_zero, List.set_cons_succ]
        refine wpAnyH_take (i := 10) (oi := { dst := some 53, op := Op.fieldAddr 25 (Operand.tmp 3) 2, type := 0, pos := "buffer.go:19", after := _, guard := none }) (v := ?_) rfl (by kernel_rfl) (by kernel_rfl) (by kernel_rfl) (fun _ _ _ h => h) (Or.inl ⟨by rfl, ?_⟩) (by assumption) ?_
        rotate_left
        · (intro w hSw; (try dsimp only at hSw); go_simp; try with_reducible rfl)
        simp only [Act.put, List.setIfInBounds_toArray, List.set_cons_zero, List.set_cons_succ]
        refine wpAnyH_ready (rs := [9]) (by kernel_rfl) (by simp) (AllReadyH.cons (o := { dst := some 52, op := Op.call { callee := Callee.value (Operand.func 18), args := #[Operand.tmp 51], argTypes := #[23] }, type := 23, pos := "buffer.go:19", after := _, guard := none }) rfl (fun K1053 hK1053 => ?_) AllReadyH.nil)
        have HBc := HB.out.size
        go_simp
        refine (qclone_Wt (HV.out.below HB.out) (by have := HL.out; omega)).mono ?_
        rintro e v11 ⟨uu, rfl, hu, hb⟩
        have PB := hid (PB.out.belowAll hb)
        have WB := hid (WB.out.belowAll hb)
        have RB := hid (RB.out.belowAll hb)
        have FB := hid (FB.out.belowAll hb)
        have LB := hid (LB.out.belowAll hb)
        have HF := hid (HF.out.below hb)
        have HC := hid (HC.out.below hb)
        have HB := hid (HB.out.trans (hb.mono HB.out.size))
        have hsv11 : v10.heap.size ≤ v11.heap.size := by first | exact hb.size | omega
        obtain ⟨u, rfl, -⟩ := hu.sl
        have HU := hid (hu.mono HBc)
        clear hu HBc
        clear hb
        refine hK1053.out _ _ (WB.out) (fun hHeld1053 => ?_)
        clear hK1053 K1053
        try simp only [Act.put, List.setIfInBounds_toArray, List.set_cons_zero, List.set_cons_succ]
        refine wpAnyH_ready (rs := [11]) (by kernel_rfl) (by simp) (AllReadyH.cons (o := { dst := none, op := Op.store 22 (Operand.tmp 53) (Operand.tmp 49), type := 0, pos := "buffer.go:19", after := _, guard := none }) rfl (fun K1054 hK1054 => ?_) AllReadyH.nil)
        refine step_store_box rfl 22 _ _ rfl (w.heap.size) 2 (.slice qv10.a qv10.n qv10.c) rfl rfl rfl rfl (by kernel_rfl) _ _ PB.out (by simp) ?_
        intro v12 b g z
        have hsv12 : v11.heap.size ≤ v12.heap.size := by omega
        have HF := hid (HF.out.put g PB.out (by decide))
        have HC := hid (HC.out.put g PB.out (by decide))
        have HU := hid (HU.out.put g PB.out (by decide))
        have PB := hid (show BoxAt v12 (w.heap.size) 25 #[.int .i64 d, .bool k, .slice qv10.a qv10.n qv10.c, .slice sa M sc] from by simpa using b)
        have WB := hid (WB.out.grown g (fun e => by have := Option.some.inj e; omega))
        have RB := hid (RB.out.grown g (fun e => by have := Option.some.inj e; omega))
        have FB := hid (FB.out.grown g (fun e => by have := Option.some.inj e; omega))
        have LB := hid (LB.out.grown g (fun e => by have := Option.some.inj e; omega))
        have HB := hid (HB.out.trans (grown_below g (by omega) (by omega)))
        clear b g z
        refine hK1054.out _ _ (WB.out) (fun hHeld1054 => ?_)
        clear hK1054 K1054
        try simp only [Act.put]
        refine wpAnyH_take (i := 12) (oi := { dst := some 54, op := Op.fieldAddr 25 (Operand.tmp 3) 3, type := 0, pos := "buffer.go:19", after := _, guard := none }) (v := ?_) rfl (by kernel_rfl) (by kernel_rfl) (by kernel_rfl) (fun _ _ _ h => h) (Or.inl ⟨by rfl, ?_⟩) (by assumption) ?_
        rotate_left
        · (intro w hSw; (try dsimp only at hSw); go_simp; try with_reducible rfl)
        simp only [Act.put, List.setIfInBounds_toArray, List.set_cons_zero, List.set_cons_succ]
        refine wpAnyH_ready (rs := [13]) (by kernel_rfl) (by simp) (AllReadyH.cons (o := { dst := none, op := Op.store 23 (Operand.tmp 54) (Operand.tmp 52), type := 0, pos := "buffer.go:19", after := _, guard := none }) rfl (fun K1056 hK1056 => ?_) AllReadyH.nil)
        refine step_store_box rfl 23 _ _ rfl (w.heap.size) 3 (.slice u.a u.n u.c) rfl rfl rfl rfl (by kernel_rfl) _ _ PB.out (by simp) ?_
        intro v13 b g z
        have hsv13 : v12.heap.size ≤ v13.heap.size := by omega
        have HF := hid (HF.out.put g PB.out (by decide))
        have HC := hid (HC.out.put g PB.out (by decide))
        have HU := hid (HU.out.put g PB.out (by decide))
        have PB := hid (show BoxAt v13 (w.heap.size) 25 #[.int .i64 d, .bool k, .slice qv10.a qv10.n qv10.c, .slice u.a u.n u.c] from by simpa using b)
        have WB := hid (WB.out.grown g (fun e => by have := Option.some.inj e; omega))
        have RB := hid (RB.out.grown g (fun e => by have := Option.some.inj e; omega))
        have FB := hid (FB.out.grown g (fun e => by have := Option.some.inj e; omega))
        have LB := hid (LB.out.grown g (fun e => by have := Option.some.inj e; omega))
        have HB := hid (HB.out.trans (grown_below g (by omega) (by omega)))
        clear b g z
        refine hK1056.out _ _ (WB.out) (fun hHeld1056 => ?_)
        clear hK1056 K1056
        try simp only [Act.put]
        refine wpAnyH_done (by kernel_rfl) ?_ _
        clear hHeld hHeld1005 hHeld1006 hHeld1049 hHeld1050 hHeld1051 hHeld1053 hHeld1054 hHeld1056
        have kPB0 : v13.cell? ⟨w.heap.size, 0, none⟩ = some (.int .i64 d) := (BoxAt.cell PB.out 0).trans rfl
        have kPB1 : v13.cell? ⟨w.heap.size, 1, none⟩ = some (.bool k) := (BoxAt.cell PB.out 1).trans rfl
        have kPB2 : v13.cell? ⟨w.heap.size, 2, none⟩ = some (.slice qv10.a qv10.n qv10.c) := (BoxAt.cell PB.out 2).trans rfl
        have kPB3 : v13.cell? ⟨w.heap.size, 3, none⟩ = some (.slice u.a u.n u.c) := (BoxAt.cell PB.out 3).trans rfl
        have kWB0 : v13.cell? ⟨v1.heap.size, 0, none⟩ = some (.int .i64 p) := (BoxAt.cell WB.out 0).trans rfl
        have kWB1 : v13.cell? ⟨v1.heap.size, 1, none⟩ = some (.int .i64 r) := (BoxAt.cell WB.out 1).trans rfl
        have kWB2 : v13.cell? ⟨v1.heap.size, 2, none⟩ = some (.int .i64 v) := (BoxAt.cell WB.out 2).trans rfl
        have kFB0 : v13.cell? ⟨v4.heap.size, 0, none⟩ = some (.int .i64 fp) := (BoxAt.cell FB.out 0).trans rfl
        have kFB2 : v13.cell? ⟨v4.heap.size, 2, none⟩ = some (.int .i64 fv) := (BoxAt.cell FB.out 2).trans rfl
        have FL6 := hid trivial
        go_wp2_with (first
          | (refine wpList_load_box rfl 25 _ rfl (w.heap.size) rfl _ _ PB.out _ Try.underlying25 Try.infoBf ?_)
          | (have hfl := FL6.out
             refine wpList_store_whole rfl 25 _ _ rfl rfl (v2.heap.size) rfl [.int .i64 d, .bool k, .slice qv10.a qv10.n qv10.c, .slice u.a u.n u.c] rfl _ _ RB.out rfl Try.infoBf (by simp [Value.oneCell']) ?_
             intro v14 b g z
             have hsv14 : v13.heap.size ≤ v14.heap.size := by omega
             have HF := hid (HF.out.put g RB.out (by decide))
             have HC := hid (HC.out.put g RB.out (by decide))
             have HU := hid (HU.out.put g RB.out (by decide))
             have RB := hid (show BoxAt v14 (v2.heap.size) 25 #[.int .i64 d, .bool k, .slice qv10.a qv10.n qv10.c, .slice u.a u.n u.c] from b)
             have PB := hid (PB.out.grown g (fun e => by have := Option.some.inj e; omega))
             have WB := hid (WB.out.grown g (fun e => by have := Option.some.inj e; omega))
             have FB := hid (FB.out.grown g (fun e => by have := Option.some.inj e; omega))
             have LB := hid (LB.out.grown g (fun e => by have := Option.some.inj e; omega))
             have HB := hid (HB.out.trans (grown_below g (by omega) (by omega)))
             clear kPB0 kPB1 kPB2 kPB3 kWB0 kWB1 kWB2 kFB0 kFB2
             have kPB0 : v14.cell? ⟨w.heap.size, 0, none⟩ = some (.int .i64 d) := (BoxAt.cell PB.out 0).trans rfl
             have kPB1 : v14.cell? ⟨w.heap.size, 1, none⟩ = some (.bool k) := (BoxAt.cell PB.out 1).trans rfl
             have kPB2 : v14.cell? ⟨w.heap.size, 2, none⟩ = some (.slice qv10.a qv10.n qv10.c) := (BoxAt.cell PB.out 2).trans rfl
             have kPB3 : v14.cell? ⟨w.heap.size, 3, none⟩ = some (.slice u.a u.n u.c) := (BoxAt.cell PB.out 3).trans rfl
             have kWB0 : v14.cell? ⟨v1.heap.size, 0, none⟩ = some (.int .i64 p) := (BoxAt.cell WB.out 0).trans rfl
             have kWB1 : v14.cell? ⟨v1.heap.size, 1, none⟩ = some (.int .i64 r) := (BoxAt.cell WB.out 1).trans rfl
             have kWB2 : v14.cell? ⟨v1.heap.size, 2, none⟩ = some (.int .i64 v) := (BoxAt.cell WB.out 2).trans rfl
             have kFB0 : v14.cell? ⟨v4.heap.size, 0, none⟩ = some (.int .i64 fp) := (BoxAt.cell FB.out 0).trans rfl
             have kFB2 : v14.cell? ⟨v4.heap.size, 2, none⟩ = some (.int .i64 fv) := (BoxAt.cell FB.out 2).trans rfl
             clear b g z hfl FL6)
          | fail)
        refine bodyPost_ret (results_box_tmp2 rfl _ _ (v2.heap.size) 25 _ (0, 0) _ rfl RB.out Try.underlying25 rfl Try.infoBf) rfl ?_
        exact ⟨qv10, u, ⟨none, 0, 0⟩, rfl, HC.out, HU.out, OWk.nil _ _, HB.out⟩
      case' b1049_5 =>
        refine step_litI rfl (.tmp 47) rfl (v) rfl ?_
        intro v8 b h
        have LB := hid (show BoxAt v8 v7.heap.size 3 #[.int .i64 (v)] from b)
        have PB := hid (PB.out.belowAll h)
        have WB := hid (WB.out.belowAll h)
        have RB := hid (RB.out.belowAll h)
        have FB := hid (FB.out.belowAll h)
        have HF := hid (HF.out.below h)
        have HB := hid (HB.out.trans (h.mono HB.out.size))
        have hsv8 : v7.heap.size ≤ v8.heap.size := by first | exact h.size | omega
        clear b h
        refine hK1049.out _ _ (WB.out) (fun hHeld1049 => ?_)
        clear hK1049 K1049
        try simp only [Act.put, List.setIfInBounds_toArray, List.set_cons_zero, List.set_cons_succ]
        refine wpAnyH_ready (rs := [2]) (by kernel_rfl) (by simp) (AllReadyH.cons (o := { dst := some 45, op := Op.call { callee := Callee.value (Operand.func 17), args := #[Operand.tmp 44, Operand.const (Value.int IntKind.i64 0)], argTypes := #[22, 3] }, type := 22, pos := "buffer.go:19", after := _, guard := none }) rfl (fun K1057 hK1057 => ?_) AllReadyH.nil)
        go_simp
        refine (from_left0 HX.out HN.out).mono ?_
        rintro e v9 ⟨ga, rfl, hu, hb⟩
        have PB := hid (PB.out.belowAll hb)
        have WB := hid (WB.out.belowAll hb)
        have RB := hid (RB.out.belowAll hb)
        have FB := hid (FB.out.belowAll hb)
        have LB := hid (LB.out.belowAll hb)
        have HF := hid (HF.out.below hb)
        have HB := hid (HB.out.trans (hb.mono HB.out.size))
        have hsv9 : v8.heap.size ≤ v9.heap.size := by first | exact hb.size | omega
        have HG := hid hu
        clear hu
        clear hb
        refine hK1057.out _ _ (WB.out) (fun hHeld1057 => ?_)
        clear hK1057 K1057
        try simp only [Act.put, List.setIfInBounds_toArray, List.set_cons_zero, List.set_cons_succ]
        refine wpAnyH_ready (rs := [6]) (by kernel_rfl) (by simp) (AllReadyH.cons (o := { dst := some 49, op := Op.call { callee := Callee.builtin Builtin.append, args := #[Operand.tmp 45, Operand.tmp 48], argTypes := #[22, 22] }, type := 22, pos := "buffer.go:19", after := _, guard := none }) rfl (fun K1058 hK1058 => ?_) AllReadyH.nil)
        have HBp := HB.out.size
        refine step_app_full rfl (.tmp 45) (.tmp 48) rfl _ _ rfl HN.out.symm (HG.out.below HB.out) _ (v) _ rfl LB.out (by have := HXL.out; omega) ?_
        intro uv10 v10 ho h
        obtain ⟨qv10, rfl, -⟩ := ho.sl
        have PB := hid (PB.out.belowAll h)
        have WB := hid (WB.out.belowAll h)
        have RB := hid (RB.out.belowAll h)
        have FB := hid (FB.out.belowAll h)
        have LB := hid (LB.out.belowAll h)
        have HF := hid (HF.out.below h)
        have HB := hid (HB.out.trans (h.mono HB.out.size))
        have hsv10 : v9.heap.size ≤ v10.heap.size := by first | exact h.size | omega
        have HC := hid ho
        clear ho h
        have HC := hid (HC.out.mono HBp)
        clear HBp HG
        refine hK1058.out _ _ (WB.out) (fun hHeld1058 => ?_)
        clear hK1058 K1058
        try simp only [Act.put, List.setIfInBounds_toArray, List.set_cons_zero, List.set_cons_succ]
        refine wpAnyH_take (i := 10) (oi := { dst := some 53, op := Op.fieldAddr 25 (Operand.tmp 3) 2, type := 0, pos := "buffer.go:19", after := _, guard := none }) (v := ?_) rfl (by kernel_rfl) (by kernel_rfl) (by kernel_rfl) (fun _ _ _ h => h) (Or.inl ⟨by rfl, ?_⟩) (by assumption) ?_
        rotate_left
        · (intro w hSw; (try dsimp only at hSw); go_simp; try with_reducible rfl)
        simp only [Act.put, List.setIfInBounds_toArray, List.set_cons_zero, List.set_cons_succ]
        refine wpAnyH_ready (rs := [9]) (by kernel_rfl) (by simp) (AllReadyH.cons (o := { dst := some 52, op := Op.call { callee := Callee.value (Operand.func 18), args := #[Operand.tmp 51], argTypes := #[23] }, type := 23, pos := "buffer.go:19", after := _, guard := none }) rfl (fun K1060 hK1060 => ?_) AllReadyH.nil)
        have HBc := HB.out.size
        go_simp
        refine (qclone_Wt (HV.out.below HB.out) (by have := HL.out; omega)).mono ?_
        rintro e v11 ⟨uu, rfl, hu, hb⟩
        have PB := hid (PB.out.belowAll hb)
        have WB := hid (WB.out.belowAll hb)
        have RB := hid (RB.out.belowAll hb)
        have FB := hid (FB.out.belowAll hb)
        have LB := hid (LB.out.belowAll hb)
        have HF := hid (HF.out.below hb)
        have HC := hid (HC.out.below hb)
        have HB := hid (HB.out.trans (hb.mono HB.out.size))
        have hsv11 : v10.heap.size ≤ v11.heap.size := by first | exact hb.size | omega
        obtain ⟨u, rfl, -⟩ := hu.sl
        have HU := hid (hu.mono HBc)
        clear hu HBc
        clear hb
        refine hK1060.out _ _ (WB.out) (fun hHeld1060 => ?_)
        clear hK1060 K1060
        try simp only [Act.put, List.setIfInBounds_toArray, List.set_cons_zero, List.set_cons_succ]
        refine wpAnyH_ready (rs := [11]) (by kernel_rfl) (by simp) (AllReadyH.cons (o := { dst := none, op := Op.store 22 (Operand.tmp 53) (Operand.tmp 49), type := 0, pos := "buffer.go:19", after := _, guard := none }) rfl (fun K1061 hK1061 => ?_) AllReadyH.nil)
        refine step_store_box rfl 22 _ _ rfl (w.heap.size) 2 (.slice qv10.a qv10.n qv10.c) rfl rfl rfl rfl (by kernel_rfl) _ _ PB.out (by simp) ?_
        intro v12 b g z
        have hsv12 : v11.heap.size ≤ v12.heap.size := by omega
        have HF := hid (HF.out.put g PB.out (by decide))
        have HC := hid (HC.out.put g PB.out (by decide))
        have HU := hid (HU.out.put g PB.out (by decide))
        have PB := hid (show BoxAt v12 (w.heap.size) 25 #[.int .i64 d, .bool k, .slice qv10.a qv10.n qv10.c, .slice sa M sc] from by simpa using b)
        have WB := hid (WB.out.grown g (fun e => by have := Option.some.inj e; omega))
        have RB := hid (RB.out.grown g (fun e => by have := Option.some.inj e; omega))
        have FB := hid (FB.out.grown g (fun e => by have := Option.some.inj e; omega))
        have LB := hid (LB.out.grown g (fun e => by have := Option.some.inj e; omega))
        have HB := hid (HB.out.trans (grown_below g (by omega) (by omega)))
        clear b g z
        refine hK1061.out _ _ (WB.out) (fun hHeld1061 => ?_)
        clear hK1061 K1061
        try simp only [Act.put]
        refine wpAnyH_take (i := 12) (oi := { dst := some 54, op := Op.fieldAddr 25 (Operand.tmp 3) 3, type := 0, pos := "buffer.go:19", after := _, guard := none }) (v := ?_) rfl (by kernel_rfl) (by kernel_rfl) (by kernel_rfl) (fun _ _ _ h => h) (Or.inl ⟨by rfl, ?_⟩) (by assumption) ?_
        rotate_left
        · (intro w hSw; (try dsimp only at hSw); go_simp; try with_reducible rfl)
        simp only [Act.put, List.setIfInBounds_toArray, List.set_cons_zero, List.set_cons_succ]
        refine wpAnyH_ready (rs := [13]) (by kernel_rfl) (by simp) (AllReadyH.cons (o := { dst := none, op := Op.store 23 (Operand.tmp 54) (Operand.tmp 52), type := 0, pos := "buffer.go:19", after := _, guard := none }) rfl (fun K1063 hK1063 => ?_) AllReadyH.nil)
        refine step_store_box rfl 23 _ _ rfl (w.heap.size) 3 (.slice u.a u.n u.c) rfl rfl rfl rfl (by kernel_rfl) _ _ PB.out (by simp) ?_
        intro v13 b g z
        have hsv13 : v12.heap.size ≤ v13.heap.size := by omega
        have HF := hid (HF.out.put g PB.out (by decide))
        have HC := hid (HC.out.put g PB.out (by decide))
        have HU := hid (HU.out.put g PB.out (by decide))
        have PB := hid (show BoxAt v13 (w.heap.size) 25 #[.int .i64 d, .bool k, .slice qv10.a qv10.n qv10.c, .slice u.a u.n u.c] from by simpa using b)
        have WB := hid (WB.out.grown g (fun e => by have := Option.some.inj e; omega))
        have RB := hid (RB.out.grown g (fun e => by have := Option.some.inj e; omega))
        have FB := hid (FB.out.grown g (fun e => by have := Option.some.inj e; omega))
        have LB := hid (LB.out.grown g (fun e => by have := Option.some.inj e; omega))
        have HB := hid (HB.out.trans (grown_below g (by omega) (by omega)))
        clear b g z
        refine hK1063.out _ _ (WB.out) (fun hHeld1063 => ?_)
        clear hK1063 K1063
        try simp only [Act.put]
        refine wpAnyH_done (by kernel_rfl) ?_ _
        clear hHeld hHeld1005 hHeld1006 hHeld1049 hHeld1057 hHeld1058 hHeld1060 hHeld1061 hHeld1063
        have kPB0 : v13.cell? ⟨w.heap.size, 0, none⟩ = some (.int .i64 d) := (BoxAt.cell PB.out 0).trans rfl
        have kPB1 : v13.cell? ⟨w.heap.size, 1, none⟩ = some (.bool k) := (BoxAt.cell PB.out 1).trans rfl
        have kPB2 : v13.cell? ⟨w.heap.size, 2, none⟩ = some (.slice qv10.a qv10.n qv10.c) := (BoxAt.cell PB.out 2).trans rfl
        have kPB3 : v13.cell? ⟨w.heap.size, 3, none⟩ = some (.slice u.a u.n u.c) := (BoxAt.cell PB.out 3).trans rfl
        have kWB0 : v13.cell? ⟨v1.heap.size, 0, none⟩ = some (.int .i64 p) := (BoxAt.cell WB.out 0).trans rfl
        have kWB1 : v13.cell? ⟨v1.heap.size, 1, none⟩ = some (.int .i64 r) := (BoxAt.cell WB.out 1).trans rfl
        have kWB2 : v13.cell? ⟨v1.heap.size, 2, none⟩ = some (.int .i64 v) := (BoxAt.cell WB.out 2).trans rfl
        have kFB0 : v13.cell? ⟨v4.heap.size, 0, none⟩ = some (.int .i64 fp) := (BoxAt.cell FB.out 0).trans rfl
        have kFB2 : v13.cell? ⟨v4.heap.size, 2, none⟩ = some (.int .i64 fv) := (BoxAt.cell FB.out 2).trans rfl
        have FL6 := hid trivial
        go_wp2_with (first
          | (refine wpList_load_box rfl 25 _ rfl (w.heap.size) rfl _ _ PB.out _ Try.underlying25 Try.infoBf ?_)
          | (have hfl := FL6.out
             refine wpList_store_whole rfl 25 _ _ rfl rfl (v2.heap.size) rfl [.int .i64 d, .bool k, .slice qv10.a qv10.n qv10.c, .slice u.a u.n u.c] rfl _ _ RB.out rfl Try.infoBf (by simp [Value.oneCell']) ?_
             intro v14 b g z
             have hsv14 : v13.heap.size ≤ v14.heap.size := by omega
             have HF := hid (HF.out.put g RB.out (by decide))
             have HC := hid (HC.out.put g RB.out (by decide))
             have HU := hid (HU.out.put g RB.out (by decide))
             have RB := hid (show BoxAt v14 (v2.heap.size) 25 #[.int .i64 d, .bool k, .slice qv10.a qv10.n qv10.c, .slice u.a u.n u.c] from b)
             have PB := hid (PB.out.grown g (fun e => by have := Option.some.inj e; omega))
             have WB := hid (WB.out.grown g (fun e => by have := Option.some.inj e; omega))
             have FB := hid (FB.out.grown g (fun e => by have := Option.some.inj e; omega))
             have LB := hid (LB.out.grown g (fun e => by have := Option.some.inj e; omega))
             have HB := hid (HB.out.trans (grown_below g (by omega) (by omega)))
             clear kPB0 kPB1 kPB2 kPB3 kWB0 kWB1 kWB2 kFB0 kFB2
             have kPB0 : v14.cell? ⟨w.heap.size, 0, none⟩ = some (.int .i64 d) := (BoxAt.cell PB.out 0).trans rfl
             have kPB1 : v14.cell? ⟨w.heap.size, 1, none⟩ = some (.bool k) := (BoxAt.cell PB.out 1).trans rfl
             have kPB2 : v14.cell? ⟨w.heap.size, 2, none⟩ = some (.slice qv10.a qv10.n qv10.c) := (BoxAt.cell PB.out 2).trans rfl
             have kPB3 : v14.cell? ⟨w.heap.size, 3, none⟩ = some (.slice u.a u.n u.c) := (BoxAt.cell PB.out 3).trans rfl
             have kWB0 : v14.cell? ⟨v1.heap.size, 0, none⟩ = some (.int .i64 p) := (BoxAt.cell WB.out 0).trans rfl
             have kWB1 : v14.cell? ⟨v1.heap.size, 1, none⟩ = some (.int .i64 r) := (BoxAt.cell WB.out 1).trans rfl
             have kWB2 : v14.cell? ⟨v1.heap.size, 2, none⟩ = some (.int .i64 v) := (BoxAt.cell WB.out 2).trans rfl
             have kFB0 : v14.cell? ⟨v4.heap.size, 0, none⟩ = some (.int .i64 fp) := (BoxAt.cell FB.out 0).trans rfl
             have kFB2 : v14.cell? ⟨v4.heap.size, 2, none⟩ = some (.int .i64 fv) := (BoxAt.cell FB.out 2).trans rfl
             clear b g z hfl FL6)
          | fail)
        refine bodyPost_ret (results_box_tmp2 rfl _ _ (v2.heap.size) 25 _ (0, 0) _ rfl RB.out Try.underlying25 rfl Try.infoBf) rfl ?_
        exact ⟨qv10, u, ⟨none, 0, 0⟩, rfl, HC.out, HU.out, OWk.nil _ _, HB.out⟩
  case' b1005_5 =>
    refine step_litI rfl (.tmp 47) rfl (v) rfl ?_
    intro v8 b h
    have LB := hid (show BoxAt v8 v7.heap.size 3 #[.int .i64 (v)] from b)
    have PB := hid (PB.out.belowAll h)
    have WB := hid (WB.out.belowAll h)
    have RB := hid (RB.out.belowAll h)
    have FB := hid (FB.out.belowAll h)
    have HF := hid (HF.out.below h)
    have HB := hid (HB.out.trans (h.mono HB.out.size))
    have hsv8 : v7.heap.size ≤ v8.heap.size := by first | exact h.size | omega
    clear b h
    refine hK1005.out _ _ (WB.out) (fun hHeld1005 => ?_)
    clear hK1005 K1005
    try simp only [Act.put, List.setIfInBounds_toArray, List.set_cons_zero, List.set_cons_succ]
    refine wpAnyH_ready (rs := [1, 8]) (by kernel_rfl) (by simp) (AllReadyH.cons (o := { dst := some 44, op := Op.load 22 (Operand.tmp 43), type := 22, pos := "buffer.go:19", after := _, guard := none }) rfl (fun K1064 hK1064 => ?b1064_1) (AllReadyH.cons (o := { dst := some 51, op := Op.load 23 (Operand.tmp 50), type := 23, pos := "buffer.go:19", after := _, guard := none }) rfl (fun K1064 hK1064 => ?b1064_8) AllReadyH.nil))
    case' b1064_1 =>
      have cG : v8.cell? ⟨w.heap.size, 2, none⟩ = some (.slice xa N xc) := (BoxAt.cell PB.out 2).trans rfl
      go_simp
      clear cG
      refine hK1064.out _ _ (WB.out) (fun hHeld1064 => ?_)
      clear hK1064 K1064
      try simp only [Act.put, List.setIfInBounds_toArray, List.set_cons_zero, List.set_cons_succ]
      refine wpAnyH_ready (rs := [2, 8]) (by kernel_rfl) (by simp) (AllReadyH.cons (o := { dst := some 45, op := Op.call { callee := Callee.value (Operand.func 17), args := #[Operand.tmp 44, Operand.const (Value.int IntKind.i64 0)], argTypes := #[22, 3] }, type := 22, pos := "buffer.go:19", after := _, guard := none }) rfl (fun K1065 hK1065 => ?b1065_2) (AllReadyH.cons (o := { dst := some 51, op := Op.load 23 (Operand.tmp 50), type := 23, pos := "buffer.go:19", after := _, guard := none }) rfl (fun K1065 hK1065 => ?b1065_8) AllReadyH.nil))
      case' b1065_2 =>
        go_simp
        refine (from_left0 HX.out HN.out).mono ?_
        rintro e v9 ⟨ga, rfl, hu, hb⟩
        have PB := hid (PB.out.belowAll hb)
        have WB := hid (WB.out.belowAll hb)
        have RB := hid (RB.out.belowAll hb)
        have FB := hid (FB.out.belowAll hb)
        have LB := hid (LB.out.belowAll hb)
        have HF := hid (HF.out.below hb)
        have HB := hid (HB.out.trans (hb.mono HB.out.size))
        have hsv9 : v8.heap.size ≤ v9.heap.size := by first | exact hb.size | omega
        have HG := hid hu
        clear hu
        clear hb
        refine hK1065.out _ _ (WB.out) (fun hHeld1065 => ?_)
        clear hK1065 K1065
        try simp only [Act.put, List.setIfInBounds_toArray, List.set_cons_zero, List.set_cons_succ]
        refine wpAnyH_ready (rs := [6, 8]) (by kernel_rfl) (by simp) (AllReadyH.cons (o := { dst := some 49, op := Op.call { callee := Callee.builtin Builtin.append, args := #[Operand.tmp 45, Operand.tmp 48], argTypes := #[22, 22] }, type := 22, pos := "buffer.go:19", after := _, guard := none }) rfl (fun K1066 hK1066 => ?b1066_6) (AllReadyH.cons (o := { dst := some 51, op := Op.load 23 (Operand.tmp 50), type := 23, pos := "buffer.go:19", after := _, guard := none }) rfl (fun K1066 hK1066 => ?b1066_8) AllReadyH.nil))
        case' b1066_6 =>
          have HBp := HB.out.size
          refine step_app_full rfl (.tmp 45) (.tmp 48) rfl _ _ rfl HN.out.symm (HG.out.below HB.out) _ (v) _ rfl LB.out (by have := HXL.out; omega) ?_
          intro uv10 v10 ho h
          obtain ⟨qv10, rfl, -⟩ := ho.sl
          have PB := hid (PB.out.belowAll h)
          have WB := hid (WB.out.belowAll h)
          have RB := hid (RB.out.belowAll h)
          have FB := hid (FB.out.belowAll h)
          have LB := hid (LB.out.belowAll h)
          have HF := hid (HF.out.below h)
          have HB := hid (HB.out.trans (h.mono HB.out.size))
          have hsv10 : v9.heap.size ≤ v10.heap.size := by first | exact h.size | omega
          have HC := hid ho
          clear ho h
          have HC := hid (HC.out.mono HBp)
          clear HBp HG
          refine hK1066.out _ _ (WB.out) (fun hHeld1066 => ?_)
          clear hK1066 K1066
          try simp only [Act.put, List.setIfInBounds_toArray, List.set_cons_zero, List.set_cons_succ]
          refine wpAnyH_ready (rs := [8]) (by kernel_rfl) (by simp) (AllReadyH.cons (o := { dst := some 51, op := Op.load 23 (Operand.tmp 50), type := 23, pos := "buffer.go:19", after := _, guard := none }) rfl (fun K1067 hK1067 => ?_) AllReadyH.nil)
          have cG : v10.cell? ⟨w.heap.size, 3, none⟩ = some (.slice sa M sc) := (BoxAt.cell PB.out 3).trans rfl
          go_simp
          clear cG
          refine hK1067.out _ _ (WB.out) (fun hHeld1067 => ?_)
          clear hK1067 K1067
          try simp only [Act.put, List.setIfInBounds_toArray, List.set_cons_zero, List.set_cons_succ]
          refine wpAnyH_take (i := 10) (oi := { dst := some 53, op := Op.fieldAddr 25 (Operand.tmp 3) 2, type := 0, pos := "buffer.go:19", after := _, guard := none }) (v := ?_) rfl (by kernel_rfl) (by kernel_rfl) (by kernel_rfl) (fun _ _ _ h => h) (Or.inl ⟨by rfl, ?_⟩) (by assumption) ?_
          rotate_left
          · (intro w hSw; (try dsimp only at hSw); go_simp; try with_reducible rfl)
          simp only [Act.put, List.setIfInBounds_toArray, List.set_cons_zero, List.set_cons_succ]
          refine wpAnyH_ready (rs := [9]) (by kernel_rfl) (by simp) (AllReadyH.cons (o := { dst := some 52, op := Op.call { callee := Callee.value (Operand.func 18), args := #[Operand.tmp 51], argTypes := #[23] }, type := 23, pos := "buffer.go:19", after := _, guard := none }) rfl (fun K1069 hK1069 => ?_) AllReadyH.nil)
          have HBc := HB.out.size
          go_simp
          refine (qclone_Wt (HV.out.below HB.out) (by have := HL.out; omega)).mono ?_
          rintro e v11 ⟨uu, rfl, hu, hb⟩
          have PB := hid (PB.out.belowAll hb)
          have WB := hid (WB.out.belowAll hb)
          have RB := hid (RB.out.belowAll hb)
          have FB := hid (FB.out.belowAll hb)
          have LB := hid (LB.out.belowAll hb)
          have HF := hid (HF.out.below hb)
          have HC := hid (HC.out.below hb)
          have HB := hid (HB.out.trans (hb.mono HB.out.size))
          have hsv11 : v10.heap.size ≤ v11.heap.size := by first | exact hb.size | omega
          obtain ⟨u, rfl, -⟩ := hu.sl
          have HU := hid (hu.mono HBc)
          clear hu HBc
          clear hb
          refine hK1069.out _ _ (WB.out) (fun hHeld1069 => ?_)
          clear hK1069 K1069
          try simp only [Act.put, List.setIfInBounds_toArray, List.set_cons_zero, List.set_cons_succ]
          refine wpAnyH_ready (rs := [11]) (by kernel_rfl) (by simp) (AllReadyH.cons (o := { dst := none, op := Op.store 22 (Operand.tmp 53) (Operand.tmp 49), type := 0, pos := "buffer.go:19", after := _, guard := none }) rfl (fun K1070 hK1070 => ?_) AllReadyH.nil)
          refine step_store_box rfl 22 _ _ rfl (w.heap.size) 2 (.slice qv10.a qv10.n qv10.c) rfl rfl rfl rfl (by kernel_rfl) _ _ PB.out (by simp) ?_
          intro v12 b g z
          have hsv12 : v11.heap.size ≤ v12.heap.size := by omega
          have HF := hid (HF.out.put g PB.out (by decide))
          have HC := hid (HC.out.put g PB.out (by decide))
          have HU := hid (HU.out.put g PB.out (by decide))
          have PB := hid (show BoxAt v12 (w.heap.size) 25 #[.int .i64 d, .bool k, .slice qv10.a qv10.n qv10.c, .slice sa M sc] from by simpa using b)
          have WB := hid (WB.out.grown g (fun e => by have := Option.some.inj e; omega))
          have RB := hid (RB.out.grown g (fun e => by have := Option.some.inj e; omega))
          have FB := hid (FB.out.grown g (fun e => by have := Option.some.inj e; omega))
          have LB := hid (LB.out.grown g (fun e => by have := Option.some.inj e; omega))
          have HB := hid (HB.out.trans (grown_below g (by omega) (by omega)))
          clear b g z
          refine hK1070.out _ _ (WB.out) (fun hHeld1070 => ?_)
          clear hK1070 K1070
          try simp only [Act.put]
          refine wpAnyH_take (i := 12) (oi := { dst := some 54, op := Op.fieldAddr 25 (Operand.tmp 3) 3, type := 0, pos := "buffer.go:19", after := _, guard := none }) (v := ?_) rfl (by kernel_rfl) (by kernel_rfl) (by kernel_rfl) (fun _ _ _ h => h) (Or.inl ⟨by rfl, ?_⟩) (by assumption) ?_
          rotate_left
          · (intro w hSw; (try dsimp only at hSw); go_simp; try with_reducible rfl)
          simp only [Act.put, List.setIfInBounds_toArray, List.set_cons_zero, List.set_cons_succ]
          refine wpAnyH_ready (rs := [13]) (by kernel_rfl) (by simp) (AllReadyH.cons (o := { dst := none, op := Op.store 23 (Operand.tmp 54) (Operand.tmp 52), type := 0, pos := "buffer.go:19", after := _, guard := none }) rfl (fun K1072 hK1072 => ?_) AllReadyH.nil)
          refine step_store_box rfl 23 _ _ rfl (w.heap.size) 3 (.slice u.a u.n u.c) rfl rfl rfl rfl (by kernel_rfl) _ _ PB.out (by simp) ?_
          intro v13 b g z
          have hsv13 : v12.heap.size ≤ v13.heap.size := by omega
          have HF := hid (HF.out.put g PB.out (by decide))
          have HC := hid (HC.out.put g PB.out (by decide))
          have HU := hid (HU.out.put g PB.out (by decide))
          have PB := hid (show BoxAt v13 (w.heap.size) 25 #[.int .i64 d, .bool k, .slice qv10.a qv10.n qv10.c, .slice u.a u.n u.c] from by simpa using b)
          have WB := hid (WB.out.grown g (fun e => by have := Option.some.inj e; omega))
          have RB := hid (RB.out.grown g (fun e => by have := Option.some.inj e; omega))
          have FB := hid (FB.out.grown g (fun e => by have := Option.some.inj e; omega))
          have LB := hid (LB.out.grown g (fun e => by have := Option.some.inj e; omega))
          have HB := hid (HB.out.trans (grown_below g (by omega) (by omega)))
          clear b g z
          refine hK1072.out _ _ (WB.out) (fun hHeld1072 => ?_)
          clear hK1072 K1072
          try simp only [Act.put]
          refine wpAnyH_done (by kernel_rfl) ?_ _
          clear hHeld hHeld1005 hHeld1064 hHeld1065 hHeld1066 hHeld1067 hHeld1069 hHeld1070 hHeld1072
          have kPB0 : v13.cell? ⟨w.heap.size, 0, none⟩ = some (.int .i64 d) := (BoxAt.cell PB.out 0).trans rfl
          have kPB1 : v13.cell? ⟨w.heap.size, 1, none⟩ = some (.bool k) := (BoxAt.cell PB.out 1).trans rfl
          have kPB2 : v13.cell? ⟨w.heap.size, 2, none⟩ = some (.slice qv10.a qv10.n qv10.c) := (BoxAt.cell PB.out 2).trans rfl
          have kPB3 : v13.cell? ⟨w.heap.size, 3, none⟩ = some (.slice u.a u.n u.c) := (BoxAt.cell PB.out 3).trans rfl
          have kWB0 : v13.cell? ⟨v1.heap.size, 0, none⟩ = some (.int .i64 p) := (BoxAt.cell WB.out 0).trans rfl
          have kWB1 : v13.cell? ⟨v1.heap.size, 1, none⟩ = some (.int .i64 r) := (BoxAt.cell WB.out 1).trans rfl
          have kWB2 : v13.cell? ⟨v1.heap.size, 2, none⟩ = some (.int .i64 v) := (BoxAt.cell WB.out 2).trans rfl
          have kFB0 : v13.cell? ⟨v4.heap.size, 0, none⟩ = some (.int .i64 fp) := (BoxAt.cell FB.out 0).trans rfl
          have kFB2 : v13.cell? ⟨v4.heap.size, 2, none⟩ = some (.int .i64 fv) := (BoxAt.cell FB.out 2).trans rfl
          have FL6 := hid trivial
          go_wp2_with (first
            | (refine wpList_load_box rfl 25 _ rfl (w.heap.size) rfl _ _ PB.out _ Try.underlying25 Try.infoBf ?_)
            | (have hfl := FL6.out
               refine wpList_store_whole rfl 25 _ _ rfl rfl (v2.heap.size) rfl [.int .i64 d, .bool k, .slice qv10.a qv10.n qv10.c, .slice u.a u.n u.c] rfl _ _ RB.out rfl Try.infoBf (by simp [Value.oneCell']) ?_
               intro v14 b g z
               have hsv14 : v13.heap.size ≤ v14.heap.size := by omega
               have HF := hid (HF.out.put g RB.out (by decide))
               have HC := hid (HC.out.put g RB.out (by decide))
               have HU := hid (HU.out.put g RB.out (by decide))
               have RB := hid (show BoxAt v14 (v2.heap.size) 25 #[.int .i64 d, .bool k, .slice qv10.a qv10.n qv10.c, .slice u.a u.n u.c] from b)
               have PB := hid (PB.out.grown g (fun e => by have := Option.some.inj e; omega))
               have WB := hid (WB.out.grown g (fun e => by have := Option.some.inj e; omega))
               have FB := hid (FB.out.grown g (fun e => by have := Option.some.inj e; omega))
               have LB := hid (LB.out.grown g (fun e => by have := Option.some.inj e; omega))
               have HB := hid (HB.out.trans (grown_below g (by omega) (by omega)))
               clear kPB0 kPB1 kPB2 kPB3 kWB0 kWB1 kWB2 kFB0 kFB2
               have kPB0 : v14.cell? ⟨w.heap.size, 0, none⟩ = some (.int .i64 d) := (BoxAt.cell PB.out 0).trans rfl
               have kPB1 : v14.cell? ⟨w.heap.size, 1, none⟩ = some (.bool k) := (BoxAt.cell PB.out 1).trans rfl
               have kPB2 : v14.cell? ⟨w.heap.size, 2, none⟩ = some (.slice qv10.a qv10.n qv10.c) := (BoxAt.cell PB.out 2).trans rfl
               have kPB3 : v14.cell? ⟨w.heap.size, 3, none⟩ = some (.slice u.a u.n u.c) := (BoxAt.cell PB.out 3).trans rfl
               have kWB0 : v14.cell? ⟨v1.heap.size, 0, none⟩ = some (.int .i64 p) := (BoxAt.cell WB.out 0).trans rfl
               have kWB1 : v14.cell? ⟨v1.heap.size, 1, none⟩ = some (.int .i64 r) := (BoxAt.cell WB.out 1).trans rfl
               have kWB2 : v14.cell? ⟨v1.heap.size, 2, none⟩ = some (.int .i64 v) := (BoxAt.cell WB.out 2).trans rfl
               have kFB0 : v14.cell? ⟨v4.heap.size, 0, none⟩ = some (.int .i64 fp) := (BoxAt.cell FB.out 0).trans rfl
               have kFB2 : v14.cell? ⟨v4.heap.size, 2, none⟩ = some (.int .i64 fv) := (BoxAt.cell FB.out 2).trans rfl
               clear b g z hfl FL6)
            | fail)
          refine bodyPost_ret (results_box_tmp2 rfl _ _ (v2.heap.size) 25 _ (0, 0) _ rfl RB.out Try.underlying25 rfl Try.infoBf) rfl ?_
          exact ⟨qv10, u, ⟨none, 0, 0⟩, rfl, HC.out, HU.out, OWk.nil _ _, HB.out⟩
        case' b1066_8 =>
          have cG : v9.cell? ⟨w.heap.size, 3, none⟩ = some (.slice sa M sc) := (BoxAt.cell PB.out 3).trans rfl
          go_simp
          clear cG
          refine hK1066.out _ _ (WB.out) (fun hHeld1066 => ?_)
          clear hK1066 K1066
          try simp only [Act.put, List.setIfInBounds_toArray, List.set_cons_zero, List.set_cons_succ]
          refine wpAnyH_ready (rs := [6]) (by kernel_rfl) (by simp) (AllReadyH.cons (o := { dst := some 49, op := Op.call { callee := Callee.builtin Builtin.append, args := #[Operand.tmp 45, Operand.tmp 48], argTypes := #[22, 22] }, type := 22, pos := "buffer.go:19", after := _, guard := none }) rfl (fun K1073 hK1073 => ?_) AllReadyH.nil)
          have HBp := HB.out.size
          refine step_app_full rfl (.tmp 45) (.tmp 48) rfl _ _ rfl HN.out.symm (HG.out.below HB.out) _ (v) _ rfl LB.out (by have := HXL.out; omega) ?_
          intro uv10 v10 ho h
          obtain ⟨qv10, rfl, -⟩ := ho.sl
          have PB := hid (PB.out.belowAll h)
          have WB := hid (WB.out.belowAll h)
          have RB := hid (RB.out.belowAll h)
          have FB := hid (FB.out.belowAll h)
          have LB := hid (LB.out.belowAll h)
          have HF := hid (HF.out.below h)
          have HB := hid (HB.out.trans (h.mono HB.out.size))
          have hsv10 : v9.heap.size ≤ v10.heap.size := by first | exact h.size | omega
          have HC := hid ho
          clear ho h
          have HC := hid (HC.out.mono HBp)
          clear HBp HG
          refine hK1073.out _ _ (WB.out) (fun hHeld1073 => ?_)
          clear hK1073 K1073
          try simp only [Act.put, List.setIfInBounds_toArray, List.set_cons_zero, List.set_cons_succ]
          refine wpAnyH_take (i := 10) (oi := { dst := some 53, op := Op.fieldAddr 25 (Operand.tmp 3) 2, type := 0, pos := "buffer.go:19", after := _, guard := none }) (v := ?_) rfl (by kernel_rfl) (by kernel_rfl) (by kernel_rfl) (fun _ _ _ h => h) (Or.inl ⟨by rfl, ?_⟩) (by assumption) ?_
          rotate_left
          · (intro w hSw; (try dsimp only at hSw); go_simp; try with_reducible rfl)
          simp only [Act.put, List.setIfInBounds_toArray, List.set_cons_zero, List.set_cons_succ]
          refine wpAnyH_ready (rs := [9]) (by kernel_rfl) (by simp) (AllReadyH.cons (o := { dst := some 52, op := Op.call { callee := Callee.value (Operand.func 18), args := #[Operand.tmp 51], argTypes := #[23] }, type := 23, pos := "buffer.go:19", after := _, guard := none }) rfl (fun K1075 hK1075 => ?_) AllReadyH.nil)
          have HBc := HB.out.size
          go_simp
          refine (qclone_Wt (HV.out.below HB.out) (by have := HL.out; omega)).mono ?_
          rintro e v11 ⟨uu, rfl, hu, hb⟩
          have PB := hid (PB.out.belowAll hb)
          have WB := hid (WB.out.belowAll hb)
          have RB := hid (RB.out.belowAll hb)
          have FB := hid (FB.out.belowAll hb)
          have LB := hid (LB.out.belowAll hb)
          have HF := hid (HF.out.below hb)
          have HC := hid (HC.out.below hb)
          have HB := hid (HB.out.trans (hb.mono HB.out.size))
          have hsv11 : v10.heap.size ≤ v11.heap.size := by first | exact hb.size | omega
          obtain ⟨u, rfl, -⟩ := hu.sl
          have HU := hid (hu.mono HBc)
          clear hu HBc
          clear hb
          refine hK1075.out _ _ (WB.out) (fun hHeld1075 => ?_)
          clear hK1075 K1075
          try simp only [Act.put, List.setIfInBounds_toArray, List.set_cons_zero, List.set_cons_succ]
          refine wpAnyH_ready (rs := [11]) (by kernel_rfl) (by simp) (AllReadyH.cons (o := { dst := none, op := Op.store 22 (Operand.tmp 53) (Operand.tmp 49), type := 0, pos := "buffer.go:19", after := _, guard := none }) rfl (fun K1076 hK1076 => ?_) AllReadyH.nil)
          refine step_store_box rfl 22 _ _ rfl (w.heap.size) 2 (.slice qv10.a qv10.n qv10.c) rfl rfl rfl rfl (by kernel_rfl) _ _ PB.out (by simp) ?_
          intro v12 b g z
          have hsv12 : v11.heap.size ≤ v12.heap.size := by omega
          have HF := hid (HF.out.put g PB.out (by decide))
          have HC := hid (HC.out.put g PB.out (by decide))
          have HU := hid (HU.out.put g PB.out (by decide))
          have PB := hid (show BoxAt v12 (w.heap.size) 25 #[.int .i64 d, .bool k, .slice qv10.a qv10.n qv10.c, .slice sa M sc] from by simpa using b)
          have WB := hid (WB.out.grown g (fun e => by have := Option.some.inj e; omega))
          have RB := hid (RB.out.grown g (fun e => by have := Option.some.inj e; omega))
          have FB := hid (FB.out.grown g (fun e => by have := Option.some.inj e; omega))
          have LB := hid (LB.out.grown g (fun e => by have := Option.some.inj e; omega))
          have HB := hid (HB.out.trans (grown_below g (by omega) (by omega)))
          clear b g z
          refine hK1076.out _ _ (WB.out) (fun hHeld1076 => ?_)
          clear hK1076 K1076
          try simp only [Act.put]
          refine wpAnyH_take (i := 12) (oi := { dst := some 54, op := Op.fieldAddr 25 (Operand.tmp 3) 3, type := 0, pos := "buffer.go:19", after := _, guard := none }) (v := ?_) rfl (by kernel_rfl) (by kernel_rfl) (by kernel_rfl) (fun _ _ _ h => h) (Or.inl ⟨by rfl, ?_⟩) (by assumption) ?_
          rotate_left
          · (intro w hSw; (try dsimp only at hSw); go_simp; try with_reducible rfl)
          simp only [Act.put, List.setIfInBounds_toArray, List.set_cons_zero, List.set_cons_succ]
          refine wpAnyH_ready (rs := [13]) (by kernel_rfl) (by simp) (AllReadyH.cons (o := { dst := none, op := Op.store 23 (Operand.tmp 54) (Operand.tmp 52), type := 0, pos := "buffer.go:19", after := _, guard := none }) rfl (fun K1078 hK1078 => ?_) AllReadyH.nil)
          refine step_store_box rfl 23 _ _ rfl (w.heap.size) 3 (.slice u.a u.n u.c) rfl rfl rfl rfl (by kernel_rfl) _ _ PB.out (by simp) ?_
          intro v13 b g z
          have hsv13 : v12.heap.size ≤ v13.heap.size := by omega
          have HF := hid (HF.out.put g PB.out (by decide))
          have HC := hid (HC.out.put g PB.out (by decide))
          have HU := hid (HU.out.put g PB.out (by decide))
          have PB := hid (show BoxAt v13 (w.heap.size) 25 #[.int .i64 d, .bool k, .slice qv10.a qv10.n qv10.c, .slice u.a u.n u.c] from by simpa using b)
          have WB := hid (WB.out.grown g (fun e => by have := Option.some.inj e; omega))
          have RB := hid (RB.out.grown g (fun e => by have := Option.some.inj e; omega))
          have FB := hid (FB.out.grown g (fun e => by have := Option.some.inj e; omega))
          have LB := hid (LB.out.grown g (fun e => by have := Option.some.inj e; omega))
          have HB := hid (HB.out.trans (grown_below g (by omega) (by omega)))
          clear b g z
          refine hK1078.out _ _ (WB.out) (fun hHeld1078 => ?_)
          clear hK1078 K1078
          try simp only [Act.put]
          refine wpAnyH_done (by kernel_rfl) ?_ _
          clear hHeld hHeld1005 hHeld1064 hHeld1065 hHeld1066 hHeld1073 hHeld1075 hHeld1076 hHeld1078
          have kPB0 : v13.cell? ⟨w.heap.size, 0, none⟩ = some (.int .i64 d) := (BoxAt.cell PB.out 0).trans rfl
          have kPB1 : v13.cell? ⟨w.heap.size, 1, none⟩ = some (.bool k) := (BoxAt.cell PB.out 1).trans rfl
          have kPB2 : v13.cell? ⟨w.heap.size, 2, none⟩ = some (.slice qv10.a qv10.n qv10.c) := (BoxAt.cell PB.out 2).trans rfl
          have kPB3 : v13.cell? ⟨w.heap.size, 3, none⟩ = some (.slice u.a u.n u.c) := (BoxAt.cell PB.out 3).trans rfl
          have kWB0 : v13.cell? ⟨v1.heap.size, 0, none⟩ = some (.int .i64 p) := (BoxAt.cell WB.out 0).trans rfl
          have kWB1 : v13.cell? ⟨v1.heap.size, 1, none⟩ = some (.int .i64 r) := (BoxAt.cell WB.out 1).trans rfl
          have kWB2 : v13.cell? ⟨v1.heap.size, 2, none⟩ = some (.int .i64 v) := (BoxAt.cell WB.out 2).trans rfl
          have kFB0 : v13.cell? ⟨v4.heap.size, 0, none⟩ = some (.int .i64 fp) := (BoxAt.cell FB.out 0).trans rfl
          have kFB2 : v13.cell? ⟨v4.heap.size, 2, none⟩ = some (.int .i64 fv) := (BoxAt.cell FB.out 2).trans rfl
          have FL6 := hid trivial
          go_wp2_with (first
            | (refine wpList_load_box rfl 25 _ rfl (w.heap.size) rfl _ _ PB.out _ Try.underlying25 Try.infoBf ?_)
            | (have hfl := FL6.out
               refine wpList_store_whole rfl 25 _ _ rfl rfl (v2.heap.size) rfl [.int .i64 d, .bool k, .slice qv10.a qv10.n qv10.c, .slice u.a u.n u.c] rfl _ _ RB.out rfl Try.infoBf (by simp [Value.oneCell']) ?_
               intro v14 b g z
               have hsv14 : v13.heap.size ≤ v14.heap.size := by omega
               have HF := hid (HF.out.put g RB.out (by decide))
               have HC := hid (HC.out.put g RB.out (by decide))
               have HU := hid (HU.out.put g RB.out (by decide))
               have RB := hid (show BoxAt v14 (v2.heap.size) 25 #[.int .i64 d, .bool k, .slice qv10.a qv10.n qv10.c, .slice u.a u.n u.c] from b)
               have PB := hid (PB.out.grown g (fun e => by have := Option.some.inj e; omega))
               have WB := hid (WB.out.grown g (fun e => by have := Option.some.inj e; omega))
               have FB := hid (FB.out.grown g (fun e => by have := Option.some.inj e; omega))
               have LB := hid (LB.out.grown g (fun e => by have := Option.some.inj e; omega))
               have HB := hid (HB.out.trans (grown_below g (by omega) (by omega)))
               clear kPB0 kPB1 kPB2 kPB3 kWB0 kWB1 kWB2 kFB0 kFB2
               have kPB0 : v14.cell? ⟨w.heap.size, 0, none⟩ = some (.int .i64 d) := (BoxAt.cell PB.out 0).trans rfl
               have kPB1 : v14.cell? ⟨w.heap.size, 1, none⟩ = some (.bool k) := (BoxAt.cell PB.out 1).trans rfl
               have kPB2 : v14.cell? ⟨w.heap.size, 2, none⟩ = some (.slice qv10.a qv10.n qv10.c) := (BoxAt.cell PB.out 2).trans rfl
               have kPB3 : v14.cell? ⟨w.heap.size, 3, none⟩ = some (.slice u.a u.n u.c) := (BoxAt.cell PB.out 3).trans rfl
               have kWB0 : v14.cell? ⟨v1.heap.size, 0, none⟩ = some (.int .i64 p) := (BoxAt.cell WB.out 0).trans rfl
               have kWB1 : v14.cell? ⟨v1.heap.size, 1, none⟩ = some (.int .i64 r) := (BoxAt.cell WB.out 1).trans rfl
               have kWB2 : v14.cell? ⟨v1.heap.size, 2, none⟩ = some (.int .i64 v) := (BoxAt.cell WB.out 2).trans rfl
               have kFB0 : v14.cell? ⟨v4.heap.size, 0, none⟩ = some (.int .i64 fp) := (BoxAt.cell FB.out 0).trans rfl
               have kFB2 : v14.cell? ⟨v4.heap.size, 2, none⟩ = some (.int .i64 fv) := (BoxAt.cell FB.out 2).trans rfl
               clear b g z hfl FL6)
            | fail)
          refine bodyPost_ret (results_box_tmp2 rfl _ _ (v2.heap.size) 25 _ (0, 0) _ rfl RB.out Try.underlying25 rfl Try.infoBf) rfl ?_
          exact ⟨qv10, u, ⟨none, 0, 0⟩, rfl, HC.out, HU.out, OWk.nil _ _, HB.out⟩
      case' b1065_8 =>
        have cG : v8.cell? ⟨w.heap.size, 3, none⟩ = some (.slice sa M sc) := (BoxAt.cell PB.out 3).trans rfl
        go_simp
        clear cG
        refine hK1065.out _ _ (WB.out) (fun hHeld1065 => ?_)
        clear hK1065 K1065
        try simp only [Act.put, List.setIfInBounds_toArray, List.set_cons_zero, List.set_cons_succ]
        refine wpAnyH_ready (rs := [2]) (by kernel_rfl) (by simp) (AllReadyH.cons (o := { dst := some 45, op := Op.call { callee := Callee.value (Operand.func 17), args := #[Operand.tmp 44, Operand.const (Value.int IntKind.i64 0)], argTypes := #[22, 3] }, type := 22, pos := "buffer.go:19", after := _, guard := none }) rfl (fun K1079 hK1079 => ?_) AllReadyH.nil)
        go_simp
        refine (from_left0 HX.out HN.out).mono ?_
        rintro e v9 ⟨ga, rfl, hu, hb⟩
        have PB := hid (PB.out.belowAll hb)
        have WB := hid (WB.out.belowAll hb)
        have RB := hid (RB.out.belowAll hb)
        have FB := hid (FB.out.belowAll hb)
        have LB := hid (LB.out.belowAll hb)
        have HF := hid (HF.out.below hb)
        have HB := hid (HB.out.trans (hb.mono HB.out.size))
        have hsv9 : v8.heap.size ≤ v9.heap.size := by first | exact hb.size | omega
        have HG := hid hu
        clear hu
        clear hb
        refine hK1079.out _ _ (WB.out) (fun hHeld1079 => ?_)
        clear hK1079 K1079
        try simp only [Act.put, List.setIfInBounds_toArray, List.set_cons_zero, List.set_cons_succ]
        refine wpAnyH_ready (rs := [6]) (by kernel_rfl) (by simp) (AllReadyH.cons (o := { dst := some 49, op := Op.call { callee := Callee.builtin Builtin.append, args := #[Operand.tmp 45, Operand.tmp 48], argTypes := #[22, 22] }, type := 22, pos := "buffer.go:19", after := _, guard := none }) rfl (fun K1080 hK1080 => ?_) AllReadyH.nil)
        have HBp := HB.out.size
        refine step_app_full rfl (.tmp 45) (.tmp 48) rfl _ _ rfl HN.out.symm (HG.out.below HB.out) _ (v) _ rfl LB.out (by have := HXL.out; omega) ?_
        intro uv10 v10 ho h
        obtain ⟨qv10, rfl, -⟩ := ho.sl
        have PB := hid (PB.out.belowAll h)
        have WB := hid (WB.out.belowAll h)
        have RB := hid (RB.out.belowAll h)
        have FB := hid (FB.out.belowAll h)
        have LB := hid (LB.out.belowAll h)
        have HF := hid (HF.out.below h)
        have HB := hid (HB.out.trans (h.mono HB.out.size))
        have hsv10 : v9.heap.size ≤ v10.heap.size := by first | exact h.size | omega
        have HC := hid ho
        clear ho h
        have HC := hid (HC.out.mono HBp)
        clear HBp HG
        refine hK1080.out _ _ (WB.out) (fun hHeld1080 => ?_)
        clear hK1080 K1080
        try simp only [Act.put, List.setIfInBounds_toArray, List.set_cons_zero, List.set_cons_succ]
        refine wpAnyH_take (i := 10) (oi := { dst := some 53, op := Op.fieldAddr 25 (Operand.tmp 3) 2, type := 0, pos := "buffer.go:19", after := _, guard := none }) (v := ?_) rfl (by kernel_rfl) (by kernel_rfl) (by kernel_rfl) (fun _ _ _ h => h) (Or.inl ⟨by rfl, ?_⟩) (by assumption) ?_
        rotate_left
        · (intro w hSw; (try dsimp only at hSw); go_simp; try with_reducible rfl)
        simp only [Act.put, List.setIfInBounds_toArray, List.set_cons_zero, List.set_cons_succ]
        refine wpAnyH_ready (rs := [9]) (by kernel_rfl) (by simp) (AllReadyH.cons (o := { dst := some 52, op := Op.call { callee := Callee.value (Operand.func 18), args := #[Operand.tmp 51], argTypes := #[23] }, type := 23, pos := "buffer.go:19", after := _, guard := none }) rfl (fun K1082 hK1082 => ?_) AllReadyH.nil)
        have HBc := HB.out.size
        go_simp
        refine (qclone_Wt (HV.out.below HB.out) (by have := HL.out; omega)).mono ?_
        rintro e v11 ⟨uu, rfl, hu, hb⟩
        have PB := hid (PB.out.belowAll hb)
        have WB := hid (WB.out.belowAll hb)
        have RB := hid (RB.out.belowAll hb)
        have FB := hid (FB.out.belowAll hb)
        have LB := hid (LB.out.belowAll hb)
        have HF := hid (HF.out.below hb)
        have HC := hid (HC.out.below hb)
        have HB := hid (HB.out.trans (hb.mono HB.out.size))
        have hsv11 : v10.heap.size ≤ v11.heap.size := by first | exact hb.size | omega
        obtain ⟨u, rfl, -⟩ := hu.sl
        have HU := hid (hu.mono HBc)
        clear hu HBc
        clear hb
        refine hK1082.out _ _ (WB.out) (fun hHeld1082 => ?_)
        clear hK1082 K1082
        try simp only [Act.put, List.setIfInBounds_toArray, List.set_cons_zero, List.set_cons_succ]
        refine wpAnyH_ready (rs := [11]) (by kernel_rfl) (by simp) (AllReadyH.cons (o := { dst := none, op := Op.store 22 (Operand.tmp 53) (Operand.tmp 49), type := 0, pos := "buffer.go:19", after := _, guard := none }) rfl (fun K1083 hK1083 => ?_) AllReadyH.nil)
        refine step_store_box rfl 22 _ _ rfl (w.heap.size) 2 (.slice qv10.a qv10.n qv10.c) rfl rfl rfl rfl (by kernel_rfl) _ _ PB.out (by simp) ?_
        intro v12 b g z
        have hsv12 : v11.heap.size ≤ v12.heap.size := by omega
        have HF := hid (HF.out.put g PB.out (by decide))
        have HC := hid (HC.out.put g PB.out (by decide))
        have HU := hid (HU.out.put g PB.out (by decide))
        have PB := hid (show BoxAt v12 (w.heap.size) 25 #[.int .i64 d, .bool k, .slice qv10.a qv10.n qv10.c, .slice sa M sc] from by simpa using b)
        have WB := hid (WB.out.grown g (fun e => by have := Option.some.inj e; omega))
        have RB := hid (RB.out.grown g (fun e => by have := Option.some.inj e; omega))
        have FB := hid (FB.out.grown g (fun e => by have := Option.some.inj e; omega))
        have LB := hid (LB.out.grown g (fun e => by have := Option.some.inj e; omega))
        have HB := hid (HB.out.trans (grown_below g (by omega) (by omega)))
        clear b g z
        refine hK1083.out _ _ (WB.out) (fun hHeld1083 => ?_)
        clear hK1083 K1083
        try simp only [Act.put]
        refine wpAnyH_take (i := 12) (oi := { dst := some 54, op := Op.fieldAddr 25 (Operand.tmp 3) 3, type := 0, pos := "buffer.go:19", after := _, guard := none }) (v := ?_) rfl (by kernel_rfl) (by kernel_rfl) (by kernel_rfl) (fun _ _ _ h => h) (Or.inl ⟨by rfl, ?_⟩) (by assumption) ?_
        rotate_left
        · (intro w hSw; (try dsimp only at hSw); go_simp; try with_reducible rfl)
        simp only [Act.put, List.setIfInBounds_toArray, List.set_cons_zero, List.set_cons_succ]
        refine wpAnyH_ready (rs := [13]) (by kernel_rfl) (by simp) (AllReadyH.cons (o := { dst := none, op := Op.store 23 (Operand.tmp 54) (Operand.tmp 52), type := 0, pos := "buffer.go:19", after := _, guard := none }) rfl (fun K1085 hK1085 => ?_) AllReadyH.nil)
        refine step_store_box rfl 23 _ _ rfl (w.heap.size) 3 (.slice u.a u.n u.c) rfl rfl rfl rfl (by kernel_rfl) _ _ PB.out (by simp) ?_
        intro v13 b g z
        have hsv13 : v12.heap.size ≤ v13.heap.size := by omega
        have HF := hid (HF.out.put g PB.out (by decide))
        have HC := hid (HC.out.put g PB.out (by decide))
        have HU := hid (HU.out.put g PB.out (by decide))
        have PB := hid (show BoxAt v13 (w.heap.size) 25 #[.int .i64 d, .bool k, .slice qv10.a qv10.n qv10.c, .slice u.a u.n u.c] from by simpa using b)
        have WB := hid (WB.out.grown g (fun e => by have := Option.some.inj e; omega))
        have RB := hid (RB.out.grown g (fun e => by have := Option.some.inj e; omega))
        have FB := hid (FB.out.grown g (fun e => by have := Option.some.inj e; omega))
        have LB := hid (LB.out.grown g (fun e => by have := Option.some.inj e; omega))
        have HB := hid (HB.out.trans (grown_below g (by omega) (by omega)))
        clear b g z
        refine hK1085.out _ _ (WB.out) (fun hHeld1085 => ?_)
        clear hK1085 K1085
        try simp only [Act.put]
        refine wpAnyH_done (by kernel_rfl) ?_ _
        clear hHeld hHeld1005 hHeld1064 hHeld1065 hHeld1079 hHeld1080 hHeld1082 hHeld1083 hHeld1085
        have kPB0 : v13.cell? ⟨w.heap.size, 0, none⟩ = some (.int .i64 d) := (BoxAt.cell PB.out 0).trans rfl
        have kPB1 : v13.cell? ⟨w.heap.size, 1, none⟩ = some (.bool k) := (BoxAt.cell PB.out 1).trans rfl
        have kPB2 : v13.cell? ⟨w.heap.size, 2, none⟩ = some (.slice qv10.a qv10.n qv10.c) := (BoxAt.cell PB.out 2).trans rfl
        have kPB3 : v13.cell? ⟨w.heap.size, 3, none⟩ = some (.slice u.a u.n u.c) := (BoxAt.cell PB.out 3).trans rfl
        have kWB0 : v13.cell? ⟨v1.heap.size, 0, none⟩ = some (.int .i64 p) := (BoxAt.cell WB.out 0).trans rfl
        have kWB1 : v13.cell? ⟨v1.heap.size, 1, none⟩ = some (.int .i64 r) := (BoxAt.cell WB.out 1).trans rfl
        have kWB2 : v13.cell? ⟨v1.heap.size, 2, none⟩ = some (.int .i64 v) := (BoxAt.cell WB.out 2).trans rfl
        have kFB0 : v13.cell? ⟨v4.heap.size, 0, none⟩ = some (.int .i64 fp) := (BoxAt.cell FB.out 0).trans rfl
        have kFB2 : v13.cell? ⟨v4.heap.size, 2, none⟩ = some (.int .i64 fv) := (BoxAt.cell FB.out 2).trans rfl
        have FL6 := hid trivial
        go_wp2_with (first
          | (refine wpList_load_box rfl 25 _ rfl (w.heap.size) rfl _ _ PB.out _ Try.underlying25 Try.infoBf ?_)
          | (have hfl := FL6.out
             refine wpList_store_whole rfl 25 _ _ rfl rfl (v2.heap.size) rfl [.int .i64 d, .bool k, .slice qv10.a qv10.n qv10.c, .slice u.a u.n u.c] rfl _ _ RB.out rfl Try.infoBf (by simp [Value.oneCell']) ?_
             intro v14 b g z
             have hsv14 : v13.heap.size ≤ v14.heap.size := by omega
             have HF := hid (HF.out.put g RB.out (by decide))
             have HC := hid (HC.out.put g RB.out (by decide))
             have HU := hid (HU.out.put g RB.out (by decide))
             have RB := hid (show BoxAt v14 (v2.heap.size) 25 #[.int .i64 d, .bool k, .slice qv10.a qv10.n qv10.c, .slice u.a u.n u.c] from b)
             have PB := hid (PB.out.grown g (fun e => by have := Option.some.inj e; omega))
             have WB := hid (WB.out.grown g (fun e => by have := Option.some.inj e; omega))
             have FB := hid (FB.out.grown g (fun e => by have := Option.some.inj e; omega))
             have LB := hid (LB.out.grown g (fun e => by have := Option.some.inj e; omega))
             have HB := hid (HB.out.trans (grown_below g (by omega) (by omega)))
             clear kPB0 kPB1 kPB2 kPB3 kWB0 kWB1 kWB2 kFB0 kFB2
             have kPB0 : v14.cell? ⟨w.heap.size, 0, none⟩ = some (.int .i64 d) := (BoxAt.cell PB.out 0).trans rfl
             have kPB1 : v14.cell? ⟨w.heap.size, 1, none⟩ = some (.bool k) := (BoxAt.cell PB.out 1).trans rfl
             have kPB2 : v14.cell? ⟨w.heap.size, 2, none⟩ = some (.slice qv10.a qv10.n qv10.c) := (BoxAt.cell PB.out 2).trans rfl
             have kPB3 : v14.cell? ⟨w.heap.size, 3, none⟩ = some (.slice u.a u.n u.c) := (BoxAt.cell PB.out 3).trans rfl
             have kWB0 : v14.cell? ⟨v1.heap.size, 0, none⟩ = some (.int .i64 p) := (BoxAt.cell WB.out 0).trans rfl
             have kWB1 : v14.cell? ⟨v1.heap.size, 1, none⟩ = some (.int .i64 r) := (BoxAt.cell WB.out 1).trans rfl
             have kWB2 : v14.cell? ⟨v1.heap.size, 2, none⟩ = some (.int .i64 v) := (BoxAt.cell WB.out 2).trans rfl
             have kFB0 : v14.cell? ⟨v4.heap.size, 0, none⟩ = some (.int .i64 fp) := (BoxAt.cell FB.out 0).trans rfl
             have kFB2 : v14.cell? ⟨v4.heap.size, 2, none⟩ = some (.int .i64 fv) := (BoxAt.cell FB.out 2).trans rfl
             clear b g z hfl FL6)
          | fail)
        refine bodyPost_ret (results_box_tmp2 rfl _ _ (v2.heap.size) 25 _ (0, 0) _ rfl RB.out Try.underlying25 rfl Try.infoBf) rfl ?_
        exact ⟨qv10, u, ⟨none, 0, 0⟩, rfl, HC.out, HU.out, OWk.nil _ _, HB.out⟩
    case' b1064_8 =>
      have cG : v8.cell? ⟨w.heap.size, 3, none⟩ = some (.slice sa M sc) := (BoxAt.cell PB.out 3).trans rfl
      go_simp
      clear cG
      refine hK1064.out _ _ (WB.out) (fun hHeld1064 => ?_)
      clear hK1064 K1064
      try simp only [Act.put, List.setIfInBounds_toArray, List.set_cons_zero, List.set_cons_succ]
      refine wpAnyH_ready (rs := [1]) (by kernel_rfl) (by simp) (AllReadyH.cons (o := { dst := some 44, op := Op.load 22 (Operand.tmp 43), type := 22, pos := "buffer.go:19", after := _, guard := none }) rfl (fun K1086 hK1086 => ?_) AllReadyH.nil)
      have cG : v8.cell? ⟨w.heap.size, 2, none⟩ = some (.slice xa N xc) := (BoxAt.cell PB.out 2).trans rfl
      go_simp
      clear cG
      refine hK1086.out _ _ (WB.out) (fun hHeld1086 => ?_)
      clear hK1086 K1086
      try simp only [Act.put, List.setIfInBounds_toArray, List.set_cons_zero, List.set_cons_succ]
      refine wpAnyH_ready (rs := [2]) (by kernel_rfl) (by simp) (AllReadyH.cons (o := { dst := some 45, op := Op.call { callee := Callee.value (Operand.func 17), args := #[Operand.tmp 44, Operand.const (Value.int IntKind.i64 0)], argTypes := #[22, 3] }, type := 22, pos := "buffer.go:19", after := _, guard := none }) rfl (fun K1087 hK1087 => ?_) AllReadyH.nil)
      go_simp
      refine (from_left0 HX.out HN.out).mono ?_
      rintro e v9 ⟨ga, rfl, hu, hb⟩
      have PB := hid (PB.out.belowAll hb)
      have WB := hid (WB.out.belowAll hb)
      have RB := hid (RB.out.belowAll hb)
      have FB := hid (FB.out.belowAll hb)
      have LB := hid (LB.out.belowAll hb)
      have HF := hid (HF.out.below hb)
      have HB := hid (HB.out.trans (hb.mono HB.out.size))
      have hsv9 : v8.heap.size ≤ v9.heap.size := by first | exact hb.size | omega
      have HG := hid hu
      clear hu
      clear hb
      refine hK1087.out _ _ (WB.out) (fun hHeld1087 => ?_)
      clear hK1087 K1087
      try simp only [Act.put, List.setIfInBounds_toArray, List.set_cons_zero, List.set_cons_succ]
      refine wpAnyH_ready (rs := [6]) (by kernel_rfl) (by simp) (AllReadyH.cons (o := { dst := some 49, op := Op.call { callee := Callee.builtin Builtin.append, args := #[Operand.tmp 45, Operand.tmp 48], argTypes := #[22, 22] }, type := 22, pos := "buffer.go:19", after := _, guard := none }) rfl (fun K1088 hK1088 => ?_) AllReadyH.nil)
      have HBp := HB.out.size
      refine step_app_full rfl (.tmp 45) (.tmp 48) rfl _ _ rfl HN.out.symm (HG.out.below HB.out) _ (v) _ rfl LB.out (by have := HXL.out; omega) ?_
      intro uv10 v10 ho h
      obtain ⟨qv10, rfl, -⟩ := ho.sl
      have PB := hid (PB.out.belowAll h)
      have WB := hid (WB.out.belowAll h)
      have RB := hid (RB.out.belowAll h)
      have FB := hid (FB.out.belowAll h)
      have LB := hid (LB.out.belowAll h)
      have HF := hid (HF.out.below h)
      have HB := hid (HB.out.trans (h.mono HB.out.size))
      have hsv10 : v9.heap.size ≤ v10.heap.size := by first | exact h.size | omega
      have HC := hid ho
      clear ho h
      have HC := hid (HC.out.mono HBp)
      clear HBp HG
      refine hK1088.out _ _ (WB.out) (fun hHeld1088 => ?_)
      clear hK1088 K1088
      try simp only [Act.put, List.setIfInBounds_toArray, List.set_cons_zero, List.set_cons_succ]
      refine wpAnyH_take (i := 10) (oi := { dst := some 53, op := Op.fieldAddr 25 (Operand.tmp 3) 2, type := 0, pos := "buffer.go:19", after := _, guard := none }) (v := ?_) rfl (by kernel_rfl) (by kernel_rfl) (by kernel_rfl) (fun _ _ _ h => h) (Or.inl ⟨by rfl, ?_⟩) (by assumption) ?_
      rotate_left
      · (intro w hSw; (try dsimp only at hSw); go_simp; try with_reducible rfl)
      simp only [Act.put, List.setIfInBounds_toArray, List.set_cons_zero, List.set_cons_succ]
      refine wpAnyH_ready (rs := [9]) (by kernel_rfl) (by simp) (AllReadyH.cons (o := { dst := some 52, op := Op.call { callee := Callee.value (Operand.func 18), args := #[Operand.tmp 51], argTypes := #[23] }, type := 23, pos := "buffer.go:19", after := _, guard := none }) rfl (fun K1090 hK1090 => ?_) AllReadyH.nil)
      have HBc := HB.out.size
      go_simp
      refine (qclone_Wt (HV.out.below HB.out) (by have := HL.out; omega)).mono ?_
      rintro e v11 ⟨uu, rfl, hu, hb⟩
      have PB := hid (PB.out.belowAll hb)
      have WB := hid (WB.out.belowAll hb)
      have RB := hid (RB.out.belowAll hb)
      have FB := hid (FB.out.belowAll hb)
      have LB := hid (LB.out.belowAll hb)
      have HF := hid (HF.out.below hb)
      have HC := hid (HC.out.below hb)
      have HB := hid (HB.out.trans (hb.mono HB.out.size))
      have hsv11 : v10.heap.size ≤ v11.heap.size := by first | exact hb.size | omega
      obtain ⟨u, rfl, -⟩ := hu.sl
      have HU := hid (hu.mono HBc)
      clear hu HBc
      clear hb
      refine hK1090.out _ _ (WB.out) (fun hHeld1090 => ?_)
      clear hK1090 K1090
      try simp only [Act.put, List.setIfInBounds_toArray, List.set_cons_zero, List.set_cons_succ]
      refine wpAnyH_ready (rs := [11]) (by kernel_rfl) (by simp) (AllReadyH.cons (o := { dst := none, op := Op.store 22 (Operand.tmp 53) (Operand.tmp 49), type := 0, pos := "buffer.go:19", after := _, guard := none }) rfl (fun K1091 hK1091 => ?_) AllReadyH.nil)
      refine step_store_box rfl 22 _ _ rfl (w.heap.size) 2 (.slice qv10.a qv10.n qv10.c) rfl rfl rfl rfl (by kernel_rfl) _ _ PB.out (by simp) ?_
      intro v12 b g z
      have hsv12 : v11.heap.size ≤ v12.heap.size := by omega
      have HF := hid (HF.out.put g PB.out (by decide))
      have HC := hid (HC.out.put g PB.out (by decide))
      have HU := hid (HU.out.put g PB.out (by decide))
      have PB := hid (show BoxAt v12 (w.heap.size) 25 #[.int .i64 d, .bool k, .slice qv10.a qv10.n qv10.c, .slice sa M sc] from by simpa using b)
      have WB := hid (WB.out.grown g (fun e => by have := Option.some.inj e; omega))
      have RB := hid (RB.out.grown g (fun e => by have := Option.some.inj e; omega))
      have FB := hid (FB.out.grown g (fun e => by have := Option.some.inj e; omega))
      have LB := hid (LB.out.grown g (fun e => by have := Option.some.inj e; omega))
      have HB := hid (HB.out.trans (grown_below g (by omega) (by omega)))
      clear b g z
      refine hK1091.out _ _ (WB.out) (fun hHeld1091 => ?_)
      clear hK1091 K1091
      try simp only [Act.put]
      refine wpAnyH_take (i := 12) (oi := { dst := some 54, op := Op.fieldAddr 25 (Operand.tmp 3) 3, type := 0, pos := "buffer.go:19", after := _, guard := none }) (v := ?_) rfl (by kernel_rfl) (by kernel_rfl) (by kernel_rfl) (fun _ _ _ h => h) (Or.inl ⟨by rfl, ?_⟩) (by assumption) ?_
      rotate_left
      · (intro w hSw; (try dsimp only at hSw); go_simp; try with_reducible rfl)
      simp only [Act.put, List.setIfInBounds_toArray, List.set_cons_zero, List.set_cons_succ]
      refine wpAnyH_ready (rs := [13]) (by kernel_rfl) (by simp) (AllReadyH.cons (o := { dst := none, op := Op.store 23 (Operand.tmp 54) (Operand.tmp 52), type := 0, pos := "buffer.go:19", after := _, guard := none }) rfl (fun K1093 hK1093 => ?_) AllReadyH.nil)
      refine step_store_box rfl 23 _ _ rfl (w.heap.size) 3 (.slice u.a u.n u.c) rfl rfl rfl rfl (by kernel_rfl) _ _ PB.out (by simp) ?_
      intro v13 b g z
      have hsv13 : v12.heap.size ≤ v13.heap.size := by omega
      have HF := hid (HF.out.put g PB.out (by decide))
      have HC := hid (HC.out.put g PB.out (by decide))
      have HU := hid (HU.out.put g PB.out (by decide))
      have PB := hid (show BoxAt v13 (w.heap.size) 25 #[.int .i64 d, .bool k, .slice qv10.a qv10.n qv10.c, .slice u.a u.n u.c] from by simpa using b)
      have WB := hid (WB.out.grown g (fun e => by have := Option.some.inj e; omega))
      have RB := hid (RB.out.grown g (fun e => by have := Option.some.inj e; omega))
      have FB := hid (FB.out.grown g (fun e => by have := Option.some.inj e; omega))
      have LB := hid (LB.out.grown g (fun e => by have := Option.some.inj e; omega))
      have HB := hid (HB.out.trans (grown_below g (by omega) (by omega)))
      clear b g z
      refine hK1093.out _ _ (WB.out) (fun hHeld1093 => ?_)
      clear hK1093 K1093
      try simp only [Act.put]
      refine wpAnyH_done (by kernel_rfl) ?_ _
      clear hHeld hHeld1005 hHeld1064 hHeld1086 hHeld1087 hHeld1088 hHeld1090 hHeld1091 hHeld1093
      have kPB0 : v13.cell? ⟨w.heap.size, 0, none⟩ = some (.int .i64 d) := (BoxAt.cell PB.out 0).trans rfl
      have kPB1 : v13.cell? ⟨w.heap.size, 1, none⟩ = some (.bool k) := (BoxAt.cell PB.out 1).trans rfl
      have kPB2 : v13.cell? ⟨w.heap.size, 2, none⟩ = some (.slice qv10.a qv10.n qv10.c) := (BoxAt.cell PB.out 2).trans rfl
      have kPB3 : v13.cell? ⟨w.heap.size, 3, none⟩ = some (.slice u.a u.n u.c) := (BoxAt.cell PB.out 3).trans rfl
      have kWB0 : v13.cell? ⟨v1.heap.size, 0, none⟩ = some (.int .i64 p) := (BoxAt.cell WB.out 0).trans rfl
      have kWB1 : v13.cell? ⟨v1.heap.size, 1, none⟩ = some (.int .i64 r) := (BoxAt.cell WB.out 1).trans rfl
      have kWB2 : v13.cell? ⟨v1.heap.size, 2, none⟩ = some (.int .i64 v) := (BoxAt.cell WB.out 2).trans rfl
      have kFB0 : v13.cell? ⟨v4.heap.size, 0, none⟩ = some (.int .i64 fp) := (BoxAt.cell FB.out 0).trans rfl
      have kFB2 : v13.cell? ⟨v4.heap.size, 2, none⟩ = some (.int .i64 fv) := (BoxAt.cell FB.out 2).trans rfl
      have FL6 := hid trivial
      go_wp2_with (first
        | (refine wpList_load_box rfl 25 _ rfl (w.heap.size) rfl _ _ PB.out _ Try.underlying25 Try.infoBf ?_)
        | (have hfl := FL6.out
           refine wpList_store_whole rfl 25 _ _ rfl rfl (v2.heap.size) rfl [.int .i64 d, .bool k, .slice qv10.a qv10.n qv10.c, .slice u.a u.n u.c] rfl _ _ RB.out rfl Try.infoBf (by simp [Value.oneCell']) ?_
           intro v14 b g z
           have hsv14 : v13.heap.size ≤ v14.heap.size := by omega
           have HF := hid (HF.out.put g RB.out (by decide))
           have HC := hid (HC.out.put g RB.out (by decide))
           have HU := hid (HU.out.put g RB.out (by decide))
           have RB := hid (show BoxAt v14 (v2.heap.size) 25 #[.int .i64 d, .bool k, .slice qv10.a qv10.n qv10.c, .slice u.a u.n u.c] from b)
           have PB := hid (PB.out.grown g (fun e => by have := Option.some.inj e; omega))
           have WB := hid (WB.out.grown g (fun e => by have := Option.some.inj e; omega))
           have FB := hid (FB.out.grown g (fun e => by have := Option.some.inj e; omega))
           have LB := hid (LB.out.grown g (fun e => by have := Option.some.inj e; omega))
           have HB := hid (HB.out.trans (grown_below g (by omega) (by omega)))
           clear kPB0 kPB1 kPB2 kPB3 kWB0 kWB1 kWB2 kFB0 kFB2
           have kPB0 : v14.cell? ⟨w.heap.size, 0, none⟩ = some (.int .i64 d) := (BoxAt.cell PB.out 0).trans rfl
           have kPB1 : v14.cell? ⟨w.heap.size, 1, none⟩ = some (.bool k) := (BoxAt.cell PB.out 1).trans rfl
           have kPB2 : v14.cell? ⟨w.heap.size, 2, none⟩ = some (.slice qv10.a qv10.n qv10.c) := (BoxAt.cell PB.out 2).trans rfl
           have kPB3 : v14.cell? ⟨w.heap.size, 3, none⟩ = some (.slice u.a u.n u.c) := (BoxAt.cell PB.out 3).trans rfl
           have kWB0 : v14.cell? ⟨v1.heap.size, 0, none⟩ = some (.int .i64 p) := (BoxAt.cell WB.out 0).trans rfl
           have kWB1 : v14.cell? ⟨v1.heap.size, 1, none⟩ = some (.int .i64 r) := (BoxAt.cell WB.out 1).trans rfl
           have kWB2 : v14.cell? ⟨v1.heap.size, 2, none⟩ = some (.int .i64 v) := (BoxAt.cell WB.out 2).trans rfl
           have kFB0 : v14.cell? ⟨v4.heap.size, 0, none⟩ = some (.int .i64 fp) := (BoxAt.cell FB.out 0).trans rfl
           have kFB2 : v14.cell? ⟨v4.heap.size, 2, none⟩ = some (.int .i64 fv) := (BoxAt.cell FB.out 2).trans rfl
           clear b g z hfl FL6)
        | fail)
      refine bodyPost_ret (results_box_tmp2 rfl _ _ (v2.heap.size) 25 _ (0, 0) _ rfl RB.out Try.underlying25 rfl Try.infoBf) rfl ?_
      exact ⟨qv10, u, ⟨none, 0, 0⟩, rfl, HC.out, HU.out, OWk.nil _ _, HB.out⟩
  case' b1005_8 =>
    have cG : v7.cell? ⟨w.heap.size, 3, none⟩ = some (.slice sa M sc) := (BoxAt.cell PB.out 3).trans rfl
    go_simp
    clear cG
    refine hK1005.out _ _ (WB.out) (fun hHeld1005 => ?_)
    clear hK1005 K1005
    try simp only [Act.put, List.setIfInBounds_toArray, List.set_cons_zero, List.set_cons_succ]
    refine wpAnyH_ready (rs := [1, 5]) (by kernel_rfl) (by simp) (AllReadyH.cons (o := { dst := some 44, op := Op.load 22 (Operand.tmp 43), type := 22, pos := "buffer.go:19", after := _, guard := none }) rfl (fun K1094 hK1094 => ?b1094_1) (AllReadyH.cons (o := { dst := some 48, op := Op.buildSlice 22 1 #[(0, Operand.tmp 47)], type := 22, pos := "buffer.go:19", after := _, guard := none }) rfl (fun K1094 hK1094 => ?b1094_5) AllReadyH.nil))
    case' b1094_1 =>
      have cG : v7.cell? ⟨w.heap.size, 2, none⟩ = some (.slice xa N xc) := (BoxAt.cell PB.out 2).trans rfl
      go_simp
      clear cG
      refine hK1094.out _ _ (WB.out) (fun hHeld1094 => ?_)
      clear hK1094 K1094
      try simp only [Act.put, List.setIfInBounds_toArray, List.set_cons_zero, List.set_cons_succ]
      refine wpAnyH_ready (rs := [2, 5]) (by kernel_rfl) (by simp) (AllReadyH.cons (o := { dst := some 45, op := Op.call { callee := Callee.value (Operand.func 17), args := #[Operand.tmp 44, Operand.const (Value.int IntKind.i64 0)], argTypes := #[22, 3] }, type := 22, pos := "buffer.go:19", after := _, guard := none }) rfl (fun K1095 hK1095 => ?b1095_2) (AllReadyH.cons (o := { dst := some 48, op := Op.buildSlice 22 1 #[(0, Operand.tmp 47)], type := 22, pos := "buffer.go:19", after := _, guard := none }) rfl (fun K1095 hK1095 => ?b1095_5) AllReadyH.nil))
      case' b1095_2 =>
        go_simp
        refine (from_left0 HX.out HN.out).mono ?_
        rintro e v8 ⟨ga, rfl, hu, hb⟩
        have PB := hid (PB.out.belowAll hb)
        have WB := hid (WB.out.belowAll hb)
        have RB := hid (RB.out.belowAll hb)
        have FB := hid (FB.out.belowAll hb)
        have HF := hid (HF.out.below hb)
        have HB := hid (HB.out.trans (hb.mono HB.out.size))
        have hsv8 : v7.heap.size ≤ v8.heap.size := by first | exact hb.size | omega
        have HG := hid hu
        clear hu
        clear hb
        refine hK1095.out _ _ (WB.out) (fun hHeld1095 => ?_)
        clear hK1095 K1095
        try simp only [Act.put, List.setIfInBounds_toArray, List.set_cons_zero, List.set_cons_succ]
        refine wpAnyH_ready (rs := [5]) (by kernel_rfl) (by simp) (AllReadyH.cons (o := { dst := some 48, op := Op.buildSlice 22 1 #[(0, Operand.tmp 47)], type := 22, pos := "buffer.go:19", after := _, guard := none }) rfl (fun K1096 hK1096 => ?_) AllReadyH.nil)
        refine step_litI rfl (.tmp 47) rfl (v) rfl ?_
        intro v9 b h
        have LB := hid (show BoxAt v9 v8.heap.size 3 #[.int .i64 (v)] from b)
        have PB := hid (PB.out.belowAll h)
        have WB := hid (WB.out.belowAll h)
        have RB := hid (RB.out.belowAll h)
        have FB := hid (FB.out.belowAll h)
        have HF := hid (HF.out.below h)
        have HB := hid (HB.out.trans (h.mono HB.out.size))
        have hsv9 : v8.heap.size ≤ v9.heap.size := by first | exact h.size | omega
        clear b h
        refine hK1096.out _ _ (WB.out) (fun hHeld1096 => ?_)
        clear hK1096 K1096
        try simp only [Act.put, List.setIfInBounds_toArray, List.set_cons_zero, List.set_cons_succ]
        refine wpAnyH_ready (rs := [6]) (by kernel_rfl) (by simp) (AllReadyH.cons (o := { dst := some 49, op := Op.call { callee := Callee.builtin Builtin.append, args := #[Operand.tmp 45, Operand.tmp 48], argTypes := #[22, 22] }, type := 22, pos := "buffer.go:19", after := _, guard := none }) rfl (fun K1097 hK1097 => ?_) AllReadyH.nil)
        have HBp := HB.out.size
        refine step_app_full rfl (.tmp 45) (.tmp 48) rfl _ _ rfl HN.out.symm (HG.out.below HB.out) _ (v) _ rfl LB.out (by have := HXL.out; omega) ?_
        intro uv10 v10 ho h
        obtain ⟨qv10, rfl, -⟩ := ho.sl
        have PB := hid (PB.out.belowAll h)
        have WB := hid (WB.out.belowAll h)
        have RB := hid (RB.out.belowAll h)
        have FB := hid (FB.out.belowAll h)
        have LB := hid (LB.out.belowAll h)
        have HF := hid (HF.out.below h)
        have HB := hid (HB.out.trans (h.mono HB.out.size))
        have hsv10 : v9.heap.size ≤ v10.heap.size := by first | exact h.size | omega
        have HC := hid ho
        clear ho h
        have HC := hid (HC.out.mono HBp)
        clear HBp HG
        refine hK1097.out _ _ (WB.out) (fun hHeld1097 => ?_)
        clear hK1097 K1097
        try simp only [Act.put, List.setIfInBounds_toArray, List.set_cons_zero, List.set_cons_succ]
        refine wpAnyH_take (i := 10) (oi := { dst := some 53, op := Op.fieldAddr 25 (Operand.tmp 3) 2, type := 0, pos := "buffer.go:19", after := _, guard := none }) (v := ?_) rfl (by kernel_rfl) (by kernel_rfl) (by kernel_rfl) (fun _ _ _ h => h) (Or.inl ⟨by rfl, ?_⟩) (by assumption) ?_
        rotate_left
        · (intro w hSw; (try dsimp only at hSw); go_simp; try with_reducible rfl)
        simp only [Act.put, List.setIfInBounds_toArray, List.set_cons_zero, List.set_cons_succ]
        refine wpAnyH_ready (rs := [9]) (by kernel_rfl) (by simp) (AllReadyH.cons (o := { dst := some 52, op := Op.call { callee := Callee.value (Operand.func 18), args := #[Operand.tmp 51], argTypes := #[23] }, type := 23, pos := "buffer.go:19", after := _, guard := none }) rfl (fun K1099 hK1099 => ?_) AllReadyH.nil)
        have HBc := HB.out.size
        go_simp
        refine (qclone_Wt (HV.out.below HB.out) (by have := HL.out; omega)).mono ?_
        rintro e v11 ⟨uu, rfl, hu, hb⟩
        have PB := hid (PB.out.belowAll hb)
        have WB := hid (WB.out.belowAll hb)
        have RB := hid (RB.out.belowAll hb)
        have FB := hid (FB.out.belowAll hb)
        have LB := hid (LB.out.belowAll hb)
        have HF := hid (HF.out.below hb)
        have HC := hid (HC.out.below hb)
        have HB := hid (HB.out.trans (hb.mono HB.out.size))
        have hsv11 : v10.heap.size ≤ v11.heap.size := by first | exact hb.size | omega
        obtain ⟨u, rfl, -⟩ := hu.sl
        have HU := hid (hu.mono HBc)
        clear hu HBc
        clear hb
        refine hK1099.out _ _ (WB.out) (fun hHeld1099 => ?_)
        clear hK1099 K1099
        try simp only [Act.put, List.setIfInBounds_toArray, List.set_cons_zero, List.set_cons_succ]
        refine wpAnyH_ready (rs := [11]) (by kernel_rfl) (by simp) (AllReadyH.cons (o := { dst := none, op := Op.store 22 (Operand.tmp 53) (Operand.tmp 49), type := 0, pos := "buffer.go:19", after := _, guard := none }) rfl (fun K1100 hK1100 => ?_) AllReadyH.nil)
        refine step_store_box rfl 22 _ _ rfl (w.heap.size) 2 (.slice qv10.a qv10.n qv10.c) rfl rfl rfl rfl (by kernel_rfl) _ _ PB.out (by simp) ?_
        intro v12 b g z
        have hsv12 : v11.heap.size ≤ v12.heap.size := by omega
        have HF := hid (HF.out.put g PB.out (by decide))
        have HC := hid (HC.out.put g PB.out (by decide))
        have HU := hid (HU.out.put g PB.out (by decide))
        have PB := hid (show BoxAt v12 (w.heap.size) 25 #[.int .i64 d, .bool k, .slice qv10.a qv10.n qv10.c, .slice sa M sc] from by simpa using b)
        have WB := hid (WB.out.grown g (fun e => by have := Option.some.inj e; omega))
        have RB := hid (RB.out.grown g (fun e => by have := Option.some.inj e; omega))
        have FB := hid (FB.out.grown g (fun e => by have := Option.some.inj e; omega))
        have LB := hid (LB.out.grown g (fun e => by have := Option.some.inj e; omega))
        have HB := hid (HB.out.trans (grown_below g (by omega) (by omega)))
        clear b g z
        refine hK1100.out _ _ (WB.out) (fun hHeld1100 => ?_)
        clear hK1100 K1100
        try simp only [Act.put]
        refine wpAnyH_take (i := 12) (oi := { dst := some 54, op := Op.fieldAddr 25 (Operand.tmp 3) 3, type := 0, pos := "buffer.go:19", after := _, guard := none }) (v := ?_) rfl (by kernel_rfl) (by kernel_rfl) (by kernel_rfl) (fun _ _ _ h => h) (Or.inl ⟨by rfl, ?_⟩) (by assumption) ?_
        rotate_left
        · (intro w hSw; (try dsimp only at hSw); go_simp; try with_reducible rfl)
        simp only [Act.put, List.setIfInBounds_toArray, List.set_cons_zero, List.set_cons_succ]
        refine wpAnyH_ready (rs := [13]) (by kernel_rfl) (by simp) (AllReadyH.cons (o := { dst := none, op := Op.store 23 (Operand.tmp 54) (Operand.tmp 52), type := 0, pos := "buffer.go:19", after := _, guard := none }) rfl (fun K1102 hK1102 => ?_) AllReadyH.nil)
        refine step_store_box rfl 23 _ _ rfl (w.heap.size) 3 (.slice u.a u.n u.c) rfl rfl rfl rfl (by kernel_rfl) _ _ PB.out (by simp) ?_
        intro v13 b g z
        have hsv13 : v12.heap.size ≤ v13.heap.size := by omega
        have HF := hid (HF.out.put g PB.out (by decide))
        have HC := hid (HC.out.put g PB.out (by decide))
        have HU := hid (HU.out.put g PB.out (by decide))
        have PB := hid (show BoxAt v13 (w.heap.size) 25 #[.int .i64 d, .bool k, .slice qv10.a qv10.n qv10.c, .slice u.a u.n u.c] from by simpa using b)
        have WB := hid (WB.out.grown g (fun e => by have := Option.some.inj e; omega))
        have RB := hid (RB.out.grown g (fun e => by have := Option.some.inj e; omega))
        have FB := hid (FB.out.grown g (fun e => by have := Option.some.inj e; omega))
        have LB := hid (LB.out.grown g (fun e => by have := Option.some.inj e; omega))
        have HB := hid (HB.out.trans (grown_below g (by omega) (by omega)))
        clear b g z
        refine hK1102.out _ _ (WB.out) (fun hHeld1102 => ?_)
        clear hK1102 K1102
        try simp only [Act.put]
        refine wpAnyH_done (by kernel_rfl) ?_ _
        clear hHeld hHeld1005 hHeld1094 hHeld1095 hHeld1096 hHeld1097 hHeld1099 hHeld1100 hHeld1102
        have kPB0 : v13.cell? ⟨w.heap.size, 0, none⟩ = some (.int .i64 d) := (BoxAt.cell PB.out 0).trans rfl
        have kPB1 : v13.cell? ⟨w.heap.size, 1, none⟩ = some (.bool k) := (BoxAt.cell PB.out 1).trans rfl
        have kPB2 : v13.cell? ⟨w.heap.size, 2, none⟩ = some (.slice qv10.a qv10.n qv10.c) := (BoxAt.cell PB.out 2).trans rfl
        have kPB3 : v13.cell? ⟨w.heap.size, 3, none⟩ = some (.slice u.a u.n u.c) := (BoxAt.cell PB.out 3).trans rfl
        have kWB0 : v13.cell? ⟨v1.heap.size, 0, none⟩ = some (.int .i64 p) := (BoxAt.cell WB.out 0).trans rfl
        have kWB1 : v13.cell? ⟨v1.heap.size, 1, none⟩ = some (.int .i64 r) := (BoxAt.cell WB.out 1).trans rfl
        have kWB2 : v13.cell? ⟨v1.heap.size, 2, none⟩ = some (.int .i64 v) := (BoxAt.cell WB.out 2).trans rfl
        have kFB0 : v13.cell? ⟨v4.heap.size, 0, none⟩ = some (.int .i64 fp) := (BoxAt.cell FB.out 0).trans rfl
        have kFB2 : v13.cell? ⟨v4.heap.size, 2, none⟩ = some (.int .i64 fv) := (BoxAt.cell FB.out 2).trans rfl
        have FL6 := hid trivial
        go_wp2_with (first
          | (refine wpList_load_box rfl 25 _ rfl (w.heap.size) rfl _ _ PB.out _ Try.underlying25 Try.infoBf ?_)
          | (have hfl := FL6.out
             refine wpList_store_whole rfl 25 _ _ rfl rfl (v2.heap.size) rfl [.int .i64 d, .bool k, .slice qv10.a qv10.n qv10.c, .slice u.a u.n u.c] rfl _ _ RB.out rfl Try.infoBf (by simp [Value.oneCell']) ?_
             intro v14 b g z
             have hsv14 : v13.heap.size ≤ v14.heap.size := by omega
             have HF := hid (HF.out.put g RB.out (by decide))
             have HC := hid (HC.out.put g RB.out (by decide))
             have HU := hid (HU.out.put g RB.out (by decide))
             have RB := hid (show BoxAt v14 (v2.heap.size) 25 #[.int .i64 d, .bool k, .slice qv10.a qv10.n qv10.c, .slice u.a u.n u.c] from b)
             have PB := hid (PB.out.grown g (fun e => by have := Option.some.inj e; omega))
             have WB := hid (WB.out.grown g (fun e => by have := Option.some.inj e; omega))
             have FB := hid (FB.out.grown g (fun e => by have := Option.some.inj e; omega))
             have LB := hid (LB.out.grown g (fun e => by have := Option.some.inj e; omega))
             have HB := hid (HB.out.trans (grown_below g (by omega) (by omega)))
             clear kPB0 kPB1 kPB2 kPB3 kWB0 kWB1 kWB2 kFB0 kFB2
             have kPB0 : v14.cell? ⟨w.heap.size, 0, none⟩ = some (.int .i64 d) := (BoxAt.cell PB.out 0).trans rfl
             have kPB1 : v14.cell? ⟨w.heap.size, 1, none⟩ = some (.bool k) := (BoxAt.cell PB.out 1).trans rfl
             have kPB2 : v14.cell? ⟨w.heap.size, 2, none⟩ = some (.slice qv10.a qv10.n qv10.c) := (BoxAt.cell PB.out 2).trans rfl
             have kPB3 : v14.cell? ⟨w.heap.size, 3, none⟩ = some (.slice u.a u.n u.c) := (BoxAt.cell PB.out 3).trans rfl
             have kWB0 : v14.cell? ⟨v1.heap.size, 0, none⟩ = some (.int .i64 p) := (BoxAt.cell WB.out 0).trans rfl
             have kWB1 : v14.cell? ⟨v1.heap.size, 1, none⟩ = some (.int .i64 r) := (BoxAt.cell WB.out 1).trans rfl
             have kWB2 : v14.cell? ⟨v1.heap.size, 2, none⟩ = some (.int .i64 v) := (BoxAt.cell WB.out 2).trans rfl
             have kFB0 : v14.cell? ⟨v4.heap.size, 0, none⟩ = some (.int .i64 fp) := (BoxAt.cell FB.out 0).trans rfl
             have kFB2 : v14.cell? ⟨v4.heap.size, 2, none⟩ = some (.int .i64 fv) := (BoxAt.cell FB.out 2).trans rfl
             clear b g z hfl FL6)
          | fail)
        refine bodyPost_ret (results_box_tmp2 rfl _ _ (v2.heap.size) 25 _ (0, 0) _ rfl RB.out Try.underlying25 rfl Try.infoBf) rfl ?_
        exact ⟨qv10, u, ⟨none, 0, 0⟩, rfl, HC.out, HU.out, OWk.nil _ _, HB.out⟩
      case' b1095_5 =>
        refine step_litI rfl (.tmp 47) rfl (v) rfl ?_
        intro v8 b h
        have LB := hid (show BoxAt v8 v7.heap.size 3 #[.int .i64 (v)] from b)
        have PB := hid (PB.out.belowAll h)
        have WB := hid (WB.out.belowAll h)
        have RB := hid (RB.out.belowAll h)
        have FB := hid (FB.out.belowAll h)
        have HF := hid (HF.out.below h)
        have HB := hid (HB.out.trans (h.mono HB.out.size))
        have hsv8 : v7.heap.size ≤ v8.heap.size := by first | exact h.size | omega
        clear b h
        refine hK1095.out _ _ (WB.out) (fun hHeld1095 => ?_)
        clear hK1095 K1095
        try simp only [Act.put, List.setIfInBounds_toArray, List.set_cons_zero, List.set_cons_succ]
        refine wpAnyH_ready (rs := [2]) (by kernel_rfl) (by simp) (AllReadyH.cons (o := { dst := some 45, op := Op.call { callee := Callee.value (Operand.func 17), args := #[Operand.tmp 44, Operand.const (Value.int IntKind.i64 0)], argTypes := #[22, 3] }, type := 22, pos := "buffer.go:19", after := _, guard := none }) rfl (fun K1103 hK1103 => ?_) AllReadyH.nil)
        go_simp
        refine (from_left0 HX.out HN.out).mono ?_
        rintro e v9 ⟨ga, rfl, hu, hb⟩
        have PB := hid (PB.out.belowAll hb)
        have WB := hid (WB.out.belowAll hb)
        have RB := hid (RB.out.belowAll hb)
        have FB := hid (FB.out.belowAll hb)
        have LB := hid (LB.out.belowAll hb)
        have HF := hid (HF.out.below hb)
        have HB := hid (HB.out.trans (hb.mono HB.out.size))
        have hsv9 : v8.heap.size ≤ v9.heap.size := by first | exact hb.size | omega
        have HG := hid hu
        clear hu
        clear hb
        refine hK1103.out _ _ (WB.out) (fun hHeld1103 => ?_)
        clear hK1103 K1103
        try simp only [Act.put, List.setIfInBounds_toArray, List.set_cons_zero, List.set_cons_succ]
        refine wpAnyH_ready (rs := [6]) (by kernel_rfl) (by simp) (AllReadyH.cons (o := { dst := some 49, op := Op.call { callee := Callee.builtin Builtin.append, args := #[Operand.tmp 45, Operand.tmp 48], argTypes := #[22, 22] }, type := 22, pos := "buffer.go:19", after := _, guard := none }) rfl (fun K1104 hK1104 => ?_) AllReadyH.nil)
        have HBp := HB.out.size
        refine step_app_full rfl (.tmp 45) (.tmp 48) rfl _ _ rfl HN.out.symm (HG.out.below HB.out) _ (v) _ rfl LB.out (by have := HXL.out; omega) ?_
        intro uv10 v10 ho h
        obtain ⟨qv10, rfl, -⟩ := ho.sl
        have PB := hid (PB.out.belowAll h)
        have WB := hid (WB.out.belowAll h)
        have RB := hid (RB.out.belowAll h)
        have FB := hid (FB.out.belowAll h)
        have LB := hid (LB.out.belowAll h)
        have HF := hid (HF.out.below h)
        have HB := hid (HB.out.trans (h.mono HB.out.size))
        have hsv10 : v9.heap.size ≤ v10.heap.size := by first | exact h.size | omega
        have HC := hid ho
        clear ho h
        have HC := hid (HC.out.mono HBp)
        clear HBp HG
        refine hK1104.out _ _ (WB.out) (fun hHeld1104 => ?_)
        clear hK1104 K1104
        try simp only [Act.put, List.setIfInBounds_toArray, List.set_cons_zero, List.set_cons_succ]
        refine wpAnyH_take (i := 10) (oi := { dst := some 53, op := Op.fieldAddr 25 (Operand.tmp 3) 2, type := 0, pos := "buffer.go:19", after := _, guard := none }) (v := ?_) rfl (by kernel_rfl) (by kernel_rfl) (by kernel_rfl) (fun _ _ _ h => h) (Or.inl ⟨by rfl, ?_⟩) (by assumption) ?_
        rotate_left
        · (intro w hSw; (try dsimp only at hSw); go_simp; try with_reducible rfl)
        simp only [Act.put, List.setIfInBounds_toArray, List.set_cons_zero, List.set_cons_succ]
        refine wpAnyH_ready (rs := [9]) (by kernel_rfl) (by simp) (AllReadyH.cons (o := { dst := some 52, op := Op.call { callee := Callee.value (Operand.func 18), args := #[Operand.tmp 51], argTypes := #[23] }, type := 23, pos := "buffer.go:19", after := _, guard := none }) rfl (fun K1106 hK1106 => ?_) AllReadyH.nil)
        have HBc := HB.out.size
        go_simp
        refine (qclone_Wt (HV.out.below HB.out) (by have := HL.out; omega)).mono ?_
        rintro e v11 ⟨uu, rfl, hu, hb⟩
        have PB := hid (PB.out.belowAll hb)
        have WB := hid (WB.out.belowAll hb)
        have RB := hid (RB.out.belowAll hb)
        have FB := hid (FB.out.belowAll hb)
        have LB := hid (LB.out.belowAll hb)
        have HF := hid (HF.out.below hb)
        have HC := hid (HC.out.below hb)
        have HB := hid (HB.out.trans (hb.mono HB.out.size))
        have hsv11 : v10.heap.size ≤ v11.heap.size := by first | exact hb.size | omega
        obtain ⟨u, rfl, -⟩ := hu.sl
        have HU := hid (hu.mono HBc)
        clear hu HBc
        clear hb
        refine hK1106.out _ _ (WB.out) (fun hHeld1106 => ?_)
        clear hK1106 K1106
        try simp only [Act.put, List.setIfInBounds_toArray, List.set_cons_zero, List.set_cons_succ]
        refine wpAnyH_ready (rs := [11]) (by kernel_rfl) (by simp) (AllReadyH.cons (o := { dst := none, op := Op.store 22 (Operand.tmp 53) (Operand.tmp 49), type := 0, pos := "buffer.go:19", after := _, guard := none }) rfl (fun K1107 hK1107 => ?_) AllReadyH.nil)
        refine step_store_box rfl 22 _ _ rfl (w.heap.size) 2 (.slice qv10.a qv10.n qv10.c) rfl rfl rfl rfl (by kernel_rfl) _ _ PB.out (by simp) ?_
        intro v12 b g z
        have hsv12 : v11.heap.size ≤ v12.heap.size := by omega
        have HF := hid (HF.out.put g PB.out (by decide))
        have HC := hid (HC.out.put g PB.out (by decide))
        have HU := hid (HU.out.put g PB.out (by decide))
        have PB := hid (show BoxAt v12 (w.heap.size) 25 #[.int .i64 d, .bool k, .slice qv10.a qv10.n qv10.c, .slice sa M sc] from by simpa using b)
        have WB := hid (WB.out.grown g (fun e => by have := Option.some.inj e; omega))
        have RB := hid (RB.out.grown g (fun e => by have := Option.some.inj e; omega))
        have FB := hid (FB.out.grown g (fun e => by have := Option.some.inj e; omega))
        have LB := hid (LB.out.grown g (fun e => by have := Option.some.inj e; omega))
        have HB := hid (HB.out.trans (grown_below g (by omega) (by omega)))
        clear b g z
        refine hK1107.out _ _ (WB.out) (fun hHeld1107 => ?_)
        clear hK1107 K1107
        try simp only [Act.put]
        refine wpAnyH_take (i := 12) (oi := { dst := some 54, op := Op.fieldAddr 25 (Operand.tmp 3) 3, type := 0, pos := "buffer.go:19", after := _, guard := none }) (v := ?_) rfl (by kernel_rfl) (by kernel_rfl) (by kernel_rfl) (fun _ _ _ h => h) (Or.inl ⟨by rfl, ?_⟩) (by assumption) ?_
        rotate_left
        · (intro w hSw; (try dsimp only at hSw); go_simp; try with_reducible rfl)
        simp only [Act.put, List.setIfInBounds_toArray, List.set_cons_zero, List.set_cons_succ]
        refine wpAnyH_ready (rs := [13]) (by kernel_rfl) (by simp) (AllReadyH.cons (o := { dst := none, op := Op.store 23 (Operand.tmp 54) (Operand.tmp 52), type := 0, pos := "buffer.go:19", after := _, guard := none }) rfl (fun K1109 hK1109 => ?_) AllReadyH.nil)
        refine step_store_box rfl 23 _ _ rfl (w.heap.size) 3 (.slice u.a u.n u.c) rfl rfl rfl rfl (by kernel_rfl) _ _ PB.out (by simp) ?_
        intro v13 b g z
        have hsv13 : v12.heap.size ≤ v13.heap.size := by omega
        have HF := hid (HF.out.put g PB.out (by decide))
        have HC := hid (HC.out.put g PB.out (by decide))
        have HU := hid (HU.out.put g PB.out (by decide))
        have PB := hid (show BoxAt v13 (w.heap.size) 25 #[.int .i64 d, .bool k, .slice qv10.a qv10.n qv10.c, .slice u.a u.n u.c] from by simpa using b)
        have WB := hid (WB.out.grown g (fun e => by have := Option.some.inj e; omega))
        have RB := hid (RB.out.grown g (fun e => by have := Option.some.inj e; omega))
        have FB := hid (FB.out.grown g (fun e => by have := Option.some.inj e; omega))
        have LB := hid (LB.out.grown g (fun e => by have := Option.some.inj e; omega))
        have HB := hid (HB.out.trans (grown_below g (by omega) (by omega)))
        clear b g z
        refine hK1109.out _ _ (WB.out) (fun hHeld1109 => ?_)
        clear hK1109 K1109
        try simp only [Act.put]
        refine wpAnyH_done (by kernel_rfl) ?_ _
        clear hHeld hHeld1005 hHeld1094 hHeld1095 hHeld1103 hHeld1104 hHeld1106 hHeld1107 hHeld1109
        have kPB0 : v13.cell? ⟨w.heap.size, 0, none⟩ = some (.int .i64 d) := (BoxAt.cell PB.out 0).trans rfl
        have kPB1 : v13.cell? ⟨w.heap.size, 1, none⟩ = some (.bool k) := (BoxAt.cell PB.out 1).trans rfl
        have kPB2 : v13.cell? ⟨w.heap.size, 2, none⟩ = some (.slice qv10.a qv10.n qv10.c) := (BoxAt.cell PB.out 2).trans rfl
        have kPB3 : v13.cell? ⟨w.heap.size, 3, none⟩ = some (.slice u.a u.n u.c) := (BoxAt.cell PB.out 3).trans rfl
        have kWB0 : v13.cell? ⟨v1.heap.size, 0, none⟩ = some (.int .i64 p) := (BoxAt.cell WB.out 0).trans rfl
        have kWB1 : v13.cell? ⟨v1.heap.size, 1, none⟩ = some (.int .i64 r) := (BoxAt.cell WB.out 1).trans rfl
        have kWB2 : v13.cell? ⟨v1.heap.size, 2, none⟩ = some (.int .i64 v) := (BoxAt.cell WB.out 2).trans rfl
        have kFB0 : v13.cell? ⟨v4.heap.size, 0, none⟩ = some (.int .i64 fp) := (BoxAt.cell FB.out 0).trans rfl
        have kFB2 : v13.cell? ⟨v4.heap.size, 2, none⟩ = some (.int .i64 fv) := (BoxAt.cell FB.out 2).trans rfl
        have FL6 := hid trivial
        go_wp2_with (first
          | (refine wpList_load_box rfl 25 _ rfl (w.heap.size) rfl _ _ PB.out _ Try.underlying25 Try.infoBf ?_)
          | (have hfl := FL6.out
             refine wpList_store_whole rfl 25 _ _ rfl rfl (v2.heap.size) rfl [.int .i64 d, .bool k, .slice qv10.a qv10.n qv10.c, .slice u.a u.n u.c] rfl _ _ RB.out rfl Try.infoBf (by simp [Value.oneCell']) ?_
             intro v14 b g z
             have hsv14 : v13.heap.size ≤ v14.heap.size := by omega
             have HF := hid (HF.out.put g RB.out (by decide))
             have HC := hid (HC.out.put g RB.out (by decide))
             have HU := hid (HU.out.put g RB.out (by decide))
             have RB := hid (show BoxAt v14 (v2.heap.size) 25 #[.int .i64 d, .bool k, .slice qv10.a qv10.n qv10.c, .slice u.a u.n u.c] from b)
             have PB := hid (PB.out.grown g (fun e => by have := Option.some.inj e; omega))
             have WB := hid (WB.out.grown g (fun e => by have := Option.some.inj e; omega))
             have FB := hid (FB.out.grown g (fun e => by have := Option.some.inj e; omega))
             have LB := hid (LB.out.grown g (fun e => by have := Option.some.inj e; omega))
             have HB := hid (HB.out.trans (grown_below g (by omega) (by omega)))
             clear kPB0 kPB1 kPB2 kPB3 kWB0 kWB1 kWB2 kFB0 kFB2
             have kPB0 : v14.cell? ⟨w.heap.size, 0, none⟩ = some (.int .i64 d) := (BoxAt.cell PB.out 0).trans rfl
             have kPB1 : v14.cell? ⟨w.heap.size, 1, none⟩ = some (.bool k) := (BoxAt.cell PB.out 1).trans rfl
             have kPB2 : v14.cell? ⟨w.heap.size, 2, none⟩ = some (.slice qv10.a qv10.n qv10.c) := (BoxAt.cell PB.out 2).trans rfl
             have kPB3 : v14.cell? ⟨w.heap.size, 3, none⟩ = some (.slice u.a u.n u.c) := (BoxAt.cell PB.out 3).trans rfl
             have kWB0 : v14.cell? ⟨v1.heap.size, 0, none⟩ = some (.int .i64 p) := (BoxAt.cell WB.out 0).trans rfl
             have kWB1 : v14.cell? ⟨v1.heap.size, 1, none⟩ = some (.int .i64 r) := (BoxAt.cell WB.out 1).trans rfl
             have kWB2 : v14.cell? ⟨v1.heap.size, 2, none⟩ = some (.int .i64 v) := (BoxAt.cell WB.out 2).trans rfl
             have kFB0 : v14.cell? ⟨v4.heap.size, 0, none⟩ = some (.int .i64 fp) := (BoxAt.cell FB.out 0).trans rfl
             have kFB2 : v14.cell? ⟨v4.heap.size, 2, none⟩ = some (.int .i64 fv) := (BoxAt.cell FB.out 2).trans rfl
             clear b g z hfl FL6)
          | fail)
        refine bodyPost_ret (results_box_tmp2 rfl _ _ (v2.heap.size) 25 _ (0, 0) _ rfl RB.out Try.underlying25 rfl Try.infoBf) rfl ?_
        exact ⟨qv10, u, ⟨none, 0, 0⟩, rfl, HC.out, HU.out, OWk.nil _ _, HB.out⟩
    case' b1094_5 =>
      refine step_litI rfl (.tmp 47) rfl (v) rfl ?_
      intro v8 b h
      have LB := hid (show BoxAt v8 v7.heap.size 3 #[.int .i64 (v)] from b)
      have PB := hid (PB.out.belowAll h)
      have WB := hid (WB.out.belowAll h)
      have RB := hid (RB.out.belowAll h)
      have FB := hid (FB.out.belowAll h)
      have HF := hid (HF.out.below h)
      have HB := hid (HB.out.trans (h.mono HB.out.size))
      have hsv8 : v7.heap.size ≤ v8.heap.size := by first | exact h.size | omega
      clear b h
      refine hK1094.out _ _ (WB.out) (fun hHeld1094 => ?_)
      clear hK1094 K1094
      try simp only [Act.put, List.setIfInBounds_toArray, List.set_cons_zero, List.set_cons_succ]
      refine wpAnyH_ready (rs := [1]) (by kernel_rfl) (by simp) (AllReadyH.cons (o := { dst := some 44, op := Op.load 22 (Operand.tmp 43), type := 22, pos := "buffer.go:19", after := _, guard := none }) rfl (fun K1110 hK1110 => ?_) AllReadyH.nil)
      have cG : v8.cell? ⟨w.heap.size, 2, none⟩ = some (.slice xa N xc) := (BoxAt.cell PB.out 2).trans rfl
      go_simp
      clear cG
      refine hK1110.out _ _ (WB.out) (fun hHeld1110 => ?_)
      clear hK1110 K1110
      try simp only [Act.put, List.setIfInBounds_toArray, List.set_cons_zero, List.set_cons_succ]
      refine wpAnyH_ready (rs := [2]) (by kernel_rfl) (by simp) (AllReadyH.cons (o := { dst := some 45, op := Op.call { callee := Callee.value (Operand.func 17), args := #[Operand.tmp 44, Operand.const (Value.int IntKind.i64 0)], argTypes := #[22, 3] }, type := 22, pos := "buffer.go:19", after := _, guard := none }) rfl (fun K1111 hK1111 => ?_) AllReadyH.nil)
      go_simp
      refine (from_left0 HX.out HN.out).mono ?_
      rintro e v9 ⟨ga, rfl, hu, hb⟩
      have PB := hid (PB.out.belowAll hb)
      have WB := hid (WB.out.belowAll hb)
      have RB := hid (RB.out.belowAll hb)
      have FB := hid (FB.out.belowAll hb)
      have LB := hid (LB.out.belowAll hb)
      have HF := hid (HF.out.below hb)
      have HB := hid (HB.out.trans (hb.mono HB.out.size))
      have hsv9 : v8.heap.size ≤ v9.heap.size := by first | exact hb.size | omega
      have HG := hid hu
      clear hu
      clear hb
      refine hK1111.out _ _ (WB.out) (fun hHeld1111 => ?_)
      clear hK1111 K1111
      try simp only [Act.put, List.setIfInBounds_toArray, List.set_cons_zero, List.set_cons_succ]
      refine wpAnyH_ready (rs := [6]) (by kernel_rfl) (by simp) (AllReadyH.cons (o := { dst := some 49, op := Op.call { callee := Callee.builtin Builtin.append, args := #[Operand.tmp 45, Operand.tmp 48], argTypes := #[22, 22] }, type := 22, pos := "buffer.go:19", after := _, guard := none }) rfl (fun K1112 hK1112 => ?_) AllReadyH.nil)
      have HBp := HB.out.size
      refine step_app_full rfl (.tmp 45) (.tmp 48) rfl _ _ rfl HN.out.symm (HG.out.below HB.out) _ (v) _ rfl LB.out (by have := HXL.out; omega) ?_
      intro uv10 v10 ho h
      obtain ⟨qv10, rfl, -⟩ := ho.sl
      have PB := hid (PB.out.belowAll h)
      have WB := hid (WB.out.belowAll h)
      have RB := hid (RB.out.belowAll h)
      have FB := hid (FB.out.belowAll h)
      have LB := hid (LB.out.belowAll h)
      have HF := hid (HF.out.below h)
      have HB := hid (HB.out.trans (h.mono HB.out.size))
      have hsv10 : v9.heap.size ≤ v10.heap.size := by first | exact h.size | omega
      have HC := hid ho
      clear ho h
      have HC := hid (HC.out.mono HBp)
      clear HBp HG
      refine hK1112.out _ _ (WB.out) (fun hHeld1112 => ?_)
      clear hK1112 K1112
      try simp only [Act.put, List.setIfInBounds_toArray, List.set_cons_zero, List.set_cons_succ]
      refine wpAnyH_take (i := 10) (oi := { dst := some 53, op := Op.fieldAddr 25 (Operand.tmp 3) 2, type := 0, pos := "buffer.go:19", after := _, guard := none }) (v := ?_) rfl (by kernel_rfl) (by kernel_rfl) (by kernel_rfl) (fun _ _ _ h => h) (Or.inl ⟨by rfl, ?_⟩) (by assumption) ?_
      rotate_left
      · (intro w hSw; (try dsimp only at hSw); go_simp; try with_reducible rfl)
      simp only [Act.put, List.setIfInBounds_toArray, List.set_cons_zero, List.set_cons_succ]
      refine wpAnyH_ready (rs := [9]) (by kernel_rfl) (by simp) (AllReadyH.cons (o := { dst := some 52, op := Op.call { callee := Callee.value (Operand.func 18), args := #[Operand.tmp 51], argTypes := #[23] }, type := 23, pos := "buffer.go:19", after := _, guard := none }) rfl (fun K1114 hK1114 => ?_) AllReadyH.nil)
      have HBc := HB.out.size
      go_simp
      refine (qclone_Wt (HV.out.below HB.out) (by have := HL.out; omega)).mono ?_
      rintro e v11 ⟨uu, rfl, hu, hb⟩
      have PB := hid (PB.out.belowAll hb)
      have WB := hid (WB.out.belowAll hb)
      have RB := hid (RB.out.belowAll hb)
      have FB := hid (FB.out.belowAll hb)
      have LB := hid (LB.out.belowAll hb)
      have HF := hid (HF.out.below hb)
      have HC := hid (HC.out.below hb)
      have HB := hid (HB.out.trans (hb.mono HB.out.size))
      have hsv11 : v10.heap.size ≤ v11.heap.size := by first | exact hb.size | omega
      obtain ⟨u, rfl, -⟩ := hu.sl
      have HU := hid (hu.mono HBc)
      clear hu HBc
      clear hb
      refine hK1114.out _ _ (WB.out) (fun hHeld1114 => ?_)
      clear hK1114 K1114
      try simp only [Act.put, List.setIfInBounds_toArray, List.set_cons_zero, List.set_cons_succ]
      refine wpAnyH_ready (rs := [11]) (by kernel_rfl) (by simp) (AllReadyH.cons (o := { dst := none, op := Op.store 22 (Operand.tmp 53) (Operand.tmp 49), type := 0, pos := "buffer.go:19", after := _, guard := none }) rfl (fun K1115 hK1115 => ?_) AllReadyH.nil)
      refine step_store_box rfl 22 _ _ rfl (w.heap.size) 2 (.slice qv10.a qv10.n qv10.c) rfl rfl rfl rfl (by kernel_rfl) _ _ PB.out (by simp) ?_
      intro v12 b g z
      have hsv12 : v11.heap.size ≤ v12.heap.size := by omega
      have HF := hid (HF.out.put g PB.out (by decide))
      have HC := hid (HC.out.put g PB.out (by decide))
      have HU := hid (HU.out.put g PB.out (by decide))
      have PB := hid (show BoxAt v12 (w.heap.size) 25 #[.int .i64 d, .bool k, .slice qv10.a qv10.n qv10.c, .slice sa M sc] from by simpa using b)
      have WB := hid (WB.out.grown g (fun e => by have := Option.some.inj e; omega))
      have RB := hid (RB.out.grown g (fun e => by have := Option.some.inj e; omega))
      have FB := hid (FB.out.grown g (fun e => by have := Option.some.inj e; omega))
      have LB := hid (LB.out.grown g (fun e => by have := Option.some.inj e; omega))
      have HB := hid (HB.out.trans (grown_below g (by omega) (by omega)))
      clear b g z
      refine hK1115.out _ _ (WB.out) (fun hHeld1115 => ?_)
      clear hK1115 K1115
      try simp only [Act.put]
      refine wpAnyH_take (i := 12) (oi := { dst := some 54, op := Op.fieldAddr 25 (Operand.tmp 3) 3, type := 0, pos := "buffer.go:19", after := _, guard := none }) (v := ?_) rfl (by kernel_rfl) (by kernel_rfl) (by kernel_rfl) (fun _ _ _ h => h) (Or.inl ⟨by rfl, ?_⟩) (by assumption) ?_
      rotate_left
      · (intro w hSw; (try dsimp only at hSw); go_simp; try with_reducible rfl)
      simp only [Act.put, List.setIfInBounds_toArray, List.set_cons_zero, List.set_cons_succ]
      refine wpAnyH_ready (rs := [13]) (by kernel_rfl) (by simp) (AllReadyH.cons (o := { dst := none, op := Op.store 23 (Operand.tmp 54) (Operand.tmp 52), type := 0, pos := "buffer.go:19", after := _, guard := none }) rfl (fun K1117 hK1117 => ?_) AllReadyH.nil)
      refine step_store_box rfl 23 _ _ rfl (w.heap.size) 3 (.slice u.a u.n u.c) rfl rfl rfl rfl (by kernel_rfl) _ _ PB.out (by simp) ?_
      intro v13 b g z
      have hsv13 : v12.heap.size ≤ v13.heap.size := by omega
      have HF := hid (HF.out.put g PB.out (by decide))
      have HC := hid (HC.out.put g PB.out (by decide))
      have HU := hid (HU.out.put g PB.out (by decide))
      have PB := hid (show BoxAt v13 (w.heap.size) 25 #[.int .i64 d, .bool k, .slice qv10.a qv10.n qv10.c, .slice u.a u.n u.c] from by simpa using b)
      have WB := hid (WB.out.grown g (fun e => by have := Option.some.inj e; omega))
      have RB := hid (RB.out.grown g (fun e => by have := Option.some.inj e; omega))
      have FB := hid (FB.out.grown g (fun e => by have := Option.some.inj e; omega))
      have LB := hid (LB.out.grown g (fun e => by have := Option.some.inj e; omega))
      have HB := hid (HB.out.trans (grown_below g (by omega) (by omega)))
      clear b g z
      refine hK1117.out _ _ (WB.out) (fun hHeld1117 => ?_)
      clear hK1117 K1117
      try simp only [Act.put]
      refine wpAnyH_done (by kernel_rfl) ?_ _
      clear hHeld hHeld1005 hHeld1094 hHeld1110 hHeld1111 hHeld1112 hHeld1114 hHeld1115 hHeld1117
      have kPB0 : v13.cell? ⟨w.heap.size, 0, none⟩ = some (.int .i64 d) := (BoxAt.cell PB.out 0).trans rfl
      have kPB1 : v13.cell? ⟨w.heap.size, 1, none⟩ = some (.bool k) := (BoxAt.cell PB.out 1).trans rfl
      have kPB2 : v13.cell? ⟨w.heap.size, 2, none⟩ = some (.slice qv10.a qv10.n qv10.c) := (BoxAt.cell PB.out 2).trans rfl
      have kPB3 : v13.cell? ⟨w.heap.size, 3, none⟩ = some (.slice u.a u.n u.c) := (BoxAt.cell PB.out 3).trans rfl
      have kWB0 : v13.cell? ⟨v1.heap.size, 0, none⟩ = some (.int .i64 p) := (BoxAt.cell WB.out 0).trans rfl
      have kWB1 : v13.cell? ⟨v1.heap.size, 1, none⟩ = some (.int .i64 r) := (BoxAt.cell WB.out 1).trans rfl
      have kWB2 : v13.cell? ⟨v1.heap.size, 2, none⟩ = some (.int .i64 v) := (BoxAt.cell WB.out 2).trans rfl
      have kFB0 : v13.cell? ⟨v4.heap.size, 0, none⟩ = some (.int .i64 fp) := (BoxAt.cell FB.out 0).trans rfl
      have kFB2 : v13.cell? ⟨v4.heap.size, 2, none⟩ = some (.int .i64 fv) := (BoxAt.cell FB.out 2).trans rfl
      have FL6 := hid trivial
      go_wp2_with (first
        | (refine wpList_load_box rfl 25 _ rfl (w.heap.size) rfl _ _ PB.out _ Try.underlying25 Try.infoBf ?_)
        | (have hfl := FL6.out
           refine wpList_store_whole rfl 25 _ _ rfl rfl (v2.heap.size) rfl [.int .i64 d, .bool k, .slice qv10.a qv10.n qv10.c, .slice u.a u.n u.c] rfl _ _ RB.out rfl Try.infoBf (by simp [Value.oneCell']) ?_
           intro v14 b g z
           have hsv14 : v13.heap.size ≤ v14.heap.size := by omega
           have HF := hid (HF.out.put g RB.out (by decide))
           have HC := hid (HC.out.put g RB.out (by decide))
           have HU := hid (HU.out.put g RB.out (by decide))
           have RB := hid (show BoxAt v14 (v2.heap.size) 25 #[.int .i64 d, .bool k, .slice qv10.a qv10.n qv10.c, .slice u.a u.n u.c] from b)
           have PB := hid (PB.out.grown g (fun e => by have := Option.some.inj e; omega))
           have WB := hid (WB.out.grown g (fun e => by have := Option.some.inj e; omega))
           have FB := hid (FB.out.grown g (fun e => by have := Option.some.inj e; omega))
           have LB := hid (LB.out.grown g (fun e => by have := Option.some.inj e; omega))
           have HB := hid (HB.out.trans (grown_below g (by omega) (by omega)))
           clear kPB0 kPB1 kPB2 kPB3 kWB0 kWB1 kWB2 kFB0 kFB2
           have kPB0 : v14.cell? ⟨w.heap.size, 0, none⟩ = some (.int .i64 d) := (BoxAt.cell PB.out 0).trans rfl
           have kPB1 : v14.cell? ⟨w.heap.size, 1, none⟩ = some (.bool k) := (BoxAt.cell PB.out 1).trans rfl
           have kPB2 : v14.cell? ⟨w.heap.size, 2, none⟩ = some (.slice qv10.a qv10.n qv10.c) := (BoxAt.cell PB.out 2).trans rfl
           have kPB3 : v14.cell? ⟨w.heap.size, 3, none⟩ = some (.slice u.a u.n u.c) := (BoxAt.cell PB.out 3).trans rfl
           have kWB0 : v14.cell? ⟨v1.heap.size, 0, none⟩ = some (.int .i64 p) := (BoxAt.cell WB.out 0).trans rfl
           have kWB1 : v14.cell? ⟨v1.heap.size, 1, none⟩ = some (.int .i64 r) := (BoxAt.cell WB.out 1).trans rfl
           have kWB2 : v14.cell? ⟨v1.heap.size, 2, none⟩ = some (.int .i64 v) := (BoxAt.cell WB.out 2).trans rfl
           have kFB0 : v14.cell? ⟨v4.heap.size, 0, none⟩ = some (.int .i64 fp) := (BoxAt.cell FB.out 0).trans rfl
           have kFB2 : v14.cell? ⟨v4.heap.size, 2, none⟩ = some (.int .i64 fv) := (BoxAt.cell FB.out 2).trans rfl
           clear b g z hfl FL6)
        | fail)
      refine bodyPost_ret (results_box_tmp2 rfl _ _ (v2.heap.size) 25 _ (0, 0) _ rfl RB.out Try.underlying25 rfl Try.infoBf) rfl ?_
      exact ⟨qv10, u, ⟨none, 0, 0⟩, rfl, HC.out, HU.out, OWk.nil _ _, HB.out⟩

set_option maxRecDepth 100000 in
set_option maxHeartbeats 1600000 in
theorem send_put0 (d : Int) (k : Bool) {vs s : Sl} {xs : List Int} {l : List Wt} (p r v : Int) (may : Bool) {w : World} (hv : Sees w .i64 vs.val xs) (hs : SeesWt w s.val l) (hx : xs.length ≤ 800000) (hl : l.length ≤ 800000) (h1 : l.length = 0) (hd : (xs.length : Int) < d) :
    Calls Try.prog 9 #[BfV.val ⟨d, k, vs, s⟩, .agg #[.int .i64 p, .int .i64 r, .int .i64 v], .bool may] w fun e w' => ∃ (x u q : Sl), e = .returned (.tuple #[BfV.val ⟨d, k, x, u⟩, .int .i64 (0), q.val]) ∧ OI w' w.heap.size x.val (xs ++ [v]) ∧ OWt w' w.heap.size u.val (l) ∧ OWk w' w.heap.size q.val ([]) ∧ Below w.heap.size w w' := by
  have HX := hid hv
  have HV := hid hs
  obtain ⟨a1, c1, hv1, hx1, hx2, hxc⟩ := hv.form
  obtain ⟨xa, xn, xc⟩ := vs
  simp only [Sl.val, Value.slice.injEq] at hv1
  obtain ⟨rfl, rfl, rfl⟩ := hv1
  obtain ⟨a2, c2, hs1, hc1, hc2, -⟩ := hs.form
  obtain ⟨sa, sn, sc⟩ := s
  simp only [Sl.val, Value.slice.injEq] at hs1
  obtain ⟨rfl, rfl, rfl⟩ := hs1
  unfold maxLen at hx2 hc2
  simp only [Sl.val] at HX HV
  have HXC := hid hxc
  clear hv hs hxc
  unfold BfV.val
  simp only
  obtain ⟨N, hN⟩ : ∃ N, xs.length = N := ⟨_, rfl⟩
  obtain ⟨M, hM⟩ : ∃ M, l.length = M := ⟨_, rfl⟩
  have HN := hid hN
  have HM := hid hM
  have HXL := hid hx
  have HL := hid hl
  rw [hN] at hx hx1 HX HXC ⊢
  rw [hM] at hl hc1 HV ⊢
  have H1 := hid h1
  rw [hN] at hd
  clear hN hM h1
  have HB := hid (Below.refl w.heap.size w)
  go_enter Try.func9, Try.ntmps9
  have FL1 := hid trivial
  have FL2 := hid trivial
  have FL3 := hid trivial
  go_wp2_with (first
    | (have hfl := FL1.out
       refine wpList_box rfl 25 (.tmp 0) rfl #[.int .i64 d, .bool k, .slice xa N xc, .slice sa M sc] rfl ?_
       intro v1 b h z
       have PB := hid (show BoxAt v1 w.heap.size 25 #[.int .i64 d, .bool k, .slice xa N xc, .slice sa M sc] from b)
       have HB := hid (HB.out.trans (h.mono HB.out.size))
       have hsv1 : w.heap.size + 1 ≤ v1.heap.size := by first | exact h.size | omega
       clear b h z hfl FL1)
    | (have hfl := FL2.out
       refine wpList_box rfl 27 (.tmp 1) rfl #[.int .i64 p, .int .i64 r, .int .i64 v] rfl ?_
       intro v2 b h z
       have WB := hid (show BoxAt v2 v1.heap.size 27 #[.int .i64 p, .int .i64 r, .int .i64 v] from b)
       have PB := hid (PB.out.belowAll h)
       have HB := hid (HB.out.trans (h.mono HB.out.size))
       have hsv2 : v1.heap.size + 1 ≤ v2.heap.size := by first | exact h.size | omega
       have kPB0 : v2.cell? ⟨w.heap.size, 0, none⟩ = some (.int .i64 d) := (BoxAt.cell PB.out 0).trans rfl
       have kPB1 : v2.cell? ⟨w.heap.size, 1, none⟩ = some (.bool k) := (BoxAt.cell PB.out 1).trans rfl
       have kPB2 : v2.cell? ⟨w.heap.size, 2, none⟩ = some (.slice xa N xc) := (BoxAt.cell PB.out 2).trans rfl
       have kPB3 : v2.cell? ⟨w.heap.size, 3, none⟩ = some (.slice sa M sc) := (BoxAt.cell PB.out 3).trans rfl
       clear b h z hfl FL2)
    | (have hfl := FL3.out
       refine wpList_new rfl 25 rfl _ Try.zeroBf ?_
       intro v3 b h z
       have RB := hid (show BoxAt v3 v2.heap.size 25 #[.int .i64 0, .bool false, .slice none 0 0, .slice none 0 0] from b)
       have PB := hid (PB.out.belowAll h)
       have WB := hid (WB.out.belowAll h)
       have HB := hid (HB.out.trans (h.mono HB.out.size))
       have hsv3 : v2.heap.size + 1 ≤ v3.heap.size := by first | exact h.size | omega
       clear kPB0 kPB1 kPB2 kPB3
       have kPB0 : v3.cell? ⟨w.heap.size, 0, none⟩ = some (.int .i64 d) := (BoxAt.cell PB.out 0).trans rfl
       have kPB1 : v3.cell? ⟨w.heap.size, 1, none⟩ = some (.bool k) := (BoxAt.cell PB.out 1).trans rfl
       have kPB2 : v3.cell? ⟨w.heap.size, 2, none⟩ = some (.slice xa N xc) := (BoxAt.cell PB.out 2).trans rfl
       have kPB3 : v3.cell? ⟨w.heap.size, 3, none⟩ = some (.slice sa M sc) := (BoxAt.cell PB.out 3).trans rfl
       have kWB0 : v3.cell? ⟨v1.heap.size, 0, none⟩ = some (.int .i64 p) := (BoxAt.cell WB.out 0).trans rfl
       have kWB1 : v3.cell? ⟨v1.heap.size, 1, none⟩ = some (.int .i64 r) := (BoxAt.cell WB.out 1).trans rfl
       have kWB2 : v3.cell? ⟨v1.heap.size, 2, none⟩ = some (.int .i64 v) := (BoxAt.cell WB.out 2).trans rfl
       clear b h z hfl FL3
       refine Hid.out ?_)
    | fail)
  refine hid ?_
  clear kPB0 kPB1 kPB2 kPB3 kWB0 kWB1 kWB2
  have kPB0 : v3.cell? ⟨w.heap.size, 0, none⟩ = some (.int .i64 d) := (BoxAt.cell PB.out 0).trans rfl
  have kPB1 : v3.cell? ⟨w.heap.size, 1, none⟩ = some (.bool k) := (BoxAt.cell PB.out 1).trans rfl
  have kPB2 : v3.cell? ⟨w.heap.size, 2, none⟩ = some (.slice xa N xc) := (BoxAt.cell PB.out 2).trans rfl
  have kPB3 : v3.cell? ⟨w.heap.size, 3, none⟩ = some (.slice sa M sc) := (BoxAt.cell PB.out 3).trans rfl
  have kWB0 : v3.cell? ⟨v1.heap.size, 0, none⟩ = some (.int .i64 p) := (BoxAt.cell WB.out 0).trans rfl
  have kWB1 : v3.cell? ⟨v1.heap.size, 1, none⟩ = some (.int .i64 r) := (BoxAt.cell WB.out 1).trans rfl
  have kWB2 : v3.cell? ⟨v1.heap.size, 2, none⟩ = some (.int .i64 v) := (BoxAt.cell WB.out 2).trans rfl
  go_wp2_with fail
  have HBf := HB.out.size
  refine (first_no (HV.out.below HB.out) H1.out).mono ?_
  rintro e v4 ⟨f, rfl, hu, hb⟩
  have PB := hid (PB.out.belowAll hb)
  have WB := hid (WB.out.belowAll hb)
  have RB := hid (RB.out.belowAll hb)
  have HB := hid (HB.out.trans (hb.mono HB.out.size))
  have hsv4 : v3.heap.size ≤ v4.heap.size := by first | exact hb.size | omega
  have HF := hid (hu.mono HBf)
  clear hu HBf
  clear kPB0 kPB1 kPB2 kPB3 kWB0 kWB1 kWB2
  have kPB0 : v4.cell? ⟨w.heap.size, 0, none⟩ = some (.int .i64 d) := (BoxAt.cell PB.out 0).trans rfl
  have kPB1 : v4.cell? ⟨w.heap.size, 1, none⟩ = some (.bool k) := (BoxAt.cell PB.out 1).trans rfl
  have kPB2 : v4.cell? ⟨w.heap.size, 2, none⟩ = some (.slice xa N xc) := (BoxAt.cell PB.out 2).trans rfl
  have kPB3 : v4.cell? ⟨w.heap.size, 3, none⟩ = some (.slice sa M sc) := (BoxAt.cell PB.out 3).trans rfl
  have kWB0 : v4.cell? ⟨v1.heap.size, 0, none⟩ = some (.int .i64 p) := (BoxAt.cell WB.out 0).trans rfl
  have kWB1 : v4.cell? ⟨v1.heap.size, 1, none⟩ = some (.int .i64 r) := (BoxAt.cell WB.out 1).trans rfl
  have kWB2 : v4.cell? ⟨v1.heap.size, 2, none⟩ = some (.int .i64 v) := (BoxAt.cell WB.out 2).trans rfl
  clear hb
  have HFB := hid (fun k hk => (HF.out.lt k hk).2)
  have FL4 := hid trivial
  have FL5 := hid trivial
  go_wp2_with (first
    | (have hfl := FL4.out
       refine wpList_new rfl 27 rfl _ Try.zeroWt ?_
       intro v5 b h z
       have FB := hid (show BoxAt v5 v4.heap.size 27 #[.int .i64 0, .int .i64 0, .int .i64 0] from b)
       have PB := hid (PB.out.belowAll h)
       have WB := hid (WB.out.belowAll h)
       have RB := hid (RB.out.belowAll h)
       have HF := hid (HF.out.below h)
       have HB := hid (HB.out.trans (h.mono HB.out.size))
       have hsv5 : v4.heap.size + 1 ≤ v5.heap.size := by first | exact h.size | omega
       clear kPB0 kPB1 kPB2 kPB3 kWB0 kWB1 kWB2
       have kPB0 : v5.cell? ⟨w.heap.size, 0, none⟩ = some (.int .i64 d) := (BoxAt.cell PB.out 0).trans rfl
       have kPB1 : v5.cell? ⟨w.heap.size, 1, none⟩ = some (.bool k) := (BoxAt.cell PB.out 1).trans rfl
       have kPB2 : v5.cell? ⟨w.heap.size, 2, none⟩ = some (.slice xa N xc) := (BoxAt.cell PB.out 2).trans rfl
       have kPB3 : v5.cell? ⟨w.heap.size, 3, none⟩ = some (.slice sa M sc) := (BoxAt.cell PB.out 3).trans rfl
       have kWB0 : v5.cell? ⟨v1.heap.size, 0, none⟩ = some (.int .i64 p) := (BoxAt.cell WB.out 0).trans rfl
       have kWB1 : v5.cell? ⟨v1.heap.size, 1, none⟩ = some (.int .i64 r) := (BoxAt.cell WB.out 1).trans rfl
       have kWB2 : v5.cell? ⟨v1.heap.size, 2, none⟩ = some (.int .i64 v) := (BoxAt.cell WB.out 2).trans rfl
       clear b h z hfl FL4)
    | (have hfl := FL5.out
       refine wpList_store_whole rfl 27 _ _ rfl rfl (v4.heap.size) rfl [.int .i64 0, .int .i64 0, .int .i64 0] rfl _ _ FB.out rfl Try.infoWt (by simp [Value.oneCell']) ?_
       intro v6 b g z
       have hsv6 : v5.heap.size ≤ v6.heap.size := by omega
       have HF := hid (HF.out.apart g (fun k hk => Nat.ne_of_lt (HFB.out k hk)))
       have FB := hid (show BoxAt v6 (v4.heap.size) 27 #[.int .i64 0, .int .i64 0, .int .i64 0] from b)
       have PB := hid (PB.out.grown g (fun e => by have := Option.some.inj e; omega))
       have WB := hid (WB.out.grown g (fun e => by have := Option.some.inj e; omega))
       have RB := hid (RB.out.grown g (fun e => by have := Option.some.inj e; omega))
       have HB := hid (HB.out.trans (grown_below g (by omega) (by omega)))
       clear kPB0 kPB1 kPB2 kPB3 kWB0 kWB1 kWB2
       have kPB0 : v6.cell? ⟨w.heap.size, 0, none⟩ = some (.int .i64 d) := (BoxAt.cell PB.out 0).trans rfl
       have kPB1 : v6.cell? ⟨w.heap.size, 1, none⟩ = some (.bool k) := (BoxAt.cell PB.out 1).trans rfl
       have kPB2 : v6.cell? ⟨w.heap.size, 2, none⟩ = some (.slice xa N xc) := (BoxAt.cell PB.out 2).trans rfl
       have kPB3 : v6.cell? ⟨w.heap.size, 3, none⟩ = some (.slice sa M sc) := (BoxAt.cell PB.out 3).trans rfl
       have kWB0 : v6.cell? ⟨v1.heap.size, 0, none⟩ = some (.int .i64 p) := (BoxAt.cell WB.out 0).trans rfl
       have kWB1 : v6.cell? ⟨v1.heap.size, 1, none⟩ = some (.int .i64 r) := (BoxAt.cell WB.out 1).trans rfl
       have kWB2 : v6.cell? ⟨v1.heap.size, 2, none⟩ = some (.int .i64 v) := (BoxAt.cell WB.out 2).trans rfl
       have kFB0 : v6.cell? ⟨v4.heap.size, 0, none⟩ = some (.int .i64 0) := (BoxAt.cell FB.out 0).trans rfl
       have kFB2 : v6.cell? ⟨v4.heap.size, 2, none⟩ = some (.int .i64 0) := (BoxAt.cell FB.out 2).trans rfl
       clear b g z hfl FL5
       refine Hid.out ?_)
    | fail)
  refine hid ?_
  clear kPB0 kPB1 kPB2 kPB3 kWB0 kWB1 kWB2 kFB0 kFB2
  have kPB0 : v6.cell? ⟨w.heap.size, 0, none⟩ = some (.int .i64 d) := (BoxAt.cell PB.out 0).trans rfl
  have kPB1 : v6.cell? ⟨w.heap.size, 1, none⟩ = some (.bool k) := (BoxAt.cell PB.out 1).trans rfl
  have kPB2 : v6.cell? ⟨w.heap.size, 2, none⟩ = some (.slice xa N xc) := (BoxAt.cell PB.out 2).trans rfl
  have kPB3 : v6.cell? ⟨w.heap.size, 3, none⟩ = some (.slice sa M sc) := (BoxAt.cell PB.out 3).trans rfl
  have kWB0 : v6.cell? ⟨v1.heap.size, 0, none⟩ = some (.int .i64 p) := (BoxAt.cell WB.out 0).trans rfl
  have kWB1 : v6.cell? ⟨v1.heap.size, 1, none⟩ = some (.int .i64 r) := (BoxAt.cell WB.out 1).trans rfl
  have kWB2 : v6.cell? ⟨v1.heap.size, 2, none⟩ = some (.int .i64 v) := (BoxAt.cell WB.out 2).trans rfl
  have kFB0 : v6.cell? ⟨v4.heap.size, 0, none⟩ = some (.int .i64 0) := (BoxAt.cell FB.out 0).trans rfl
  have kFB2 : v6.cell? ⟨v4.heap.size, 2, none⟩ = some (.int .i64 0) := (BoxAt.cell FB.out 2).trans rfl
  go_wp2_with fail
  clear kPB0 kPB1 kPB2 kPB3 kWB0 kWB1 kWB2 kFB0 kFB2
  have PB := hid (BoxAt.drew PB.out)
  have WB := hid (BoxAt.drew WB.out)
  have RB := hid (BoxAt.drew RB.out)
  have FB := hid (BoxAt.drew FB.out)
  have HF := hid (HF.out.below ((Below.refl v6.heap.size v6).drew))
  have HB := hid HB.out.drew
  have hsv7 : v6.heap.size ≤ v6.drew.heap.size := Nat.le_refl _
  refine wp_region_held_drew (S := (fun w' : World => BoxAt w' (v1.heap.size) 27 #[.int .i64 p, .int .i64 r, .int .i64 v])) (by kernel_rfl) (WB.out) (fun hHeld => ?_)
  generalize v6.drew = v7 at *
  refine wpAnyH_take (i := 0) (oi := { dst := some 43, op := Op.fieldAddr 25 (Operand.tmp 3) 2, type := 0, pos := "buffer.go:19", after := _, guard := none }) (v := ?_) rfl (by kernel_rfl) (by kernel_rfl) (by kernel_rfl) (fun _ _ _ h => h) (Or.inl ⟨by rfl, ?_⟩) (by assumption) ?_
  rotate_left
  · (intro w hSw; (try dsimp only at hSw); go_simp; try with_reducible rfl)
  simp only [Act.put, List.setIfInBounds_toArray, List.set_cons_zero, List.set_cons_succ]
  refine wpAnyH_take (i := 3) (oi := { dst := some 46, op := Op.fieldAddr 27 (Operand.tmp 4) 2, type := 0, pos := "buffer.go:19", after := _, guard := none }) (v := ?_) rfl (by kernel_rfl) (by kernel_rfl) (by kernel_rfl) (fun _ _ _ h => h) (Or.inl ⟨by rfl, ?_⟩) (by assumption) ?_
  rotate_left
  · (intro w hSw; (try dsimp only at hSw); go_simp; try with_reducible rfl)
  simp only [Act.put, List.setIfInBounds_toArray, List.set_cons_zero, List.set_cons_succ]
  refine wpAnyH_take (i := 4) (oi := { dst := some 47, op := Op.load 3 (Operand.tmp 46), type := 3, pos := "buffer.go:19", after := _, guard := none }) (v := ?_) rfl (by kernel_rfl) (by kernel_rfl) (by kernel_rfl) (fun _ _ _ h => h) (Or.inl ⟨by rfl, ?_⟩) (by assumption) ?_
  rotate_left
  · (intro W hSw; (try dsimp only at hSw); have x0 := hSw; have c0_0 : W.cell? ⟨v1.heap.size, 0, none⟩ = some (.int .i64 p) := (BoxAt.cell x0 0).trans rfl; have c0_1 : W.cell? ⟨v1.heap.size, 1, none⟩ = some (.int .i64 r) := (BoxAt.cell x0 1).trans rfl; have c0_2 : W.cell? ⟨v1.heap.size, 2, none⟩ = some (.int .i64 v) := (BoxAt.cell x0 2).trans rfl; clear x0; go_simp; try with_reducible rfl)
  simp only [Act.put, List.setIfInBounds_toArray, List.set_cons_zero, List.set_cons_succ]
  refine wpAnyH_take (i := 7) (oi := { dst := some 50, op := Op.fieldAddr 25 (Operand.tmp 3) 3, type := 0, pos := "buffer.go:19", after := _, guard := none }) (v := ?_) rfl (by kernel_rfl) (by kernel_rfl) (by kernel_rfl) (fun _ _ _ h => h) (Or.inl ⟨by rfl, ?_⟩) (by assumption) ?_
  rotate_left
  · (intro w hSw; (try dsimp only at hSw); go_simp; try with_reducible rfl)
  simp only [Act.put, List.setIfInBounds_toArray, List.set_cons_zero, List.set_cons_succ]
  refine wpAnyH_ready (rs := [1, 5, 8]) (by kernel_rfl) (by simp) (AllReadyH.cons (o := { dst := some 44, op := Op.load 22 (Operand.tmp 43), type := 22, pos := "buffer.go:19", after := _, guard := none }) rfl (fun K1005 hK1005 => ?b1005_1) (AllReadyH.cons (o := { dst := some 48, op := Op.buildSlice 22 1 #[(0, Operand.tmp 47)], type := 22, pos := "buffer.go:19", after := _, guard := none }) rfl (fun K1005 hK1005 => ?b1005_5) (AllReadyH.cons (o := { dst := some 51, op := Op.load 23 (Operand.tmp 50), type := 23, pos := "buffer.go:19", after := _, guard := none }) rfl (fun K1005 hK1005 => ?b1005_8) AllReadyH.nil)))
  case' b1005_1 =>
    have cG : v7.cell? ⟨w.heap.size, 2, none⟩ = some (.slice xa N xc) := (BoxAt.cell PB.out 2).trans rfl
    go_simp
    clear cG
    refine hK1005.out _ _ (WB.out) (fun hHeld1005 => ?_)
    clear hK1005 K1005
    try simp only [Act.put, List.setIfInBounds_toArray, List.set_cons_zero, List.set_cons_succ]
    refine wpAnyH_ready (rs := [2, 5, 8]) (by kernel_rfl) (by simp) (AllReadyH.cons (o := { dst := some 45, op := Op.call { callee := Callee.value (Operand.func 17), args := #[Operand.tmp 44, Operand.const (Value.int IntKind.i64 0)], argTypes := #[22, 3] }, type := 22, pos := "buffer.go:19", after := _, guard := none }) rfl (fun K1006 hK1006 => ?b1006_2) (AllReadyH.cons (o := { dst := some 48, op := Op.buildSlice 22 1 #[(0, Operand.tmp 47)], type := 22, pos := "buffer.go:19", after := _, guard := none }) rfl (fun K1006 hK1006 => ?b1006_5) (AllReadyH.cons (o := { dst := some 51, op := Op.load 23 (Operand.tmp 50), type := 23, pos := "buffer.go:19", after := _, guard := none }) rfl (fun K1006 hK1006 => ?b1006_8) AllReadyH.nil)))
    case' b1006_2 =>
      go_simp
      refine (from_left0 HX.out HN.out).mono ?_
      rintro e v8 ⟨ga, rfl, hu, hb⟩
      have PB := hid (PB.out.belowAll hb)
      have WB := hid (WB.out.belowAll hb)
      have RB := hid (RB.out.belowAll hb)
      have FB := hid (FB.out.belowAll hb)
      have HF := hid (HF.out.below hb)
      have HB := hid (HB.out.trans (hb.mono HB.out.size))
      have hsv8 : v7.heap.size ≤ v8.heap.size := by first | exact hb.size | omega
      have HG := hid hu
      clear hu
      clear hb
      refine hK1006.out _ _ (WB.out) (fun hHeld1006 => ?_)
      clear hK1006 K1006
      try simp only [Act.put, List.setIfInBounds_toArray, List.set_cons_zero, List.set_cons_succ]
      refine wpAnyH_ready (rs := [5, 8]) (by kernel_rfl) (by simp) (AllReadyH.cons (o := { dst := some 48, op := Op.buildSlice 22 1 #[(0, Operand.tmp 47)], type := 22, pos := "buffer.go:19", after := _, guard := none }) rfl (fun K1007 hK1007 => ?b1007_5) (AllReadyH.cons (o := { dst := some 51, op := Op.load 23 (Operand.tmp 50), type := 23, pos := "buffer.go:19", after := _, guard := none }) rfl (fun K1007 hK1007 => ?b1007_8) AllReadyH.nil))
      case' b1007_5 =>
        refine step_litI rfl (.tmp 47) rfl (v) rfl ?_
        intro v9 b h
        have LB := hid (show BoxAt v9 v8.heap.size 3 #[.int .i64 (v)] from b)
        have PB := hid (PB.out.belowAll h)
        have WB := hid (WB.out.belowAll h)
        have RB := hid (RB.out.belowAll h)
        have FB := hid (FB.out.belowAll h)
        have HF := hid (HF.out.below h)
        have HB := hid (HB.out.trans (h.mono HB.out.size))
        have hsv9 : v8.heap.size ≤ v9.heap.size := by first | exact h.size | omega
        clear b h
        refine hK1007.out _ _ (WB.out) (fun hHeld1007 => ?_)
        clear hK1007 K1007
        try simp only [Act.put, List.setIfInBounds_toArray, List.set_cons_zero, List.set_cons_succ]
        refine wpAnyH_ready (rs := [6, 8]) (by kernel_rfl) (by simp) (AllReadyH.cons (o := { dst := some 49, op := Op.call { callee := Callee.builtin Builtin.append, args := #[Operand.tmp 45, Operand.tmp 48], argTypes := #[22, 22] }, type := 22, pos := "buffer.go:19", after := _, guard := none }) rfl (fun K1008 hK1008 => ?b1008_6) (AllReadyH.cons (o := { dst := some 51, op := Op.load 23 (Operand.tmp 50), type := 23, pos := "buffer.go:19", after := _, guard := none }) rfl (fun K1008 hK1008 => ?b1008_8) AllReadyH.nil))
        case' b1008_6 =>
          have HBp := HB.out.size
          refine step_app_full rfl (.tmp 45) (.tmp 48) rfl _ _ rfl HN.out.symm (HG.out.below HB.out) _ (v) _ rfl LB.out (by have := HXL.out; omega) ?_
          intro uv10 v10 ho h
          obtain ⟨qv10, rfl, -⟩ := ho.sl
          have PB := hid (PB.out.belowAll h)
          have WB := hid (WB.out.belowAll h)
          have RB := hid (RB.out.belowAll h)
          have FB := hid (FB.out.belowAll h)
          have LB := hid (LB.out.belowAll h)
          have HF := hid (HF.out.below h)
          have HB := hid (HB.out.trans (h.mono HB.out.size))
          have hsv10 : v9.heap.size ≤ v10.heap.size := by first | exact h.size | omega
          have HC := hid ho
          clear ho h
          have HC := hid (HC.out.mono HBp)
          clear HBp HG
          refine hK1008.out _ _ (WB.out) (fun hHeld1008 => ?_)
          clear hK1008 K1008
          try simp only [Act.put, List.setIfInBounds_toArray, List.set_cons_zero, List.set_cons_succ]
          refine wpAnyH_ready (rs := [8]) (by kernel_rfl) (by simp) (AllReadyH.cons (o := { dst := some 51, op := Op.load 23 (Operand.tmp 50), type := 23, pos := "buffer.go:19", after := _, guard := none }) rfl (fun K1009 hK1009 => ?_) AllReadyH.nil)
          have cG : v10.cell? ⟨w.heap.size, 3, none⟩ = some (.slice sa M sc) := (BoxAt.cell PB.out 3).trans rfl
          go_simp
          clear cG
          refine hK1009.out _ _ (WB.out) (fun hHeld1009 => ?_)
          clear hK1009 K1009
          try simp only [Act.put, List.setIfInBounds_toArray, List.set_cons_zero, List.set_cons_succ]
          refine wpAnyH_take (i := 10) (oi := { dst := some 53, op := Op.fieldAddr 25 (Operand.tmp 3) 2, type := 0, pos := "buffer.go:19", after := _, guard := none }) (v := ?_) rfl (by kernel_rfl) (by kernel_rfl) (by kernel_rfl) (fun _ _ _ h => h) (Or.inl ⟨by rfl, ?_⟩) (by assumption) ?_
          rotate_left
          · (intro w hSw; (try dsimp only at hSw); go_simp; try with_reducible rfl)
          simp only [Act.put, List.setIfInBounds_toArray, List.set_cons_zero, List.set_cons_succ]
          refine wpAnyH_ready (rs := [9]) (by kernel_rfl) (by simp) (AllReadyH.cons (o := { dst := some 52, op := Op.call { callee := Callee.value (Operand.func 18), args := #[Operand.tmp 51], argTypes := #[23] }, type := 23, pos := "buffer.go:19", after := _, guard := none }) rfl (fun K1011 hK1011 => ?_) AllReadyH.nil)
          have HBc := HB.out.size
          go_simp
          refine (qclone_Wt (HV.out.below HB.out) (by have := HL.out; omega)).mono ?_
          rintro e v11 ⟨uu, rfl, hu, hb⟩
          have PB := hid (PB.out.belowAll hb)
          have WB := hid (WB.out.belowAll hb)
          have RB := hid (RB.out.belowAll hb)
          have FB := hid (FB.out.belowAll hb)
          have LB := hid (LB.out.belowAll hb)
          have HF := hid (HF.out.below hb)
          have HC := hid (HC.out.below hb)
          have HB := hid (HB.out.trans (hb.mono HB.out.size))
          have hsv11 : v10.heap.size ≤ v11.heap.size := by first | exact hb.size | omega
          obtain ⟨u, rfl, -⟩ := hu.sl
          have HU := hid (hu.mono HBc)
          clear hu HBc
          clear hb
          refine hK1011.out _ _ (WB.out) (fun hHeld1011 => ?_)
          clear hK1011 K1011
          try simp only [Act.put, List.setIfInBounds_toArray, List.set_cons_zero, List.set_cons_succ]
          refine wpAnyH_ready (rs := [11]) (by kernel_rfl) (by simp) (AllReadyH.cons (o := { dst := none, op := Op.store 22 (Operand.tmp 53) (Operand.tmp 49), type := 0, pos := "buffer.go:19", after := _, guard := none }) rfl (fun K1012 hK1012 => ?_) AllReadyH.nil)
          refine step_store_box rfl 22 _ _ rfl (w.heap.size) 2 (.slice qv10.a qv10.n qv10.c) rfl rfl rfl rfl (by kernel_rfl) _ _ PB.out (by simp) ?_
          intro v12 b g z
          have hsv12 : v11.heap.size ≤ v12.heap.size := by omega
          have HF := hid (HF.out.put g PB.out (by decide))
          have HC := hid (HC.out.put g PB.out (by decide))
          have HU := hid (HU.out.put g PB.out (by decide))
          have PB := hid (show BoxAt v12 (w.heap.size) 25 #[.int .i64 d, .bool k, .slice qv10.a qv10.n qv10.c, .slice sa M sc] from by simpa using b)
          have WB := hid (WB.out.grown g (fun e => by have := Option.some.inj e; omega))
          have RB := hid (RB.out.grown g (fun e => by have := Option.some.inj e; omega))
          have FB := hid (FB.out.grown g (fun e => by have := Option.some.inj e; omega))
          have LB := hid (LB.out.grown g (fun e => by have := Option.some.inj e; omega))
          have HB := hid (HB.out.trans (grown_below g (by omega) (by omega)))
          clear b g z
          refine hK1012.out _ _ (WB.out) (fun hHeld1012 => ?_)
          clear hK1012 K1012
          try simp only [Act.put]
          refine wpAnyH_take (i := 12) (oi := { dst := some 54, op := Op.fieldAddr 25 (Operand.tmp 3) 3, type := 0, pos := "buffer.go:19", after := _, guard := none }) (v := ?_) rfl (by kernel_rfl) (by kernel_rfl) (by kernel_rfl) (fun _ _ _ h => h) (Or.inl ⟨by rfl, ?_⟩) (by assumption) ?_
          rotate_left
          · (intro w hSw; (try dsimp only at hSw); go_simp; try with_reducible rfl)
          simp only [Act.put, List.setIfInBounds_toArray, List.set_cons_zero, List.set_cons_succ]
          refine wpAnyH_ready (rs := [13]) (by kernel_rfl) (by simp) (AllReadyH.cons (o := { dst := none, op := Op.store 23 (Operand.tmp 54) (Operand.tmp 52), type := 0, pos := "buffer.go:19", after := _, guard := none }) rfl (fun K1014 hK1014 => ?_) AllReadyH.nil)
          refine step_store_box rfl 23 _ _ rfl (w.heap.size) 3 (.slice u.a u.n u.c) rfl rfl rfl rfl (by kernel_rfl) _ _ PB.out (by simp) ?_
          intro v13 b g z
          have hsv13 : v12.heap.size ≤ v13.heap.size := by omega
          have HF := hid (HF.out.put g PB.out (by decide))
          have HC := hid (HC.out.put g PB.out (by decide))
          have HU := hid (HU.out.put g PB.out (by decide))
          have PB := hid (show BoxAt v13 (w.heap.size) 25 #[.int .i64 d, .bool k, .slice qv10.a qv10.n qv10.c, .slice u.a u.n u.c] from by simpa using b)
          have WB := hid (WB.out.grown g (fun e => by have := Option.some.inj e; omega))
          have RB := hid (RB.out.grown g (fun e => by have := Option.some.inj e; omega))
          have FB := hid (FB.out.grown g (fun e => by have := Option.some.inj e; omega))
          have LB := hid (LB.out.grown g (fun e => by have := Option.some.inj e; omega))
          have HB := hid (HB.out.trans (grown_below g (by omega) (by omega)))
          clear b g z
          refine hK1014.out _ _ (WB.out) (fun hHeld1014 => ?_)
          clear hK1014 K1014
          try simp only [Act.put]
          refine wpAnyH_done (by kernel_rfl) ?_ _
          clear hHeld hHeld1005 hHeld1006 hHeld1007 hHeld1008 hHeld1009 hHeld1011 hHeld1012 hHeld1014
          have kPB0 : v13.cell? ⟨w.heap.size, 0, none⟩ = some (.int .i64 d) := (BoxAt.cell PB.out 0).trans rfl
          have kPB1 : v13.cell? ⟨w.heap.size, 1, none⟩ = some (.bool k) := (BoxAt.cell PB.out 1).trans rfl
          have kPB2 : v13.cell? ⟨w.heap.size, 2, none⟩ = some (.slice qv10.a qv10.n qv10.c) := (BoxAt.cell PB.out 2).trans rfl
          have kPB3 : v13.cell? ⟨w.heap.size, 3, none⟩ = some (.slice u.a u.n u.c) := (BoxAt.cell PB.out 3).trans rfl
          have kWB0 : v13.cell? ⟨v1.heap.size, 0, none⟩ = some (.int .i64 p) := (BoxAt.cell WB.out 0).trans rfl
          have kWB1 : v13.cell? ⟨v1.heap.size, 1, none⟩ = some (.int .i64 r) := (BoxAt.cell WB.out 1).trans rfl
          have kWB2 : v13.cell? ⟨v1.heap.size, 2, none⟩ = some (.int .i64 v) := (BoxAt.cell WB.out 2).trans rfl
          have kFB0 : v13.cell? ⟨v4.heap.size, 0, none⟩ = some (.int .i64 0) := (BoxAt.cell FB.out 0).trans rfl
          have kFB2 : v13.cell? ⟨v4.heap.size, 2, none⟩ = some (.int .i64 0) := (BoxAt.cell FB.out 2).trans rfl
          have FL6 := hid trivial
          go_wp2_with (first
            | (refine wpList_load_box rfl 25 _ rfl (w.heap.size) rfl _ _ PB.out _ Try.underlying25 Try.infoBf ?_)
            | (have hfl := FL6.out
               refine wpList_store_whole rfl 25 _ _ rfl rfl (v2.heap.size) rfl [.int .i64 d, .bool k, .slice qv10.a qv10.n qv10.c, .slice u.a u.n u.c] rfl _ _ RB.out rfl Try.infoBf (by simp [Value.oneCell']) ?_
               intro v14 b g z
               have hsv14 : v13.heap.size ≤ v14.heap.size := by omega
               have HF := hid (HF.out.put g RB.out (by decide))
               have HC := hid (HC.out.put g RB.out (by decide))
               have HU := hid (HU.out.put g RB.out (by decide))
               have RB := hid (show BoxAt v14 (v2.heap.size) 25 #[.int .i64 d, .bool k, .slice qv10.a qv10.n qv10.c, .slice u.a u.n u.c] from b)
               have PB := hid (PB.out.grown g (fun e => by have := Option.some.inj e; omega))
               have WB := hid (WB.out.grown g (fun e => by have := Option.some.inj e; omega))
               have FB := hid (FB.out.grown g (fun e => by have := Option.some.inj e; omega))
               have LB := hid (LB.out.grown g (fun e => by have := Option.some.inj e; omega))
               have HB := hid (HB.out.trans (grown_below g (by omega) (by omega)))
               clear kPB0 kPB1 kPB2 kPB3 kWB0 kWB1 kWB2 kFB0 kFB2
               have kPB0 : v14.cell? ⟨w.heap.size, 0, none⟩ = some (.int .i64 d) := (BoxAt.cell PB.out 0).trans rfl
               have kPB1 : v14.cell? ⟨w.heap.size, 1, none⟩ = some (.bool k) := (BoxAt.cell PB.out 1).trans rfl
               have kPB2 : v14.cell? ⟨w.heap.size, 2, none⟩ = some (.slice qv10.a qv10.n qv10.c) := (BoxAt.cell PB.out 2).trans rfl
               have kPB3 : v14.cell? ⟨w.heap.size, 3, none⟩ = some (.slice u.a u.n u.c) := (BoxAt.cell PB.out 3).trans rfl
               have kWB0 : v14.cell? ⟨v1.heap.size, 0, none⟩ = some (.int .i64 p) := (BoxAt.cell WB.out 0).trans rfl
               have kWB1 : v14.cell? ⟨v1.heap.size, 1, none⟩ = some (.int .i64 r) := (BoxAt.cell WB.out 1).trans rfl
               have kWB2 : v14.cell? ⟨v1.heap.size, 2, none⟩ = some (.int .i64 v) := (BoxAt.cell WB.out 2).trans rfl
               have kFB0 : v14.cell? ⟨v4.heap.size, 0, none⟩ = some (.int .i64 0) := (BoxAt.cell FB.out 0).trans rfl
               have kFB2 : v14.cell? ⟨v4.heap.size, 2, none⟩ = some (.int .i64 0) := (BoxAt.cell FB.out 2).trans rfl
               clear b g z hfl FL6)
            | fail)
          refine bodyPost_ret (results_box_tmp2 rfl _ _ (v2.heap.size) 25 _ (0, 0) _ rfl RB.out Try.underlying25 rfl Try.infoBf) rfl ?_
          exact ⟨qv10, u, ⟨none, 0, 0⟩, rfl, HC.out, HU.out, OWk.nil _ _, HB.out⟩
        case' b1008_8 =>
          have cG : v9.cell? ⟨w.heap.size, 3, none⟩ = some (.slice sa M sc) := (BoxAt.cell PB.out 3).trans rfl
          go_simp
          clear cG
          refine hK1008.out _ _ (WB.out) (fun hHeld1008 => ?_)
          clear hK1008 K1008
          try simp only [Act.put, List.setIfInBounds_toArray, List.set_cons_zero, List.set_cons_succ]
          refine wpAnyH_ready (rs := [6]) (by kernel_rfl) (by simp) (AllReadyH.cons (o := { dst := some 49, op := Op.call { callee := Callee.builtin Builtin.append, args := #[Operand.tmp 45, Operand.tmp 48], argTypes := #[22, 22] }, type := 22, pos := "buffer.go:19", after := _, guard := none }) rfl (fun K1015 hK1015 => ?_) AllReadyH.nil)
          have HBp := HB.out.size
          refine step_app_full rfl (.tmp 45) (.tmp 48) rfl _ _ rfl HN.out.symm (HG.out.below HB.out) _ (v) _ rfl LB.out (by have := HXL.out; omega) ?_
          intro uv10 v10 ho h
          obtain ⟨qv10, rfl, -⟩ := ho.sl
          have PB := hid (PB.out.belowAll h)
          have WB := hid (WB.out.belowAll h)
          have RB := hid (RB.out.belowAll h)
          have FB := hid (FB.out.belowAll h)
          have LB := hid (LB.out.belowAll h)
          have HF := hid (HF.out.below h)
          have HB := hid (HB.out.trans (h.mono HB.out.size))
          have hsv10 : v9.heap.size ≤ v10.heap.size := by first | exact h.size | omega
          have HC := hid ho
          clear ho h
          have HC := hid (HC.out.mono HBp)
          clear HBp HG
          refine hK1015.out _ _ (WB.out) (fun hHeld1015 => ?_)
          clear hK1015 K1015
          try simp only [Act.put, List.setIfInBounds_toArray, List.set_cons_zero, List.set_cons_succ]
          refine wpAnyH_take (i := 10) (oi := { dst := some 53, op := Op.fieldAddr 25 (Operand.tmp 3) 2, type := 0, pos := "buffer.go:19", after := _, guard := none }) (v := ?_) rfl (by kernel_rfl) (by kernel_rfl) (by kernel_rfl) (fun _ _ _ h => h) (Or.inl ⟨by rfl, ?_⟩) (by assumption) ?_
          rotate_left
          · (intro w hSw; (try dsimp only at hSw); go_simp; try with_reducible rfl)
          simp only [Act.put, List.setIfInBounds_toArray, List.set_cons_zero, List.set_cons_succ]
          refine wpAnyH_ready (rs := [9]) (by kernel_rfl) (by simp) (AllReadyH.cons (o := { dst := some 52, op := Op.call { callee := Callee.value (Operand.func 18), args := #[Operand.tmp 51], argTypes := #[23] }, type := 23, pos := "buffer.go:19", after := _, guard := none }) rfl (fun K1017 hK1017 => ?_) AllReadyH.nil)
          have HBc := HB.out.size
          go_simp
          refine (qclone_Wt (HV.out.below HB.out) (by have := HL.out; omega)).mono ?_
          rintro e v11 ⟨uu, rfl, hu, hb⟩
          have PB := hid (PB.out.belowAll hb)
          have WB := hid (WB.out.belowAll hb)
          have RB := hid (RB.out.belowAll hb)
          have FB := hid (FB.out.belowAll hb)
          have LB := hid (LB.out.belowAll hb)
          have HF := hid (HF.out.below hb)
          have HC := hid (HC.out.below hb)
          have HB := hid (HB.out.trans (hb.mono HB.out.size))
          have hsv11 : v10.heap.size ≤ v11.heap.size := by first | exact hb.size | omega
          obtain ⟨u, rfl, -⟩ := hu.sl
          have HU := hid (hu.mono HBc)
          clear hu HBc
          clear hb
          refine hK1017.out _ _ (WB.out) (fun hHeld1017 => ?_)
          clear hK1017 K1017
          try simp only [Act.put, List.setIfInBounds_toArray, List.set_cons_zero, List.set_cons_succ]
          refine wpAnyH_ready (rs := [11]) (by kernel_rfl) (by simp) (AllReadyH.cons (o := { dst := none, op := Op.store 22 (Operand.tmp 53) (Operand.tmp 49), type := 0, pos := "buffer.go:19", after := _, guard := none }) rfl (fun K1018 hK1018 => ?_) AllReadyH.nil)
          refine step_store_box rfl 22 _ _ rfl (w.heap.size) 2 (.slice qv10.a qv10.n qv10.c) rfl rfl rfl rfl (by kernel_rfl) _ _ PB.out (by simp) ?_
          intro v12 b g z
          have hsv12 : v11.heap.size ≤ v12.heap.size := by omega
          have HF := hid (HF.out.put g PB.out (by decide))
          have HC := hid (HC.out.put g PB.out (by decide))
          have HU := hid (HU.out.put g PB.out (by decide))
          have PB := hid (show BoxAt v12 (w.heap.size) 25 #[.int .i64 d, .bool k, .slice qv10.a qv10.n qv10.c, .slice sa M sc] from by simpa using b)
          have WB := hid (WB.out.grown g (fun e => by have := Option.some.inj e; omega))
          have RB := hid (RB.out.grown g (fun e => by have := Option.some.inj e; omega))
          have FB := hid (FB.out.grown g (fun e => by have := Option.some.inj e; omega))
          have LB := hid (LB.out.grown g (fun e => by have := Option.some.inj e; omega))
          have HB := hid (HB.out.trans (grown_below g (by omega) (by omega)))
          clear b g z
          refine hK1018.out _ _ (WB.out) (fun hHeld1018 => ?_)
          clear hK1018 K1018
          try simp only [Act.put]
          refine wpAnyH_take (i := 12) (oi := { dst := some 54, op := Op.fieldAddr 25 (Operand.tmp 3) 3, type := 0, pos := "buffer.go:19", after := _, guard := none }) (v := ?_) rfl (by kernel_rfl) (by kernel_rfl) (by kernel_rfl) (fun _ _ _ h => h) (Or.inl ⟨by rfl, ?_⟩) (by assumption) ?_
          rotate_left
          · (intro w hSw; (try dsimp only at hSw); go_simp; try with_reducible rfl)
          simp only [Act.put, List.setIfInBounds_toArray, List.set_cons_zero, List.set_cons_succ]
          refine wpAnyH_ready (rs := [13]) (by kernel_rfl) (by simp) (AllReadyH.cons (o := { dst := none, op := Op.store 23 (Operand.tmp 54) (Operand.tmp 52), type := 0, pos := "buffer.go:19", after := _, guard := none }) rfl (fun K1020 hK1020 => ?_) AllReadyH.nil)
          refine step_store_box rfl 23 _ _ rfl (w.heap.size) 3 (.slice u.a u.n u.c) rfl rfl rfl rfl (by kernel_rfl) _ _ PB.out (by simp) ?_
          intro v13 b g z
          have hsv13 : v12.heap.size ≤ v13.heap.size := by omega
          have HF := hid (HF.out.put g PB.out (by decide))
          have HC := hid (HC.out.put g PB.out (by decide))
          have HU := hid (HU.out.put g PB.out (by decide))
          have PB := hid (show BoxAt v13 (w.heap.size) 25 #[.int .i64 d, .bool k, .slice qv10.a qv10.n qv10.c, .slice u.a u.n u.c] from by simpa using b)
          have WB := hid (WB.out.grown g (fun e => by have := Option.some.inj e; omega))
          have RB := hid (RB.out.grown g (fun e => by have := Option.some.inj e; omega))
          have FB := hid (FB.out.grown g (fun e => by have := Option.some.inj e; omega))
          have LB := hid (LB.out.grown g (fun e => by have := Option.some.inj e; omega))
          have HB := hid (HB.out.trans (grown_below g (by omega) (by omega)))
          clear b g z
          refine hK1020.out _ _ (WB.out) (fun hHeld1020 => ?_)
          clear hK1020 K1020
          try simp only [Act.put]
          refine wpAnyH_done (by kernel_rfl) ?_ _
          clear hHeld hHeld1005 hHeld1006 hHeld1007 hHeld1008 hHeld1015 hHeld1017 hHeld1018 hHeld1020
          have kPB0 : v13.cell? ⟨w.heap.size, 0, none⟩ = some (.int .i64 d) := (BoxAt.cell PB.out 0).trans rfl
          have kPB1 : v13.cell? ⟨w.heap.size, 1, none⟩ = some (.bool k) := (BoxAt.cell PB.out 1).trans rfl
          have kPB2 : v13.cell? ⟨w.heap.size, 2, none⟩ = some (.slice qv10.a qv10.n qv10.c) := (BoxAt.cell PB.out 2).trans rfl
          have kPB3 : v13.cell? ⟨w.heap.size, 3, none⟩ = some (.slice u.a u.n u.c) := (BoxAt.cell PB.out 3).trans rfl
          have kWB0 : v13.cell? ⟨v1.heap.size, 0, none⟩ = some (.int .i64 p) := (BoxAt.cell WB.out 0).trans rfl
          have kWB1 : v13.cell? ⟨v1.heap.size, 1, none⟩ = some (.int .i64 r) := (BoxAt.cell WB.out 1).trans rfl
          have kWB2 : v13.cell? ⟨v1.heap.size, 2, none⟩ = some (.int .i64 v) := (BoxAt.cell WB.out 2).trans rfl
          have kFB0 : v13.cell? ⟨v4.heap.size, 0, none⟩ = some (.int .i64 0) := (BoxAt.cell FB.out 0).trans rfl
          have kFB2 : v13.cell? ⟨v4.heap.size, 2, none⟩ = some (.int .i64 0) := (BoxAt.cell FB.out 2).trans rfl
          have FL6 := hid trivial
          go_wp2_with (first
            | (refine wpList_load_box rfl 25 _ rfl (w.heap.size) rfl _ _ PB.out _ Try.underlying25 Try.infoBf ?_)
            | (have hfl := FL6.out
               refine wpList_store_whole rfl 25 _ _ rfl rfl (v2.heap.size) rfl [.int .i64 d, .bool k, .slice qv10.a qv10.n qv10.c, .slice u.a u.n u.c] rfl _ _ RB.out rfl Try.infoBf (by simp [Value.oneCell']) ?_
               intro v14 b g z
               have hsv14 : v13.heap.size ≤ v14.heap.size := by omega
               have HF := hid (HF.out.put g RB.out (by decide))
               have HC := hid (HC.out.put g RB.out (by decide))
               have HU := hid (HU.out.put g RB.out (by decide))
               have RB := hid (show BoxAt v14 (v2.heap.size) 25 #[.int .i64 d, .bool k, .slice qv10.a qv10.n qv10.c, .slice u.a u.n u.c] from b)
               have PB := hid (PB.out.grown g (fun e => by have := Option.some.inj e; omega))
               have WB := hid (WB.out.grown g (fun e => by have := Option.some.inj e; omega))
               have FB := hid (FB.out.grown g (fun e => by have := Option.some.inj e; omega))
               have LB := hid (LB.out.grown g (fun e => by have := Option.some.inj e; omega))
               have HB := hid (HB.out.trans (grown_below g (by omega) (by omega)))
               clear kPB0 kPB1 kPB2 kPB3 kWB0 kWB1 kWB2 kFB0 kFB2
               have kPB0 : v14.cell? ⟨w.heap.size, 0, none⟩ = some (.int .i64 d) := (BoxAt.cell PB.out 0).trans rfl
               have kPB1 : v14.cell? ⟨w.heap.size, 1, none⟩ = some (.bool k) := (BoxAt.cell PB.out 1).trans rfl
               have kPB2 : v14.cell? ⟨w.heap.size, 2, none⟩ = some (.slice qv10.a qv10.n qv10.c) := (BoxAt.cell PB.out 2).trans rfl
               have kPB3 : v14.cell? ⟨w.heap.size, 3, none⟩ = some (.slice u.a u.n u.c) := (BoxAt.cell PB.out 3).trans rfl
               have kWB0 : v14.cell? ⟨v1.heap.size, 0, none⟩ = some (.int .i64 p) := (BoxAt.cell WB.out 0).trans rfl
               have kWB1 : v14.cell? ⟨v1.heap.size, 1, none⟩ = some (.int .i64 r) := (BoxAt.cell WB.out 1).trans rfl
               have kWB2 : v14.cell? ⟨v1.heap.size, 2, none⟩ = some (.int .i64 v) := (BoxAt.cell WB.out 2).trans rfl
               have kFB0 : v14.cell? ⟨v4.heap.size, 0, none⟩ = some (.int .i64 0) := (BoxAt.cell FB.out 0).trans rfl
               have kFB2 : v14.cell? ⟨v4.heap.size, 2, none⟩ = some (.int .i64 0) := (BoxAt.cell FB.out 2).trans rfl
               clear b g z hfl FL6)
            | fail)
          refine bodyPost_ret (results_box_tmp2 rfl _ _ (v2.heap.size) 25 _ (0, 0) _ rfl RB.out Try.underlying25 rfl Try.infoBf) rfl ?_
          exact ⟨qv10, u, ⟨none, 0, 0⟩, rfl, HC.out, HU.out, OWk.nil _ _, HB.out⟩
      case' b1007_8 =>
        have cG : v8.cell? ⟨w.heap.size, 3, none⟩ = some (.slice sa M sc) := (BoxAt.cell PB.out 3).trans rfl
        go_simp
        clear cG
        refine hK1007.out _ _ (WB.out) (fun hHeld1007 => ?_)
        clear hK1007 K1007
        try simp only [Act.put, List.setIfInBounds_toArray, List.set_cons_zero, List.set_cons_succ]
        refine wpAnyH_ready (rs := [5]) (by kernel_rfl) (by simp) (AllReadyH.cons (o := { dst := some 48, op := Op.buildSlice 22 1 #[(0, Operand.tmp 47)], type := 22, pos := "buffer.go:19", after := _, guard := none }) rfl (fun K1021 hK1021 => ?_) AllReadyH.nil)
        refine step_litI rfl (.tmp 47) rfl (v) rfl ?_
        intro v9 b h
        have LB := hid (show BoxAt v9 v8.heap.size 3 #[.int .i64 (v)] from b)
        have PB := hid (PB.out.belowAll h)
        have WB := hid (WB.out.belowAll h)
        have RB := hid (RB.out.belowAll h)
        have FB := hid (FB.out.belowAll h)
        have HF := hid (HF.out.below h)
        have HB := hid (HB.out.trans (h.mono HB.out.size))
        have hsv9 : v8.heap.size ≤ v9.heap.size := by first | exact h.size | omega
        clear b h
        refine hK1021.out _ _ (WB.out) (fun hHeld1021 => ?_)
        clear hK1021 K1021
        try simp only [Act.put, List.setIfInBounds_toArray, List.set_cons_zero, List.set_cons_succ]
        refine wpAnyH_ready (rs := [6]) (by kernel_rfl) (by simp) (AllReadyH.cons (o := { dst := some 49, op := Op.call { callee := Callee.builtin Builtin.append, args := #[Operand.tmp 45, Operand.tmp 48], argTypes := #[22, 22] }, type := 22, pos := "buffer.go:19", after := _, guard := none }) rfl (fun K1022 hK1022 => ?_) AllReadyH.nil)
        have HBp := HB.out.size
        refine step_app_full rfl (.tmp 45) (.tmp 48) rfl _ _ rfl HN.out.symm (HG.out.below HB.out) _ (v) _ rfl LB.out (by have := HXL.out; omega) ?_
        intro uv10 v10 ho h
        obtain ⟨qv10, rfl, -⟩ := ho.sl
        have PB := hid (PB.out.belowAll h)
        have WB := hid (WB.out.belowAll h)
        have RB := hid (RB.out.belowAll h)
        have FB := hid (FB.out.belowAll h)
        have LB := hid (LB.out.belowAll h)
        have HF := hid (HF.out.below h)
        have HB := hid (HB.out.trans (h.mono HB.out.size))
        have hsv10 : v9.heap.size ≤ v10.heap.size := by first | exact h.size | omega
        have HC := hid ho
        clear ho h
        have HC := hid (HC.out.mono HBp)
        clear HBp HG
        refine hK1022.out _ _ (WB.out) (fun hHeld1022 => ?_)
        clear hK1022 K1022
        try simp only [Act.put, List.setIfInBounds_toArray, List.set_cons_zero, List.set_cons_succ]
        refine wpAnyH_take (i := 10) (oi := { dst := some 53, op := Op.fieldAddr 25 (Operand.tmp 3) 2, type := 0, pos := "buffer.go:19", after := _, guard := none }) (v := ?_) rfl (by kernel_rfl) (by kernel_rfl) (by kernel_rfl) (fun _ _ _ h => h) (Or.inl ⟨by rfl, ?_⟩) (by assumption) ?_
        rotate_left
        · (intro w hSw; (try dsimp only at hSw); go_simp; try with_reducible rfl)
        simp only [Act.put, List.setIfInBounds_toArray, List.set_cons_zero, List.set_cons_succ]
        refine wpAnyH_ready (rs := [9]) (by kernel_rfl) (by simp) (AllReadyH.cons (o := { dst := some 52, op := Op.call { callee := Callee.value (Operand.func 18), args := #[Operand.tmp 51], argTypes := #[23] }, type := 23, pos := "buffer.go:19", after := _, guard := none }) rfl (fun K1024 hK1024 => ?_) AllReadyH.nil)
        have HBc := HB.out.size
        go_simp
        refine (qclone_Wt (HV.out.below HB.out) (by have := HL.out; omega)).mono ?_
        rintro e v11 ⟨uu, rfl, hu, hb⟩
        have PB := hid (PB.out.belowAll hb)
        have WB := hid (WB.out.belowAll hb)
        have RB := hid (RB.out.belowAll hb)
        have FB := hid (FB.out.belowAll hb)
        have LB := hid (LB.out.belowAll hb)
        have HF := hid (HF.out.below hb)
        have HC := hid (HC.out.below hb)
        have HB := hid (HB.out.trans (hb.mono HB.out.size))
        have hsv11 : v10.heap.size ≤ v11.heap.size := by first | exact hb.size | omega
        obtain ⟨u, rfl, -⟩ := hu.sl
        have HU := hid (hu.mono HBc)
        clear hu HBc
        clear hb
        refine hK1024.out _ _ (WB.out) (fun hHeld1024 => ?_)
        clear hK1024 K1024
        try simp only [Act.put, List.setIfInBounds_toArray, List.set_cons_zero, List.set_cons_succ]
        refine wpAnyH_ready (rs := [11]) (by kernel_rfl) (by simp) (AllReadyH.cons (o := { dst := none, op := Op.store 22 (Operand.tmp 53) (Operand.tmp 49), type := 0, pos := "buffer.go:19", after := _, guard := none }) rfl (fun K1025 hK1025 => ?_) AllReadyH.nil)
        refine step_store_box rfl 22 _ _ rfl (w.heap.size) 2 (.slice qv10.a qv10.n qv10.c) rfl rfl rfl rfl (by kernel_rfl) _ _ PB.out (by simp) ?_
        intro v12 b g z
        have hsv12 : v11.heap.size ≤ v12.heap.size := by omega
        have HF := hid (HF.out.put g PB.out (by decide))
        have HC := hid (HC.out.put g PB.out (by decide))
        have HU := hid (HU.out.put g PB.out (by decide))
        have PB := hid (show BoxAt v12 (w.heap.size) 25 #[.int .i64 d, .bool k, .slice qv10.a qv10.n qv10.c, .slice sa M sc] from by simpa using b)
        have WB := hid (WB.out.grown g (fun e => by have := Option.some.inj e; omega))
        have RB := hid (RB.out.grown g (fun e => by have := Option.some.inj e; omega))
        have FB := hid (FB.out.grown g (fun e => by have := Option.some.inj e; omega))
        have LB := hid (LB.out.grown g (fun e => by have := Option.some.inj e; omega))
        have HB := hid (HB.out.trans (grown_below g (by omega) (by omega)))
        clear b g z
        refine hK1025.out _ _ (WB.out) (fun hHeld1025 => ?_)
        clear hK1025 K1025
        try simp only [Act.put]
        refine wpAnyH_take (i := 12) (oi := { dst := some 54, op := Op.fieldAddr 25 (Operand.tmp 3) 3, type := 0, pos := "buffer.go:19", after := _, guard := none }) (v := ?_) rfl (by kernel_rfl) (by kernel_rfl) (by kernel_rfl) (fun _ _ _ h => h) (Or.inl ⟨by rfl, ?_⟩) (by assumption) ?_
        rotate_left
        · (intro w hSw; (try dsimp only at hSw); go_simp; try with_reducible rfl)
        simp only [Act.put, List.setIfInBounds_toArray, List.set_cons_zero, List.set_cons_succ]
        refine wpAnyH_ready (rs := [13]) (by kernel_rfl) (by simp) (AllReadyH.cons (o := { dst := none, op := Op.store 23 (Operand.tmp 54) (Operand.tmp 52), type := 0, pos := "buffer.go:19", after := _, guard := none }) rfl (fun K1027 hK1027 => ?_) AllReadyH.nil)
        refine step_store_box rfl 23 _ _ rfl (w.heap.size) 3 (.slice u.a u.n u.c) rfl rfl rfl rfl (by kernel_rfl) _ _ PB.out (by simp) ?_
        intro v13 b g z
        have hsv13 : v12.heap.size ≤ v13.heap.size := by omega
        have HF := hid (HF.out.put g PB.out (by decide))
        have HC := hid (HC.out.put g PB.out (by decide))
        have HU := hid (HU.out.put g PB.out (by decide))
        have PB := hid (show BoxAt v13 (w.heap.size) 25 #[.int .i64 d, .bool k, .slice qv10.a qv10.n qv10.c, .slice u.a u.n u.c] from by simpa using b)
        have WB := hid (WB.out.grown g (fun e => by have := Option.some.inj e; omega))
        have RB := hid (RB.out.grown g (fun e => by have := Option.some.inj e; omega))
        have FB := hid (FB.out.grown g (fun e => by have := Option.some.inj e; omega))
        have LB := hid (LB.out.grown g (fun e => by have := Option.some.inj e; omega))
        have HB := hid (HB.out.trans (grown_below g (by omega) (by omega)))
        clear b g z
        refine hK1027.out _ _ (WB.out) (fun hHeld1027 => ?_)
        clear hK1027 K1027
        try simp only [Act.put]
        refine wpAnyH_done (by kernel_rfl) ?_ _
        clear hHeld hHeld1005 hHeld1006 hHeld1007 hHeld1021 hHeld1022 hHeld1024 hHeld1025 hHeld1027
        have kPB0 : v13.cell? ⟨w.heap.size, 0, none⟩ = some (.int .i64 d) := (BoxAt.cell PB.out 0).trans rfl
        have kPB1 : v13.cell? ⟨w.heap.size, 1, none⟩ = some (.bool k) := (BoxAt.cell PB.out 1).trans rfl
        have kPB2 : v13.cell? ⟨w.heap.size, 2, none⟩ = some (.slice qv10.a qv10.n qv10.c) := (BoxAt.cell PB.out 2).trans rfl
        have kPB3 : v13.cell? ⟨w.heap.size, 3, none⟩ = some (.slice u.a u.n u.c) := (BoxAt.cell PB.out 3).trans rfl
        have kWB0 : v13.cell? ⟨v1.heap.size, 0, none⟩ = some (.int .i64 p) := (BoxAt.cell WB.out 0).trans rfl
        have kWB1 : v13.cell? ⟨v1.heap.size, 1, none⟩ = some (.int .i64 r) := (BoxAt.cell WB.out 1).trans rfl
        have kWB2 : v13.cell? ⟨v1.heap.size, 2, none⟩ = some (.int .i64 v) := (BoxAt.cell WB.out 2).trans rfl
        have kFB0 : v13.cell? ⟨v4.heap.size, 0, none⟩ = some (.int .i64 0) := (BoxAt.cell FB.out 0).trans rfl
        have kFB2 : v13.cell? ⟨v4.heap.size, 2, none⟩ = some (.int .i64 0) := (BoxAt.cell FB.out 2).trans rfl
        have FL6 := hid trivial
        go_wp2_with (first
          | (refine wpList_load_box rfl 25 _ rfl (w.heap.size) rfl _ _ PB.out _ Try.underlying25 Try.infoBf ?_)
          | (have hfl := FL6.out
             refine wpList_store_whole rfl 25 _ _ rfl rfl (v2.heap.size) rfl [.int .i64 d, .bool k, .slice qv10.a qv10.n qv10.c, .slice u.a u.n u.c] rfl _ _ RB.out rfl Try.infoBf (by simp [Value.oneCell']) ?_
             intro v14 b g z
             have hsv14 : v13.heap.size ≤ v14.heap.size := by omega
             have HF := hid (HF.out.put g RB.out (by decide))
             have HC := hid (HC.out.put g RB.out (by decide))
             have HU := hid (HU.out.put g RB.out (by decide))
             have RB := hid (show BoxAt v14 (v2.heap.size) 25 #[.int .i64 d, .bool k, .slice qv10.a qv10.n qv10.c, .slice u.a u.n u.c] from b)
             have PB := hid (PB.out.grown g (fun e => by have := Option.some.inj e; omega))
             have WB := hid (WB.out.grown g (fun e => by have := Option.some.inj e; omega))
             have FB := hid (FB.out.grown g (fun e => by have := Option.some.inj e; omega))
             have LB := hid (LB.out.grown g (fun e => by have := Option.some.inj e; omega))
             have HB := hid (HB.out.trans (grown_below g (by omega) (by omega)))
             clear kPB0 kPB1 kPB2 kPB3 kWB0 kWB1 kWB2 kFB0 kFB2
             have kPB0 : v14.cell? ⟨w.heap.size, 0, none⟩ = some (.int .i64 d) := (BoxAt.cell PB.out 0).trans rfl
             have kPB1 : v14.cell? ⟨w.heap.size, 1, none⟩ = some (.bool k) := (BoxAt.cell PB.out 1).trans rfl
             have kPB2 : v14.cell? ⟨w.heap.size, 2, none⟩ = some (.slice qv10.a qv10.n qv10.c) := (BoxAt.cell PB.out 2).trans rfl
             have kPB3 : v14.cell? ⟨w.heap.size, 3, none⟩ = some (.slice u.a u.n u.c) := (BoxAt.cell PB.out 3).trans rfl
             have kWB0 : v14.cell? ⟨v1.heap.size, 0, none⟩ = some (.int .i64 p) := (BoxAt.cell WB.out 0).trans rfl
             have kWB1 : v14.cell? ⟨v1.heap.size, 1, none⟩ = some (.int .i64 r) := (BoxAt.cell WB.out 1).trans rfl
             have kWB2 : v14.cell? ⟨v1.heap.size, 2, none⟩ = some (.int .i64 v) := (BoxAt.cell WB.out 2).trans rfl
             have kFB0 : v14.cell? ⟨v4.heap.size, 0, none⟩ = some (.int .i64 0) := (BoxAt.cell FB.out 0).trans rfl
             have kFB2 : v14.cell? ⟨v4.heap.size, 2, none⟩ = some (.int .i64 0) := (BoxAt.cell FB.out 2).trans rfl
             clear b g z hfl FL6)
          | fail)
        refine bodyPost_ret (results_box_tmp2 rfl _ _ (v2.heap.size) 25 _ (0, 0) _ rfl RB.out Try.underlying25 rfl Try.infoBf) rfl ?_
        exact ⟨qv10, u, ⟨none, 0, 0⟩, rfl, HC.out, HU.out, OWk.nil _ _, HB.out⟩
    case' b1006_5 =>
      refine step_litI rfl (.tmp 47) rfl (v) rfl ?_
      intro v8 b h
      have LB := hid (show BoxAt v8 v7.heap.size 3 #[.int .i64 (v)] from b)
      have PB := hid (PB.out.belowAll h)
      have WB := hid (WB.out.belowAll h)
      have RB := hid (RB.out.belowAll h)
      have FB := hid (FB.out.belowAll h)
      have HF := hid (HF.out.below h)
      have HB := hid (HB.out.trans (h.mono HB.out.size))
      have hsv8 : v7.heap.size ≤ v8.heap.size := by first | exact h.size | omega
      clear b h
      refine hK1006.out _ _ (WB.out) (fun hHeld1006 => ?_)
      clear hK1006 K1006
      try simp only [Act.put, List.setIfInBounds_toArray, List.set_cons_zero, List.set_cons_succ]
      refine wpAnyH_ready (rs := [2, 8]) (by kernel_rfl) (by simp) (AllReadyH.cons (o := { dst := some 45, op := Op.call { callee := Callee.value (Operand.func 17), args := #[Operand.tmp 44, Operand.const (Value.int IntKind.i64 0)], argTypes := #[22, 3] }, type := 22, pos := "buffer.go:19", after := _, guard := none }) rfl (fun K1028 hK1028 => ?b1028_2) (AllReadyH.cons (o := { dst := some 51, op := Op.load 23 (Operand.tmp 50), type := 23, pos := "buffer.go:19", after := _, guard := none }) rfl (fun K1028 hK1028 => ?b1028_8) AllReadyH.nil))
      case' b1028_2 =>
        go_simp
        refine (from_left0 HX.out HN.out).mono ?_
        rintro e v9 ⟨ga, rfl, hu, hb⟩
        have PB := hid (PB.out.belowAll hb)
        have WB := hid (WB.out.belowAll hb)
        have RB := hid (RB.out.belowAll hb)
        have FB := hid (FB.out.belowAll hb)
        have LB := hid (LB.out.belowAll hb)
        have HF := hid (HF.out.below hb)
        have HB := hid (HB.out.trans (hb.mono HB.out.size))
        have hsv9 : v8.heap.size ≤ v9.heap.size := by first | exact hb.size | omega
        have HG := hid hu
        clear hu
        clear hb
        refine hK1028.out _ _ (WB.out) (fun hHeld1028 => ?_)
        clear hK1028 K1028
        try simp only [Act.put, List.setIfInBounds_toArray, List.set_cons_zero, List.set_cons_succ]
        refine wpAnyH_ready (rs := [6, 8]) (by kernel_rfl) (by simp) (AllReadyH.cons (o := { dst := some 49, op := Op.call { callee := Callee.builtin Builtin.append, args := #[Operand.tmp 45, Operand.tmp 48], argTypes := #[22, 22] }, type := 22, pos := "buffer.go:19", after := _, guard := none }) rfl (fun K1029 hK1029 => ?b1029_6) (AllReadyH.cons (o := { dst := some 51, op := Op.load 23 (Operand.tmp 50), type := 23, pos := "buffer.go:19", after := _, guard := none }) rfl (fun K1029 hK1029 => ?b1029_8) AllReadyH.nil))
        case' b1029_6 =>
          have HBp := HB.out.size
          refine step_app_full rfl (.tmp 45) (.tmp 48) rfl _ _ rfl HN.out.symm (HG.out.below HB.out) _ (v) _ rfl LB.out (by have := HXL.out; omega) ?_
          intro uv10 v10 ho h
          obtain ⟨qv10, rfl, -⟩ := ho.sl
          have PB := hid (PB.out.belowAll h)
          have WB := hid (WB.out.belowAll h)
          have RB := hid (RB.out.belowAll h)
          have FB := hid (FB.out.belowAll h)
          have LB := hid (LB.out.belowAll h)
          have HF := hid (HF.out.below h)
          have HB := hid (HB.out.trans (h.mono HB.out.size))
          have hsv10 : v9.heap.size ≤ v10.heap.size := by first | exact h.size | omega
          have HC := hid ho
          clear ho h
          have HC := hid (HC.out.mono HBp)
          clear HBp HG
          refine hK1029.out _ _ (WB.out) (fun hHeld1029 => ?_)
          clear hK1029 K1029
          try simp only [Act.put, List.setIfInBounds_toArray, List.set_cons_zero, List.set_cons_succ]
          refine wpAnyH_ready (rs := [8]) (by kernel_rfl) (by simp) (AllReadyH.cons (o := { dst := some 51, op := Op.load 23 (Operand.tmp 50), type := 23, pos := "buffer.go:19", after := _, guard := none }) rfl (fun K1030 hK1030 => ?_) AllReadyH.nil)
          have cG : v10.cell? ⟨w.heap.size, 3, none⟩ = some (.slice sa M sc) := (BoxAt.cell PB.out 3).trans rfl
          go_simp
          clear cG
          refine hK1030.out _ _ (WB.out) (fun hHeld1030 => ?_)
          clear hK1030 K1030
          try simp only [Act.put, List.setIfInBounds_toArray, List.set_cons_zero, List.set_cons_succ]
          refine wpAnyH_take (i := 10) (oi := { dst := some 53, op := Op.fieldAddr 25 (Operand.tmp 3) 2, type := 0, pos := "buffer.go:19", after := _, guard := none }) (v := ?_) rfl (by kernel_rfl) (by kernel_rfl) (by kernel_rfl) (fun _ _ _ h => h) (Or.inl ⟨by rfl, ?_⟩) (by assumption) ?_
          rotate_left
          · (intro w hSw; (try dsimp only at hSw); go_simp; try with_reducible rfl)
          simp only [Act.put, List.setIfInBounds_toArray, List.set_cons_zero, List.set_cons_succ]
          refine wpAnyH_ready (rs := [9]) (by kernel_rfl) (by simp) (AllReadyH.cons (o := { dst := some 52, op := Op.call { callee := Callee.value (Operand.func 18), args := #[Operand.tmp 51], argTypes := #[23] }, type := 23, pos := "buffer.go:19", after := _, guard := none }) rfl (fun K1032 hK1032 => ?_) AllReadyH.nil)
          have HBc := HB.out.size
          go_simp
          refine (qclone_Wt (HV.out.below HB.out) (by have := HL.out; omega)).mono ?_
          rintro e v11 ⟨uu, rfl, hu, hb⟩
          have PB := hid (PB.out.belowAll hb)
          have WB := hid (WB.out.belowAll hb)
          have RB := hid (RB.out.belowAll hb)
          have FB := hid (FB.out.belowAll hb)
          have LB := hid (LB.out.belowAll hb)
          have HF := hid (HF.out.below hb)
          have HC := hid (HC.out.below hb)
          have HB := hid (HB.out.trans (hb.mono HB.out.size))
          have hsv11 : v10.heap.size ≤ v11.heap.size := by first | exact hb.size | omega
          obtain ⟨u, rfl, -⟩ := hu.sl
          have HU := hid (hu.mono HBc)
          clear hu HBc
          clear hb
          refine hK1032.out _ _ (WB.out) (fun hHeld1032 => ?_)
          clear hK1032 K1032
          try simp only [Act.put, List.setIfInBounds_toArray, List.set_cons_zero, List.set_cons_succ]
          refine wpAnyH_ready (rs := [11]) (by kernel_rfl) (by simp) (AllReadyH.cons (o := { dst := none, op := Op.store 22 (Operand.tmp 53) (Operand.tmp 49), type := 0, pos := "buffer.go:19", after := _, guard := none }) rfl (fun K1033 hK1033 => ?_) AllReadyH.nil)
          refine step_store_box rfl 22 _ _ rfl (w.heap.size) 2 (.slice qv10.a qv10.n qv10.c) rfl rfl rfl rfl (by kernel_rfl) _ _ PB.out (by simp) ?_
          intro v12 b g z
          have hsv12 : v11.heap.size ≤ v12.heap.size := by omega
          have HF := hid (HF.out.put g PB.out (by decide))
          have HC := hid (HC.out.put g PB.out (by decide))
          have HU := hid (HU.out.put g PB.out (by decide))
          have PB := hid (show BoxAt v12 (w.heap.size) 25 #[.int .i64 d, .bool k, .slice qv10.a qv10.n qv10.c, .slice sa M sc] from by simpa using b)
          have WB := hid (WB.out.grown g (fun e => by have := Option.some.inj e; omega))
          have RB := hid (RB.out.grown g (fun e => by have := Option.some.inj e; omega))
          have FB := hid (FB.out.grown g (fun e => by have := Option.some.inj e; omega))
          have LB := hid (LB.out.grown g (fun e => by have := Option.some.inj e; omega))
          have HB := hid (HB.out.trans (grown_below g (by omega) (by omega)))
          clear b g z
          refine hK1033.out _ _ (WB.out) (fun hHeld1033 => ?_)
          clear hK1033 K1033
          try simp only [Act.put]
          refine wpAnyH_take (i := 12) (oi := { dst := some 54, op := Op.fieldAddr 25 (Operand.tmp 3) 3, type := 0, pos := "buffer.go:19", after := _, guard := none }) (v := ?_) rfl (by kernel_rfl) (by kernel_rfl) (by kernel_rfl) (fun _ _ _ h => h) (Or.inl ⟨by rfl, ?_⟩) (by assumption) ?_
          rotate_left
          · (intro w hSw; (try dsimp only at hSw); go_simp; try with_reducible rfl)
          simp only [Act.put, List.setIfInBounds_toArray, List.set_cons_zero, List.set_cons_succ]
          refine wpAnyH_ready (rs := [13]) (by kernel_rfl) (by simp) (AllReadyH.cons (o := { dst := none, op := Op.store 23 (Operand.tmp 54) (Operand.tmp 52), type := 0, pos := "buffer.go:19", after := _, guard := none }) rfl (fun K1035 hK1035 => ?_) AllReadyH.nil)
          refine step_store_box rfl 23 _ _ rfl (w.heap.size) 3 (.slice u.a u.n u.c) rfl rfl rfl rfl (by kernel_rfl) _ _ PB.out (by simp) ?_
          intro v13 b g z
          have hsv13 : v12.heap.size ≤ v13.heap.size := by omega
          have HF := hid (HF.out.put g PB.out (by decide))
          have HC := hid (HC.out.put g PB.out (by decide))
          have HU := hid (HU.out.put g PB.out (by decide))
          have PB := hid (show BoxAt v13 (w.heap.size) 25 #[.int .i64 d, .bool k, .slice qv10.a qv10.n qv10.c, .slice u.a u.n u.c] from by simpa using b)
          have WB := hid (WB.out.grown g (fun e => by have := Option.some.inj e; omega))
          have RB := hid (RB.out.grown g (fun e => by have := Option.some.inj e; omega))
          have FB := hid (FB.out.grown g (fun e => by have := Option.some.inj e; omega))
          have LB := hid (LB.out.grown g (fun e => by have := Option.some.inj e; omega))
          have HB := hid (HB.out.trans (grown_below g (by omega) (by omega)))
          clear b g z
          refine hK1035.out _ _ (WB.out) (fun hHeld1035 => ?_)
          clear hK1035 K1035
          try simp only [Act.put]
          refine wpAnyH_done (by kernel_rfl) ?_ _
          clear hHeld hHeld1005 hHeld1006 hHeld1028 hHeld1029 hHeld1030 hHeld1032 hHeld1033 hHeld1035
          have kPB0 : v13.cell? ⟨w.heap.size, 0, none⟩ = some (.int .i64 d) := (BoxAt.cell PB.out 0).trans rfl
          have kPB1 : v13.cell? ⟨w.heap.size, 1, none⟩ = some (.bool k) := (BoxAt.cell PB.out 1).trans rfl
          have kPB2 : v13.cell? ⟨w.heap.size, 2, none⟩ = some (.slice qv10.a qv10.n qv10.c) := (BoxAt.cell PB.out 2).trans rfl
          have kPB3 : v13.cell? ⟨w.heap.size, 3, none⟩ = some (.slice u.a u.n u.c) := (BoxAt.cell PB.out 3).trans rfl
          have kWB0 : v13.cell? ⟨v1.heap.size, 0, none⟩ = some (.int .i64 p) := (BoxAt.cell WB.out 0).trans rfl
          have kWB1 : v13.cell? ⟨v1.heap.size, 1, none⟩ = some (.int .i64 r) := (BoxAt.cell WB.out 1).trans rfl
          have kWB2 : v13.cell? ⟨v1.heap.size, 2, none⟩ = some (.int .i64 v) := (BoxAt.cell WB.out 2).trans rfl
          have kFB0 : v13.cell? ⟨v4.heap.size, 0, none⟩ = some (.int .i64 0) := (BoxAt.cell FB.out 0).trans rfl
          have kFB2 : v13.cell? ⟨v4.heap.size, 2, none⟩ = some (.int .i64 0) := (BoxAt.cell FB.out 2).trans rfl
          have FL6 := hid trivial
          go_wp2_with (first
            | (refine wpList_load_box rfl 25 _ rfl (w.heap.size) rfl _ _ PB.out _ Try.underlying25 Try.infoBf ?_)
            | (have hfl := FL6.out
               refine wpList_store_whole rfl 25 _ _ rfl rfl (v2.heap.size) rfl [.int .i64 d, .bool k, .slice qv10.a qv10.n qv10.c, .slice u.a u.n u.c] rfl _ _ RB.out rfl Try.infoBf (by simp [Value.oneCell']) ?_
               intro v14 b g z
               have hsv14 : v13.heap.size ≤ v14.heap.size := by omega
               have HF := hid (HF.out.put g RB.out (by decide))
               have HC := hid (HC.out.put g RB.out (by decide))
               have HU := hid (HU.out.put g RB.out (by decide))
               have RB := hid (show BoxAt v14 (v2.heap.size) 25 #[.int .i64 d, .bool k, .slice qv10.a qv10.n qv10.c, .slice u.a u.n u.c] from b)
               have PB := hid (PB.out.grown g (fun e => by have := Option.some.inj e; omega))
               have WB := hid (WB.out.grown g (fun e => by have := Option.some.inj e; omega))
               have FB := hid (FB.out.grown g (fun e => by have := Option.some.inj e; omega))
               have LB := hid (LB.out.grown g (fun e => by have := Option.some.inj e; omega))
               have HB := hid (HB.out.trans (grown_below g (by omega) (by omega)))
               clear kPB0 kPB1 kPB2 kPB3 kWB0 kWB1 kWB2 kFB0 kFB2
               have kPB0 : v14.cell? ⟨w.heap.size, 0, none⟩ = some (.int .i64 d) := (BoxAt.cell PB.out 0).trans rfl
               have kPB1 : v14.cell? ⟨w.heap.size, 1, none⟩ = some (.bool k) := (BoxAt.cell PB.out 1).trans rfl
               have kPB2 : v14.cell? ⟨w.heap.size, 2, none⟩ = some (.slice qv10.a qv10.n qv10.c) := (BoxAt.cell PB.out 2).trans rfl
               have kPB3 : v14.cell? ⟨w.heap.size, 3, none⟩ = some (.slice u.a u.n u.c) := (BoxAt.cell PB.out 3).trans rfl
               have kWB0 : v14.cell? ⟨v1.heap.size, 0, none⟩ = some (.int .i64 p) := (BoxAt.cell WB.out 0).trans rfl
               have kWB1 : v14.cell? ⟨v1.heap.size, 1, none⟩ = some (.int .i64 r) := (BoxAt.cell WB.out 1).trans rfl
               have kWB2 : v14.cell? ⟨v1.heap.size, 2, none⟩ = some (.int .i64 v) := (BoxAt.cell WB.out 2).trans rfl
               have kFB0 : v14.cell? ⟨v4.heap.size, 0, none⟩ = some (.int .i64 0) := (BoxAt.cell FB.out 0).trans rfl
               have kFB2 : v14.cell? ⟨v4.heap.size, 2, none⟩ = some (.int .i64 0) := (BoxAt.cell FB.out 2).trans rfl
               clear b g z hfl FL6)
            | fail)
          refine bodyPost_ret (results_box_tmp2 rfl _ _ (v2.heap.size) 25 _ (0, 0) _ rfl RB.out Try.underlying25 rfl Try.infoBf) rfl ?_
          exact ⟨qv10, u, ⟨none, 0, 0⟩, rfl, HC.out, HU.out, OWk.nil _ _, HB.out⟩
        case' b1029_8 =>
          have cG : v9.cell? ⟨w.heap.size, 3, none⟩ = some (.slice sa M sc) := (BoxAt.cell PB.out 3).trans rfl
          go_simp
          clear cG
          refine hK1029.out _ _ (WB.out) (fun hHeld1029 => ?_)
          clear hK1029 K1029
          try simp only [Act.put, List.setIfInBounds_toArray, List.set_cons_zero, List.set_cons_succ]
          refine wpAnyH_ready (rs := [6]) (by kernel_rfl) (by simp) (AllReadyH.cons (o := { dst := some 49, op := Op.call { callee := Callee.builtin Builtin.append, args := #[Operand.tmp 45, Operand.tmp 48], argTypes := #[22, 22] }, type := 22, pos := "buffer.go:19", after := _, guard := none }) rfl (fun K1036 hK1036 => ?_) AllReadyH.nil)
          have HBp := HB.out.size
          refine step_app_full rfl (.tmp 45) (.tmp 48) rfl _ _ rfl HN.out.symm (HG.out.below HB.out) _ (v) _ rfl LB.out (by have := HXL.out; omega) ?_
          intro uv10 v10 ho h
          obtain ⟨qv10, rfl, -⟩ := ho.sl
          have PB := hid (PB.out.belowAll h)
          have WB := hid (WB.out.belowAll h)
          have RB := hid (RB.out.belowAll h)
          have FB := hid (FB.out.belowAll h)
          have LB := hid (LB.out.belowAll h)
          have HF := hid (HF.out.below h)
          have HB := hid (HB.out.trans (h.mono HB.out.size))
          have hsv10 : v9.heap.size ≤ v10.heap.size := by first | exact h.size | omega
          have HC := hid ho
          clear ho h
          have HC := hid (HC.out.mono HBp)
          clear HBp HG
          refine hK1036.out _ _ (WB.out) (fun hHeld1036 => ?_)
          clear hK1036 K1036
          try simp only [Act.put, List.setIfInBounds_toArray, List.set_cons_zero, List.set_cons_succ]
          refine wpAnyH_take (i := 10) (oi := { dst := some 53, op := Op.fieldAddr 25 (Operand.tmp 3) 2, type := 0, pos := "buffer.go:19", after := _, guard := none }) (v := ?_) rfl (by kernel_rfl) (by kernel_rfl) (by kernel_rfl) (fun _ _ _ h => h) (Or.inl ⟨by rfl, ?_⟩) (by assumption) ?_
          rotate_left
          · (intro w hSw; (try dsimp only at hSw); go_simp; try with_reducible rfl)
          simp only [Act.put, List.setIfInBounds_toArray, List.set_cons_zero, List.set_cons_succ]
          refine wpAnyH_ready (rs := [9]) (by kernel_rfl) (by simp) (AllReadyH.cons (o := { dst := some 52, op := Op.call { callee := Callee.value (Operand.func 18), args := #[Operand.tmp 51], argTypes := #[23] }, type := 23, pos := "buffer.go:19", after := _, guard := none }) rfl (fun K1038 hK1038 => ?_) AllReadyH.nil)
          have HBc := HB.out.size
          go_simp
          refine (qclone_Wt (HV.out.below HB.out) (by have := HL.out; omega)).mono ?_
          rintro e v11 ⟨uu, rfl, hu, hb⟩
          have PB := hid (PB.out.belowAll hb)
          have WB := hid (WB.out.belowAll hb)
          have RB := hid (RB.out.belowAll hb)
          have FB := hid (FB.out.belowAll hb)
          have LB := hid (LB.out.belowAll hb)
          have HF := hid (HF.out.below hb)
          have HC := hid (HC.out.below hb)
          have HB := hid (HB.out.trans (hb.mono HB.out.size))
          have hsv11 : v10.heap.size ≤ v11.heap.size := by first | exact hb.size | omega
          obtain ⟨u, rfl, -⟩ := hu.sl
          have HU := hid (hu.mono HBc)
          clear hu HBc
          clear hb
          refine hK1038.out _ _ (WB.out) (fun hHeld1038 => ?_)
          clear hK1038 K1038
          try simp only [Act.put, List.setIfInBounds_toArray, List.set_cons_zero, List.set_cons_succ]
          refine wpAnyH_ready (rs := [11]) (by kernel_rfl) (by simp) (AllReadyH.cons (o := { dst := none, op := Op.store 22 (Operand.tmp 53) (Operand.tmp 49), type := 0, pos := "buffer.go:19", after := _, guard := none }) rfl (fun K1039 hK1039 => ?_) AllReadyH.nil)
          refine step_store_box rfl 22 _ _ rfl (w.heap.size) 2 (.slice qv10.a qv10.n qv10.c) rfl rfl rfl rfl (by kernel_rfl) _ _ PB.out (by simp) ?_
          intro v12 b g z
          have hsv12 : v11.heap.size ≤ v12.heap.size := by omega
          have HF := hid (HF.out.put g PB.out (by decide))
          have HC := hid (HC.out.put g PB.out (by decide))
          have HU := hid (HU.out.put g PB.out (by decide))
          have PB := hid (show BoxAt v12 (w.heap.size) 25 #[.int .i64 d, .bool k, .slice qv10.a qv10.n qv10.c, .slice sa M sc] from by simpa using b)
          have WB := hid (WB.out.grown g (fun e => by have := Option.some.inj e; omega))
          have RB := hid (RB.out.grown g (fun e => by have := Option.some.inj e; omega))
          have FB := hid (FB.out.grown g (fun e => by have := Option.some.inj e; omega))
          have LB := hid (LB.out.grown g (fun e => by have := Option.some.inj e; omega))
          have HB := hid (HB.out.trans (grown_below g (by omega) (by omega)))
          clear b g z
          refine hK1039.out _ _ (WB.out) (fun hHeld1039 => ?_)
          clear hK1039 K1039
          try simp only [Act.put]
          refine wpAnyH_take (i := 12) (oi := { dst := some 54, op := Op.fieldAddr 25 (Operand.tmp 3) 3, type := 0, pos := "buffer.go:19", after := _, guard := none }) (v := ?_) rfl (by kernel_rfl) (by kernel_rfl) (by kernel_rfl) (fun _ _ _ h => h) (Or.inl ⟨by rfl, ?_⟩) (by assumption) ?_
          rotate_left
          · (intro w hSw; (try dsimp only at hSw); go_simp; try with_reducible rfl)
          simp only [Act.put, List.setIfInBounds_toArray, List.set_cons_zero, List.set_cons_succ]
          refine wpAnyH_ready (rs := [13]) (by kernel_rfl) (by simp) (AllReadyH.cons (o := { dst := none, op := Op.store 23 (Operand.tmp 54) (Operand.tmp 52), type := 0, pos := "buffer.go:19", after := _, guard := none }) rfl (fun K1041 hK1041 => ?_) AllReadyH.nil)
          refine step_store_box rfl 23 _ _ rfl (w.heap.size) 3 (.slice u.a u.n u.c) rfl rfl rfl rfl (by kernel_rfl) _ _ PB.out (by simp) ?_
          intro v13 b g z
          have hsv13 : v12.heap.size ≤ v13.heap.size := by omega
          have HF := hid (HF.out.put g PB.out (by decide))
          have HC := hid (HC.out.put g PB.out (by decide))
          have HU := hid (HU.out.put g PB.out (by decide))
          have PB := hid (show BoxAt v13 (w.heap.size) 25 #[.int .i64 d, .bool k, .slice qv10.a qv10.n qv10.c, .slice u.a u.n u.c] from by simpa using b)
          have WB := hid (WB.out.grown g (fun e => by have := Option.some.inj e; omega))
          have RB := hid (RB.out.grown g (fun e => by have := Option.some.inj e; omega))
          have FB := hid (FB.out.grown g (fun e => by have := Option.some.inj e; omega))
          have LB := hid (LB.out.grown g (fun e => by have := Option.some.inj e; omega))
          have HB := hid (HB.out.trans (grown_below g (by omega) (by omega)))
          clear b g z
          refine hK1041.out _ _ (WB.out) (fun hHeld1041 => ?_)
          clear hK1041 K1041
          try simp only [Act.put]
          refine wpAnyH_done (by kernel_rfl) ?_ _
          clear hHeld hHeld1005 hHeld1006 hHeld1028 hHeld1029 hHeld1036 hHeld1038 hHeld1039 hHeld1041
          have kPB0 : v13.cell? ⟨w.heap.size, 0, none⟩ = some (.int .i64 d) := (BoxAt.cell PB.out 0).trans rfl
          have kPB1 : v13.cell? ⟨w.heap.size, 1, none⟩ = some (.bool k) := (BoxAt.cell PB.out 1).trans rfl
          have kPB2 : v13.cell? ⟨w.heap.size, 2, none⟩ = some (.slice qv10.a qv10.n qv10.c) := (BoxAt.cell PB.out 2).trans rfl
          have kPB3 : v13.cell? ⟨w.heap.size, 3, none⟩ = some (.slice u.a u.n u.c) := (BoxAt.cell PB.out 3).trans rfl
          have kWB0 : v13.cell? ⟨v1.heap.size, 0, none⟩ = some (.int .i64 p) := (BoxAt.cell WB.out 0).trans rfl
          have kWB1 : v13.cell? ⟨v1.heap.size, 1, none⟩ = some (.int .i64 r) := (BoxAt.cell WB.out 1).trans rfl
          have kWB2 : v13.cell? ⟨v1.heap.size, 2, none⟩ = some (.int .i64 v) := (BoxAt.cell WB.out 2).trans rfl
          have kFB0 : v13.cell? ⟨v4.heap.size, 0, none⟩ = some (.int .i64 0) := (BoxAt.cell FB.out 0).trans rfl
          have kFB2 : v13.cell? ⟨v4.heap.size, 2, none⟩ = some (.int .i64 0) := (BoxAt.cell FB.out 2).trans rfl
          have FL6 := hid trivial
          go_wp2_with (first
            | (refine wpList_load_box rfl 25 _ rfl (w.heap.size) rfl _ _ PB.out _ Try.underlying25 Try.infoBf ?_)
            | (have hfl := FL6.out
               refine wpList_store_whole rfl 25 _ _ rfl rfl (v2.heap.size) rfl [.int .i64 d, .bool k, .slice qv10.a qv10.n qv10.c, .slice u.a u.n u.c] rfl _ _ RB.out rfl Try.infoBf (by simp [Value.oneCell']) ?_
               intro v14 b g z
               have hsv14 : v13.heap.size ≤ v14.heap.size := by omega
               have HF := hid (HF.out.put g RB.out (by decide))
               have HC := hid (HC.out.put g RB.out (by decide))
               have HU := hid (HU.out.put g RB.out (by decide))
               have RB := hid (show BoxAt v14 (v2.heap.size) 25 #[.int .i64 d, .bool k, .slice qv10.a qv10.n qv10.c, .slice u.a u.n u.c] from b)
               have PB := hid (PB.out.grown g (fun e => by have := Option.some.inj e; omega))
               have WB := hid (WB.out.grown g (fun e => by have := Option.some.inj e; omega))
               have FB := hid (FB.out.grown g (fun e => by have := Option.some.inj e; omega))
               have LB := hid (LB.out.grown g (fun e => by have := Option.some.inj e; omega))
               have HB := hid (HB.out.trans (grown_below g (by omega) (by omega)))
               clear kPB0 kPB1 kPB2 kPB3 kWB0 kWB1 kWB2 kFB0 kFB2
               have kPB0 : v14.cell? ⟨w.heap.size, 0, none⟩ = some (.int .i64 d) := (BoxAt.cell PB.out 0).trans rfl
               have kPB1 : v14.cell? ⟨w.heap.size, 1, none⟩ = some (.bool k) := (BoxAt.cell PB.out 1).trans rfl
               have kPB2 : v14.cell? ⟨w.heap.size, 2, none⟩ = some (.slice qv10.a qv10.n qv10.c) := (BoxAt.cell PB.out 2).trans rfl
               have kPB3 : v14.cell? ⟨w.heap.size, 3, none⟩ = some (.slice u.a u.n u.c) := (BoxAt.cell PB.out 3).trans rfl
               have kWB0 : v14.cell? ⟨v1.heap.size, 0, none⟩ = some (.int .i64 p) := (BoxAt.cell WB.out 0).trans rfl
               have kWB1 : v14.cell? ⟨v1.heap.size, 1, none⟩ = some (.int .i64 r) := (BoxAt.cell WB.out 1).trans rfl
               have kWB2 : v14.cell? ⟨v1.heap.size, 2, none⟩ = some (.int .i64 v) := (BoxAt.cell WB.out 2).trans rfl
               have kFB0 : v14.cell? ⟨v4.heap.size, 0, none⟩ = some (.int .i64 0) := (BoxAt.cell FB.out 0).trans rfl
               have kFB2 : v14.cell? ⟨v4.heap.size, 2, none⟩ = some (.int .i64 0) := (BoxAt.cell FB.out 2).trans rfl
               clear b g z hfl FL6)
            | fail)
          refine bodyPost_ret (results_box_tmp2 rfl _ _ (v2.heap.size) 25 _ (0, 0) _ rfl RB.out Try.underlying25 rfl Try.infoBf) rfl ?_
          exact ⟨qv10, u, ⟨none, 0, 0⟩, rfl, HC.out, HU.out, OWk.nil _ _, HB.out⟩
      case' b1028_8 =>
        have cG : v8.cell? ⟨w.heap.size, 3, none⟩ = some (.slice sa M sc) := (BoxAt.cell PB.out 3).trans rfl
        go_simp
        clear cG
        refine hK1028.out _ _ (WB.out) (fun hHeld1028 => ?_)
        clear hK1028 K1028
        try simp only [Act.put, List.setIfInBounds_toArray, List.set_cons_zero, List.set_cons_succ]
        refine wpAnyH_ready (rs := [2]) (by kernel_rfl) (by simp) (AllReadyH.cons (o := { dst := some 45, op := Op.call { callee := Callee.value (Operand.func 17), args := #[Operand.tmp 44, Operand.const (Value.int IntKind.i64 0)], argTypes := #[22, 3] }, type := 22, pos := "buffer.go:19", after := _, guard := none }) rfl (fun K1042 hK1042 => ?_) AllReadyH.nil)
        go_simp
        refine (from_left0 HX.out HN.out).mono ?_
        rintro e v9 ⟨ga, rfl, hu, hb⟩
        have PB := hid (PB.out.belowAll hb)
        have WB := hid (WB.out.belowAll hb)
        have RB := hid (RB.out.belowAll hb)
        have FB := hid (FB.out.belowAll hb)
        have LB := hid (LB.out.belowAll hb)
        have HF := hid (HF.out.below hb)
        have HB := hid (HB.out.trans (hb.mono HB.out.size))
        have hsv9 : v8.heap.size ≤ v9.heap.size := by first | exact hb.size | omega
        have HG := hid hu
        clear hu
        clear hb
        refine hK1042.out _ _ (WB.out) (fun hHeld1042 => ?_)
        clear hK1042 K1042
        try simp only [Act.put, List.setIfInBounds_toArray, List.set_cons_zero, List.set_cons_succ]
        refine wpAnyH_ready (rs := [6]) (by kernel_rfl) (by simp) (AllReadyH.cons (o := { dst := some 49, op := Op.call { callee := Callee.builtin Builtin.append, args := #[Operand.tmp 45, Operand.tmp 48], argTypes := #[22, 22] }, type := 22, pos := "buffer.go:19", after := _, guard := none }) rfl (fun K1043 hK1043 => ?_) AllReadyH.nil)
        have HBp := HB.out.size
        refine step_app_full rfl (.tmp 45) (.tmp 48) rfl _ _ rfl HN.out.symm (HG.out.below HB.out) _ (v) _ rfl LB.out (by have := HXL.out; omega) ?_
        intro uv10 v10 ho h
        obtain ⟨qv10, rfl, -⟩ := ho.sl
        have PB := hid (PB.out.belowAll h)
        have WB := hid (WB.out.belowAll h)
        have RB := hid (RB.out.belowAll h)
        have FB := hid (FB.out.belowAll h)
        have LB := hid (LB.out.belowAll h)
        have HF := hid (HF.out.below h)
        have HB := hid (HB.out.trans (h.mono HB.out.size))
        have hsv10 : v9.heap.size ≤ v10.heap.size := by first | exact h.size | omega
        have HC := hid ho
        clear ho h
        have HC := hid (HC.out.mono HBp)
        clear HBp HG
        refine hK1043.out _ _ (WB.out) (fun hHeld1043 => ?_)
        clear hK1043 K1043
        try simp only [Act.put, List.setIfInBounds_toArray, List.set_cons_zero, List.set_cons_succ]
        refine wpAnyH_take (i := 10) (oi := { dst := some 53, op := Op.fieldAddr 25 (Operand.tmp 3) 2, type := 0, pos := "buffer.go:19", after := _, guard := none }) (v := ?_) rfl (by kernel_rfl) (by kernel_rfl) (by kernel_rfl) (fun _ _ _ h => h) (Or.inl ⟨by rfl, ?_⟩) (by assumption) ?_
        rotate_left
        · (intro w hSw; (try dsimp only at hSw); go_simp; try with_reducible rfl)
        simp only [Act.put, List.setIfInBounds_toArray, List.set_cons_zero, List.set_cons_succ]
        refine wpAnyH_ready (rs := [9]) (by kernel_rfl) (by simp) (AllReadyH.cons (o := { dst := some 52, op := Op.call { callee := Callee.value (Operand.func 18), args := #[Operand.tmp 51], argTypes := #[23] }, type := 23, pos := "buffer.go:19", after := _, guard := none }) rfl (fun K1045 hK1045 => ?_) AllReadyH.nil)
        have HBc := HB.out.size
        go_simp
        refine (qclone_Wt (HV.out.below HB.out) (by have := HL.out; omega)).mono ?_
        rintro e v11 ⟨uu, rfl, hu, hb⟩
        have PB := hid (PB.out.belowAll hb)
        have WB := hid (WB.out.belowAll hb)
        have RB := hid (RB.out.belowAll hb)
        have FB := hid (FB.out.belowAll hb)
        have LB := hid (LB.out.belowAll hb)
        have HF := hid (HF.out.below hb)
        have HC := hid (HC.out.below hb)
        have HB := hid (HB.out.trans (hb.mono HB.out.size))
        have hsv11 : v10.heap.size ≤ v11.heap.size := by first | exact hb.size | omega
        obtain ⟨u, rfl, -⟩ := hu.sl
        have HU := hid (hu.mono HBc)
        clear hu HBc
        clear hb
        refine hK1045.out _ _ (WB.out) (fun hHeld1045 => ?_)
        clear hK1045 K1045
        try simp only [Act.put, List.setIfInBounds_toArray, List.set_cons_zero, List.set_cons_succ]
        refine wpAnyH_ready (rs := [11]) (by kernel_rfl) (by simp) (AllReadyH.cons (o := { dst := none, op := Op.store 22 (Operand.tmp 53) (Operand.tmp 49), type := 0, pos := "buffer.go:19", after := _, guard := none }) rfl (fun K1046 hK1046 => ?_) AllReadyH.nil)
        refine step_store_box rfl 22 _ _ rfl (w.heap.size) 2 (.slice qv10.a qv10.n qv10.c) rfl rfl rfl rfl (by kernel_rfl) _ _ PB.out (by simp) ?_
        intro v12 b g z
        have hsv12 : v11.heap.size ≤ v12.heap.size := by omega
        have HF := hid (HF.out.put g PB.out (by decide))
        have HC := hid (HC.out.put g PB.out (by decide))
        have HU := hid (HU.out.put g PB.out (by decide))
        have PB := hid (show BoxAt v12 (w.heap.size) 25 #[.int .i64 d, .bool k, .slice qv10.a qv10.n qv10.c, .slice sa M sc] from by simpa using b)
        have WB := hid (WB.out.grown g (fun e => by have := Option.some.inj e; omega))
        have RB := hid (RB.out.grown g (fun e => by have := Option.some.inj e; omega))
        have FB := hid (FB.out.grown g (fun e => by have := Option.some.inj e; omega))
        have LB := hid (LB.out.grown g (fun e => by have := Option.some.inj e; omega))
        have HB := hid (HB.out.trans (grown_below g (by omega) (by omega)))
        clear b g z
        refine hK1046.out _ _ (WB.out) (fun hHeld1046 => ?_)
        clear hK1046 K1046
        try simp only [Act.put]
        refine wpAnyH_take (i := 12) (oi := { dst := some 54, op := Op.fieldAddr 25 (Operand.tmp 3) 3, type := 0, pos := "buffer.go:19", after := _, guard := none }) (v := ?_) rfl (by kernel_rfl) (by kernel_rfl) (by kernel_rfl) (fun _ _ _ h => h) (Or.inl ⟨by rfl, ?_⟩) (by assumption) ?_
        rotate_left
        · (intro w hSw; (try dsimp only at hSw); go_simp; try with_reducible rfl)
        simp only [Act.put, List.setIfInBounds_toArray, List.set_cons_zero, List.set_cons_succ]
        refine wpAnyH_ready (rs := [13]) (by kernel_rfl) (by simp) (AllReadyH.cons (o := { dst := none, op := Op.store 23 (Operand.tmp 54) (Operand.tmp 52), type := 0, pos := "buffer.go:19", after := _, guard := none }) rfl (fun K1048 hK1048 => ?_) AllReadyH.nil)
        refine step_store_box rfl 23 _ _ rfl (w.heap.size) 3 (.slice u.a u.n u.c) rfl rfl rfl rfl (by kernel_rfl) _ _ PB.out (by simp) ?_
        intro v13 b g z
        have hsv13 : v12.heap.size ≤ v13.heap.size := by omega
        have HF := hid (HF.out.put g PB.out (by decide))
        have HC := hid (HC.out.put g PB.out (by decide))
        have HU := hid (HU.out.put g PB.out (by decide))
        have PB := hid (show BoxAt v13 (w.heap.size) 25 #[.int .i64 d, .bool k, .slice qv10.a qv10.n qv10.c, .slice u.a u.n u.c] from by simpa using b)
        have WB := hid (WB.out.grown g (fun e => by have := Option.some.inj e; omega))
        have RB := hid (RB.out.grown g (fun e => by have := Option.some.inj e; omega))
        have FB := hid (FB.out.grown g (fun e => by have := Option.some.inj e; omega))
        have LB := hid (LB.out.grown g (fun e => by have := Option.some.inj e; omega))
        have HB := hid (HB.out.trans (grown_below g (by omega) (by omega)))
        clear b g z
        refine hK1048.out _ _ (WB.out) (fun hHeld1048 => ?_)
        clear hK1048 K1048
        try simp only [Act.put]
        refine wpAnyH_done (by kernel_rfl) ?_ _
        clear hHeld hHeld1005 hHeld1006 hHeld1028 hHeld1042 hHeld1043 hHeld1045 hHeld1046 hHeld1048
        have kPB0 : v13.cell? ⟨w.heap.size, 0, none⟩ = some (.int .i64 d) := (BoxAt.cell PB.out 0).trans rfl
        have kPB1 : v13.cell? ⟨w.heap.size, 1, none⟩ = some (.bool k) := (BoxAt.cell PB.out 1).trans rfl
        have kPB2 : v13.cell? ⟨w.heap.size, 2, none⟩ = some (.slice qv10.a qv10.n qv10.c) := (BoxAt.cell PB.out 2).trans rfl
        have kPB3 : v13.cell? ⟨w.heap.size, 3, none⟩ = some (.slice u.a u.n u.c) := (BoxAt.cell PB.out 3).trans rfl
        have kWB0 : v13.cell? ⟨v1.heap.size, 0, none⟩ = some (.int .i64 p) := (BoxAt.cell WB.out 0).trans rfl
        have kWB1 : v13.cell? ⟨v1.heap.size, 1, none⟩ = some (.int .i64 r) := (BoxAt.cell WB.out 1).trans rfl
        have kWB2 : v13.cell? ⟨v1.heap.size, 2, none⟩ = some (.int .i64 v) := (BoxAt.cell WB.out 2).trans rfl
        have kFB0 : v13.cell? ⟨v4.heap.size, 0, none⟩ = some (.int .i64 0) := (BoxAt.cell FB.out 0).trans rfl
        have kFB2 : v13.cell? ⟨v4.heap.size, 2, none⟩ = some (.int .i64 0) := (BoxAt.cell FB.out 2).trans rfl
        have FL6 := hid trivial
        go_wp2_with (first
          | (refine wpList_load_box rfl 25 _ rfl (w.heap.size) rfl _ _ PB.out _ Try.underlying25 Try.infoBf ?_)
          | (have hfl := FL6.out
             refine wpList_store_whole rfl 25 _ _ rfl rfl (v2.heap.size) rfl [.int .i64 d, .bool k, .slice qv10.a qv10.n qv10.c, .slice u.a u.n u.c] rfl _ _ RB.out rfl Try.infoBf (by simp [Value.oneCell']) ?_
             intro v14 b g z
             have hsv14 : v13.heap.size ≤ v14.heap.size := by omega
             have HF := hid (HF.out.put g RB.out (by decide))
             have HC := hid (HC.out.put g RB.out (by decide))
             have HU := hid (HU.out.put g RB.out (by decide))
             have RB := hid (show BoxAt v14 (v2.heap.size) 25 #[.int .i64 d, .bool k, .slice qv10.a qv10.n qv10.c, .slice u.a u.n u.c] from b)
             have PB := hid (PB.out.grown g (fun e => by have := Option.some.inj e; omega))
             have WB := hid (WB.out.grown g (fun e => by have := Option.some.inj e; omega))
             have FB := hid (FB.out.grown g (fun e => by have := Option.some.inj e; omega))
             have LB := hid (LB.out.grown g (fun e => by have := Option.some.inj e; omega))
             have HB := hid (HB.out.trans (grown_below g (by omega) (by omega)))
             clear kPB0 kPB1 kPB2 kPB3 kWB0 kWB1 kWB2 kFB0 kFB2
             have kPB0 : v14.cell? ⟨w.heap.size, 0, none⟩ = some (.int .i64 d) := (BoxAt.cell PB.out 0).trans rfl
             have kPB1 : v14.cell? ⟨w.heap.size, 1, none⟩ = some (.bool k) := (BoxAt.cell PB.out 1).trans rfl
             have kPB2 : v14.cell? ⟨w.heap.size, 2, none⟩ = some (.slice qv10.a qv10.n qv10.c) := (BoxAt.cell PB.out 2).trans rfl
             have kPB3 : v14.cell? ⟨w.heap.size, 3, none⟩ = some (.slice u.a u.n u.c) := (BoxAt.cell PB.out 3).trans rfl
             have kWB0 : v14.cell? ⟨v1.heap.size, 0, none⟩ = some (.int .i64 p) := (BoxAt.cell WB.out 0).trans rfl
             have kWB1 : v14.cell? ⟨v1.heap.size, 1, none⟩ = some (.int .i64 r) := (BoxAt.cell WB.out 1).trans rfl
             have kWB2 : v14.cell? ⟨v1.heap.size, 2, none⟩ = some (.int .i64 v) := (BoxAt.cell WB.out 2).trans rfl
             have kFB0 : v14.cell? ⟨v4.heap.size, 0, none⟩ = some (.int .i64 0) := (BoxAt.cell FB.out 0).trans rfl
             have kFB2 : v14.cell? ⟨v4.heap.size, 2, none⟩ = some (.int .i64 0) := (BoxAt.cell FB.out 2).trans rfl
             clear b g z hfl FL6)
          | fail)
        refine bodyPost_ret (results_box_tmp2 rfl _ _ (v2.heap.size) 25 _ (0, 0) _ rfl RB.out Try.underlying25 rfl Try.infoBf) rfl ?_
        exact ⟨qv10, u, ⟨none, 0, 0⟩, rfl, HC.out, HU.out, OWk.nil _ _, HB.out⟩
    case' b1006_8 =>
      have cG : v7.cell? ⟨w.heap.size, 3, none⟩ = some (.slice sa M sc) := (BoxAt.cell PB.out 3).trans rfl
      go_simp
      clear cG
      refine hK1006.out _ _ (WB.out) (fun hHeld1006 => ?_)
      clear hK1006 K1006
      try simp only [Act.put, List.setIfInBounds_toArray, List.set_cons_zero, List.set_cons_succ]
      refine wpAnyH_ready (rs := [2, 5]) (by kernel_rfl) (by simp) (AllReadyH.cons (o := { dst := some 45, op := Op.call { callee := Callee.value (Operand.func 17), args := #[Operand.tmp 44, Operand.const (Value.int IntKind.i64 0)], argTypes := #[22, 3] }, type := 22, pos := "buffer.go:19", after := _, guard := none }) rfl (fun K1049 hK1049 => ?b1049_2) (AllReadyH.cons (o := { dst := some 48, op := Op.buildSlice 22 1 #[(0, Operand.tmp 47)], type := 22, pos := "buffer.go:19", after := _, guard := none }) rfl (fun K1049 hK1049 => ?b1049_5) AllReadyH.nil))
      case' b1049_2 =>
        go_simp
        refine (from_left0 HX.out HN.out).mono ?_
        rintro e v8 ⟨ga, rfl, hu, hb⟩
        have PB := hid (PB.out.belowAll hb)
        have WB := hid (WB.out.belowAll hb)
        have RB := hid (RB.out.belowAll hb)
        have FB := hid (FB.out.belowAll hb)
        have HF := hid (HF.out.below hb)
        have HB := hid (HB.out.trans (hb.mono HB.out.size))
        have hsv8 : v7.heap.size ≤ v8.heap.size := by first | exact hb.size | omega
        have HG := hid hu
        clear hu
        clear hb
        refine hK1049.out _ _ (WB.out) (fun hHeld1049 => ?_)
        clear hK1049 K1049
        try simp only [Act.put, List.setIfInBounds_toArray, List.set_cons_zero, List.set_cons_succ]
        refine wpAnyH_ready (rs := [5]) (by kernel_rfl) (by simp) (AllReadyH.cons (o := { dst := some 48, op := Op.buildSlice 22 1 #[(0, Operand.tmp 47)], type := 22, pos := "buffer.go:19", after := _, guard := none }) rfl (fun K1050 hK1050 => ?_) AllReadyH.nil)
        refine step_litI rfl (.tmp 47) rfl (v) rfl ?_
        intro v9 b h
        have LB := hid (show BoxAt v9 v8.heap.size 3 #[.int .i64 (v)] from b)
        have PB := hid (PB.out.belowAll h)
        have WB := hid (WB.out.belowAll h)
        have RB := hid (RB.out.belowAll h)
        have FB := hid (FB.out.belowAll h)
        have HF := hid (HF.out.below h)
        have HB := hid (HB.out.trans (h.mono HB.out.size))
        have hsv9 : v8.heap.size ≤ v9.heap.size := by first | exact h.size | omega
        clear b h
        refine hK1050.out _ _ (WB.out) (fun hHeld1050 => ?_)
        clear hK1050 K1050
        try simp only [Act.put, List.setIfInBounds_toArray, List.set_cons_zero, List.set_cons_succ]
        refine wpAnyH_ready (rs := [6]) (by kernel_rfl) (by simp) (AllReadyH.cons (o := { dst := some 49, op := Op.call { callee := Callee.builtin Builtin.append, args := #[Operand.tmp 45, Operand.tmp 48], argTypes := #[22, 22] }, type := 22, pos := "buffer.go:19", after := _, guard := none }) rfl (fun K1051 hK1051 => ?_) AllReadyH.nil)
        have HBp := HB.out.size
        refine step_app_full rfl (.tmp 45) (.tmp 48) rfl _ _ rfl HN.out.symm (HG.out.below HB.out) _ (v) _ rfl LB.out (by have := HXL.out; omega) ?_
        intro uv10 v10 ho h
        obtain ⟨qv10, rfl, -⟩ := ho.sl
        have PB := hid (PB.out.belowAll h)
        have WB := hid (WB.out.belowAll h)
        have RB := hid (RB.out.belowAll h)
        have FB := hid (FB.out.belowAll h)
        have LB := hid (LB.out.belowAll h)
        have HF := hid (HF.out.below h)
        have HB := hid (HB.out.trans (h.mono HB.out.size))
        have hsv10 : v9.heap.size ≤ v10.heap.size := by first | exact h.size | omega
        have HC := hid ho
        clear ho h
        have HC := hid (HC.out.mono HBp)
        clear HBp HG
        refine hK1051.out _ _ (WB.out) (fun hHeld1051 => ?_)
        clear hK1051 K1051
        try simp only [Act.put, List.setIfInBounds_toArray, List.set_cons_zero, List.set_cons_succ]
        refine wpAnyH_take (i := 10) (oi := { dst := some 53, op := Op.fieldAddr 25 (Operand.tmp 3) 2, type := 0, pos := "buffer.go:19", after := _, guard := none }) (v := ?_) rfl (by kernel_rfl) (by kernel_rfl) (by kernel_rfl) (fun _ _ _ h => h) (Or.inl ⟨by rfl, ?_⟩) (by assumption) ?_
        rotate_left
        · (intro w hSw; (try dsimp only at hSw); go_simp; try with_reducible rfl)
        simp only [Act.put, List.setIfInBounds_toArray, List.set_cons_zero, List.set_cons_succ]
        refine wpAnyH_ready (rs := [9]) (by kernel_rfl) (by simp) (AllReadyH.cons (o := { dst := some 52, op := Op.call { callee := Callee.value (Operand.func 18), args := #[Operand.tmp 51], argTypes := #[23] }, type := 23, pos := "buffer.go:19", after := _, guard := none }) rfl (fun K1053 hK1053 => ?_) AllReadyH.nil)
        have HBc := HB.out.size
        go_simp
        refine (qclone_Wt (HV.out.below HB.out) (by have := HL.out; omega)).mono ?_
        rintro e v11 ⟨uu, rfl, hu, hb⟩
        have PB := hid (PB.out.belowAll hb)
        have WB := hid (WB.out.belowAll hb)
        have RB := hid (RB.out.belowAll hb)
        have FB := hid (FB.out.belowAll hb)
        have LB := hid (LB.out.belowAll hb)
        have HF := hid (HF.out.below hb)
        have HC := hid (HC.out.below hb)
        have HB := hid (HB.out.trans (hb.mono HB.out.size))
        have hsv11 : v10.heap.size ≤ v11.heap.size := by first | exact hb.size | omega
        obtain ⟨u, rfl, -⟩ := hu.sl
        have HU := hid (hu.mono HBc)
        clear hu HBc
        clear hb
        refine hK1053.out _ _ (WB.out) (fun hHeld1053 => ?_)
        clear hK1053 K1053
        try simp only [Act.put, List.setIfInBounds_toArray, List.set_cons_zero, List.set_cons_succ]
        refine wpAnyH_ready (rs := [11]) (by kernel_rfl) (by simp) (AllReadyH.cons (o := { dst := none, op := Op.store 22 (Operand.tmp 53) (Operand.tmp 49), type := 0, pos := "buffer.go:19", after := _, guard := none }) rfl (fun K1054 hK1054 => ?_) AllReadyH.nil)
        refine step_store_box rfl 22 _ _ rfl (w.heap.size) 2 (.slice qv10.a qv10.n qv10.c) rfl rfl rfl rfl (by kernel_rfl) _ _ PB.out (by simp) ?_
        intro v12 b g z
        have hsv12 : v11.heap.size ≤ v12.heap.size := by omega
        have HF := hid (HF.out.put g PB.out (by decide))
        have HC := hid (HC.out.put g PB.out (by decide))
        have HU := hid (HU.out.put g PB.out (by decide))
        have PB := hid (show BoxAt v12 (w.heap.size) 25 #[.int .i64 d, .bool k, .slice qv10.a qv10.n qv10.c, .slice sa M sc] from by simpa using b)
        have WB := hid (WB.out.grown g (fun e => by have := Option.some.inj e; omega))
        have RB := hid (RB.out.grown g (fun e => by have := Option.some.inj e; omega))
        have FB := hid (FB.out.grown g (fun e => by have := Option.some.inj e; omega))
        have LB := hid (LB.out.grown g (fun e => by have := Option.some.inj e; omega))
        have HB := hid (HB.out.trans (grown_below g (by omega) (by omega)))
        clear b g z
        refine hK1054.out _ _ (WB.out) (fun hHeld1054 => ?_)
        clear hK1054 K1054
        try simp only [Act.put]
        refine wpAnyH_take (i := 12) (oi := { dst := some 54, op := Op.fieldAddr 25 (Operand.tmp 3) 3, type := 0, pos := "buffer.go:19", after := _, guard := none }) (v := ?_) rfl (by kernel_rfl) (by kernel_rfl) (by kernel_rfl) (fun _ _ _ h => h) (Or.inl ⟨by rfl, ?_⟩) (by assumption) ?_
        rotate_left
        · (intro w hSw; (try dsimp only at hSw); go_simp; try with_reducible rfl)
        simp only [Act.put, List.setIfInBounds_toArray, List.set_cons_zero, List.set_cons_succ]
        refine wpAnyH_ready (rs := [13]) (by kernel_rfl) (by simp) (AllReadyH.cons (o := { dst := none, op := Op.store 23 (Operand.tmp 54) (Operand.tmp 52), type := 0, pos := "buffer.go:19", after := _, guard := none }) rfl (fun K1056 hK1056 => ?_) AllReadyH.nil)
        refine step_store_box rfl 23 _ _ rfl (w.heap.size) 3 (.slice u.a u.n u.c) rfl rfl rfl rfl (by kernel_rfl) _ _ PB.out (by simp) ?_
        intro v13 b g z
        have hsv13 : v12.heap.size ≤ v13.heap.size := by omega
        have HF := hid (HF.out.put g PB.out (by decide))
        have HC := hid (HC.out.put g PB.out (by decide))
        have HU := hid (HU.out.put g PB.out (by decide))
        have PB := hid (show BoxAt v13 (w.heap.size) 25 #[.int .i64 d, .bool k, .slice qv10.a qv10.n qv10.c, .slice u.a u.n u.c] from by simpa using b)
        have WB := hid (WB.out.grown g (fun e => by have := Option.some.inj e; omega))
        have RB := hid (RB.out.grown g (fun e => by have := Option.some.inj e; omega))
        have FB := hid (FB.out.grown g (fun e => by have := Option.some.inj e; omega))
        have LB := hid (LB.out.grown g (fun e => by have := Option.some.inj e; omega))
        have HB := hid (HB.out.trans (grown_below g (by omega) (by omega)))
        clear b g z
        refine hK1056.out _ _ (WB.out) (fun hHeld1056 => ?_)
        clear hK1056 K1056
        try simp only [Act.put]
        refine wpAnyH_done (by kernel_rfl) ?_ _
        clear hHeld hHeld1005 hHeld1006 hHeld1049 hHeld1050 hHeld1051 hHeld1053 hHeld1054 hHeld1056
        have kPB0 : v13.cell? ⟨w.heap.size, 0, none⟩ = some (.int .i64 d) := (BoxAt.cell PB.out 0).trans rfl
        have kPB1 : v13.cell? ⟨w.heap.size, 1, none⟩ = some (.bool k) := (BoxAt.cell PB.out 1).trans rfl
        have kPB2 : v13.cell? ⟨w.heap.size, 2, none⟩ = some (.slice qv10.a qv10.n qv10.c) := (BoxAt.cell PB.out 2).trans rfl
        have kPB3 : v13.cell? ⟨w.heap.size, 3, none⟩ = some (.slice u.a u.n u.c) := (BoxAt.cell PB.out 3).trans rfl
        have kWB0 : v13.cell? ⟨v1.heap.size, 0, none⟩ = some (.int .i64 p) := (BoxAt.cell WB.out 0).trans rfl
        have kWB1 : v13.cell? ⟨v1.heap.size, 1, none⟩ = some (.int .i64 r) := (BoxAt.cell WB.out 1).trans rfl
        have kWB2 : v13.cell? ⟨v1.heap.size, 2, none⟩ = some (.int .i64 v) := (BoxAt.cell WB.out 2).trans rfl
        have kFB0 : v13.cell? ⟨v4.heap.size, 0, none⟩ = some (.int .i64 0) := (BoxAt.cell FB.out 0).trans rfl
        have kFB2 : v13.cell? ⟨v4.heap.size, 2, none⟩ = some (.int .i64 0) := (BoxAt.cell FB.out 2).trans rfl
        have FL6 := hid trivial
        go_wp2_with (first
          | (refine wpList_load_box rfl 25 _ rfl (w.heap.size) rfl _ _ PB.out _ Try.underlying25 Try.infoBf ?_)
          | (have hfl := FL6.out
             refine wpList_store_whole rfl 25 _ _ rfl rfl (v2.heap.size) rfl [.int .i64 d, .bool k, .slice qv10.a qv10.n qv10.c, .slice u.a u.n u.c] rfl _ _ RB.out rfl Try.infoBf (by simp [Value.oneCell']) ?_
             intro v14 b g z
             have hsv14 : v13.heap.size ≤ v14.heap.size := by omega
             have HF := hid (HF.out.put g RB.out (by decide))
             have HC := hid (HC.out.put g RB.out (by decide))
             have HU := hid (HU.out.put g RB.out (by decide))
             have RB := hid (show BoxAt v14 (v2.heap.size) 25 #[.int .i64 d, .bool k, .slice qv10.a qv10.n qv10.c, .slice u.a u.n u.c] from b)
             have PB := hid (PB.out.grown g (fun e => by have := Option.some.inj e; omega))
             have WB := hid (WB.out.grown g (fun e => by have := Option.some.inj e; omega))
             have FB := hid (FB.out.grown g (fun e => by have := Option.some.inj e; omega))
             have LB := hid (LB.out.grown g (fun e => by have := Option.some.inj e; omega))
             have HB := hid (HB.out.trans (grown_below g (by omega) (by omega)))
             clear kPB0 kPB1 kPB2 kPB3 kWB0 kWB1 kWB2 kFB0 kFB2
             have kPB0 : v14.cell? ⟨w.heap.size, 0, none⟩ = some (.int .i64 d) := (BoxAt.cell PB.out 0).trans rfl
             have kPB1 : v14.cell? ⟨w.heap.size, 1, none⟩ = some (.bool k) := (BoxAt.cell PB.out 1).trans rfl
             have kPB2 : v14.cell? ⟨w.heap.size, 2, none⟩ = some (.slice qv10.a qv10.n qv10.c) := (BoxAt.cell PB.out 2).trans rfl
             have kPB3 : v14.cell? ⟨w.heap.size, 3, none⟩ = some (.slice u.a u.n u.c) := (BoxAt.cell PB.out 3).trans rfl
             have kWB0 : v14.cell? ⟨v1.heap.size, 0, none⟩ = some (.int .i64 p) := (BoxAt.cell WB.out 0).trans rfl
             have kWB1 : v14.cell? ⟨v1.heap.size, 1, none⟩ = some (.int .i64 r) := (BoxAt.cell WB.out 1).trans rfl
             have kWB2 : v14.cell? ⟨v1.heap.size, 2, none⟩ = some (.int .i64 v) := (BoxAt.cell WB.out 2).trans rfl
             have kFB0 : v14.cell? ⟨v4.heap.size, 0, none⟩ = some (.int .i64 0) := (BoxAt.cell FB.out 0).trans rfl
             have kFB2 : v14.cell? ⟨v4.heap.size, 2, none⟩ = some (.int .i64 0) := (BoxAt.cell FB.out 2).trans rfl
             clear b g z hfl FL6)
          | fail)
        refine bodyPost_ret (results_box_tmp2 rfl _ _ (v2.heap.size) 25 _ (0, 0) _ rfl RB.out Try.underlying25 rfl Try.infoBf) rfl ?_
        exact ⟨qv10, u, ⟨none, 0, 0⟩, rfl, HC.out, HU.out, OWk.nil _ _, HB.out⟩
      case' b1049_5 =>
        refine step_litI rfl (.tmp 47) rfl (v) rfl ?_
        intro v8 b h
        have LB := hid (show BoxAt v8 v7.heap.size 3 #[.int .i64 (v)] from b)
        have PB := hid (PB.out.belowAll h)
        have WB := hid (WB.out.belowAll h)
        have RB := hid (RB.out.belowAll h)
        have FB := hid (FB.out.belowAll h)
        have HF := hid (HF.out.below h)
        have HB := hid (HB.out.trans (h.mono HB.out.size))
        have hsv8 : v7.heap.size ≤ v8.heap.size := by first | exact h.size | omega
        clear b h
        refine hK1049.out _ _ (WB.out) (fun hHeld1049 => ?_)
        clear hK1049 K1049
        try simp only [Act.put, List.setIfInBounds_toArray, List.set_cons_zero, List.set_cons_succ]
        refine wpAnyH_ready (rs := [2]) (by kernel_rfl) (by simp) (AllReadyH.cons (o := { dst := some 45, op := Op.call { callee := Callee.value (Operand.func 17), args := #[Operand.tmp 44, Operand.const (Value.int IntKind.i64 0)], argTypes := #[22, 3] }, type := 22, pos := "buffer.go:19", after := _, guard := none }) rfl (fun K1057 hK1057 => ?_) AllReadyH.nil)
        go_simp
        refine (from_left0 HX.out HN.out).mono ?_
        rintro e v9 ⟨ga, rfl, hu, hb⟩
        have PB := hid (PB.out.belowAll hb)
        have WB := hid (WB.out.belowAll hb)
        have RB := hid (RB.out.belowAll hb)
        have FB := hid (FB.out.belowAll hb)
        have LB := hid (LB.out.belowAll hb)
        have HF := hid (HF.out.below hb)
        have HB := hid (HB.out.trans (hb.mono HB.out.size))
        have hsv9 : v8.heap.size ≤ v9.heap.size := by first | exact hb.size | omega
        have HG := hid hu
        clear hu
        clear hb
        refine hK1057.out _ _ (WB.out) (fun hHeld1057 => ?_)
        clear hK1057 K1057
        try simp only [Act.put, List.setIfInBounds_toArray, List.set_cons_zero, List.set_cons_succ]
        refine wpAnyH_ready (rs := [6]) (by kernel_rfl) (by simp) (AllReadyH.cons (o := { dst := some 49, op := Op.call { callee := Callee.builtin Builtin.append, args := #[Operand.tmp 45, Operand.tmp 48], argTypes := #[22, 22] }, type := 22, pos := "buffer.go:19", after := _, guard := none }) rfl (fun K1058 hK1058 => ?_) AllReadyH.nil)
        have HBp := HB.out.size
        refine step_app_full rfl (.tmp 45) (.tmp 48) rfl _ _ rfl HN.out.symm (HG.out.below HB.out) _ (v) _ rfl LB.out (by have := HXL.out; omega) ?_
        intro uv10 v10 ho h
        obtain ⟨qv10, rfl, -⟩ := ho.sl
        have PB := hid (PB.out.belowAll h)
        have WB := hid (WB.out.belowAll h)
        have RB := hid (RB.out.belowAll h)
        have FB := hid (FB.out.belowAll h)
        have LB := hid (LB.out.belowAll h)
        have HF := hid (HF.out.below h)
        have HB := hid (HB.out.trans (h.mono HB.out.size))
        have hsv10 : v9.heap.size ≤ v10.heap.size := by first | exact h.size | omega
        have HC := hid ho
        clear ho h
        have HC := hid (HC.out.mono HBp)
        clear HBp HG
        refine hK1058.out _ _ (WB.out) (fun hHeld1058 => ?_)
        clear hK1058 K1058
        try simp only [Act.put, List.setIfInBounds_toArray, List.set_cons_zero, List.set_cons_succ]
        refine wpAnyH_take (i := 10) (oi := { dst := some 53, op := Op.fieldAddr 25 (Operand.tmp 3) 2, type := 0, pos := "buffer.go:19", after := _, guard := none }) (v := ?_) rfl (by kernel_rfl) (by kernel_rfl) (by kernel_rfl) (fun _ _ _ h => h) (Or.inl ⟨by rfl, ?_⟩) (by assumption) ?_
        rotate_left
        · (intro w hSw; (try dsimp only at hSw); go_simp; try with_reducible rfl)
        simp only [Act.put, List.setIfInBounds_toArray, List.set_cons_zero, List.set_cons_succ]
        refine wpAnyH_ready (rs := [9]) (by kernel_rfl) (by simp) (AllReadyH.cons (o := { dst := some 52, op := Op.call { callee := Callee.value (Operand.func 18), args := #[Operand.tmp 51], argTypes := #[23] }, type := 23, pos := "buffer.go:19", after := _, guard := none }) rfl (fun K1060 hK1060 => ?_) AllReadyH.nil)
        have HBc := HB.out.size
        go_simp
        refine (qclone_Wt (HV.out.below HB.out) (by have := HL.out; omega)).mono ?_
        rintro e v11 ⟨uu, rfl, hu, hb⟩
        have PB := hid (PB.out.belowAll hb)
        have WB := hid (WB.out.belowAll hb)
        have RB := hid (RB.out.belowAll hb)
        have FB := hid (FB.out.belowAll hb)
        have LB := hid (LB.out.belowAll hb)
        have HF := hid (HF.out.below hb)
        have HC := hid (HC.out.below hb)
        have HB := hid (HB.out.trans (hb.mono HB.out.size))
        have hsv11 : v10.heap.size ≤ v11.heap.size := by first | exact hb.size | omega
        obtain ⟨u, rfl, -⟩ := hu.sl
        have HU := hid (hu.mono HBc)
        clear hu HBc
        clear hb
        refine hK1060.out _ _ (WB.out) (fun hHeld1060 => ?_)
        clear hK1060 K1060
        try simp only [Act.put, List.setIfInBounds_toArray, List.set_cons_zero, List.set_cons_succ]
        refine wpAnyH_ready (rs := [11]) (by kernel_rfl) (by simp) (AllReadyH.cons (o := { dst := none, op := Op.store 22 (Operand.tmp 53) (Operand.tmp 49), type := 0, pos := "buffer.go:19", after := _, guard := none }) rfl (fun K1061 hK1061 => ?_) AllReadyH.nil)
        refine step_store_box rfl 22 _ _ rfl (w.heap.size) 2 (.slice qv10.a qv10.n qv10.c) rfl rfl rfl rfl (by kernel_rfl) _ _ PB.out (by simp) ?_
        intro v12 b g z
        have hsv12 : v11.heap.size ≤ v12.heap.size := by omega
        have HF := hid (HF.out.put g PB.out (by decide))
        have HC := hid (HC.out.put g PB.out (by decide))
        have HU := hid (HU.out.put g PB.out (by decide))
        have PB := hid (show BoxAt v12 (w.heap.size) 25 #[.int .i64 d, .bool k, .slice qv10.a qv10.n qv10.c, .slice sa M sc] from by simpa using b)
        have WB := hid (WB.out.grown g (fun e => by have := Option.some.inj e; omega))
        have RB := hid (RB.out.grown g (fun e => by have := Option.some.inj e; omega))
        have FB := hid (FB.out.grown g (fun e => by have := Option.some.inj e; omega))
        have LB := hid (LB.out.grown g (fun e => by have := Option.some.inj e; omega))
        have HB := hid (HB.out.trans (grown_below g (by omega) (by omega)))
        clear b g z
        refine hK1061.out _ _ (WB.out) (fun hHeld1061 => ?_)
        clear hK1061 K1061
        try simp only [Act.put]
        refine wpAnyH_take (i := 12) (oi := { dst := some 54, op := Op.fieldAddr 25 (Operand.tmp 3) 3, type := 0, pos := "buffer.go:19", after := _, guard := none }) (v := ?_) rfl (by kernel_rfl) (by kernel_rfl) (by kernel_rfl) (fun _ _ _ h => h) (Or.inl ⟨by rfl, ?_⟩) (by assumption) ?_
        rotate_left
        · (intro w hSw; (try dsimp only at hSw); go_simp; try with_reducible rfl)
        simp only [Act.put, List.setIfInBounds_toArray, List.set_cons_zero, List.set_cons_succ]
        refine wpAnyH_ready (rs := [13]) (by kernel_rfl) (by simp) (AllReadyH.cons (o := { dst := none, op := Op.store 23 (Operand.tmp 54) (Operand.tmp 52), type := 0, pos := "buffer.go:19", after := _, guard := none }) rfl (fun K1063 hK1063 => ?_) AllReadyH.nil)
        refine step_store_box rfl 23 _ _ rfl (w.heap.size) 3 (.slice u.a u.n u.c) rfl rfl rfl rfl (by kernel_rfl) _ _ PB.out (by simp) ?_
        intro v13 b g z
        have hsv13 : v12.heap.size ≤ v13.heap.size := by omega
        have HF := hid (HF.out.put g PB.out (by decide))
        have HC := hid (HC.out.put g PB.out (by decide))
        have HU := hid (HU.out.put g PB.out (by decide))
        have PB := hid (show BoxAt v13 (w.heap.size) 25 #[.int .i64 d, .bool k, .slice qv10.a qv10.n qv10.c, .slice u.a u.n u.c] from by simpa using b)
        have WB := hid (WB.out.grown g (fun e => by have := Option.some.inj e; omega))
        have RB := hid (RB.out.grown g (fun e => by have := Option.some.inj e; omega))
        have FB := hid (FB.out.grown g (fun e => by have := Option.some.inj e; omega))
        have LB := hid (LB.out.grown g (fun e => by have := Option.some.inj e; omega))
        have HB := hid (HB.out.trans (grown_below g (by omega) (by omega)))
        clear b g z
        refine hK1063.out _ _ (WB.out) (fun hHeld1063 => ?_)
        clear hK1063 K1063
        try simp only [Act.put]
        refine wpAnyH_done (by kernel_rfl) ?_ _
        clear hHeld hHeld1005 hHeld1006 hHeld1049 hHeld1057 hHeld1058 hHeld1060 hHeld1061 hHeld1063
        have kPB0 : v13.cell? ⟨w.heap.size, 0, none⟩ = some (.int .i64 d) := (BoxAt.cell PB.out 0).trans rfl
        have kPB1 : v13.cell? ⟨w.heap.size, 1, none⟩ = some (.bool k) := (BoxAt.cell PB.out 1).trans rfl
        have kPB2 : v13.cell? ⟨w.heap.size, 2, none⟩ = some (.slice qv10.a qv10.n qv10.c) := (BoxAt.cell PB.out 2).trans rfl
        have kPB3 : v13.cell? ⟨w.heap.size, 3, none⟩ = some (.slice u.a u.n u.c) := (BoxAt.cell PB.out 3).trans rfl
        have kWB0 : v13.cell? ⟨v1.heap.size, 0, none⟩ = some (.int .i64 p) := (BoxAt.cell WB.out 0).trans rfl
        have kWB1 : v13.cell? ⟨v1.heap.size, 1, none⟩ = some (.int .i64 r) := (BoxAt.cell WB.out 1).trans rfl
        have kWB2 : v13.cell? ⟨v1.heap.size, 2, none⟩ = some (.int .i64 v) := (BoxAt.cell WB.out 2).trans rfl
        have kFB0 : v13.cell? ⟨v4.heap.size, 0, none⟩ = some (.int .i64 0) := (BoxAt.cell FB.out 0).trans rfl
        have kFB2 : v13.cell? ⟨v4.heap.size, 2, none⟩ = some (.int .i64 0) := (BoxAt.cell FB.out 2).trans rfl
        have FL6 := hid trivial
        go_wp2_with (first
          | (refine wpList_load_box rfl 25 _ rfl (w.heap.size) rfl _ _ PB.out _ Try.underlying25 Try.infoBf ?_)
          | (have hfl := FL6.out
             refine wpList_store_whole rfl 25 _ _ rfl rfl (v2.heap.size) rfl [.int .i64 d, .bool k, .slice qv10.a qv10.n qv10.c, .slice u.a u.n u.c] rfl _ _ RB.out rfl Try.infoBf (by simp [Value.oneCell']) ?_
             intro v14 b g z
             have hsv14 : v13.heap.size ≤ v14.heap.size := by omega
             have HF := hid (HF.out.put g RB.out (by decide))
             have HC := hid (HC.out.put g RB.out (by decide))
             have HU := hid (HU.out.put g RB.out (by decide))
             have RB := hid (show BoxAt v14 (v2.heap.size) 25 #[.int .i64 d, .bool k, .slice qv10.a qv10.n qv10.c, .slice u.a u.n u.c] from b)
             have PB := hid (PB.out.grown g (fun e => by have := Option.some.inj e; omega))
             have WB := hid (WB.out.grown g (fun e => by have := Option.some.inj e; omega))
             have FB := hid (FB.out.grown g (fun e => by have := Option.some.inj e; omega))
             have LB := hid (LB.out.grown g (fun e => by have := Option.some.inj e; omega))
             have HB := hid (HB.out.trans (grown_below g (by omega) (by omega)))
             clear kPB0 kPB1 kPB2 kPB3 kWB0 kWB1 kWB2 kFB0 kFB2
             have kPB0 : v14.cell? ⟨w.heap.size, 0, none⟩ = some (.int .i64 d) := (BoxAt.cell PB.out 0).trans rfl
             have kPB1 : v14.cell? ⟨w.heap.size, 1, none⟩ = some (.bool k) := (BoxAt.cell PB.out 1).trans rfl
             have kPB2 : v14.cell? ⟨w.heap.size, 2, none⟩ = some (.slice qv10.a qv10.n qv10.c) := (BoxAt.cell PB.out 2).trans rfl
             have kPB3 : v14.cell? ⟨w.heap.size, 3, none⟩ = some (.slice u.a u.n u.c) := (BoxAt.cell PB.out 3).trans rfl
             have kWB0 : v14.cell? ⟨v1.heap.size, 0, none⟩ = some (.int .i64 p) := (BoxAt.cell WB.out 0).trans rfl
             have kWB1 : v14.cell? ⟨v1.heap.size, 1, none⟩ = some (.int .i64 r) := (BoxAt.cell WB.out 1).trans rfl
             have kWB2 : v14.cell? ⟨v1.heap.size, 2, none⟩ = some (.int .i64 v) := (BoxAt.cell WB.out 2).trans rfl
             have kFB0 : v14.cell? ⟨v4.heap.size, 0, none⟩ = some (.int .i64 0) := (BoxAt.cell FB.out 0).trans rfl
             have kFB2 : v14.cell? ⟨v4.heap.size, 2, none⟩ = some (.int .i64 0) := (BoxAt.cell FB.out 2).trans rfl
             clear b g z hfl FL6)
          | fail)
        refine bodyPost_ret (results_box_tmp2 rfl _ _ (v2.heap.size) 25 _ (0, 0) _ rfl RB.out Try.underlying25 rfl Try.infoBf) rfl ?_
        exact ⟨qv10, u, ⟨none, 0, 0⟩, rfl, HC.out, HU.out, OWk.nil _ _, HB.out⟩
  case' b1005_5 =>
    refine step_litI rfl (.tmp 47) rfl (v) rfl ?_
    intro v8 b h
    have LB := hid (show BoxAt v8 v7.heap.size 3 #[.int .i64 (v)] from b)
    have PB := hid (PB.out.belowAll h)
    have WB := hid (WB.out.belowAll h)
    have RB := hid (RB.out.belowAll h)
    have FB := hid (FB.out.belowAll h)
    have HF := hid (HF.out.below h)
    have HB := hid (HB.out.trans (h.mono HB.out.size))
    have hsv8 : v7.heap.size ≤ v8.heap.size := by first | exact h.size | omega
    clear b h
    refine hK1005.out _ _ (WB.out) (fun hHeld1005 => ?_)
    clear hK1005 K1005
    try simp only [Act.put, List.setIfInBounds_toArray, List.set_cons_zero, List.set_cons_succ]
    refine wpAnyH_ready (rs := [1, 8]) (by kernel_rfl) (by simp) (AllReadyH.cons (o := { dst := some 44, op := Op.load 22 (Operand.tmp 43), type := 22, pos := "buffer.go:19", after := _, guard := none }) rfl (fun K1064 hK1064 => ?b1064_1) (AllReadyH.cons (o := { dst := some 51, op := Op.load 23 (Operand.tmp 50), type := 23, pos := "buffer.go:19", after := _, guard := none }) rfl (fun K1064 hK1064 => ?b1064_8) AllReadyH.nil))
    case' b1064_1 =>
      have cG : v8.cell? ⟨w.heap.size, 2, none⟩ = some (.slice xa N xc) := (BoxAt.cell PB.out 2).trans rfl
      go_simp
      clear cG
      refine hK1064.out _ _ (WB.out) (fun hHeld1064 => ?_)
      clear hK1064 K1064
      try simp only [Act.put, List.setIfInBounds_toArray, List.set_cons_zero, List.set_cons_succ]
      refine wpAnyH_ready (rs := [2, 8]) (by kernel_rfl) (by simp) (AllReadyH.cons (o := { dst := some 45, op := Op.call { callee := Callee.value (Operand.func 17), args := #[Operand.tmp 44, Operand.const (Value.int IntKind.i64 0)], argTypes := #[22, 3] }, type := 22, pos := "buffer.go:19", after := _, guard := none }) rfl (fun K1065 hK1065 => ?b1065_2) (AllReadyH.cons (o := { dst := some 51, op := Op.load 23 (Operand.tmp 50), type := 23, pos := "buffer.go:19", after := _, guard := none }) rfl (fun K1065 hK1065 => ?b1065_8) AllReadyH.nil))
      case' b1065_2 =>
        go_simp
        refine (from_left0 HX.out HN.out).mono ?_
        rintro e v9 ⟨ga, rfl, hu, hb⟩
        have PB := hid (PB.out.belowAll hb)
        have WB := hid (WB.out.belowAll hb)
        have RB := hid (RB.out.belowAll hb)
        have FB := hid (FB.out.belowAll hb)
        have LB := hid (LB.out.belowAll hb)
        have HF := hid (HF.out.below hb)
        have HB := hid (HB.out.trans (hb.mono HB.out.size))
        have hsv9 : v8.heap.size ≤ v9.heap.size := by first | exact hb.size | omega
        have HG := hid hu
        clear hu
        clear hb
        refine hK1065.out _ _ (WB.out) (fun hHeld1065 => ?_)
        clear hK1065 K1065
        try simp only [Act.put, List.setIfInBounds_toArray, List.set_cons_zero, List.set_cons_succ]
        refine wpAnyH_ready (rs := [6, 8]) (by kernel_rfl) (by simp) (AllReadyH.cons (o := { dst := some 49, op := Op.call { callee := Callee.builtin Builtin.append, args := #[Operand.tmp 45, Operand.tmp 48], argTypes := #[22, 22] }, type := 22, pos := "buffer.go:19", after := _, guard := none }) rfl (fun K1066 hK1066 => ?b1066_6) (AllReadyH.cons (o := { dst := some 51, op := Op.load 23 (Operand.tmp 50), type := 23, pos := "buffer.go:19", after := _, guard := none }) rfl (fun K1066 hK1066 => ?b1066_8) AllReadyH.nil))
        case' b1066_6 =>
          have HBp := HB.out.size
          refine step_app_full rfl (.tmp 45) (.tmp 48) rfl _ _ rfl HN.out.symm (HG.out.below HB.out) _ (v) _ rfl LB.out (by have := HXL.out; omega) ?_
          intro uv10 v10 ho h
          obtain ⟨qv10, rfl, -⟩ := ho.sl
          have PB := hid (PB.out.belowAll h)
          have WB := hid (WB.out.belowAll h)
          have RB := hid (RB.out.belowAll h)
          have FB := hid (FB.out.belowAll h)
          have LB := hid (LB.out.belowAll h)
          have HF := hid (HF.out.below h)
          have HB := hid (HB.out.trans (h.mono HB.out.size))
          have hsv10 : v9.heap.size ≤ v10.heap.size := by first | exact h.size | omega
          have HC := hid ho
          clear ho h
          have HC := hid (HC.out.mono HBp)
          clear HBp HG
          refine hK1066.out _ _ (WB.out) (fun hHeld1066 => ?_)
          clear hK1066 K1066
          try simp only [Act.put, List.setIfInBounds_toArray, List.set_cons_zero, List.set_cons_succ]
          refine wpAnyH_ready (rs := [8]) (by kernel_rfl) (by simp) (AllReadyH.cons (o := { dst := some 51, op := Op.load 23 (Operand.tmp 50), type := 23, pos := "buffer.go:19", after := _, guard := none }) rfl (fun K1067 hK1067 => ?_) AllReadyH.nil)
          have cG : v10.cell? ⟨w.heap.size, 3, none⟩ = some (.slice sa M sc) := (BoxAt.cell PB.out 3).trans rfl
          go_simp
          clear cG
          refine hK1067.out _ _ (WB.out) (fun hHeld1067 => ?_)
          clear hK1067 K1067
          try simp only [Act.put, List.setIfInBounds_toArray, List.set_cons_zero, List.set_cons_succ]
          refine wpAnyH_take (i := 10) (oi := { dst := some 53, op := Op.fieldAddr 25 (Operand.tmp 3) 2, type := 0, pos := "buffer.go:19", after := _, guard := none }) (v := ?_) rfl (by kernel_rfl) (by kernel_rfl) (by kernel_rfl) (fun _ _ _ h => h) (Or.inl ⟨by rfl, ?_⟩) (by assumption) ?_
          rotate_left
          · (intro w hSw; (try dsimp only at hSw); go_simp; try with_reducible rfl)
          simp only [Act.put, List.setIfInBounds_toArray, List.set_cons_zero, List.set_cons_succ]
          refine wpAnyH_ready (rs := [9]) (by kernel_rfl) (by simp) (AllReadyH.cons (o := { dst := some 52, op := Op.call { callee := Callee.value (Operand.func 18), args := #[Operand.tmp 51], argTypes := #[23] }, type := 23, pos := "buffer.go:19", after := _, guard := none }) rfl (fun K1069 hK1069 => ?_) AllReadyH.nil)
          have HBc := HB.out.size
          go_simp
          refine (qclone_Wt (HV.out.below HB.out) (by have := HL.out; omega)).mono ?_
          rintro e v11 ⟨uu, rfl, hu, hb⟩
          have PB := hid (PB.out.belowAll hb)
          have WB := hid (WB.out.belowAll hb)
          have RB := hid (RB.out.belowAll hb)
          have FB := hid (FB.out.belowAll hb)
          have LB := hid (LB.out.belowAll hb)
          have HF := hid (HF.out.below hb)
          have HC := hid (HC.out.below hb)
          have HB := hid (HB.out.trans (hb.mono HB.out.size))
          have hsv11 : v10.heap.size ≤ v11.heap.size := by first | exact hb.size | omega
          obtain ⟨u, rfl, -⟩ := hu.sl
          have HU := hid (hu.mono HBc)
          clear hu HBc
          clear hb
          refine hK1069.out _ _ (WB.out) (fun hHeld1069 => ?_)
          clear hK1069 K1069
          try simp only [Act.put, List.setIfInBounds_toArray, List.set_cons_zero, List.set_cons_succ]
          refine wpAnyH_ready (rs := [11]) (by kernel_rfl) (by simp) (AllReadyH.cons (o := { dst := none, op := Op.store 22 (Operand.tmp 53) (Operand.tmp 49), type := 0, pos := "buffer.go:19", after := _, guard := none }) rfl (fun K1070 hK1070 => ?_) AllReadyH.nil)
          refine step_store_box rfl 22 _ _ rfl (w.heap.size) 2 (.slice qv10.a qv10.n qv10.c) rfl rfl rfl rfl (by kernel_rfl) _ _ PB.out (by simp) ?_
          intro v12 b g z
          have hsv12 : v11.heap.size ≤ v12.heap.size := by omega
          have HF := hid (HF.out.put g PB.out (by decide))
          have HC := hid (HC.out.put g PB.out (by decide))
          have HU := hid (HU.out.put g PB.out (by decide))
          have PB := hid (show BoxAt v12 (w.heap.size) 25 #[.int .i64 d, .bool k, .slice qv10.a qv10.n qv10.c, .slice sa M sc] from by simpa using b)
          have WB := hid (WB.out.grown g (fun e => by have := Option.some.inj e; omega))
          have RB := hid (RB.out.grown g (fun e => by have := Option.some.inj e; omega))
          have FB := hid (FB.out.grown g (fun e => by have := Option.some.inj e; omega))
          have LB := hid (LB.out.grown g (fun e => by have := Option.some.inj e; omega))
          have HB := hid (HB.out.trans (grown_below g (by omega) (by omega)))
          clear b g z
          refine hK1070.out _ _ (WB.out) (fun hHeld1070 => ?_)
          clear hK1070 K1070
          try simp only [Act.put]
          refine wpAnyH_take (i := 12) (oi := { dst := some 54, op := Op.fieldAddr 25 (Operand.tmp 3) 3, type := 0, pos := "buffer.go:19", after := _, guard := none }) (v := ?_) rfl (by kernel_rfl) (by kernel_rfl) (by kernel_rfl) (fun _ _ _ h => h) (Or.inl ⟨by rfl, ?_⟩) (by assumption) ?_
          rotate_left
          · (intro w hSw; (try dsimp only at hSw); go_simp; try with_reducible rfl)
          simp only [Act.put, List.setIfInBounds_toArray, List.set_cons_zero, List.set_cons_succ]
          refine wpAnyH_ready (rs := [13]) (by kernel_rfl) (by simp) (AllReadyH.cons (o := { dst := none, op := Op.store 23 (Operand.tmp 54) (Operand.tmp 52), type := 0, pos := "buffer.go:19", after := _, guard := none }) rfl (fun K1072 hK1072 => ?_) AllReadyH.nil)
          refine step_store_box rfl 23 _ _ rfl (w.heap.size) 3 (.slice u.a u.n u.c) rfl rfl rfl rfl (by kernel_rfl) _ _ PB.out (by simp) ?_
          intro v13 b g z
          have hsv13 : v12.heap.size ≤ v13.heap.size := by omega
          have HF := hid (HF.out.put g PB.out (by decide))
          have HC := hid (HC.out.put g PB.out (by decide))
          have HU := hid (HU.out.put g PB.out (by decide))
          have PB := hid (show BoxAt v13 (w.heap.size) 25 #[.int .i64 d, .bool k, .slice qv10.a qv10.n qv10.c, .slice u.a u.n u.c] from by simpa using b)
          have WB := hid (WB.out.grown g (fun e => by have := Option.some.inj e; omega))
          have RB := hid (RB.out.grown g (fun e => by have := Option.some.inj e; omega))
          have FB := hid (FB.out.grown g (fun e => by have := Option.some.inj e; omega))
          have LB := hid (LB.out.grown g (fun e => by have := Option.some.inj e; omega))
          have HB := hid (HB.out.trans (grown_below g (by omega) (by omega)))
          clear b g z
          refine hK1072.out _ _ (WB.out) (fun hHeld1072 => ?_)
          clear hK1072 K1072
          try simp only [Act.put]
          refine wpAnyH_done (by kernel_rfl) ?_ _
          clear hHeld hHeld1005 hHeld1064 hHeld1065 hHeld1066 hHeld1067 hHeld1069 hHeld1070 hHeld1072
          have kPB0 : v13.cell? ⟨w.heap.size, 0, none⟩ = some (.int .i64 d) := (BoxAt.cell PB.out 0).trans rfl
          have kPB1 : v13.cell? ⟨w.heap.size, 1, none⟩ = some (.bool k) := (BoxAt.cell PB.out 1).trans rfl
          have kPB2 : v13.cell? ⟨w.heap.size, 2, none⟩ = some (.slice qv10.a qv10.n qv10.c) := (BoxAt.cell PB.out 2).trans rfl
          have kPB3 : v13.cell? ⟨w.heap.size, 3, none⟩ = some (.slice u.a u.n u.c) := (BoxAt.cell PB.out 3).trans rfl
          have kWB0 : v13.cell? ⟨v1.heap.size, 0, none⟩ = some (.int .i64 p) := (BoxAt.cell WB.out 0).trans rfl
          have kWB1 : v13.cell? ⟨v1.heap.size, 1, none⟩ = some (.int .i64 r) := (BoxAt.cell WB.out 1).trans rfl
          have kWB2 : v13.cell? ⟨v1.heap.size, 2, none⟩ = some (.int .i64 v) := (BoxAt.cell WB.out 2).trans rfl
          have kFB0 : v13.cell? ⟨v4.heap.size, 0, none⟩ = some (.int .i64 0) := (BoxAt.cell FB.out 0).trans rfl
          have kFB2 : v13.cell? ⟨v4.heap.size, 2, none⟩ = some (.int .i64 0) := (BoxAt.cell FB.out 2).trans rfl
          have FL6 := hid trivial
          go_wp2_with (first
            | (refine wpList_load_box rfl 25 _ rfl (w.heap.size) rfl _ _ PB.out _ Try.underlying25 Try.infoBf ?_)
            | (have hfl := FL6.out
               refine wpList_store_whole rfl 25 _ _ rfl rfl (v2.heap.size) rfl [.int .i64 d, .bool k, .slice qv10.a qv10.n qv10.c, .slice u.a u.n u.c] rfl _ _ RB.out rfl Try.infoBf (by simp [Value.oneCell']) ?_
               intro v14 b g z
               have hsv14 : v13.heap.size ≤ v14.heap.size := by omega
               have HF := hid (HF.out.put g RB.out (by decide))
               have HC := hid (HC.out.put g RB.out (by decide))
               have HU := hid (HU.out.put g RB.out (by decide))
               have RB := hid (show BoxAt v14 (v2.heap.size) 25 #[.int .i64 d, .bool k, .slice qv10.a qv10.n qv10.c, .slice u.a u.n u.c] from b)
               have PB := hid (PB.out.grown g (fun e => by have := Option.some.inj e; omega))
               have WB := hid (WB.out.grown g (fun e => by have := Option.some.inj e; omega))
               have FB := hid (FB.out.grown g (fun e => by have := Option.some.inj e; omega))
               have LB := hid (LB.out.grown g (fun e => by have := Option.some.inj e; omega))
               have HB := hid (HB.out.trans (grown_below g (by omega) (by omega)))
               clear kPB0 kPB1 kPB2 kPB3 kWB0 kWB1 kWB2 kFB0 kFB2
               have kPB0 : v14.cell? ⟨w.heap.size, 0, none⟩ = some (.int .i64 d) := (BoxAt.cell PB.out 0).trans rfl
               have kPB1 : v14.cell? ⟨w.heap.size, 1, none⟩ = some (.bool k) := (BoxAt.cell PB.out 1).trans rfl
               have kPB2 : v14.cell? ⟨w.heap.size, 2, none⟩ = some (.slice qv10.a qv10.n qv10.c) := (BoxAt.cell PB.out 2).trans rfl
               have kPB3 : v14.cell? ⟨w.heap.size, 3, none⟩ = some (.slice u.a u.n u.c) := (BoxAt.cell PB.out 3).trans rfl
               have kWB0 : v14.cell? ⟨v1.heap.size, 0, none⟩ = some (.int .i64 p) := (BoxAt.cell WB.out 0).trans rfl
               have kWB1 : v14.cell? ⟨v1.heap.size, 1, none⟩ = some (.int .i64 r) := (BoxAt.cell WB.out 1).trans rfl
               have kWB2 : v14.cell? ⟨v1.heap.size, 2, none⟩ = some (.int .i64 v) := (BoxAt.cell WB.out 2).trans rfl
               have kFB0 : v14.cell? ⟨v4.heap.size, 0, none⟩ = some (.int .i64 0) := (BoxAt.cell FB.out 0).trans rfl
               have kFB2 : v14.cell? ⟨v4.heap.size, 2, none⟩ = some (.int .i64 0) := (BoxAt.cell FB.out 2).trans rfl
               clear b g z hfl FL6)
            | fail)
          refine bodyPost_ret (results_box_tmp2 rfl _ _ (v2.heap.size) 25 _ (0, 0) _ rfl RB.out Try.underlying25 rfl Try.infoBf) rfl ?_
          exact ⟨qv10, u, ⟨none, 0, 0⟩, rfl, HC.out, HU.out, OWk.nil _ _, HB.out⟩
        case' b1066_8 =>
          have cG : v9.cell? ⟨w.heap.size, 3, none⟩ = some (.slice sa M sc) := (BoxAt.cell PB.out 3).trans rfl
          go_simp
          clear cG
          refine hK1066.out _ _ (WB.out) (fun hHeld1066 => ?_)
          clear hK1066 K1066
          try simp only [Act.put, List.setIfInBounds_toArray, List.set_cons_zero, List.set_cons_succ]
          refine wpAnyH_ready (rs := [6]) (by kernel_rfl) (by simp) (AllReadyH.cons (o := { dst := some 49, op := Op.call { callee := Callee.builtin Builtin.append, args := #[Operand.tmp 45, Operand.tmp 48], argTypes := #[22, 22] }, type := 22, pos := "buffer.go:19", after := _, guard := none }) rfl (fun K1073 hK1073 => ?_) AllReadyH.nil)
          have HBp := HB.out.size
          refine step_app_full rfl (.tmp 45) (.tmp 48) rfl _ _ rfl HN.out.symm (HG.out.below HB.out) _ (v) _ rfl LB.out (by have := HXL.out; omega) ?_
          intro uv10 v10 ho h
          obtain ⟨qv10, rfl, -⟩ := ho.sl
          have PB := hid (PB.out.belowAll h)
          have WB := hid (WB.out.belowAll h)
          have RB := hid (RB.out.belowAll h)
          have FB := hid (FB.out.belowAll h)
          have LB := hid (LB.out.belowAll h)
          have HF := hid (HF.out.below h)
          have HB := hid (HB.out.trans (h.mono HB.out.size))
          have hsv10 : v9.heap.size ≤ v10.heap.size := by first | exact h.size | omega
          have HC := hid ho
          clear ho h
          have HC := hid (HC.out.mono HBp)
          clear HBp HG
          refine hK1073.out _ _ (WB.out) (fun hHeld1073 => ?_)
          clear hK1073 K1073
          try simp only [Act.put, List.setIfInBounds_toArray, List.set_cons_zero, List.set_cons_succ]
          refine wpAnyH_take (i := 10) (oi := { dst := some 53, op := Op.fieldAddr 25 (Operand.tmp 3) 2, type := 0, pos := "buffer.go:19", after := _, guard := none }) (v := ?_) rfl (by kernel_rfl) (by kernel_rfl) (by kernel_rfl) (fun _ _ _ h => h) (Or.inl ⟨by rfl, ?_⟩) (by assumption) ?_
          rotate_left
          · (intro w hSw; (try dsimp only at hSw); go_simp; try with_reducible rfl)
          simp only [Act.put, List.setIfInBounds_toArray, List.set_cons_zero, List.set_cons_succ]
          refine wpAnyH_ready (rs := [9]) (by kernel_rfl) (by simp) (AllReadyH.cons (o := { dst := some 52, op := Op.call { callee := Callee.value (Operand.func 18), args := #[Operand.tmp 51], argTypes := #[23] }, type := 23, pos := "buffer.go:19", after := _, guard := none }) rfl (fun K1075 hK1075 => ?_) AllReadyH.nil)
          have HBc := HB.out.size
          go_simp
          refine (qclone_Wt (HV.out.below HB.out) (by have := HL.out; omega)).mono ?_
          rintro e v11 ⟨uu, rfl, hu, hb⟩
          have PB := hid (PB.out.belowAll hb)
          have WB := hid (WB.out.belowAll hb)
          have RB := hid (RB.out.belowAll hb)
          have FB := hid (FB.out.belowAll hb)
          have LB := hid (LB.out.belowAll hb)
          have HF := hid (HF.out.below hb)
          have HC := hid (HC.out.below hb)
          have HB := hid (HB.out.trans (hb.mono HB.out.size))
          have hsv11 : v10.heap.size ≤ v11.heap.size := by first | exact hb.size | omega
          obtain ⟨u, rfl, -⟩ := hu.sl
          have HU := hid (hu.mono HBc)
          clear hu HBc
          clear hb
          refine hK1075.out _ _ (WB.out) (fun hHeld1075 => ?_)
          clear hK1075 K1075
          try simp only [Act.put, List.setIfInBounds_toArray, List.set_cons_zero, List.set_cons_succ]
          refine wpAnyH_ready (rs := [11]) (by kernel_rfl) (by simp) (AllReadyH.cons (o := { dst := none, op := Op.store 22 (Operand.tmp 53) (Operand.tmp 49), type := 0, pos := "buffer.go:19", after := _, guard := none }) rfl (fun K1076 hK1076 => ?_) AllReadyH.nil)
          refine step_store_box rfl 22 _ _ rfl (w.heap.size) 2 (.slice qv10.a qv10.n qv10.c) rfl rfl rfl rfl (by kernel_rfl) _ _ PB.out (by simp) ?_
          intro v12 b g z
          have hsv12 : v11.heap.size ≤ v12.heap.size := by omega
          have HF := hid (HF.out.put g PB.out (by decide))
          have HC := hid (HC.out.put g PB.out (by decide))
          have HU := hid (HU.out.put g PB.out (by decide))
          have PB := hid (show BoxAt v12 (w.heap.size) 25 #[.int .i64 d, .bool k, .slice qv10.a qv10.n qv10.c, .slice sa M sc] from by simpa using b)
          have WB := hid (WB.out.grown g (fun e => by have := Option.some.inj e; omega))
          have RB := hid (RB.out.grown g (fun e => by have := Option.some.inj e; omega))
          have FB := hid (FB.out.grown g (fun e => by have := Option.some.inj e; omega))
          have LB := hid (LB.out.grown g (fun e => by have := Option.some.inj e; omega))
          have HB := hid (HB.out.trans (grown_below g (by omega) (by omega)))
          clear b g z
          refine hK1076.out _ _ (WB.out) (fun hHeld1076 => ?_)
          clear hK1076 K1076
          try simp only [Act.put]
          refine wpAnyH_take (i := 12) (oi := { dst := some 54, op := Op.fieldAddr 25 (Operand.tmp 3) 3, type := 0, pos := "buffer.go:19", after := _, guard := none }) (v := ?_) rfl (by kernel_rfl) (by kernel_rfl) (by kernel_rfl) (fun _ _ _ h => h) (Or.inl ⟨by rfl, ?_⟩) (by assumption) ?_
          rotate_left
          · (intro w hSw; (try dsimp only at hSw); go_simp; try with_reducible rfl)
          simp only [Act.put, List.setIfInBounds_toArray, List.set_cons_zero, List.set_cons_succ]
          refine wpAnyH_ready (rs := [13]) (by kernel_rfl) (by simp) (AllReadyH.cons (o := { dst := none, op := Op.store 23 (Operand.tmp 54) (Operand.tmp 52), type := 0, pos := "buffer.go:19", after := _, guard := none }) rfl (fun K1078 hK1078 => ?_) AllReadyH.nil)
          refine step_store_box rfl 23 _ _ rfl (w.heap.size) 3 (.slice u.a u.n u.c) rfl rfl rfl rfl (by kernel_rfl) _ _ PB.out (by simp) ?_
          intro v13 b g z
          have hsv13 : v12.heap.size ≤ v13.heap.size := by omega
          have HF := hid (HF.out.put g PB.out (by decide))
          have HC := hid (HC.out.put g PB.out (by decide))
          have HU := hid (HU.out.put g PB.out (by decide))
          have PB := hid (show BoxAt v13 (w.heap.size) 25 #[.int .i64 d, .bool k, .slice qv10.a qv10.n qv10.c, .slice u.a u.n u.c] from by simpa using b)
          have WB := hid (WB.out.grown g (fun e => by have := Option.some.inj e; omega))
          have RB := hid (RB.out.grown g (fun e => by have := Option.some.inj e; omega))
          have FB := hid (FB.out.grown g (fun e => by have := Option.some.inj e; omega))
          have LB := hid (LB.out.grown g (fun e => by have := Option.some.inj e; omega))
          have HB := hid (HB.out.trans (grown_below g (by omega) (by omega)))
          clear b g z
          refine hK1078.out _ _ (WB.out) (fun hHeld1078 => ?_)
          clear hK1078 K1078
          try simp only [Act.put]
          refine wpAnyH_done (by kernel_rfl) ?_ _
          clear hHeld hHeld1005 hHeld1064 hHeld1065 hHeld1066 hHeld1073 hHeld1075 hHeld1076 hHeld1078
          have kPB0 : v13.cell? ⟨w.heap.size, 0, none⟩ = some (.int .i64 d) := (BoxAt.cell PB.out 0).trans rfl
          have kPB1 : v13.cell? ⟨w.heap.size, 1, none⟩ = some (.bool k) := (BoxAt.cell PB.out 1).trans rfl
          have kPB2 : v13.cell? ⟨w.heap.size, 2, none⟩ = some (.slice qv10.a qv10.n qv10.c) := (BoxAt.cell PB.out 2).trans rfl
          have kPB3 : v13.cell? ⟨w.heap.size, 3, none⟩ = some (.slice u.a u.n u.c) := (BoxAt.cell PB.out 3).trans rfl
          have kWB0 : v13.cell? ⟨v1.heap.size, 0, none⟩ = some (.int .i64 p) := (BoxAt.cell WB.out 0).trans rfl
          have kWB1 : v13.cell? ⟨v1.heap.size, 1, none⟩ = some (.int .i64 r) := (BoxAt.cell WB.out 1).trans rfl
          have kWB2 : v13.cell? ⟨v1.heap.size, 2, none⟩ = some (.int .i64 v) := (BoxAt.cell WB.out 2).trans rfl
          have kFB0 : v13.cell? ⟨v4.heap.size, 0, none⟩ = some (.int .i64 0) := (BoxAt.cell FB.out 0).trans rfl
          have kFB2 : v13.cell? ⟨v4.heap.size, 2, none⟩ = some (.int .i64 0) := (BoxAt.cell FB.out 2).trans rfl
          have FL6 := hid trivial
          go_wp2_with (first
            | (refine wpList_load_box rfl 25 _ rfl (w.heap.size) rfl _ _ PB.out _ Try.underlying25 Try.infoBf ?_)
            | (have hfl := FL6.out
               refine wpList_store_whole rfl 25 _ _ rfl rfl (v2.heap.size) rfl [.int .i64 d, .bool k, .slice qv10.a qv10.n qv10.c, .slice u.a u.n u.c] rfl _ _ RB.out rfl Try.infoBf (by simp [Value.oneCell']) ?_
               intro v14 b g z
               have hsv14 : v13.heap.size ≤ v14.heap.size := by omega
               have HF := hid (HF.out.put g RB.out (by decide))
               have HC := hid (HC.out.put g RB.out (by decide))
               have HU := hid (HU.out.put g RB.out (by decide))
               have RB := hid (show BoxAt v14 (v2.heap.size) 25 #[.int .i64 d, .bool k, .slice qv10.a qv10.n qv10.c, .slice u.a u.n u.c] from b)
               have PB := hid (PB.out.grown g (fun e => by have := Option.some.inj e; omega))
               have WB := hid (WB.out.grown g (fun e => by have := Option.some.inj e; omega))
               have FB := hid (FB.out.grown g (fun e => by have := Option.some.inj e; omega))
               have LB := hid (LB.out.grown g (fun e => by have := Option.some.inj e; omega))
               have HB := hid (HB.out.trans (grown_below g (by omega) (by omega)))
               clear kPB0 kPB1 kPB2 kPB3 kWB0 kWB1 kWB2 kFB0 kFB2
               have kPB0 : v14.cell? ⟨w.heap.size, 0, none⟩ = some (.int .i64 d) := (BoxAt.cell PB.out 0).trans rfl
               have kPB1 : v14.cell? ⟨w.heap.size, 1, none⟩ = some (.bool k) := (BoxAt.cell PB.out 1).trans rfl
               have kPB2 : v14.cell? ⟨w.heap.size, 2, none⟩ = some (.slice qv10.a qv10.n qv10.c) := (BoxAt.cell PB.out 2).trans rfl
               have kPB3 : v14.cell? ⟨w.heap.size, 3, none⟩ = some (.slice u.a u.n u.c) := (BoxAt.cell PB.out 3).trans rfl
               have kWB0 : v14.cell? ⟨v1.heap.size, 0, none⟩ = some (.int .i64 p) := (BoxAt.cell WB.out 0).trans rfl
               have kWB1 : v14.cell? ⟨v1.heap.size, 1, none⟩ = some (.int .i64 r) := (BoxAt.cell WB.out 1).trans rfl
               have kWB2 : v14.cell? ⟨v1.heap.size, 2, none⟩ = some (.int .i64 v) := (BoxAt.cell WB.out 2).trans rfl
               have kFB0 : v14.cell? ⟨v4.heap.size, 0, none⟩ = some (.int .i64 0) := (BoxAt.cell FB.out 0).trans rfl
               have kFB2 : v14.cell? ⟨v4.heap.size, 2, none⟩ = some (.int .i64 0) := (BoxAt.cell FB.out 2).trans rfl
               clear b g z hfl FL6)
            | fail)
          refine bodyPost_ret (results_box_tmp2 rfl _ _ (v2.heap.size) 25 _ (0, 0) _ rfl RB.out Try.underlying25 rfl Try.infoBf) rfl ?_
          exact ⟨qv10, u, ⟨none, 0, 0⟩, rfl, HC.out, HU.out, OWk.nil _ _, HB.out⟩
      case' b1065_8 =>
        have cG : v8.cell? ⟨w.heap.size, 3, none⟩ = some (.slice sa M sc) := (BoxAt.cell PB.out 3).trans rfl
        go_simp
        clear cG
        refine hK1065.out _ _ (WB.out) (fun hHeld1065 => ?_)
        clear hK1065 K1065
        try simp only [Act.put, List.setIfInBounds_toArray, List.set_cons_zero, List.set_cons_succ]
        refine wpAnyH_ready (rs := [2]) (by kernel_rfl) (by simp) (AllReadyH.cons (o := { dst := some 45, op := Op.call { callee := Callee.value (Operand.func 17), args := #[Operand.tmp 44, Operand.const (Value.int IntKind.i64 0)], argTypes := #[22, 3] }, type := 22, pos := "buffer.go:19", after := _, guard := none }) rfl (fun K1079 hK1079 => ?_) AllReadyH.nil)
        go_simp
        refine (from_left0 HX.out HN.out).mono ?_
        rintro e v9 ⟨ga, rfl, hu, hb⟩
        have PB := hid (PB.out.belowAll hb)
        have WB := hid (WB.out.belowAll hb)
        have RB := hid (RB.out.belowAll hb)
        have FB := hid (FB.out.belowAll hb)
        have LB := hid (LB.out.belowAll hb)
        have HF := hid (HF.out.below hb)
        have HB := hid (HB.out.trans (hb.mono HB.out.size))
        have hsv9 : v8.heap.size ≤ v9.heap.size := by first | exact hb.size | omega
        have HG := hid hu
        clear hu
        clear hb
        refine hK1079.out _ _ (WB.out) (fun hHeld1079 => ?_)
        clear hK1079 K1079
        try simp only [Act.put, List.setIfInBounds_toArray, List.set_cons_zero, List.set_cons_succ]
        refine wpAnyH_ready (rs := [6]) (by kernel_rfl) (by simp) (AllReadyH.cons (o := { dst := some 49, op := Op.call { callee := Callee.builtin Builtin.append, args := #[Operand.tmp 45, Operand.tmp 48], argTypes := #[22, 22] }, type := 22, pos := "buffer.go:19", after := _, guard := none }) rfl (fun K1080 hK1080 => ?_) AllReadyH.nil)
        have HBp := HB.out.size
        refine step_app_full rfl (.tmp 45) (.tmp 48) rfl _ _ rfl HN.out.symm (HG.out.below HB.out) _ (v) _ rfl LB.out (by have := HXL.out; omega) ?_
        intro uv10 v10 ho h
        obtain ⟨qv10, rfl, -⟩ := ho.sl
        have PB := hid (PB.out.belowAll h)
        have WB := hid (WB.out.belowAll h)
        have RB := hid (RB.out.belowAll h)
        have FB := hid (FB.out.belowAll h)
        have LB := hid (LB.out.belowAll h)
        have HF := hid (HF.out.below h)
        have HB := hid (HB.out.trans (h.mono HB.out.size))
        have hsv10 : v9.heap.size ≤ v10.heap.size := by first | exact h.size | omega
        have HC := hid ho
        clear ho h
        have HC := hid (HC.out.mono HBp)
        clear HBp HG
        refine hK1080.out _ _ (WB.out) (fun hHeld1080 => ?_)
        clear hK1080 K1080
        try simp only [Act.put, List.setIfInBounds_toArray, List.set_cons_zero, List.set_cons_succ]
        refine wpAnyH_take (i := 10) (oi := { dst := some 53, op := Op.fieldAddr 25 (Operand.tmp 3) 2, type := 0, pos := "buffer.go:19", after := _, guard := none }) (v := ?_) rfl (by kernel_rfl) (by kernel_rfl) (by kernel_rfl) (fun _ _ _ h => h) (Or.inl ⟨by rfl, ?_⟩) (by assumption) ?_
        rotate_left
        · (intro w hSw; (try dsimp only at hSw); go_simp; try with_reducible rfl)
        simp only [Act.put, List.setIfInBounds_toArray, List.set_cons_zero, List.set_cons_succ]
        refine wpAnyH_ready (rs := [9]) (by kernel_rfl) (by simp) (AllReadyH.cons (o := { dst := some 52, op := Op.call { callee := Callee.value (Operand.func 18), args := #[Operand.tmp 51], argTypes := #[23] }, type := 23, pos := "buffer.go:19", after := _, guard := none }) rfl (fun K1082 hK1082 => ?_) AllReadyH.nil)
        have HBc := HB.out.size
        go_simp
        refine (qclone_Wt (HV.out.below HB.out) (by have := HL.out; omega)).mono ?_
        rintro e v11 ⟨uu, rfl, hu, hb⟩
        have PB := hid (PB.out.belowAll hb)
        have WB := hid (WB.out.belowAll hb)
        have RB := hid (RB.out.belowAll hb)
        have FB := hid (FB.out.belowAll hb)
        have LB := hid (LB.out.belowAll hb)
        have HF := hid (HF.out.below hb)
        have HC := hid (HC.out.below hb)
        have HB := hid (HB.out.trans (hb.mono HB.out.size))
        have hsv11 : v10.heap.size ≤ v11.heap.size := by first | exact hb.size | omega
        obtain ⟨u, rfl, -⟩ := hu.sl
        have HU := hid (hu.mono HBc)
        clear hu HBc
        clear hb
        refine hK1082.out _ _ (WB.out) (fun hHeld1082 => ?_)
        clear hK1082 K1082
        try simp only [Act.put, List.setIfInBounds_toArray, List.set_cons_zero, List.set_cons_succ]
        refine wpAnyH_ready (rs := [11]) (by kernel_rfl) (by simp) (AllReadyH.cons (o := { dst := none, op := Op.store 22 (Operand.tmp 53) (Operand.tmp 49), type := 0, pos := "buffer.go:19", after := _, guard := none }) rfl (fun K1083 hK1083 => ?_) AllReadyH.nil)
        refine step_store_box rfl 22 _ _ rfl (w.heap.size) 2 (.slice qv10.a qv10.n qv10.c) rfl rfl rfl rfl (by kernel_rfl) _ _ PB.out (by simp) ?_
        intro v12 b g z
        have hsv12 : v11.heap.size ≤ v12.heap.size := by omega
        have HF := hid (HF.out.put g PB.out (by decide))
        have HC := hid (HC.out.put g PB.out (by decide))
        have HU := hid (HU.out.put g PB.out (by decide))
        have PB := hid (show BoxAt v12 (w.heap.size) 25 #[.int .i64 d, .bool k, .slice qv10.a qv10.n qv10.c, .slice sa M sc] from by simpa using b)
        have WB := hid (WB.out.grown g (fun e => by have := Option.some.inj e; omega))
        have RB := hid (RB.out.grown g (fun e => by have := Option.some.inj e; omega))
        have FB := hid (FB.out.grown g (fun e => by have := Option.some.inj e; omega))
        have LB := hid (LB.out.grown g (fun e => by have := Option.some.inj e; omega))
        have HB := hid (HB.out.trans (grown_below g (by omega) (by omega)))
        clear b g z
        refine hK1083.out _ _ (WB.out) (fun hHeld1083 => ?_)
        clear hK1083 K1083
        try simp only [Act.put]
        refine wpAnyH_take (i := 12) (oi := { dst := some 54, op := Op.fieldAddr 25 (Operand.tmp 3) 3, type := 0, pos := "buffer.go:19", after := _, guard := none }) (v := ?_) rfl (by kernel_rfl) (by kernel_rfl) (by kernel_rfl) (fun _ _ _ h => h) (Or.inl ⟨by rfl, ?_⟩) (by assumption) ?_
        rotate_left
        · (intro w hSw; (try dsimp only at hSw); go_simp; try with_reducible rfl)
        simp only [Act.put, List.setIfInBounds_toArray, List.set_cons_zero, List.set_cons_succ]
        refine wpAnyH_ready (rs := [13]) (by kernel_rfl) (by simp) (AllReadyH.cons (o := { dst := none, op := Op.store 23 (Operand.tmp 54) (Operand.tmp 52), type := 0, pos := "buffer.go:19", after := _, guard := none }) rfl (fun K1085 hK1085 => ?_) AllReadyH.nil)
        refine step_store_box rfl 23 _ _ rfl (w.heap.size) 3 (.slice u.a u.n u.c) rfl rfl rfl rfl (by kernel_rfl) _ _ PB.out (by simp) ?_
        intro v13 b g z
        have hsv13 : v12.heap.size ≤ v13.heap.size := by omega
        have HF := hid (HF.out.put g PB.out (by decide))
        have HC := hid (HC.out.put g PB.out (by decide))
        have HU := hid (HU.out.put g PB.out (by decide))
        have PB := hid (show BoxAt v13 (w.heap.size) 25 #[.int .i64 d, .bool k, .slice qv10.a qv10.n qv10.c, .slice u.a u.n u.c] from by simpa using b)
        have WB := hid (WB.out.grown g (fun e => by have := Option.some.inj e; omega))
        have RB := hid (RB.out.grown g (fun e => by have := Option.some.inj e; omega))
        have FB := hid (FB.out.grown g (fun e => by have := Option.some.inj e; omega))
        have LB := hid (LB.out.grown g (fun e => by have := Option.some.inj e; omega))
        have HB := hid (HB.out.trans (grown_below g (by omega) (by omega)))
        clear b g z
        refine hK1085.out _ _ (WB.out) (fun hHeld1085 => ?_)
        clear hK1085 K1085
        try simp only [Act.put]
        refine wpAnyH_done (by kernel_rfl) ?_ _
        clear hHeld hHeld1005 hHeld1064 hHeld1065 hHeld1079 hHeld1080 hHeld1082 hHeld1083 hHeld1085
        have kPB0 : v13.cell? ⟨w.heap.size, 0, none⟩ = some (.int .i64 d) := (BoxAt.cell PB.out 0).trans rfl
        have kPB1 : v13.cell? ⟨w.heap.size, 1, none⟩ = some (.bool k) := (BoxAt.cell PB.out 1).trans rfl
        have kPB2 : v13.cell? ⟨w.heap.size, 2, none⟩ = some (.slice qv10.a qv10.n qv10.c) := (BoxAt.cell PB.out 2).trans rfl
        have kPB3 : v13.cell? ⟨w.heap.size, 3, none⟩ = some (.slice u.a u.n u.c) := (BoxAt.cell PB.out 3).trans rfl
        have kWB0 : v13.cell? ⟨v1.heap.size, 0, none⟩ = some (.int .i64 p) := (BoxAt.cell WB.out 0).trans rfl
        have kWB1 : v13.cell? ⟨v1.heap.size, 1, none⟩ = some (.int .i64 r) := (BoxAt.cell WB.out 1).trans rfl
        have kWB2 : v13.cell? ⟨v1.heap.size, 2, none⟩ = some (.int .i64 v) := (BoxAt.cell WB.out 2).trans rfl
        have kFB0 : v13.cell? ⟨v4.heap.size, 0, none⟩ = some (.int .i64 0) := (BoxAt.cell FB.out 0).trans rfl
        have kFB2 : v13.cell? ⟨v4.heap.size, 2, none⟩ = some (.int .i64 0) := (BoxAt.cell FB.out 2).trans rfl
        have FL6 := hid trivial
        go_wp2_with (first
          | (refine wpList_load_box rfl 25 _ rfl (w.heap.size) rfl _ _ PB.out _ Try.underlying25 Try.infoBf ?_)
          | (have hfl := FL6.out
             refine wpList_store_whole rfl 25 _ _ rfl rfl (v2.heap.size) rfl [.int .i64 d, .bool k, .slice qv10.a qv10.n qv10.c, .slice u.a u.n u.c] rfl _ _ RB.out rfl Try.infoBf (by simp [Value.oneCell']) ?_
             intro v14 b g z
             have hsv14 : v13.heap.size ≤ v14.heap.size := by omega
             have HF := hid (HF.out.put g RB.out (by decide))
             have HC := hid (HC.out.put g RB.out (by decide))
             have HU := hid (HU.out.put g RB.out (by decide))
             have RB := hid (show BoxAt v14 (v2.heap.size) 25 #[.int .i64 d, .bool k, .slice qv10.a qv10.n qv10.c, .slice u.a u.n u.c] from b)
             have PB := hid (PB.out.grown g (fun e => by have := Option.some.inj e; omega))
             have WB := hid (WB.out.grown g (fun e => by have := Option.some.inj e; omega))
             have FB := hid (FB.out.grown g (fun e => by have := Option.some.inj e; omega))
             have LB := hid (LB.out.grown g (fun e => by have := Option.some.inj e; omega))
             have HB := hid (HB.out.trans (grown_below g (by omega) (by omega)))
             clear kPB0 kPB1 kPB2 kPB3 kWB0 kWB1 kWB2 kFB0 kFB2
             have kPB0 : v14.cell? ⟨w.heap.size, 0, none⟩ = some (.int .i64 d) := (BoxAt.cell PB.out 0).trans rfl
             have kPB1 : v14.cell? ⟨w.heap.size, 1, none⟩ = some (.bool k) := (BoxAt.cell PB.out 1).trans rfl
             have kPB2 : v14.cell? ⟨w.heap.size, 2, none⟩ = some (.slice qv10.a qv10.n qv10.c) := (BoxAt.cell PB.out 2).trans rfl
             have kPB3 : v14.cell? ⟨w.heap.size, 3, none⟩ = some (.slice u.a u.n u.c) := (BoxAt.cell PB.out 3).trans rfl
             have kWB0 : v14.cell? ⟨v1.heap.size, 0, none⟩ = some (.int .i64 p) := (BoxAt.cell WB.out 0).trans rfl
             have kWB1 : v14.cell? ⟨v1.heap.size, 1, none⟩ = some (.int .i64 r) := (BoxAt.cell WB.out 1).trans rfl
             have kWB2 : v14.cell? ⟨v1.heap.size, 2, none⟩ = some (.int .i64 v) := (BoxAt.cell WB.out 2).trans rfl
             have kFB0 : v14.cell? ⟨v4.heap.size, 0, none⟩ = some (.int .i64 0) := (BoxAt.cell FB.out 0).trans rfl
             have kFB2 : v14.cell? ⟨v4.heap.size, 2, none⟩ = some (.int .i64 0) := (BoxAt.cell FB.out 2).trans rfl
             clear b g z hfl FL6)
          | fail)
        refine bodyPost_ret (results_box_tmp2 rfl _ _ (v2.heap.size) 25 _ (0, 0) _ rfl RB.out Try.underlying25 rfl Try.infoBf) rfl ?_
        exact ⟨qv10, u, ⟨none, 0, 0⟩, rfl, HC.out, HU.out, OWk.nil _ _, HB.out⟩
    case' b1064_8 =>
      have cG : v8.cell? ⟨w.heap.size, 3, none⟩ = some (.slice sa M sc) := (BoxAt.cell PB.out 3).trans rfl
      go_simp
      clear cG
      refine hK1064.out _ _ (WB.out) (fun hHeld1064 => ?_)
      clear hK1064 K1064
      try simp only [Act.put, List.setIfInBounds_toArray, List.set_cons_zero, List.set_cons_succ]
      refine wpAnyH_ready (rs := [1]) (by kernel_rfl) (by simp) (AllReadyH.cons (o := { dst := some 44, op := Op.load 22 (Operand.tmp 43), type := 22, pos := "buffer.go:19", after := _, guard := none }) rfl (fun K1086 hK1086 => ?_) AllReadyH.nil)
      have cG : v8.cell? ⟨w.heap.size, 2, none⟩ = some (.slice xa N xc) := (BoxAt.cell PB.out 2).trans rfl
      go_simp
      clear cG
      refine hK1086.out _ _ (WB.out) (fun hHeld1086 => ?_)
      clear hK1086 K1086
      try simp only [Act.put, List.setIfInBounds_toArray, List.set_cons_zero, List.set_cons_succ]
      refine wpAnyH_ready (rs := [2]) (by kernel_rfl) (by simp) (AllReadyH.cons (o := { dst := some 45, op := Op.call { callee := Callee.value (Operand.func 17), args := #[Operand.tmp 44, Operand.const (Value.int IntKind.i64 0)], argTypes := #[22, 3] }, type := 22, pos := "buffer.go:19", after := _, guard := none }) rfl (fun K1087 hK1087 => ?_) AllReadyH.nil)
      go_simp
      refine (from_left0 HX.out HN.out).mono ?_
      rintro e v9 ⟨ga, rfl, hu, hb⟩
      have PB := hid (PB.out.belowAll hb)
      have WB := hid (WB.out.belowAll hb)
      have RB := hid (RB.out.belowAll hb)
      have FB := hid (FB.out.belowAll hb)
      have LB := hid (LB.out.belowAll hb)
      have HF := hid (HF.out.below hb)
      have HB := hid (HB.out.trans (hb.mono HB.out.size))
      have hsv9 : v8.heap.size ≤ v9.heap.size := by first | exact hb.size | omega
      have HG := hid hu
      clear hu
      clear hb
      refine hK1087.out _ _ (WB.out) (fun hHeld1087 => ?_)
      clear hK1087 K1087
      try simp only [Act.put, List.setIfInBounds_toArray, List.set_cons_zero, List.set_cons_succ]
      refine wpAnyH_ready (rs := [6]) (by kernel_rfl) (by simp) (AllReadyH.cons (o := { dst := some 49, op := Op.call { callee := Callee.builtin Builtin.append, args := #[Operand.tmp 45, Operand.tmp 48], argTypes := #[22, 22] }, type := 22, pos := "buffer.go:19", after := _, guard := none }) rfl (fun K1088 hK1088 => ?_) AllReadyH.nil)
      have HBp := HB.out.size
      refine step_app_full rfl (.tmp 45) (.tmp 48) rfl _ _ rfl HN.out.symm (HG.out.below HB.out) _ (v) _ rfl LB.out (by have := HXL.out; omega) ?_
      intro uv10 v10 ho h
      obtain ⟨qv10, rfl, -⟩ := ho.sl
      have PB := hid (PB.out.belowAll h)
      have WB := hid (WB.out.belowAll h)
      have RB := hid (RB.out.belowAll h)
      have FB := hid (FB.out.belowAll h)
      have LB := hid (LB.out.belowAll h)
      have HF := hid (HF.out.below h)
      have HB := hid (HB.out.trans (h.mono HB.out.size))
      have hsv10 : v9.heap.size ≤ v10.heap.size := by first | exact h.size | omega
      have HC := hid ho
      clear ho h
      have HC := hid (HC.out.mono HBp)
      clear HBp HG
      refine hK1088.out _ _ (WB.out) (fun hHeld1088 => ?_)
      clear hK1088 K1088
      try simp only [Act.put, List.setIfInBounds_toArray, List.set_cons_zero, List.set_cons_succ]
      refine wpAnyH_take (i := 10) (oi := { dst := some 53, op := Op.fieldAddr 25 (Operand.tmp 3) 2, type := 0, pos := "buffer.go:19", after := _, guard := none }) (v := ?_) rfl (by kernel_rfl) (by kernel_rfl) (by kernel_rfl) (fun _ _ _ h => h) (Or.inl ⟨by rfl, ?_⟩) (by assumption) ?_
      rotate_left
      · (intro w hSw; (try dsimp only at hSw); go_simp; try with_reducible rfl)
      simp only [Act.put, List.setIfInBounds_toArray, List.set_cons_zero, List.set_cons_succ]
      refine wpAnyH_ready (rs := [9]) (by kernel_rfl) (by simp) (AllReadyH.cons (o := { dst := some 52, op := Op.call { callee := Callee.value (Operand.func 18), args := #[Operand.tmp 51], argTypes := #[23] }, type := 23, pos := "buffer.go:19", after := _, guard := none }) rfl (fun K1090 hK1090 => ?_) AllReadyH.nil)
      have HBc := HB.out.size
      go_simp
      refine (qclone_Wt (HV.out.below HB.out) (by have := HL.out; omega)).mono ?_
      rintro e v11 ⟨uu, rfl, hu, hb⟩
      have PB := hid (PB.out.belowAll hb)
      have WB := hid (WB.out.belowAll hb)
      have RB := hid (RB.out.belowAll hb)
      have FB := hid (FB.out.belowAll hb)
      have LB := hid (LB.out.belowAll hb)
      have HF := hid (HF.out.below hb)
      have HC := hid (HC.out.below hb)
      have HB := hid (HB.out.trans (hb.mono HB.out.size))
      have hsv11 : v10.heap.size ≤ v11.heap.size := by first | exact hb.size | omega
      obtain ⟨u, rfl, -⟩ := hu.sl
      have HU := hid (hu.mono HBc)
      clear hu HBc
      clear hb
      refine hK1090.out _ _ (WB.out) (fun hHeld1090 => ?_)
      clear hK1090 K1090
      try simp only [Act.put, List.setIfInBounds_toArray, List.set_cons_zero, List.set_cons_succ]
      refine wpAnyH_ready (rs := [11]) (by kernel_rfl) (by simp) (AllReadyH.cons (o := { dst := none, op := Op.store 22 (Operand.tmp 53) (Operand.tmp 49), type := 0, pos := "buffer.go:19", after := _, guard := none }) rfl (fun K1091 hK1091 => ?_) AllReadyH.nil)
      refine step_store_box rfl 22 _ _ rfl (w.heap.size) 2 (.slice qv10.a qv10.n qv10.c) rfl rfl rfl rfl (by kernel_rfl) _ _ PB.out (by simp) ?_
      intro v12 b g z
      have hsv12 : v11.heap.size ≤ v12.heap.size := by omega
      have HF := hid (HF.out.put g PB.out (by decide))
      have HC := hid (HC.out.put g PB.out (by decide))
      have HU := hid (HU.out.put g PB.out (by decide))
      have PB := hid (show BoxAt v12 (w.heap.size) 25 #[.int .i64 d, .bool k, .slice qv10.a qv10.n qv10.c, .slice sa M sc] from by simpa using b)
      have WB := hid (WB.out.grown g (fun e => by have := Option.some.inj e; omega))
      have RB := hid (RB.out.grown g (fun e => by have := Option.some.inj e; omega))
      have FB := hid (FB.out.grown g (fun e => by have := Option.some.inj e; omega))
      have LB := hid (LB.out.grown g (fun e => by have := Option.some.inj e; omega))
      have HB := hid (HB.out.trans (grown_below g (by omega) (by omega)))
      clear b g z
      refine hK1091.out _ _ (WB.out) (fun hHeld1091 => ?_)
      clear hK1091 K1091
      try simp only [Act.put]
      refine wpAnyH_take (i := 12) (oi := { dst := some 54, op := Op.fieldAddr 25 (Operand.tmp 3) 3, type := 0, pos := "buffer.go:19", after := _, guard := none }) (v := ?_) rfl (by kernel_rfl) (by kernel_rfl) (by kernel_rfl) (fun _ _ _ h => h) (Or.inl ⟨by rfl, ?_⟩) (by assumption) ?_
      rotate_left
      · (intro w hSw; (try dsimp only at hSw); go_simp; try with_reducible rfl)
      simp only [Act.put, List.setIfInBounds_toArray, List.set_cons_zero, List.set_cons_succ]
      refine wpAnyH_ready (rs := [13]) (by kernel_rfl) (by simp) (AllReadyH.cons (o := { dst := none, op := Op.store 23 (Operand.tmp 54) (Operand.tmp 52), type := 0, pos := "buffer.go:19", after := _, guard := none }) rfl (fun K1093 hK1093 => ?_) AllReadyH.nil)
      refine step_store_box rfl 23 _ _ rfl (w.heap.size) 3 (.slice u.a u.n u.c) rfl rfl rfl rfl (by kernel_rfl) _ _ PB.out (by simp) ?_
      intro v13 b g z
      have hsv13 : v12.heap.size ≤ v13.heap.size := by omega
      have HF := hid (HF.out.put g PB.out (by decide))
      have HC := hid (HC.out.put g PB.out (by decide))
      have HU := hid (HU.out.put g PB.out (by decide))
      have PB := hid (show BoxAt v13 (w.heap.size) 25 #[.int .i64 d, .bool k, .slice qv10.a qv10.n qv10.c, .slice u.a u.n u.c] from by simpa using b)
      have WB := hid (WB.out.grown g (fun e => by have := Option.some.inj e; omega))
      have RB := hid (RB.out.grown g (fun e => by have := Option.some.inj e; omega))
      have FB := hid (FB.out.grown g (fun e => by have := Option.some.inj e; omega))
      have LB := hid (LB.out.grown g (fun e => by have := Option.some.inj e; omega))
      have HB := hid (HB.out.trans (grown_below g (by omega) (by omega)))
      clear b g z
      refine hK1093.out _ _ (WB.out) (fun hHeld1093 => ?_)
      clear hK1093 K1093
      try simp only [Act.put]
      refine wpAnyH_done (by kernel_rfl) ?_ _
      clear hHeld hHeld1005 hHeld1064 hHeld1086 hHeld1087 hHeld1088 hHeld1090 hHeld1091 hHeld1093
      have kPB0 : v13.cell? ⟨w.heap.size, 0, none⟩ = some (.int .i64 d) := (BoxAt.cell PB.out 0).trans rfl
      have kPB1 : v13.cell? ⟨w.heap.size, 1, none⟩ = some (.bool k) := (BoxAt.cell PB.out 1).trans rfl
      have kPB2 : v13.cell? ⟨w.heap.size, 2, none⟩ = some (.slice qv10.a qv10.n qv10.c) := (BoxAt.cell PB.out 2).trans rfl
      have kPB3 : v13.cell? ⟨w.heap.size, 3, none⟩ = some (.slice u.a u.n u.c) := (BoxAt.cell PB.out 3).trans rfl
      have kWB0 : v13.cell? ⟨v1.heap.size, 0, none⟩ = some (.int .i64 p) := (BoxAt.cell WB.out 0).trans rfl
      have kWB1 : v13.cell? ⟨v1.heap.size, 1, none⟩ = some (.int .i64 r) := (BoxAt.cell WB.out 1).trans rfl
      have kWB2 : v13.cell? ⟨v1.heap.size, 2, none⟩ = some (.int .i64 v) := (BoxAt.cell WB.out 2).trans rfl
      have kFB0 : v13.cell? ⟨v4.heap.size, 0, none⟩ = some (.int .i64 0) := (BoxAt.cell FB.out 0).trans rfl
      have kFB2 : v13.cell? ⟨v4.heap.size, 2, none⟩ = some (.int .i64 0) := (BoxAt.cell FB.out 2).trans rfl
      have FL6 := hid trivial
      go_wp2_with (first
        | (refine wpList_load_box rfl 25 _ rfl (w.heap.size) rfl _ _ PB.out _ Try.underlying25 Try.infoBf ?_)
        | (have hfl := FL6.out
           refine wpList_store_whole rfl 25 _ _ rfl rfl (v2.heap.size) rfl [.int .i64 d, .bool k, .slice qv10.a qv10.n qv10.c, .slice u.a u.n u.c] rfl _ _ RB.out rfl Try.infoBf (by simp [Value.oneCell']) ?_
           intro v14 b g z
           have hsv14 : v13.heap.size ≤ v14.heap.size := by omega
           have HF := hid (HF.out.put g RB.out (by decide))
           have HC := hid (HC.out.put g RB.out (by decide))
           have HU := hid (HU.out.put g RB.out (by decide))
           have RB := hid (show BoxAt v14 (v2.heap.size) 25 #[.int .i64 d, .bool k, .slice qv10.a qv10.n qv10.c, .slice u.a u.n u.c] from b)
           have PB := hid (PB.out.grown g (fun e => by have := Option.some.inj e; omega))
           have WB := hid (WB.out.grown g (fun e => by have := Option.some.inj e; omega))
           have FB := hid (FB.out.grown g (fun e => by have := Option.some.inj e; omega))
           have LB := hid (LB.out.grown g (fun e => by have := Option.some.inj e; omega))
           have HB := hid (HB.out.trans (grown_below g (by omega) (by omega)))
           clear kPB0 kPB1 kPB2 kPB3 kWB0 kWB1 kWB2 kFB0 kFB2
           have kPB0 : v14.cell? ⟨w.heap.size, 0, none⟩ = some (.int .i64 d) := (BoxAt.cell PB.out 0).trans rfl
           have kPB1 : v14.cell? ⟨w.heap.size, 1, none⟩ = some (.bool k) := (BoxAt.cell PB.out 1).trans rfl
           have kPB2 : v14.cell? ⟨w.heap.size, 2, none⟩ = some (.slice qv10.a qv10.n qv10.c) := (BoxAt.cell PB.out 2).trans rfl
           have kPB3 : v14.cell? ⟨w.heap.size, 3, none⟩ = some (.slice u.a u.n u.c) := (BoxAt.cell PB.out 3).trans rfl
           have kWB0 : v14.cell? ⟨v1.heap.size, 0, none⟩ = some (.int .i64 p) := (BoxAt.cell WB.out 0).trans rfl
           have kWB1 : v14.cell? ⟨v1.heap.size, 1, none⟩ = some (.int .i64 r) := (BoxAt.cell WB.out 1).trans rfl
           have kWB2 : v14.cell? ⟨v1.heap.size, 2, none⟩ = some (.int .i64 v) := (BoxAt.cell WB.out 2).trans rfl
           have kFB0 : v14.cell? ⟨v4.heap.size, 0, none⟩ = some (.int .i64 0) := (BoxAt.cell FB.out 0).trans rfl
           have kFB2 : v14.cell? ⟨v4.heap.size, 2, none⟩ = some (.int .i64 0) := (BoxAt.cell FB.out 2).trans rfl
           clear b g z hfl FL6)
        | fail)
      refine bodyPost_ret (results_box_tmp2 rfl _ _ (v2.heap.size) 25 _ (0, 0) _ rfl RB.out Try.underlying25 rfl Try.infoBf) rfl ?_
      exact ⟨qv10, u, ⟨none, 0, 0⟩, rfl, HC.out, HU.out, OWk.nil _ _, HB.out⟩
  case' b1005_8 =>
    have cG : v7.cell? ⟨w.heap.size, 3, none⟩ = some (.slice sa M sc) := (BoxAt.cell PB.out 3).trans rfl
    go_simp
    clear cG
    refine hK1005.out _ _ (WB.out) (fun hHeld1005 => ?_)
    clear hK1005 K1005
    try simp only [Act.put, List.setIfInBounds_toArray, List.set_cons_zero, List.set_cons_succ]
    refine wpAnyH_ready (rs := [1, 5]) (by kernel_rfl) (by simp) (AllReadyH.cons (o := { dst := some 44, op := Op.load 22 (Operand.tmp 43), type := 22, pos := "buffer.go:19", after := _, guard := none }) rfl (fun K1094 hK1094 => ?b1094_1) (AllReadyH.cons (o := { dst := some 48, op := Op.buildSlice 22 1 #[(0, Operand.tmp 47)], type := 22, pos := "buffer.go:19", after := _, guard := none }) rfl (fun K1094 hK1094 => ?b1094_5) AllReadyH.nil))
    case' b1094_1 =>
      have cG : v7.cell? ⟨w.heap.size, 2, none⟩ = some (.slice xa N xc) := (BoxAt.cell PB.out 2).trans rfl
      go_simp
      clear cG
      refine hK1094.out _ _ (WB.out) (fun hHeld1094 => ?_)
      clear hK1094 K1094
      try simp only [Act.put, List.setIfInBounds_toArray, List.set_cons_zero, List.set_cons_succ]
      refine wpAnyH_ready (rs := [2, 5]) (by kernel_rfl) (by simp) (AllReadyH.cons (o := { dst := some 45, op := Op.call { callee := Callee.value (Operand.func 17), args := #[Operand.tmp 44, Operand.const (Value.int IntKind.i64 0)], argTypes := #[22, 3] }, type := 22, pos := "buffer.go:19", after := _, guard := none }) rfl (fun K1095 hK1095 => ?b1095_2) (AllReadyH.cons (o := { dst := some 48, op := Op.buildSlice 22 1 #[(0, Operand.tmp 47)], type := 22, pos := "buffer.go:19", after := _, guard := none }) rfl (fun K1095 hK1095 => ?b1095_5) AllReadyH.nil))
      case' b1095_2 =>
        go_simp
        refine (from_left0 HX.out HN.out).mono ?_
        rintro e v8 ⟨ga, rfl, hu, hb⟩
        have PB := hid (PB.out.belowAll hb)
        have WB := hid (WB.out.belowAll hb)
        have RB := hid (RB.out.belowAll hb)
        have FB := hid (FB.out.belowAll hb)
        have HF := hid (HF.out.below hb)
        have HB := hid (HB.out.trans (hb.mono HB.out.size))
        have hsv8 : v7.heap.size ≤ v8.heap.size := by first | exact hb.size | omega
        have HG := hid hu
        clear hu
        clear hb
        refine hK1095.out _ _ (WB.out) (fun hHeld1095 => ?_)
        clear hK1095 K1095
        try simp only [Act.put, List.setIfInBounds_toArray, List.set_cons_zero, List.set_cons_succ]
        refine wpAnyH_ready (rs := [5]) (by kernel_rfl) (by simp) (AllReadyH.cons (o := { dst := some 48, op := Op.buildSlice 22 1 #[(0, Operand.tmp 47)], type := 22, pos := "buffer.go:19", after := _, guard := none }) rfl (fun K1096 hK1096 => ?_) AllReadyH.nil)
        refine step_litI rfl (.tmp 47) rfl (v) rfl ?_
        intro v9 b h
        have LB := hid (show BoxAt v9 v8.heap.size 3 #[.int .i64 (v)] from b)
        have PB := hid (PB.out.belowAll h)
        have WB := hid (WB.out.belowAll h)
        have RB := hid (RB.out.belowAll h)
        have FB := hid (FB.out.belowAll h)
        have HF := hid (HF.out.below h)
        have HB := hid (HB.out.trans (h.mono HB.out.size))
        have hsv9 : v8.heap.size ≤ v9.heap.size := by first | exact h.size | omega
        clear b h
        refine hK1096.out _ _ (WB.out) (fun hHeld1096 => ?_)
        clear hK1096 K1096
        try simp only [Act.put, List.setIfInBounds_toArray, List.set_cons_zero, List.set_cons_succ]
        refine wpAnyH_ready (rs := [6]) (by kernel_rfl) (by simp) (AllReadyH.cons (o := { dst := some 49, op := Op.call { callee := Callee.builtin Builtin.append, args := #[Operand.tmp 45, Operand.tmp 48], argTypes := #[22, 22] }, type := 22, pos := "buffer.go:19", after := _, guard := none }) rfl (fun K1097 hK1097 => ?_) AllReadyH.nil)
        have HBp := HB.out.size
        refine step_app_full rfl (.tmp 45) (.tmp 48) rfl _ _ rfl HN.out.symm (HG.out.below HB.out) _ (v) _ rfl LB.out (by have := HXL.out; omega) ?_
        intro uv10 v10 ho h
        obtain ⟨qv10, rfl, -⟩ := ho.sl
        have PB := hid (PB.out.belowAll h)
        have WB := hid (WB.out.belowAll h)
        have RB := hid (RB.out.belowAll h)
        have FB := hid (FB.out.belowAll h)
        have LB := hid (LB.out.belowAll h)
        have HF := hid (HF.out.below h)
        have HB := hid (HB.out.trans (h.mono HB.out.size))
        have hsv10 : v9.heap.size ≤ v10.heap.size := by first | exact h.size | omega
        have HC := hid ho
        clear ho h
        have HC := hid (HC.out.mono HBp)
        clear HBp HG
        refine hK1097.out _ _ (WB.out) (fun hHeld1097 => ?_)
        clear hK1097 K1097
        try simp only [Act.put, List.setIfInBounds_toArray, List.set_cons_zero, List.set_cons_succ]
        refine wpAnyH_take (i := 10) (oi := { dst := some 53, op := Op.fieldAddr 25 (Operand.tmp 3) 2, type := 0, pos := "buffer.go:19", after := _, guard := none }) (v := ?_) rfl (by kernel_rfl) (by kernel_rfl) (by kernel_rfl) (fun _ _ _ h => h) (Or.inl ⟨by rfl, ?_⟩) (by assumption) ?_
        rotate_left
        · (intro w hSw; (try dsimp only at hSw); go_simp; try with_reducible rfl)
        simp only [Act.put, List.setIfInBounds_toArray, List.set_cons_zero, List.set_cons_succ]
        refine wpAnyH_ready (rs := [9]) (by kernel_rfl) (by simp) (AllReadyH.cons (o := { dst := some 52, op := Op.call { callee := Callee.value (Operand.func 18), args := #[Operand.tmp 51], argTypes := #[23] }, type := 23, pos := "buffer.go:19", after := _, guard := none }) rfl (fun K1099 hK1099 => ?_) AllReadyH.nil)
        have HBc := HB.out.size
        go_simp
        refine (qclone_Wt (HV.out.below HB.out) (by have := HL.out; omega)).mono ?_
        rintro e v11 ⟨uu, rfl, hu, hb⟩
        have PB := hid (PB.out.belowAll hb)
        have WB := hid (WB.out.belowAll hb)
        have RB := hid (RB.out.belowAll hb)
        have FB := hid (FB.out.belowAll hb)
        have LB := hid (LB.out.belowAll hb)
        have HF := hid (HF.out.below hb)
        have HC := hid (HC.out.below hb)
        have HB := hid (HB.out.trans (hb.mono HB.out.size))
        have hsv11 : v10.heap.size ≤ v11.heap.size := by first | exact hb.size | omega
        obtain ⟨u, rfl, -⟩ := hu.sl
        have HU := hid (hu.mono HBc)
        clear hu HBc
        clear hb
        refine hK1099.out _ _ (WB.out) (fun hHeld1099 => ?_)
        clear hK1099 K1099
        try simp only [Act.put, List.setIfInBounds_toArray, List.set_cons_zero, List.set_cons_succ]
        refine wpAnyH_ready (rs := [11]) (by kernel_rfl) (by simp) (AllReadyH.cons (o := { dst := none, op := Op.store 22 (Operand.tmp 53) (Operand.tmp 49), type := 0, pos := "buffer.go:19", after := _, guard := none }) rfl (fun K1100 hK1100 => ?_) AllReadyH.nil)
        refine step_store_box rfl 22 _ _ rfl (w.heap.size) 2 (.slice qv10.a qv10.n qv10.c) rfl rfl rfl rfl (by kernel_rfl) _ _ PB.out (by simp) ?_
        intro v12 b g z
        have hsv12 : v11.heap.size ≤ v12.heap.size := by omega
        have HF := hid (HF.out.put g PB.out (by decide))
        have HC := hid (HC.out.put g PB.out (by decide))
        have HU := hid (HU.out.put g PB.out (by decide))
        have PB := hid (show BoxAt v12 (w.heap.size) 25 #[.int .i64 d, .bool k, .slice qv10.a qv10.n qv10.c, .slice sa M sc] from by simpa using b)
        have WB := hid (WB.out.grown g (fun e => by have := Option.some.inj e; omega))
        have RB := hid (RB.out.grown g (fun e => by have := Option.some.inj e; omega))
        have FB := hid (FB.out.grown g (fun e => by have := Option.some.inj e; omega))
        have LB := hid (LB.out.grown g (fun e => by have := Option.some.inj e; omega))
        have HB := hid (HB.out.trans (grown_below g (by omega) (by omega)))
        clear b g z
        refine hK1100.out _ _ (WB.out) (fun hHeld1100 => ?_)
        clear hK1100 K1100
        try simp only [Act.put]
        refine wpAnyH_take (i := 12) (oi := { dst := some 54, op := Op.fieldAddr 25 (Operand.tmp 3) 3, type := 0, pos := "buffer.go:19", after := _, guard := none }) (v := ?_) rfl (by kernel_rfl) (by kernel_rfl) (by kernel_rfl) (fun _ _ _ h => h) (Or.inl ⟨by rfl, ?_⟩) (by assumption) ?_
        rotate_left
        · (intro w hSw; (try dsimp only at hSw); go_simp; try with_reducible rfl)
        simp only [Act.put, List.setIfInBounds_toArray, List.set_cons_zero, List.set_cons_succ]
        refine wpAnyH_ready (rs := [13]) (by kernel_rfl) (by simp) (AllReadyH.cons (o := { dst := none, op := Op.store 23 (Operand.tmp 54) (Operand.tmp 52), type := 0, pos := "buffer.go:19", after := _, guard := none }) rfl (fun K1102 hK1102 => ?_) AllReadyH.nil)
        refine step_store_box rfl 23 _ _ rfl (w.heap.size) 3 (.slice u.a u.n u.c) rfl rfl rfl rfl (by kernel_rfl) _ _ PB.out (by simp) ?_
        intro v13 b g z
        have hsv13 : v12.heap.size ≤ v13.heap.size := by omega
        have HF := hid (HF.out.put g PB.out (by decide))
        have HC := hid (HC.out.put g PB.out (by decide))
        have HU := hid (HU.out.put g PB.out (by decide))
        have PB := hid (show BoxAt v13 (w.heap.size) 25 #[.int .i64 d, .bool k, .slice qv10.a qv10.n qv10.c, .slice u.a u.n u.c] from by simpa using b)
        have WB := hid (WB.out.grown g (fun e => by have := Option.some.inj e; omega))
        have RB := hid (RB.out.grown g (fun e => by have := Option.some.inj e; omega))
        have FB := hid (FB.out.grown g (fun e => by have := Option.some.inj e; omega))
        have LB := hid (LB.out.grown g (fun e => by have := Option.some.inj e; omega))
        have HB := hid (HB.out.trans (grown_below g (by omega) (by omega)))
        clear b g z
        refine hK1102.out _ _ (WB.out) (fun hHeld1102 => ?_)
        clear hK1102 K1102
        try simp only [Act.put]
        refine wpAnyH_done (by kernel_rfl) ?_ _
        clear hHeld hHeld1005 hHeld1094 hHeld1095 hHeld1096 hHeld1097 hHeld1099 hHeld1100 hHeld1102
        have kPB0 : v13.cell? ⟨w.heap.size, 0, none⟩ = some (.int .i64 d) := (BoxAt.cell PB.out 0).trans rfl
        have kPB1 : v13.cell? ⟨w.heap.size, 1, none⟩ = some (.bool k) := (BoxAt.cell PB.out 1).trans rfl
        have kPB2 : v13.cell? ⟨w.heap.size, 2, none⟩ = some (.slice qv10.a qv10.n qv10.c) := (BoxAt.cell PB.out 2).trans rfl
        have kPB3 : v13.cell? ⟨w.heap.size, 3, none⟩ = some (.slice u.a u.n u.c) := (BoxAt.cell PB.out 3).trans rfl
        have kWB0 : v13.cell? ⟨v1.heap.size, 0, none⟩ = some (.int .i64 p) := (BoxAt.cell WB.out 0).trans rfl
        have kWB1 : v13.cell? ⟨v1.heap.size, 1, none⟩ = some (.int .i64 r) := (BoxAt.cell WB.out 1).trans rfl
        have kWB2 : v13.cell? ⟨v1.heap.size, 2, none⟩ = some (.int .i64 v) := (BoxAt.cell WB.out 2).trans rfl
        have kFB0 : v13.cell? ⟨v4.heap.size, 0, none⟩ = some (.int .i64 0) := (BoxAt.cell FB.out 0).trans rfl
        have kFB2 : v13.cell? ⟨v4.heap.size, 2, none⟩ = some (.int .i64 0) := (BoxAt.cell FB.out 2).trans rfl
        have FL6 := hid trivial
        go_wp2_with (first
          | (refine wpList_load_box rfl 25 _ rfl (w.heap.size) rfl _ _ PB.out _ Try.underlying25 Try.infoBf ?_)
          | (have hfl := FL6.out
             refine wpList_store_whole rfl 25 _ _ rfl rfl (v2.heap.size) rfl [.int .i64 d, .bool k, .slice qv10.a qv10.n qv10.c, .slice u.a u.n u.c] rfl _ _ RB.out rfl Try.infoBf (by simp [Value.oneCell']) ?_
             intro v14 b g z
             have hsv14 : v13.heap.size ≤ v14.heap.size := by omega
             have HF := hid (HF.out.put g RB.out (by decide))
             have HC := hid (HC.out.put g RB.out (by decide))
             have HU := hid (HU.out.put g RB.out (by decide))
             have RB := hid (show BoxAt v14 (v2.heap.size) 25 #[.int .i64 d, .bool k, .slice qv10.a qv10.n qv10.c, .slice u.a u.n u.c] from b)
             have PB := hid (PB.out.grown g (fun e => by have := Option.some.inj e; omega))
             have WB := hid (WB.out.grown g (fun e => by have := Option.some.inj e; omega))
             have FB := hid (FB.out.grown g (fun e => by have := Option.some.inj e; omega))
             have LB := hid (LB.out.grown g (fun e => by have := Option.some.inj e; omega))
             have HB := hid (HB.out.trans (grown_below g (by omega) (by omega)))
             clear kPB0 kPB1 kPB2 kPB3 kWB0 kWB1 kWB2 kFB0 kFB2
             have kPB0 : v14.cell? ⟨w.heap.size, 0, none⟩ = some (.int .i64 d) := (BoxAt.cell PB.out 0).trans rfl
             have kPB1 : v14.cell? ⟨w.heap.size, 1, none⟩ = some (.bool k) := (BoxAt.cell PB.out 1).trans rfl
             have kPB2 : v14.cell? ⟨w.heap.size, 2, none⟩ = some (.slice qv10.a qv10.n qv10.c) := (BoxAt.cell PB.out 2).trans rfl
             have kPB3 : v14.cell? ⟨w.heap.size, 3, none⟩ = some (.slice u.a u.n u.c) := (BoxAt.cell PB.out 3).trans rfl
             have kWB0 : v14.cell? ⟨v1.heap.size, 0, none⟩ = some (.int .i64 p) := (BoxAt.cell WB.out 0).trans rfl
             have kWB1 : v14.cell? ⟨v1.heap.size, 1, none⟩ = some (.int .i64 r) := (BoxAt.cell WB.out 1).trans rfl
             have kWB2 : v14.cell? ⟨v1.heap.size, 2, none⟩ = some (.int .i64 v) := (BoxAt.cell WB.out 2).trans rfl
             have kFB0 : v14.cell? ⟨v4.heap.size, 0, none⟩ = some (.int .i64 0) := (BoxAt.cell FB.out 0).trans rfl
             have kFB2 : v14.cell? ⟨v4.heap.size, 2, none⟩ = some (.int .i64 0) := (BoxAt.cell FB.out 2).trans rfl
             clear b g z hfl FL6)
          | fail)
        refine bodyPost_ret (results_box_tmp2 rfl _ _ (v2.heap.size) 25 _ (0, 0) _ rfl RB.out Try.underlying25 rfl Try.infoBf) rfl ?_
        exact ⟨qv10, u, ⟨none, 0, 0⟩, rfl, HC.out, HU.out, OWk.nil _ _, HB.out⟩
      case' b1095_5 =>
        refine step_litI rfl (.tmp 47) rfl (v) rfl ?_
        intro v8 b h
        have LB := hid (show BoxAt v8 v7.heap.size 3 #[.int .i64 (v)] from b)
        have PB := hid (PB.out.belowAll h)
        have WB := hid (WB.out.belowAll h)
        have RB := hid (RB.out.belowAll h)
        have FB := hid (FB.out.belowAll h)
        have HF := hid (HF.out.below h)
        have HB := hid (HB.out.trans (h.mono HB.out.size))
        have hsv8 : v7.heap.size ≤ v8.heap.size := by first | exact h.size | omega
        clear b h
        refine hK1095.out _ _ (WB.out) (fun hHeld1095 => ?_)
        clear hK1095 K1095
        try simp only [Act.put, List.setIfInBounds_toArray, List.set_cons_zero, List.set_cons_succ]
        refine wpAnyH_ready (rs := [2]) (by kernel_rfl) (by simp) (AllReadyH.cons (o := { dst := some 45, op := Op.call { callee := Callee.value (Operand.func 17), args := #[Operand.tmp 44, Operand.const (Value.int IntKind.i64 0)], argTypes := #[22, 3] }, type := 22, pos := "buffer.go:19", after := _, guard := none }) rfl (fun K1103 hK1103 => ?_) AllReadyH.nil)
        go_simp
        refine (from_left0 HX.out HN.out).mono ?_
        rintro e v9 ⟨ga, rfl, hu, hb⟩
        have PB := hid (PB.out.belowAll hb)
        have WB := hid (WB.out.belowAll hb)
        have RB := hid (RB.out.belowAll hb)
        have FB := hid (FB.out.belowAll hb)
        have LB := hid (LB.out.belowAll hb)
        have HF := hid (HF.out.below hb)
        have HB := hid (HB.out.trans (hb.mono HB.out.size))
        have hsv9 : v8.heap.size ≤ v9.heap.size := by first | exact hb.size | omega
        have HG := hid hu
        clear hu
        clear hb
        refine hK1103.out _ _ (WB.out) (fun hHeld1103 => ?_)
        clear hK1103 K1103
        try simp only [Act.put, List.setIfInBounds_toArray, List.set_cons_zero, List.set_cons_succ]
        refine wpAnyH_ready (rs := [6]) (by kernel_rfl) (by simp) (AllReadyH.cons (o := { dst := some 49, op := Op.call { callee := Callee.builtin Builtin.append, args := #[Operand.tmp 45, Operand.tmp 48], argTypes := #[22, 22] }, type := 22, pos := "buffer.go:19", after := _, guard := none }) rfl (fun K1104 hK1104 => ?_) AllReadyH.nil)
        have HBp := HB.out.size
        refine step_app_full rfl (.tmp 45) (.tmp 48) rfl _ _ rfl HN.out.symm (HG.out.below HB.out) _ (v) _ rfl LB.out (by have := HXL.out; omega) ?_
        intro uv10 v10 ho h
        obtain ⟨qv10, rfl, -⟩ := ho.sl
        have PB := hid (PB.out.belowAll h)
        have WB := hid (WB.out.belowAll h)
        have RB := hid (RB.out.belowAll h)
        have FB := hid (FB.out.belowAll h)
        have LB := hid (LB.out.belowAll h)
        have HF := hid (HF.out.below h)
        have HB := hid (HB.out.trans (h.mono HB.out.size))
        have hsv10 : v9.heap.size ≤ v10.heap.size := by first | exact h.size | omega
        have HC := hid ho
        clear ho h
        have HC := hid (HC.out.mono HBp)
        clear HBp HG
        refine hK1104.out _ _ (WB.out) (fun hHeld1104 => ?_)
        clear hK1104 K1104
        try simp only [Act.put, List.setIfInBounds_toArray, List.set_cons_zero, List.set_cons_succ]
        refine wpAnyH_take (i := 10) (oi := { dst := some 53, op := Op.fieldAddr 25 (Operand.tmp 3) 2, type := 0, pos := "buffer.go:19", after := _, guard := none }) (v := ?_) rfl (by kernel_rfl) (by kernel_rfl) (by kernel_rfl) (fun _ _ _ h => h) (Or.inl ⟨by rfl, ?_⟩) (by assumption) ?_
        rotate_left
        · (intro w hSw; (try dsimp only at hSw); go_simp; try with_reducible rfl)
        simp only [Act.put, List.setIfInBounds_toArray, List.set_cons_zero, List.set_cons_succ]
        refine wpAnyH_ready (rs := [9]) (by kernel_rfl) (by simp) (AllReadyH.cons (o := { dst := some 52, op := Op.call { callee := Callee.value (Operand.func 18), args := #[Operand.tmp 51], argTypes := #[23] }, type := 23, pos := "buffer.go:19", after := _, guard := none }) rfl (fun K1106 hK1106 => ?_) AllReadyH.nil)
        have HBc := HB.out.size
        go_simp
        refine (qclone_Wt (HV.out.below HB.out) (by have := HL.out; omega)).mono ?_
        rintro e v11 ⟨uu, rfl, hu, hb⟩
        have PB := hid (PB.out.belowAll hb)
        have WB := hid (WB.out.belowAll hb)
        have RB := hid (RB.out.belowAll hb)
        have FB := hid (FB.out.belowAll hb)
        have LB := hid (LB.out.belowAll hb)
        have HF := hid (HF.out.below hb)
        have HC := hid (HC.out.below hb)
        have HB := hid (HB.out.trans (hb.mono HB.out.size))
        have hsv11 : v10.heap.size ≤ v11.heap.size := by first | exact hb.size | omega
        obtain ⟨u, rfl, -⟩ := hu.sl
        have HU := hid (hu.mono HBc)
        clear hu HBc
        clear hb
        refine hK1106.out _ _ (WB.out) (fun hHeld1106 => ?_)
        clear hK1106 K1106
        try simp only [Act.put, List.setIfInBounds_toArray, List.set_cons_zero, List.set_cons_succ]
        refine wpAnyH_ready (rs := [11]) (by kernel_rfl) (by simp) (AllReadyH.cons (o := { dst := none, op := Op.store 22 (Operand.tmp 53) (Operand.tmp 49), type := 0, pos := "buffer.go:19", after := _, guard := none }) rfl (fun K1107 hK1107 => ?_) AllReadyH.nil)
        refine step_store_box rfl 22 _ _ rfl (w.heap.size) 2 (.slice qv10.a qv10.n qv10.c) rfl rfl rfl rfl (by kernel_rfl) _ _ PB.out (by simp) ?_
        intro v12 b g z
        have hsv12 : v11.heap.size ≤ v12.heap.size := by omega
        have HF := hid (HF.out.put g PB.out (by decide))
        have HC := hid (HC.out.put g PB.out (by decide))
        have HU := hid (HU.out.put g PB.out (by decide))
        have PB := hid (show BoxAt v12 (w.heap.size) 25 #[.int .i64 d, .bool k, .slice qv10.a qv10.n qv10.c, .slice sa M sc] from by simpa using b)
        have WB := hid (WB.out.grown g (fun e => by have := Option.some.inj e; omega))
        have RB := hid (RB.out.grown g (fun e => by have := Option.some.inj e; omega))
        have FB := hid (FB.out.grown g (fun e => by have := Option.some.inj e; omega))
        have LB := hid (LB.out.grown g (fun e => by have := Option.some.inj e; omega))
        have HB := hid (HB.out.trans (grown_below g (by omega) (by omega)))
        clear b g z
        refine hK1107.out _ _ (WB.out) (fun hHeld1107 => ?_)
        clear hK1107 K1107
        try simp only [Act.put]
        refine wpAnyH_take (i := 12) (oi := { dst := some 54, op := Op.fieldAddr 25 (Operand.tmp 3) 3, type := 0, pos := "buffer.go:19", after := _, guard := none }) (v := ?_) rfl (by kernel_rfl) (by kernel_rfl) (by kernel_rfl) (fun _ _ _ h => h) (Or.inl ⟨by rfl, ?_⟩) (by assumption) ?_
        rotate_left
        · (intro w hSw; (try dsimp only at hSw); go_simp; try with_reducible rfl)
        simp only [Act.put, List.setIfInBounds_toArray, List.set_cons_zero, List.set_cons_succ]
        refine wpAnyH_ready (rs := [13]) (by kernel_rfl) (by simp) (AllReadyH.cons (o := { dst := none, op := Op.store 23 (Operand.tmp 54) (Operand.tmp 52), type := 0, pos := "buffer.go:19", after := _, guard := none }) rfl (fun K1109 hK1109 => ?_) AllReadyH.nil)
        refine step_store_box rfl 23 _ _ rfl (w.heap.size) 3 (.slice u.a u.n u.c) rfl rfl rfl rfl (by kernel_rfl) _ _ PB.out (by simp) ?_
        intro v13 b g z
        have hsv13 : v12.heap.size ≤ v13.heap.size := by omega
        have HF := hid (HF.out.put g PB.out (by decide))
        have HC := hid (HC.out.put g PB.out (by decide))
        have HU := hid (HU.out.put g PB.out (by decide))
        have PB := hid (show BoxAt v13 (w.heap.size) 25 #[.int .i64 d, .bool k, .slice qv10.a qv10.n qv10.c, .slice u.a u.n u.c] from by simpa using b)
        have WB := hid (WB.out.grown g (fun e => by have := Option.some.inj e; omega))
        have RB := hid (RB.out.grown g (fun e => by have := Option.some.inj e; omega))
        have FB := hid (FB.out.grown g (fun e => by have := Option.some.inj e; omega))
        have LB := hid (LB.out.grown g (fun e => by have := Option.some.inj e; omega))
        have HB := hid (HB.out.trans (grown_below g (by omega) (by omega)))
        clear b g z
        refine hK1109.out _ _ (WB.out) (fun hHeld1109 => ?_)
        clear hK1109 K1109
        try simp only [Act.put]
        refine wpAnyH_done (by kernel_rfl) ?_ _
        clear hHeld hHeld1005 hHeld1094 hHeld1095 hHeld1103 hHeld1104 hHeld1106 hHeld1107 hHeld1109
        have kPB0 : v13.cell? ⟨w.heap.size, 0, none⟩ = some (.int .i64 d) := (BoxAt.cell PB.out 0).trans rfl
        have kPB1 : v13.cell? ⟨w.heap.size, 1, none⟩ = some (.bool k) := (BoxAt.cell PB.out 1).trans rfl
        have kPB2 : v13.cell? ⟨w.heap.size, 2, none⟩ = some (.slice qv10.a qv10.n qv10.c) := (BoxAt.cell PB.out 2).trans rfl
        have kPB3 : v13.cell? ⟨w.heap.size, 3, none⟩ = some (.slice u.a u.n u.c) := (BoxAt.cell PB.out 3).trans rfl
        have kWB0 : v13.cell? ⟨v1.heap.size, 0, none⟩ = some (.int .i64 p) := (BoxAt.cell WB.out 0).trans rfl
        have kWB1 : v13.cell? ⟨v1.heap.size, 1, none⟩ = some (.int .i64 r) := (BoxAt.cell WB.out 1).trans rfl
        have kWB2 : v13.cell? ⟨v1.heap.size, 2, none⟩ = some (.int .i64 v) := (BoxAt.cell WB.out 2).trans rfl
        have kFB0 : v13.cell? ⟨v4.heap.size, 0, none⟩ = some (.int .i64 0) := (BoxAt.cell FB.out 0).trans rfl
        have kFB2 : v13.cell? ⟨v4.heap.size, 2, none⟩ = some (.int .i64 0) := (BoxAt.cell FB.out 2).trans rfl
        have FL6 := hid trivial
        go_wp2_with (first
          | (refine wpList_load_box rfl 25 _ rfl (w.heap.size) rfl _ _ PB.out _ Try.underlying25 Try.infoBf ?_)
          | (have hfl := FL6.out
             refine wpList_store_whole rfl 25 _ _ rfl rfl (v2.heap.size) rfl [.int .i64 d, .bool k, .slice qv10.a qv10.n qv10.c, .slice u.a u.n u.c] rfl _ _ RB.out rfl Try.infoBf (by simp [Value.oneCell']) ?_
             intro v14 b g z
             have hsv14 : v13.heap.size ≤ v14.heap.size := by omega
             have HF := hid (HF.out.put g RB.out (by decide))
             have HC := hid (HC.out.put g RB.out (by decide))
             have HU := hid (HU.out.put g RB.out (by decide))
             have RB := hid (show BoxAt v14 (v2.heap.size) 25 #[.int .i64 d, .bool k, .slice qv10.a qv10.n qv10.c, .slice u.a u.n u.c] from b)
             have PB := hid (PB.out.grown g (fun e => by have := Option.some.inj e; omega))
             have WB := hid (WB.out.grown g (fun e => by have := Option.some.inj e; omega))
             have FB := hid (FB.out.grown g (fun e => by have := Option.some.inj e; omega))
             have LB := hid (LB.out.grown g (fun e => by have := Option.some.inj e; omega))
             have HB := hid (HB.out.trans (grown_below g (by omega) (by omega)))
             clear kPB0 kPB1 kPB2 kPB3 kWB0 kWB1 kWB2 kFB0 kFB2
             have kPB0 : v14.cell? ⟨w.heap.size, 0, none⟩ = some (.int .i64 d) := (BoxAt.cell PB.out 0).trans rfl
             have kPB1 : v14.cell? ⟨w.heap.size, 1, none⟩ = some (.bool k) := (BoxAt.cell PB.out 1).trans rfl
             have kPB2 : v14.cell? ⟨w.heap.size, 2, none⟩ = some (.slice qv10.a qv10.n qv10.c) := (BoxAt.cell PB.out 2).trans rfl
             have kPB3 : v14.cell? ⟨w.heap.size, 3, none⟩ = some (.slice u.a u.n u.c) := (BoxAt.cell PB.out 3).trans rfl
             have kWB0 : v14.cell? ⟨v1.heap.size, 0, none⟩ = some (.int .i64 p) := (BoxAt.cell WB.out 0).trans rfl
             have kWB1 : v14.cell? ⟨v1.heap.size, 1, none⟩ = some (.int .i64 r) := (BoxAt.cell WB.out 1).trans rfl
             have kWB2 : v14.cell? ⟨v1.heap.size, 2, none⟩ = some (.int .i64 v) := (BoxAt.cell WB.out 2).trans rfl
             have kFB0 : v14.cell? ⟨v4.heap.size, 0, none⟩ = some (.int .i64 0) := (BoxAt.cell FB.out 0).trans rfl
             have kFB2 : v14.cell? ⟨v4.heap.size, 2, none⟩ = some (.int .i64 0) := (BoxAt.cell FB.out 2).trans rfl
             clear b g z hfl FL6)
          | fail)
        refine bodyPost_ret (results_box_tmp2 rfl _ _ (v2.heap.size) 25 _ (0, 0) _ rfl RB.out Try.underlying25 rfl Try.infoBf) rfl ?_
        exact ⟨qv10, u, ⟨none, 0, 0⟩, rfl, HC.out, HU.out, OWk.nil _ _, HB.out⟩
    case' b1094_5 =>
      refine step_litI rfl (.tmp 47) rfl (v) rfl ?_
      intro v8 b h
      have LB := hid (show BoxAt v8 v7.heap.size 3 #[.int .i64 (v)] from b)
      have PB := hid (PB.out.belowAll h)
      have WB := hid (WB.out.belowAll h)
      have RB := hid (RB.out.belowAll h)
      have FB := hid (FB.out.belowAll h)
      have HF := hid (HF.out.below h)
      have HB := hid (HB.out.trans (h.mono HB.out.size))
      have hsv8 : v7.heap.size ≤ v8.heap.size := by first | exact h.size | omega
      clear b h
      refine hK1094.out _ _ (WB.out) (fun hHeld1094 => ?_)
      clear hK1094 K1094
      try simp only [Act.put, List.setIfInBounds_toArray, List.set_cons_zero, List.set_cons_succ]
      refine wpAnyH_ready (rs := [1]) (by kernel_rfl) (by simp) (AllReadyH.cons (o := { dst := some 44, op := Op.load 22 (Operand.tmp 43), type := 22, pos := "buffer.go:19", after := _, guard := none }) rfl (fun K1110 hK1110 => ?_) AllReadyH.nil)
      have cG : v8.cell? ⟨w.heap.size, 2, none⟩ = some (.slice xa N xc) := (BoxAt.cell PB.out 2).trans rfl
      go_simp
      clear cG
      refine hK1110.out _ _ (WB.out) (fun hHeld1110 => ?_)
      clear hK1110 K1110
      try simp only [Act.put, List.setIfInBounds_toArray, List.set_cons_zero, List.set_cons_succ]
      refine wpAnyH_ready (rs := [2]) (by kernel_rfl) (by simp) (AllReadyH.cons (o := { dst := some 45, op := Op.call { callee := Callee.value (Operand.func 17), args := #[Operand.tmp 44, Operand.const (Value.int IntKind.i64 0)], argTypes := #[22, 3] }, type := 22, pos := "buffer.go:19", after := _, guard := none }) rfl (fun K1111 hK1111 => ?_) AllReadyH.nil)
      go_simp
      refine (from_left0 HX.out HN.out).mono ?_
      rintro e v9 ⟨ga, rfl, hu, hb⟩
      have PB := hid (PB.out.belowAll hb)
      have WB := hid (WB.out.belowAll hb)
      have RB := hid (RB.out.belowAll hb)
      have FB := hid (FB.out.belowAll hb)
      have LB := hid (LB.out.belowAll hb)
      have HF := hid (HF.out.below hb)
      have HB := hid (HB.out.trans (hb.mono HB.out.size))
      have hsv9 : v8.heap.size ≤ v9.heap.size := by first | exact hb.size | omega
      have HG := hid hu
      clear hu
      clear hb
      refine hK1111.out _ _ (WB.out) (fun hHeld1111 => ?_)
      clear hK1111 K1111
      try simp only [Act.put, List.setIfInBounds_toArray, List.set_cons_zero, List.set_cons_succ]
      refine wpAnyH_ready (rs := [6]) (by kernel_rfl) (by simp) (AllReadyH.cons (o := { dst := some 49, op := Op.call { callee := Callee.builtin Builtin.append, args := #[Operand.tmp 45, Operand.tmp 48], argTypes := #[22, 22] }, type := 22, pos := "buffer.go:19", after := _, guard := none }) rfl (fun K1112 hK1112 => ?_) AllReadyH.nil)
      have HBp := HB.out.size
      refine step_app_full rfl (.tmp 45) (.tmp 48) rfl _ _ rfl HN.out.symm (HG.out.below HB.out) _ (v) _ rfl LB.out (by have := HXL.out; omega) ?_
      intro uv10 v10 ho h
      obtain ⟨qv10, rfl, -⟩ := ho.sl
      have PB := hid (PB.out.belowAll h)
      have WB := hid (WB.out.belowAll h)
      have RB := hid (RB.out.belowAll h)
      have FB := hid (FB.out.belowAll h)
      have LB := hid (LB.out.belowAll h)
      have HF := hid (HF.out.below h)
      have HB := hid (HB.out.trans (h.mono HB.out.size))
      have hsv10 : v9.heap.size ≤ v10.heap.size := by first | exact h.size | omega
      have HC := hid ho
      clear ho h
      have HC := hid (HC.out.mono HBp)
      clear HBp HG
      refine hK1112.out _ _ (WB.out) (fun hHeld1112 => ?_)
      clear hK1112 K1112
      try simp only [Act.put, List.setIfInBounds_toArray, List.set_cons_zero, List.set_cons_succ]
      refine wpAnyH_take (i := 10) (oi := { dst := some 53, op := Op.fieldAddr 25 (Operand.tmp 3) 2, type := 0, pos := "buffer.go:19", after := _, guard := none }) (v := ?_) rfl (by kernel_rfl) (by kernel_rfl) (by kernel_rfl) (fun _ _ _ h => h) (Or.inl ⟨by rfl, ?_⟩) (by assumption) ?_
      rotate_left
      · (intro w hSw; (try dsimp only at hSw); go_simp; try with_reducible rfl)
      simp only [Act.put, List.setIfInBounds_toArray, List.set_cons_zero, List.set_cons_succ]
      refine wpAnyH_ready (rs := [9]) (by kernel_rfl) (by simp) (AllReadyH.cons (o := { dst := some 52, op := Op.call { callee := Callee.value (Operand.func 18), args := #[Operand.tmp 51], argTypes := #[23] }, type := 23, pos := "buffer.go:19", after := _, guard := none }) rfl (fun K1114 hK1114 => ?_) AllReadyH.nil)
      have HBc := HB.out.size
      go_simp
      refine (qclone_Wt (HV.out.below HB.out) (by have := HL.out; omega)).mono ?_
      rintro e v11 ⟨uu, rfl, hu, hb⟩
      have PB := hid (PB.out.belowAll hb)
      have WB := hid (WB.out.belowAll hb)
      have RB := hid (RB.out.belowAll hb)
      have FB := hid (FB.out.belowAll hb)
      have LB := hid (LB.out.belowAll hb)
      have HF := hid (HF.out.below hb)
      have HC := hid (HC.out.below hb)
      have HB := hid (HB.out.trans (hb.mono HB.out.size))
      have hsv11 : v10.heap.size ≤ v11.heap.size := by first | exact hb.size | omega
      obtain ⟨u, rfl, -⟩ := hu.sl
      have HU := hid (hu.mono HBc)
      clear hu HBc
      clear hb
      refine hK1114.out _ _ (WB.out) (fun hHeld1114 => ?_)
      clear hK1114 K1114
      try simp only [Act.put, List.setIfInBounds_toArray, List.set_cons_zero, List.set_cons_succ]
      refine wpAnyH_ready (rs := [11]) (by kernel_rfl) (by simp) (AllReadyH.cons (o := { dst := none, op := Op.store 22 (Operand.tmp 53) (Operand.tmp 49), type := 0, pos := "buffer.go:19", after := _, guard := none }) rfl (fun K1115 hK1115 => ?_) AllReadyH.nil)
      refine step_store_box rfl 22 _ _ rfl (w.heap.size) 2 (.slice qv10.a qv10.n qv10.c) rfl rfl rfl rfl (by kernel_rfl) _ _ PB.out (by simp) ?_
      intro v12 b g z
      have hsv12 : v11.heap.size ≤ v12.heap.size := by omega
      have HF := hid (HF.out.put g PB.out (by decide))
      have HC := hid (HC.out.put g PB.out (by decide))
      have HU := hid (HU.out.put g PB.out (by decide))
      have PB := hid (show BoxAt v12 (w.heap.size) 25 #[.int .i64 d, .bool k, .slice qv10.a qv10.n qv10.c, .slice sa M sc] from by simpa using b)
      have WB := hid (WB.out.grown g (fun e => by have := Option.some.inj e; omega))
      have RB := hid (RB.out.grown g (fun e => by have := Option.some.inj e; omega))
      have FB := hid (FB.out.grown g (fun e => by have := Option.some.inj e; omega))
      have LB := hid (LB.out.grown g (fun e => by have := Option.some.inj e; omega))
      have HB := hid (HB.out.trans (grown_below g (by omega) (by omega)))
      clear b g z
      refine hK1115.out _ _ (WB.out) (fun hHeld1115 => ?_)
      clear hK1115 K1115
      try simp only [Act.put]
      refine wpAnyH_take (i := 12) (oi := { dst := some 54, op := Op.fieldAddr 25 (Operand.tmp 3) 3, type := 0, pos := "buffer.go:19", after := _, guard := none }) (v := ?_) rfl (by kernel_rfl) (by kernel_rfl) (by kernel_rfl) (fun _ _ _ h => h) (Or.inl ⟨by rfl, ?_⟩) (by assumption) ?_
      rotate_left
      · (intro w hSw; (try dsimp only at hSw); go_simp; try with_reducible rfl)
      simp only [Act.put, List.setIfInBounds_toArray, List.set_cons_zero, List.set_cons_succ]
      refine wpAnyH_ready (rs := [13]) (by kernel_rfl) (by simp) (AllReadyH.cons (o := { dst := none, op := Op.store 23 (Operand.tmp 54) (Operand.tmp 52), type := 0, pos := "buffer.go:19", after := _, guard := none }) rfl (fun K1117 hK1117 => ?_) AllReadyH.nil)
      refine step_store_box rfl 23 _ _ rfl (w.heap.size) 3 (.slice u.a u.n u.c) rfl rfl rfl rfl (by kernel_rfl) _ _ PB.out (by simp) ?_
      intro v13 b g z
      have hsv13 : v12.heap.size ≤ v13.heap.size := by omega
      have HF := hid (HF.out.put g PB.out (by decide))
      have HC := hid (HC.out.put g PB.out (by decide))
      have HU := hid (HU.out.put g PB.out (by decide))
      have PB := hid (show BoxAt v13 (w.heap.size) 25 #[.int .i64 d, .bool k, .slice qv10.a qv10.n qv10.c, .slice u.a u.n u.c] from by simpa using b)
      have WB := hid (WB.out.grown g (fun e => by have := Option.some.inj e; omega))
      have RB := hid (RB.out.grown g (fun e => by have := Option.some.inj e; omega))
      have FB := hid (FB.out.grown g (fun e => by have := Option.some.inj e; omega))
      have LB := hid (LB.out.grown g (fun e => by have := Option.some.inj e; omega))
      have HB := hid (HB.out.trans (grown_below g (by omega) (by omega)))
      clear b g z
      refine hK1117.out _ _ (WB.out) (fun hHeld1117 => ?_)
      clear hK1117 K1117
      try simp only [Act.put]
      refine wpAnyH_done (by kernel_rfl) ?_ _
      clear hHeld hHeld1005 hHeld1094 hHeld1110 hHeld1111 hHeld1112 hHeld1114 hHeld1115 hHeld1117
      have kPB0 : v13.cell? ⟨w.heap.size, 0, none⟩ = some (.int .i64 d) := (BoxAt.cell PB.out 0).trans rfl
      have kPB1 : v13.cell? ⟨w.heap.size, 1, none⟩ = some (.bool k) := (BoxAt.cell PB.out 1).trans rfl
      have kPB2 : v13.cell? ⟨w.heap.size, 2, none⟩ = some (.slice qv10.a qv10.n qv10.c) := (BoxAt.cell PB.out 2).trans rfl
      have kPB3 : v13.cell? ⟨w.heap.size, 3, none⟩ = some (.slice u.a u.n u.c) := (BoxAt.cell PB.out 3).trans rfl
      have kWB0 : v13.cell? ⟨v1.heap.size, 0, none⟩ = some (.int .i64 p) := (BoxAt.cell WB.out 0).trans rfl
      have kWB1 : v13.cell? ⟨v1.heap.size, 1, none⟩ = some (.int .i64 r) := (BoxAt.cell WB.out 1).trans rfl
      have kWB2 : v13.cell? ⟨v1.heap.size, 2, none⟩ = some (.int .i64 v) := (BoxAt.cell WB.out 2).trans rfl
      have kFB0 : v13.cell? ⟨v4.heap.size, 0, none⟩ = some (.int .i64 0) := (BoxAt.cell FB.out 0).trans rfl
      have kFB2 : v13.cell? ⟨v4.heap.size, 2, none⟩ = some (.int .i64 0) := (BoxAt.cell FB.out 2).trans rfl
      have FL6 := hid trivial
      go_wp2_with (first
        | (refine wpList_load_box rfl 25 _ rfl (w.heap.size) rfl _ _ PB.out _ Try.underlying25 Try.infoBf ?_)
        | (have hfl := FL6.out
           refine wpList_store_whole rfl 25 _ _ rfl rfl (v2.heap.size) rfl [.int .i64 d, .bool k, .slice qv10.a qv10.n qv10.c, .slice u.a u.n u.c] rfl _ _ RB.out rfl Try.infoBf (by simp [Value.oneCell']) ?_
           intro v14 b g z
           have hsv14 : v13.heap.size ≤ v14.heap.size := by omega
           have HF := hid (HF.out.put g RB.out (by decide))
           have HC := hid (HC.out.put g RB.out (by decide))
           have HU := hid (HU.out.put g RB.out (by decide))
           have RB := hid (show BoxAt v14 (v2.heap.size) 25 #[.int .i64 d, .bool k, .slice qv10.a qv10.n qv10.c, .slice u.a u.n u.c] from b)
           have PB := hid (PB.out.grown g (fun e => by have := Option.some.inj e; omega))
           have WB := hid (WB.out.grown g (fun e => by have := Option.some.inj e; omega))
           have FB := hid (FB.out.grown g (fun e => by have := Option.some.inj e; omega))
           have LB := hid (LB.out.grown g (fun e => by have := Option.some.inj e; omega))
           have HB := hid (HB.out.trans (grown_below g (by omega) (by omega)))
           clear kPB0 kPB1 kPB2 kPB3 kWB0 kWB1 kWB2 kFB0 kFB2
           have kPB0 : v14.cell? ⟨w.heap.size, 0, none⟩ = some (.int .i64 d) := (BoxAt.cell PB.out 0).trans rfl
           have kPB1 : v14.cell? ⟨w.heap.size, 1, none⟩ = some (.bool k) := (BoxAt.cell PB.out 1).trans rfl
           have kPB2 : v14.cell? ⟨w.heap.size, 2, none⟩ = some (.slice qv10.a qv10.n qv10.c) := (BoxAt.cell PB.out 2).trans rfl
           have kPB3 : v14.cell? ⟨w.heap.size, 3, none⟩ = some (.slice u.a u.n u.c) := (BoxAt.cell PB.out 3).trans rfl
           have kWB0 : v14.cell? ⟨v1.heap.size, 0, none⟩ = some (.int .i64 p) := (BoxAt.cell WB.out 0).trans rfl
           have kWB1 : v14.cell? ⟨v1.heap.size, 1, none⟩ = some (.int .i64 r) := (BoxAt.cell WB.out 1).trans rfl
           have kWB2 : v14.cell? ⟨v1.heap.size, 2, none⟩ = some (.int .i64 v) := (BoxAt.cell WB.out 2).trans rfl
           have kFB0 : v14.cell? ⟨v4.heap.size, 0, none⟩ = some (.int .i64 0) := (BoxAt.cell FB.out 0).trans rfl
           have kFB2 : v14.cell? ⟨v4.heap.size, 2, none⟩ = some (.int .i64 0) := (BoxAt.cell FB.out 2).trans rfl
           clear b g z hfl FL6)
        | fail)
      refine bodyPost_ret (results_box_tmp2 rfl _ _ (v2.heap.size) 25 _ (0, 0) _ rfl RB.out Try.underlying25 rfl Try.infoBf) rfl ?_
      exact ⟨qv10, u, ⟨none, 0, 0⟩, rfl, HC.out, HU.out, OWk.nil _ _, HB.out⟩

end Go.Proofs.Ytehpmjaldghdiaa
