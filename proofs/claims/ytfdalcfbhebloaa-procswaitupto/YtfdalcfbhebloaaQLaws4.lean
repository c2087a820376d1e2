/-
  ProcsWait: what any partition becomes when any process waits, or goes on, or leaves all objects, and its processes at first, are what the document says.
-/
import Derived.Test.YtfdalcfbhebloaaQLaws1
import Derived.Test.YtfdalcfbhebloaaQSame3E
import Derived.Test.YtfdalcfbhebloaaQStop
import Derived.Test.YtfdalcfbhebloaaQRNew
import Derived.Test.YtfdalcfbhebloaaQRef4
namespace Go.Proofs.Ytfdalcfbhebloaa
open Go.RowKit
set_option linter.unusedVariables false

theorem Try.infoWkB : (Try.prog.info? 47).map (·.size) = some 3 := by kernel_rfl
theorem paat_pr {w : World} {base : Nat} {a : Option Addr} {n cap : Nat} {l : List Px} (ho : OP w base (.slice a n cap) l) : PaAt w { PaV.zero with pr := ⟨a, n, cap⟩ } { Pa.zero with pr := l } :=
  ⟨rfl, rfl, rfl, Sees.nil _ _, ho.sees, LBd.nil _, LBf.nil _, LSe.nil _, LEv.nil _, SeesSp.nil _, LQu.nil _, rfl, Sees.nil _ _, rfl, Sees.nil _ _⟩

set_option maxRecDepth 100000 in
set_option maxHeartbeats 12800000 in
theorem walk_ProcsWait (w : World) (x0 : PtX) (f0 : x0.fit w) (x1 : PaX) (f1 : x1.fit w) (x2 : Wk) (f2 : x2.fit) (ki : Int) (w3 : (Lit.int .i64 ki).wf = true) (ob : Int) (w4 : (Lit.int .i64 ob).wf = true) (un : Int) (w5 : (Lit.int .i64 un).wf = true) (hN : 2 * (x1.c.bo.length + x1.c.bu.length + x1.c.se.length + x1.c.ev.length) ≤ 1048576) :
    Calls Try.prog 4 #[x0.val, x1.val, x2.val, .int .i64 ki, .int .i64 ob, .int .i64 un] w fun e w' => e = .returned (.bool true) ∧ Below w.heap.size w w' := by
  obtain ⟨qc, cc⟩ := x0
  obtain ⟨q, c⟩ := x1
  obtain ⟨kp, kc, kv⟩ := x2
  unfold PtX.val PaX.val Wk.val
  simp only at hN ⊢
  have HC := hid f0.1
  have HA := hid f1.1
  have HNm := hid (show c.bo.length + c.bu.length + c.se.length + c.ev.length ≤ 900000 by omega)
  obtain ⟨ac, cpc, hcv, hc1, hc2, hcell⟩ := HC.out.pc.form
  have hmaxc : cpc ≤ 9223372036854775807 := hc2
  have HCv := hid hcv
  have HCc := hid hcell
  clear hcv hc2 hcell
  obtain ⟨ap, cpp, hpv, hp1, hp2, hpcell⟩ := HA.out.pr.form
  have hmax : cpp ≤ 9223372036854775807 := hp2
  have HPv := hid hpv
  have HPc := hid hpcell
  clear hpv hp2 hpcell
  clear hN f0 f1 f2 w3 w4 w5
  have HB := hid (Below.refl w.heap.size w)
  go_enter Try.func4, Try.ntmps4
  have FL1 := hid trivial
  have FL2 := hid trivial
  have FL3 := hid trivial
  go_wp2_with (first
    | (have hfl := FL1.out
       refine wpList_box rfl 28 (.tmp 0) rfl (Pv.cells qc).toArray rfl ?_
       intro v1 b h z
       have CB := hid (show BoxAt v1 w.heap.size 28 (Pv.cells qc).toArray from b)
       have HB := hid (HB.out.trans (h.mono HB.out.size))
       have hsv1 : w.heap.size + 1 ≤ v1.heap.size := by omega
       clear b h z hfl FL1)
    | (have hfl := FL2.out
       refine wpList_box rfl 39 (.tmp 1) rfl (PaV.cells q).toArray rfl ?_
       intro v2 b h z
       have PB := hid (show BoxAt v2 v1.heap.size 39 (PaV.cells q).toArray from b)
       have CB := hid (CB.out.belowAll h)
       have HB := hid (HB.out.trans (h.mono HB.out.size))
       have hsv2 : v1.heap.size + 1 ≤ v2.heap.size := by omega
       clear b h z hfl FL2)
    | (have hfl := FL3.out
       refine wpList_box rfl 47 (.tmp 2) rfl [.int .i64 kp, .int .i64 kc, .int .i64 kv].toArray rfl ?_
       intro v3 b h z
       have KB := hid (show BoxAt v3 v2.heap.size 47 [.int .i64 kp, .int .i64 kc, .int .i64 kv].toArray from b)
       have CB := hid (CB.out.belowAll h)
       have PB := hid (PB.out.belowAll h)
       have HB := hid (HB.out.trans (h.mono HB.out.size))
       have hsv3 : v2.heap.size + 1 ≤ v3.heap.size := by omega
       clear b h z hfl FL3)
    | fail)
  refine (qawake_any _).mono ?_
  rintro e v4 ⟨rfl, hb⟩
  have CB := hid (CB.out.belowAll hb)
  have PB := hid (PB.out.belowAll hb)
  have KB := hid (KB.out.belowAll hb)
  have HB := hid (HB.out.trans (hb.mono HB.out.size))
  have hsv4 : v3.heap.size ≤ v4.heap.size := hb.size
  clear hb
  go_wp2_with (first
    | (refine wpList_load_box rfl 39 _ rfl v1.heap.size rfl _ _ PB.out _ Try.underlying39 Try.infoPa ?_)
    | fail)
  refine (few_tot (HA.out.below HB.out) HNm.out).mono ?_
  rintro e v5 ⟨⟨ok, rfl, hok⟩, hb⟩
  have CB := hid (CB.out.belowAll hb)
  have PB := hid (PB.out.belowAll hb)
  have KB := hid (KB.out.belowAll hb)
  have HB := hid (HB.out.trans (hb.mono HB.out.size))
  have hsv5 : v4.heap.size ≤ v5.heap.size := hb.size
  have HOk := hid hok
  clear hok
  clear hb
  have kCB2 : v5.cell? ⟨w.heap.size, 2, none⟩ = some (.slice ac cc.pc.length cpc) := (BoxAt.cell CB.out 2).trans (by show some qc.v2.val = _; rw [HCv.out])
  have kPB4 : v5.cell? ⟨v1.heap.size, 4, none⟩ = some (.slice ap c.pr.length cpp) := (BoxAt.cell PB.out 4).trans (by show some q.pr.val = _; rw [HPv.out])
  have kKB0 : v5.cell? ⟨v2.heap.size, 0, none⟩ = some (.int .i64 kp) := (BoxAt.cell KB.out 0).trans rfl
  have kKB1 : v5.cell? ⟨v2.heap.size, 1, none⟩ = some (.int .i64 kc) := (BoxAt.cell KB.out 1).trans rfl
  have kKB2 : v5.cell? ⟨v2.heap.size, 2, none⟩ = some (.int .i64 kv) := (BoxAt.cell KB.out 2).trans rfl
  rcases ok with _ | _
  · go_wp2
    go_ret
    exact ⟨rfl, HB.out⟩
  have HT := hid (HOk.out rfl)
  have HSm := hid HT.out.small
  clear HOk
  by_cases hbig : (20 : Int) < (cc.pc.length : Int)
  · go_wp2
    go_ret
    exact ⟨rfl, HB.out⟩
  have hd1 : decide ((20 : Int) < (cc.pc.length : Int)) = false := decide_eq_false hbig
  have HBg := hid (show cc.pc.length ≤ 20 by omega)
  go_wp2_with fail
  clear hd1 hbig
  have CB := hid (BoxAt.drew CB.out)
  have PB := hid (BoxAt.drew PB.out)
  have KB := hid (BoxAt.drew KB.out)
  have HB := hid HB.out.drew
  have hsd100 : v5.heap.size ≤ v5.drew.heap.size := Nat.le_refl _
  refine wp_region_held_drew (S := (fun W => BoxAt W v1.heap.size 39 (PaV.cells q).toArray ∧ BoxAt W v2.heap.size 47 [.int .i64 kp, .int .i64 kc, .int .i64 kv].toArray ∧ W.cell? ⟨v2.heap.size, 0, none⟩ = some (.int .i64 kp))) (by kernel_rfl) (⟨PB.out, KB.out, (BoxAt.cell KB.out 0).trans rfl⟩) (fun hHeld => ?_)
  refine wpAnyH_take (i := 0) (oi := { dst := some 36, op := Op.load 39 (Operand.tmp 7), type := 39, pos := "law.go:129", after := #[], guard := none }) (v := ?v101) rfl (by kernel_rfl) (by kernel_rfl) (by kernel_rfl) (fun _ _ _ h => h) (Or.inl ⟨by rfl, ?hy101⟩) (by assumption) ?rest101
  case hy101 => (intro W hSw; refine box_yields 39 (.tmp 7) ?_ v1.heap.size ?_ (PaV.cells q) 39 _ Try.underlying39 Try.infoPa hSw.1 <;> rfl)
  simp only [Act.put, List.setIfInBounds_toArray, List.set_cons_zero, List.set_cons_succ]
  refine wpAnyH_take (i := 1) (oi := { dst := some 37, op := Op.fieldAddr 47 (Operand.tmp 8) 0, type := 0, pos := "law.go:129", after := #[], guard := none }) (v := ?v102) rfl (by kernel_rfl) (by kernel_rfl) (by kernel_rfl) (fun _ _ _ h => h) (Or.inl ⟨by rfl, ?hy102⟩) (by assumption) ?rest102
  case hy102 => (intro w hSw; (try dsimp only at hSw); go_simp; try with_reducible rfl)
  simp only [Act.put, List.setIfInBounds_toArray, List.set_cons_zero, List.set_cons_succ]
  refine wpAnyH_take (i := 2) (oi := { dst := some 38, op := Op.load 3 (Operand.tmp 37), type := 3, pos := "law.go:129", after := #[{ on := 1, ground := Ground.data }], guard := none }) (v := ?v103) rfl (by kernel_rfl) (by kernel_rfl) (by kernel_rfl) (fun _ _ _ h => h) (Or.inl ⟨by rfl, ?hy103⟩) (by assumption) ?rest103
  case hy103 => (intro w hSw; (try dsimp only at hSw); go_simp; try with_reducible rfl)
  simp only [Act.put, List.setIfInBounds_toArray, List.set_cons_zero, List.set_cons_succ]
  refine wpAnyH_take (i := 3) (oi := { dst := some 39, op := Op.move (Operand.tmp 3), type := 3, pos := "law.go:129", after := #[], guard := none }) (v := ?v104) rfl (by kernel_rfl) (by kernel_rfl) (by kernel_rfl) (fun _ _ _ h => h) (Or.inl ⟨by rfl, ?hy104⟩) (by assumption) ?rest104
  case hy104 => (intro w hSw; (try dsimp only at hSw); go_simp; try with_reducible rfl)
  simp only [Act.put, List.setIfInBounds_toArray, List.set_cons_zero, List.set_cons_succ]
  refine wpAnyH_take (i := 4) (oi := { dst := some 40, op := Op.move (Operand.tmp 4), type := 3, pos := "law.go:129", after := #[], guard := none }) (v := ?v105) rfl (by kernel_rfl) (by kernel_rfl) (by kernel_rfl) (fun _ _ _ h => h) (Or.inl ⟨by rfl, ?hy105⟩) (by assumption) ?rest105
  case hy105 => (intro w hSw; (try dsimp only at hSw); go_simp; try with_reducible rfl)
  simp only [Act.put, List.setIfInBounds_toArray, List.set_cons_zero, List.set_cons_succ]
  refine wpAnyH_take (i := 5) (oi := { dst := some 41, op := Op.move (Operand.tmp 5), type := 3, pos := "law.go:129", after := #[], guard := none }) (v := ?v106) rfl (by kernel_rfl) (by kernel_rfl) (by kernel_rfl) (fun _ _ _ h => h) (Or.inl ⟨by rfl, ?hy106⟩) (by assumption) ?rest106
  case hy106 => (intro w hSw; (try dsimp only at hSw); go_simp; try with_reducible rfl)
  simp only [Act.put, List.setIfInBounds_toArray, List.set_cons_zero, List.set_cons_succ]
  refine wpAnyH_take (i := 7) (oi := { dst := some 43, op := Op.load 39 (Operand.tmp 7), type := 39, pos := "law.go:129", after := #[], guard := none }) (v := ?v107) rfl (by kernel_rfl) (by kernel_rfl) (by kernel_rfl) (fun _ _ _ h => h) (Or.inl ⟨by rfl, ?hy107⟩) (by assumption) ?rest107
  case hy107 => (intro W hSw; refine box_yields 39 (.tmp 7) ?_ v1.heap.size ?_ (PaV.cells q) 39 _ Try.underlying39 Try.infoPa hSw.1 <;> rfl)
  simp only [Act.put, List.setIfInBounds_toArray, List.set_cons_zero, List.set_cons_succ]
  refine wpAnyH_take (i := 8) (oi := { dst := some 44, op := Op.fieldAddr 47 (Operand.tmp 8) 0, type := 0, pos := "law.go:129", after := #[], guard := none }) (v := ?v108) rfl (by kernel_rfl) (by kernel_rfl) (by kernel_rfl) (fun _ _ _ h => h) (Or.inl ⟨by rfl, ?hy108⟩) (by assumption) ?rest108
  case hy108 => (intro w hSw; (try dsimp only at hSw); go_simp; try with_reducible rfl)
  simp only [Act.put, List.setIfInBounds_toArray, List.set_cons_zero, List.set_cons_succ]
  refine wpAnyH_take (i := 9) (oi := { dst := some 45, op := Op.load 3 (Operand.tmp 44), type := 3, pos := "law.go:129", after := #[{ on := 8, ground := Ground.data }], guard := none }) (v := ?v109) rfl (by kernel_rfl) (by kernel_rfl) (by kernel_rfl) (fun _ _ _ h => h) (Or.inl ⟨by rfl, ?hy109⟩) (by assumption) ?rest109
  case hy109 => (intro w hSw; (try dsimp only at hSw); go_simp; try with_reducible rfl)
  simp only [Act.put, List.setIfInBounds_toArray, List.set_cons_zero, List.set_cons_succ]
  refine wpAnyH_take (i := 10) (oi := { dst := some 46, op := Op.move (Operand.tmp 3), type := 3, pos := "law.go:129", after := #[], guard := none }) (v := ?v110) rfl (by kernel_rfl) (by kernel_rfl) (by kernel_rfl) (fun _ _ _ h => h) (Or.inl ⟨by rfl, ?hy110⟩) (by assumption) ?rest110
  case hy110 => (intro w hSw; (try dsimp only at hSw); go_simp; try with_reducible rfl)
  simp only [Act.put, List.setIfInBounds_toArray, List.set_cons_zero, List.set_cons_succ]
  refine wpAnyH_take (i := 11) (oi := { dst := some 47, op := Op.move (Operand.tmp 4), type := 3, pos := "law.go:129", after := #[], guard := none }) (v := ?v111) rfl (by kernel_rfl) (by kernel_rfl) (by kernel_rfl) (fun _ _ _ h => h) (Or.inl ⟨by rfl, ?hy111⟩) (by assumption) ?rest111
  case hy111 => (intro w hSw; (try dsimp only at hSw); go_simp; try with_reducible rfl)
  simp only [Act.put, List.setIfInBounds_toArray, List.set_cons_zero, List.set_cons_succ]
  refine wpAnyH_take (i := 12) (oi := { dst := some 48, op := Op.move (Operand.tmp 5), type := 3, pos := "law.go:129", after := #[], guard := none }) (v := ?v112) rfl (by kernel_rfl) (by kernel_rfl) (by kernel_rfl) (fun _ _ _ h => h) (Or.inl ⟨by rfl, ?hy112⟩) (by assumption) ?rest112
  case hy112 => (intro w hSw; (try dsimp only at hSw); go_simp; try with_reducible rfl)
  simp only [Act.put, List.setIfInBounds_toArray, List.set_cons_zero, List.set_cons_succ]
  refine wpAnyH_ready (rs := [6]) (by kernel_rfl) (by simp) (AllReadyH.cons (o := { dst := some 42, op := Op.call { callee := Callee.value (Operand.func 15), args := #[Operand.tmp 36, Operand.tmp 38, Operand.tmp 39, Operand.tmp 40, Operand.tmp 41, Operand.const (Value.int IntKind.i64 7)], argTypes := #[39, 3, 3, 3, 3, 3] }, type := 39, pos := "law.go:129", after := #[{ on := 0, ground := Ground.data }, { on := 2, ground := Ground.data }, { on := 3, ground := Ground.data }, { on := 4, ground := Ground.data }, { on := 5, ground := Ground.data }], guard := none }) rfl (fun K113 hK113 => ?_) AllReadyH.nil)
  go_simp
  refine (block_api (i := kp) (ki := ki) (ob := ob) (un := un) (ca := 7) (HA.out.below HB.out) HSm.out).mono ?_
  rintro e v6 ⟨qa, rfl, ho, hb⟩
  have CB := hid (CB.out.belowAll hb)
  have PB := hid (PB.out.belowAll hb)
  have KB := hid (KB.out.belowAll hb)
  have HB := hid (HB.out.trans (hb.mono HB.out.size))
  have hsv6 : v5.drew.heap.size ≤ v6.heap.size := hb.size
  have HOa := hid ho
  clear ho
  clear hb
  refine hK113.out _ _ (⟨PB.out, KB.out, (BoxAt.cell KB.out 0).trans rfl⟩) (fun hHeld113 => ?_)
  clear hK113 K113
  try simp only [Act.put, List.setIfInBounds_toArray, List.set_cons_zero, List.set_cons_succ]
  refine wpAnyH_ready (rs := [13]) (by kernel_rfl) (by simp) (AllReadyH.cons (o := { dst := some 49, op := Op.call { callee := Callee.value (Operand.func 16), args := #[Operand.tmp 43, Operand.tmp 45, Operand.tmp 46, Operand.tmp 47, Operand.tmp 48, Operand.const (Value.int IntKind.i64 7)], argTypes := #[39, 3, 3, 3, 3, 3] }, type := 39, pos := "law.go:129", after := #[{ on := 7, ground := Ground.data }, { on := 9, ground := Ground.data }, { on := 10, ground := Ground.data }, { on := 11, ground := Ground.data }, { on := 12, ground := Ground.data }, { on := 6, ground := Ground.chain }], guard := none }) rfl (fun K114 hK114 => ?_) AllReadyH.nil)
  go_simp
  refine (rblock_any (i := kp) (ki := ki) (ob := ob) (un := un) (ca := 7) HA.out HB.out HSm.out).mono ?_
  rintro e v7 ⟨qb, rfl, ho, hb⟩
  have CB := hid (CB.out.belowAll hb)
  have PB := hid (PB.out.belowAll hb)
  have KB := hid (KB.out.belowAll hb)
  have HOa := hid (HOa.out.below hb)
  have HB := hid (HB.out.trans (hb.mono HB.out.size))
  have hsv7 : v6.heap.size ≤ v7.heap.size := hb.size
  have HOb := hid ho
  clear ho
  clear hb
  refine hK114.out _ _ (⟨PB.out, KB.out, (BoxAt.cell KB.out 0).trans rfl⟩) (fun hHeld114 => ?_)
  clear hK114 K114
  try simp only [Act.put, List.setIfInBounds_toArray, List.set_cons_zero, List.set_cons_succ]
  refine wpAnyH_ready (rs := [14]) (by kernel_rfl) (by simp) (AllReadyH.cons (o := { dst := some 50, op := Op.call { callee := Callee.value (Operand.func 14), args := #[Operand.tmp 42, Operand.tmp 49], argTypes := #[39, 39] }, type := 4, pos := "law.go:129", after := #[{ on := 6, ground := Ground.data }, { on := 13, ground := Ground.data }, { on := 13, ground := Ground.chain }], guard := none }) rfl (fun K115 hK115 => ?_) AllReadyH.nil)
  go_simp
  refine (same_eq HOa.out.sees HOb.out.at).mono ?_
  rintro e v8 ⟨rfl, hb⟩
  have CB := hid (CB.out.belowAll hb)
  have PB := hid (PB.out.belowAll hb)
  have KB := hid (KB.out.belowAll hb)
  have HOa := hid (HOa.out.below hb)
  have HB := hid (HB.out.trans (hb.mono HB.out.size))
  have hsv8 : v7.heap.size ≤ v8.heap.size := hb.size
  clear HOa HOb
  clear hb
  refine hK115.out _ _ (⟨PB.out, KB.out, (BoxAt.cell KB.out 0).trans rfl⟩) (fun hHeld115 => ?_)
  clear hK115 K115
  try simp only [Act.put, List.setIfInBounds_toArray, List.set_cons_zero, List.set_cons_succ]
  refine wpAnyH_take (i := 15) (oi := { dst := some 15, op := Op.assign (Operand.tmp 50), type := 4, pos := "law.go:129", after := #[{ on := 14, ground := Ground.data }, { on := 14, ground := Ground.chain }, { on := 0, ground := Ground.phase }, { on := 1, ground := Ground.phase }, { on := 2, ground := Ground.phase }, { on := 3, ground := Ground.phase }, { on := 4, ground := Ground.phase }, { on := 5, ground := Ground.phase }, { on := 6, ground := Ground.phase }, { on := 7, ground := Ground.phase }, { on := 8, ground := Ground.phase }, { on := 9, ground := Ground.phase }, { on := 10, ground := Ground.phase }, { on := 11, ground := Ground.phase }, { on := 12, ground := Ground.phase }, { on := 13, ground := Ground.phase }, { on := 14, ground := Ground.phase }], guard := none }) (v := ?v116) rfl (by kernel_rfl) (by kernel_rfl) (by kernel_rfl) (fun _ _ _ h => h) (Or.inl ⟨by rfl, ?hy116⟩) (by assumption) ?rest116
  case hy116 => (intro w hSw; (try dsimp only at hSw); go_simp; try with_reducible rfl)
  simp only [Act.put, List.setIfInBounds_toArray, List.set_cons_zero, List.set_cons_succ]
  refine wpAnyH_done (by kernel_rfl) ?_ _
  clear hHeld hHeld113 hHeld114 hHeld115
  go_wp2_with fail
  have CB := hid (BoxAt.drew CB.out)
  have PB := hid (BoxAt.drew PB.out)
  have KB := hid (BoxAt.drew KB.out)
  have HB := hid HB.out.drew
  have hsd200 : v8.heap.size ≤ v8.drew.heap.size := Nat.le_refl _
  refine wp_region_held_drew (S := (fun W => BoxAt W v1.heap.size 39 (PaV.cells q).toArray ∧ BoxAt W v2.heap.size 47 [.int .i64 kp, .int .i64 kc, .int .i64 kv].toArray ∧ W.cell? ⟨v2.heap.size, 0, none⟩ = some (.int .i64 kp))) (by kernel_rfl) (⟨PB.out, KB.out, (BoxAt.cell KB.out 0).trans rfl⟩) (fun hHeld => ?_)
  refine wpAnyH_take (i := 0) (oi := { dst := some 51, op := Op.load 39 (Operand.tmp 7), type := 39, pos := "law.go:130", after := #[], guard := none }) (v := ?v201) rfl (by kernel_rfl) (by kernel_rfl) (by kernel_rfl) (fun _ _ _ h => h) (Or.inl ⟨by rfl, ?hy201⟩) (by assumption) ?rest201
  case hy201 => (intro W hSw; refine box_yields 39 (.tmp 7) ?_ v1.heap.size ?_ (PaV.cells q) 39 _ Try.underlying39 Try.infoPa hSw.1 <;> rfl)
  simp only [Act.put, List.setIfInBounds_toArray, List.set_cons_zero, List.set_cons_succ]
  refine wpAnyH_take (i := 1) (oi := { dst := some 52, op := Op.load 47 (Operand.tmp 8), type := 47, pos := "law.go:130", after := #[], guard := none }) (v := ?v202) rfl (by kernel_rfl) (by kernel_rfl) (by kernel_rfl) (fun _ _ _ h => h) (Or.inl ⟨by rfl, ?hy202⟩) (by assumption) ?rest202
  case hy202 => (intro W hSw; refine box_yields 47 (.tmp 8) ?_ v2.heap.size ?_ [.int .i64 kp, .int .i64 kc, .int .i64 kv] 47 _ Try.underlying47 Try.infoWkB hSw.2.1 <;> rfl)
  simp only [Act.put, List.setIfInBounds_toArray, List.set_cons_zero, List.set_cons_succ]
  refine wpAnyH_take (i := 3) (oi := { dst := some 54, op := Op.load 39 (Operand.tmp 7), type := 39, pos := "law.go:130", after := #[], guard := none }) (v := ?v203) rfl (by kernel_rfl) (by kernel_rfl) (by kernel_rfl) (fun _ _ _ h => h) (Or.inl ⟨by rfl, ?hy203⟩) (by assumption) ?rest203
  case hy203 => (intro W hSw; refine box_yields 39 (.tmp 7) ?_ v1.heap.size ?_ (PaV.cells q) 39 _ Try.underlying39 Try.infoPa hSw.1 <;> rfl)
  simp only [Act.put, List.setIfInBounds_toArray, List.set_cons_zero, List.set_cons_succ]
  refine wpAnyH_take (i := 4) (oi := { dst := some 55, op := Op.load 47 (Operand.tmp 8), type := 47, pos := "law.go:130", after := #[], guard := none }) (v := ?v204) rfl (by kernel_rfl) (by kernel_rfl) (by kernel_rfl) (fun _ _ _ h => h) (Or.inl ⟨by rfl, ?hy204⟩) (by assumption) ?rest204
  case hy204 => (intro W hSw; refine box_yields 47 (.tmp 8) ?_ v2.heap.size ?_ [.int .i64 kp, .int .i64 kc, .int .i64 kv] 47 _ Try.underlying47 Try.infoWkB hSw.2.1 <;> rfl)
  simp only [Act.put, List.setIfInBounds_toArray, List.set_cons_zero, List.set_cons_succ]
  refine wpAnyH_ready (rs := [2]) (by kernel_rfl) (by simp) (AllReadyH.cons (o := { dst := some 53, op := Op.call { callee := Callee.value (Operand.func 17), args := #[Operand.tmp 51, Operand.tmp 52], argTypes := #[39, 47] }, type := 39, pos := "law.go:130", after := #[{ on := 0, ground := Ground.data }, { on := 1, ground := Ground.data }], guard := none }) rfl (fun K205 hK205 => ?_) AllReadyH.nil)
  go_simp
  refine (go_api (k := ⟨kp, kc, kv⟩) (HA.out.below HB.out) HSm.out).mono ?_
  rintro e v9 ⟨qa, rfl, ho, hb⟩
  have CB := hid (CB.out.belowAll hb)
  have PB := hid (PB.out.belowAll hb)
  have KB := hid (KB.out.belowAll hb)
  have HB := hid (HB.out.trans (hb.mono HB.out.size))
  have hsv9 : v8.drew.heap.size ≤ v9.heap.size := hb.size
  have HOa := hid ho
  clear ho
  clear hb
  refine hK205.out _ _ (⟨PB.out, KB.out, (BoxAt.cell KB.out 0).trans rfl⟩) (fun hHeld205 => ?_)
  clear hK205 K205
  try simp only [Act.put, List.setIfInBounds_toArray, List.set_cons_zero, List.set_cons_succ]
  refine wpAnyH_ready (rs := [5]) (by kernel_rfl) (by simp) (AllReadyH.cons (o := { dst := some 56, op := Op.call { callee := Callee.value (Operand.func 18), args := #[Operand.tmp 54, Operand.tmp 55], argTypes := #[39, 47] }, type := 39, pos := "law.go:130", after := #[{ on := 3, ground := Ground.data }, { on := 4, ground := Ground.data }, { on := 2, ground := Ground.chain }], guard := none }) rfl (fun K206 hK206 => ?_) AllReadyH.nil)
  go_simp
  refine (rgo_any (kp := kp) (kc := kc) (kv := kv) HA.out HB.out HSm.out).mono ?_
  rintro e v10 ⟨qb, rfl, ho, hb⟩
  have CB := hid (CB.out.belowAll hb)
  have PB := hid (PB.out.belowAll hb)
  have KB := hid (KB.out.belowAll hb)
  have HOa := hid (HOa.out.below hb)
  have HB := hid (HB.out.trans (hb.mono HB.out.size))
  have hsv10 : v9.heap.size ≤ v10.heap.size := hb.size
  have HOb := hid ho
  clear ho
  clear hb
  refine hK206.out _ _ (⟨PB.out, KB.out, (BoxAt.cell KB.out 0).trans rfl⟩) (fun hHeld206 => ?_)
  clear hK206 K206
  try simp only [Act.put, List.setIfInBounds_toArray, List.set_cons_zero, List.set_cons_succ]
  refine wpAnyH_ready (rs := [6]) (by kernel_rfl) (by simp) (AllReadyH.cons (o := { dst := some 57, op := Op.call { callee := Callee.value (Operand.func 14), args := #[Operand.tmp 53, Operand.tmp 56], argTypes := #[39, 39] }, type := 4, pos := "law.go:130", after := #[{ on := 2, ground := Ground.data }, { on := 5, ground := Ground.data }, { on := 5, ground := Ground.chain }], guard := none }) rfl (fun K207 hK207 => ?_) AllReadyH.nil)
  go_simp
  refine (same_eq HOa.out.sees HOb.out.at).mono ?_
  rintro e v11 ⟨rfl, hb⟩
  have CB := hid (CB.out.belowAll hb)
  have PB := hid (PB.out.belowAll hb)
  have KB := hid (KB.out.belowAll hb)
  have HOa := hid (HOa.out.below hb)
  have HB := hid (HB.out.trans (hb.mono HB.out.size))
  have hsv11 : v10.heap.size ≤ v11.heap.size := hb.size
  clear HOa HOb
  clear hb
  refine hK207.out _ _ (⟨PB.out, KB.out, (BoxAt.cell KB.out 0).trans rfl⟩) (fun hHeld207 => ?_)
  clear hK207 K207
  try simp only [Act.put, List.setIfInBounds_toArray, List.set_cons_zero, List.set_cons_succ]
  refine wpAnyH_take (i := 7) (oi := { dst := some 16, op := Op.assign (Operand.tmp 57), type := 4, pos := "law.go:130", after := #[{ on := 6, ground := Ground.data }, { on := 6, ground := Ground.chain }, { on := 0, ground := Ground.phase }, { on := 1, ground := Ground.phase }, { on := 2, ground := Ground.phase }, { on := 3, ground := Ground.phase }, { on := 4, ground := Ground.phase }, { on := 5, ground := Ground.phase }, { on := 6, ground := Ground.phase }], guard := none }) (v := ?v208) rfl (by kernel_rfl) (by kernel_rfl) (by kernel_rfl) (fun _ _ _ h => h) (Or.inl ⟨by rfl, ?hy208⟩) (by assumption) ?rest208
  case hy208 => (intro w hSw; (try dsimp only at hSw); go_simp; try with_reducible rfl)
  simp only [Act.put, List.setIfInBounds_toArray, List.set_cons_zero, List.set_cons_succ]
  refine wpAnyH_done (by kernel_rfl) ?_ _
  clear hHeld hHeld205 hHeld206 hHeld207
  go_wp2_with fail
  have CB := hid (BoxAt.drew CB.out)
  have PB := hid (BoxAt.drew PB.out)
  have KB := hid (BoxAt.drew KB.out)
  have HB := hid HB.out.drew
  have hsd300 : v11.heap.size ≤ v11.drew.heap.size := Nat.le_refl _
  refine wp_region_held_drew (S := (fun W => BoxAt W v1.heap.size 39 (PaV.cells q).toArray ∧ BoxAt W v2.heap.size 47 [.int .i64 kp, .int .i64 kc, .int .i64 kv].toArray ∧ W.cell? ⟨v2.heap.size, 0, none⟩ = some (.int .i64 kp))) (by kernel_rfl) (⟨PB.out, KB.out, (BoxAt.cell KB.out 0).trans rfl⟩) (fun hHeld => ?_)
  refine wpAnyH_take (i := 0) (oi := { dst := some 58, op := Op.load 39 (Operand.tmp 7), type := 39, pos := "law.go:131", after := #[], guard := none }) (v := ?v301) rfl (by kernel_rfl) (by kernel_rfl) (by kernel_rfl) (fun _ _ _ h => h) (Or.inl ⟨by rfl, ?hy301⟩) (by assumption) ?rest301
  case hy301 => (intro W hSw; refine box_yields 39 (.tmp 7) ?_ v1.heap.size ?_ (PaV.cells q) 39 _ Try.underlying39 Try.infoPa hSw.1 <;> rfl)
  simp only [Act.put, List.setIfInBounds_toArray, List.set_cons_zero, List.set_cons_succ]
  refine wpAnyH_take (i := 1) (oi := { dst := some 59, op := Op.fieldAddr 47 (Operand.tmp 8) 0, type := 0, pos := "law.go:131", after := #[], guard := none }) (v := ?v302) rfl (by kernel_rfl) (by kernel_rfl) (by kernel_rfl) (fun _ _ _ h => h) (Or.inl ⟨by rfl, ?hy302⟩) (by assumption) ?rest302
  case hy302 => (intro w hSw; (try dsimp only at hSw); go_simp; try with_reducible rfl)
  simp only [Act.put, List.setIfInBounds_toArray, List.set_cons_zero, List.set_cons_succ]
  refine wpAnyH_take (i := 2) (oi := { dst := some 60, op := Op.load 3 (Operand.tmp 59), type := 3, pos := "law.go:131", after := #[{ on := 1, ground := Ground.data }], guard := none }) (v := ?v303) rfl (by kernel_rfl) (by kernel_rfl) (by kernel_rfl) (fun _ _ _ h => h) (Or.inl ⟨by rfl, ?hy303⟩) (by assumption) ?rest303
  case hy303 => (intro w hSw; (try dsimp only at hSw); go_simp; try with_reducible rfl)
  simp only [Act.put, List.setIfInBounds_toArray, List.set_cons_zero, List.set_cons_succ]
  refine wpAnyH_take (i := 4) (oi := { dst := some 62, op := Op.load 39 (Operand.tmp 7), type := 39, pos := "law.go:131", after := #[], guard := none }) (v := ?v304) rfl (by kernel_rfl) (by kernel_rfl) (by kernel_rfl) (fun _ _ _ h => h) (Or.inl ⟨by rfl, ?hy304⟩) (by assumption) ?rest304
  case hy304 => (intro W hSw; refine box_yields 39 (.tmp 7) ?_ v1.heap.size ?_ (PaV.cells q) 39 _ Try.underlying39 Try.infoPa hSw.1 <;> rfl)
  simp only [Act.put, List.setIfInBounds_toArray, List.set_cons_zero, List.set_cons_succ]
  refine wpAnyH_take (i := 5) (oi := { dst := some 63, op := Op.fieldAddr 47 (Operand.tmp 8) 0, type := 0, pos := "law.go:131", after := #[], guard := none }) (v := ?v305) rfl (by kernel_rfl) (by kernel_rfl) (by kernel_rfl) (fun _ _ _ h => h) (Or.inl ⟨by rfl, ?hy305⟩) (by assumption) ?rest305
  case hy305 => (intro w hSw; (try dsimp only at hSw); go_simp; try with_reducible rfl)
  simp only [Act.put, List.setIfInBounds_toArray, List.set_cons_zero, List.set_cons_succ]
  refine wpAnyH_take (i := 6) (oi := { dst := some 64, op := Op.load 3 (Operand.tmp 63), type := 3, pos := "law.go:131", after := #[{ on := 5, ground := Ground.data }], guard := none }) (v := ?v306) rfl (by kernel_rfl) (by kernel_rfl) (by kernel_rfl) (fun _ _ _ h => h) (Or.inl ⟨by rfl, ?hy306⟩) (by assumption) ?rest306
  case hy306 => (intro w hSw; (try dsimp only at hSw); go_simp; try with_reducible rfl)
  simp only [Act.put, List.setIfInBounds_toArray, List.set_cons_zero, List.set_cons_succ]
  refine wpAnyH_ready (rs := [3]) (by kernel_rfl) (by simp) (AllReadyH.cons (o := { dst := some 61, op := Op.call { callee := Callee.value (Operand.func 19), args := #[Operand.tmp 58, Operand.tmp 60], argTypes := #[39, 3] }, type := 39, pos := "law.go:131", after := #[{ on := 0, ground := Ground.data }, { on := 2, ground := Ground.data }], guard := none }) rfl (fun K307 hK307 => ?_) AllReadyH.nil)
  go_simp
  refine (leave_any (i := kp) (HA.out.below HB.out) HSm.out).mono ?_
  rintro e v12 ⟨qa, rfl, ho, hb⟩
  have CB := hid (CB.out.belowAll hb)
  have PB := hid (PB.out.belowAll hb)
  have KB := hid (KB.out.belowAll hb)
  have HB := hid (HB.out.trans (hb.mono HB.out.size))
  have hsv12 : v11.drew.heap.size ≤ v12.heap.size := hb.size
  have HOa := hid ho
  clear ho
  clear hb
  refine hK307.out _ _ (⟨PB.out, KB.out, (BoxAt.cell KB.out 0).trans rfl⟩) (fun hHeld307 => ?_)
  clear hK307 K307
  try simp only [Act.put, List.setIfInBounds_toArray, List.set_cons_zero, List.set_cons_succ]
  refine wpAnyH_ready (rs := [7]) (by kernel_rfl) (by simp) (AllReadyH.cons (o := { dst := some 65, op := Op.call { callee := Callee.value (Operand.func 20), args := #[Operand.tmp 62, Operand.tmp 64], argTypes := #[39, 3] }, type := 39, pos := "law.go:131", after := #[{ on := 4, ground := Ground.data }, { on := 6, ground := Ground.data }, { on := 3, ground := Ground.chain }], guard := none }) rfl (fun K308 hK308 => ?_) AllReadyH.nil)
  go_simp
  refine (rleave_any (i := kp) HA.out HB.out HSm.out).mono ?_
  rintro e v13 ⟨qb, rfl, ho, hb⟩
  have CB := hid (CB.out.belowAll hb)
  have PB := hid (PB.out.belowAll hb)
  have KB := hid (KB.out.belowAll hb)
  have HOa := hid (HOa.out.below hb)
  have HB := hid (HB.out.trans (hb.mono HB.out.size))
  have hsv13 : v12.heap.size ≤ v13.heap.size := hb.size
  have HOb := hid ho
  clear ho
  clear hb
  refine hK308.out _ _ (⟨PB.out, KB.out, (BoxAt.cell KB.out 0).trans rfl⟩) (fun hHeld308 => ?_)
  clear hK308 K308
  try simp only [Act.put, List.setIfInBounds_toArray, List.set_cons_zero, List.set_cons_succ]
  refine wpAnyH_ready (rs := [8]) (by kernel_rfl) (by simp) (AllReadyH.cons (o := { dst := some 66, op := Op.call { callee := Callee.value (Operand.func 14), args := #[Operand.tmp 61, Operand.tmp 65], argTypes := #[39, 39] }, type := 4, pos := "law.go:131", after := #[{ on := 3, ground := Ground.data }, { on := 7, ground := Ground.data }, { on := 7, ground := Ground.chain }], guard := none }) rfl (fun K309 hK309 => ?_) AllReadyH.nil)
  go_simp
  refine (same_eq HOa.out.sees HOb.out.at).mono ?_
  rintro e v14 ⟨rfl, hb⟩
  have CB := hid (CB.out.belowAll hb)
  have PB := hid (PB.out.belowAll hb)
  have KB := hid (KB.out.belowAll hb)
  have HOa := hid (HOa.out.below hb)
  have HB := hid (HB.out.trans (hb.mono HB.out.size))
  have hsv14 : v13.heap.size ≤ v14.heap.size := hb.size
  clear HOa HOb
  clear hb
  refine hK309.out _ _ (⟨PB.out, KB.out, (BoxAt.cell KB.out 0).trans rfl⟩) (fun hHeld309 => ?_)
  clear hK309 K309
  try simp only [Act.put, List.setIfInBounds_toArray, List.set_cons_zero, List.set_cons_succ]
  refine wpAnyH_take (i := 9) (oi := { dst := some 17, op := Op.assign (Operand.tmp 66), type := 4, pos := "law.go:131", after := #[{ on := 8, ground := Ground.data }, { on := 8, ground := Ground.chain }, { on := 0, ground := Ground.phase }, { on := 1, ground := Ground.phase }, { on := 2, ground := Ground.phase }, { on := 3, ground := Ground.phase }, { on := 4, ground := Ground.phase }, { on := 5, ground := Ground.phase }, { on := 6, ground := Ground.phase }, { on := 7, ground := Ground.phase }, { on := 8, ground := Ground.phase }], guard := none }) (v := ?v310) rfl (by kernel_rfl) (by kernel_rfl) (by kernel_rfl) (fun _ _ _ h => h) (Or.inl ⟨by rfl, ?hy310⟩) (by assumption) ?rest310
  case hy310 => (intro w hSw; (try dsimp only at hSw); go_simp; try with_reducible rfl)
  simp only [Act.put, List.setIfInBounds_toArray, List.set_cons_zero, List.set_cons_succ]
  refine wpAnyH_done (by kernel_rfl) ?_ _
  clear hHeld hHeld307 hHeld308 hHeld309
  go_wp2_with fail
  have CB := hid (BoxAt.drew CB.out)
  have PB := hid (BoxAt.drew PB.out)
  have KB := hid (BoxAt.drew KB.out)
  have HB := hid HB.out.drew
  have hsd700 : v14.heap.size ≤ v14.drew.heap.size := Nat.le_refl _
  refine wp_region_held_drew (S := (fun W => BoxAt W w.heap.size 28 (Pv.cells qc).toArray)) (by kernel_rfl) (CB.out) (fun hHeld => ?_)
  refine wpAnyH_take (i := 0) (oi := { dst := some 67, op := Op.load 28 (Operand.tmp 6), type := 28, pos := "law.go:132", after := #[], guard := none }) (v := ?v701) rfl (by kernel_rfl) (by kernel_rfl) (by kernel_rfl) (fun _ _ _ h => h) (Or.inl ⟨by rfl, ?hy701⟩) (by assumption) ?rest701
  case hy701 => (intro W hSw; refine box_yields 28 (.tmp 6) ?_ w.heap.size ?_ (Pv.cells qc) 28 _ Try.underlying28 Try.infoPv hSw <;> rfl)
  simp only [Act.put, List.setIfInBounds_toArray, List.set_cons_zero, List.set_cons_succ]
  refine wpAnyH_take (i := 3) (oi := { dst := some 70, op := Op.load 28 (Operand.tmp 6), type := 28, pos := "law.go:132", after := #[], guard := none }) (v := ?v702) rfl (by kernel_rfl) (by kernel_rfl) (by kernel_rfl) (fun _ _ _ h => h) (Or.inl ⟨by rfl, ?hy702⟩) (by assumption) ?rest702
  case hy702 => (intro W hSw; refine box_yields 28 (.tmp 6) ?_ w.heap.size ?_ (Pv.cells qc) 28 _ Try.underlying28 Try.infoPv hSw <;> rfl)
  simp only [Act.put, List.setIfInBounds_toArray, List.set_cons_zero, List.set_cons_succ]
  refine wpAnyH_ready (rs := [1]) (by kernel_rfl) (by simp) (AllReadyH.cons (o := { dst := some 68, op := Op.call { callee := Callee.value (Operand.func 21), args := #[Operand.tmp 67], argTypes := #[28] }, type := 29, pos := "law.go:132", after := #[{ on := 0, ground := Ground.data }], guard := none }) rfl (fun K703 hK703 => ?_) AllReadyH.nil)
  go_simp
  refine (new_any (HC.out.below HB.out) (by have := HBg.out; omega)).mono ?_
  rintro e v15 ⟨u, rfl, ho, hb⟩
  have CB := hid (CB.out.belowAll hb)
  have PB := hid (PB.out.belowAll hb)
  have KB := hid (KB.out.belowAll hb)
  have HB := hid (HB.out.trans (hb.mono HB.out.size))
  have hsv15 : v14.drew.heap.size ≤ v15.heap.size := hb.size
  obtain ⟨a1, c1, hu, _⟩ := row_form ho
  subst hu
  have HOa := hid (paat_pr ho)
  clear ho
  clear hb
  refine hK703.out _ _ (CB.out) (fun hHeld703 => ?_)
  clear hK703 K703
  try simp only [Act.put, List.setIfInBounds_toArray, List.set_cons_zero, List.set_cons_succ]
  refine wpAnyH_take (i := 2) (oi := { dst := some 69, op := Op.build 39 #[(4, Operand.tmp 68)], type := 39, pos := "law.go:132", after := #[{ on := 1, ground := Ground.data }], guard := none }) (v := ?v704) rfl (by kernel_rfl) (by kernel_rfl) (by kernel_rfl) (fun _ _ _ h => h) (Or.inl ⟨by rfl, ?hy704⟩) (by assumption) ?rest704
  case hy704 => (intro w hSw; (try dsimp only at hSw); go_simp; try with_reducible rfl)
  simp only [Act.put, List.setIfInBounds_toArray, List.set_cons_zero, List.set_cons_succ]
  refine wpAnyH_ready (rs := [4]) (by kernel_rfl) (by simp) (AllReadyH.cons (o := { dst := some 71, op := Op.call { callee := Callee.value (Operand.func 22), args := #[Operand.tmp 70], argTypes := #[28] }, type := 29, pos := "law.go:132", after := #[{ on := 3, ground := Ground.data }, { on := 1, ground := Ground.chain }], guard := none }) rfl (fun K705 hK705 => ?_) AllReadyH.nil)
  go_simp
  refine (rnew_any (HC.out.below HB.out) (by have := HBg.out; omega)).mono ?_
  rintro e v16 ⟨u, rfl, ho, hb⟩
  have CB := hid (CB.out.belowAll hb)
  have PB := hid (PB.out.belowAll hb)
  have KB := hid (KB.out.belowAll hb)
  have HOa := hid (HOa.out.below hb)
  have HB := hid (HB.out.trans (hb.mono HB.out.size))
  have hsv16 : v15.heap.size ≤ v16.heap.size := hb.size
  obtain ⟨a2, c2, hu, _⟩ := row_form ho
  subst hu
  have HOb := hid (paat_pr ho)
  clear ho
  clear hb
  refine hK705.out _ _ (CB.out) (fun hHeld705 => ?_)
  clear hK705 K705
  try simp only [Act.put, List.setIfInBounds_toArray, List.set_cons_zero, List.set_cons_succ]
  refine wpAnyH_take (i := 5) (oi := { dst := some 72, op := Op.build 39 #[(4, Operand.tmp 71)], type := 39, pos := "law.go:132", after := #[{ on := 4, ground := Ground.data }], guard := none }) (v := ?v706) rfl (by kernel_rfl) (by kernel_rfl) (by kernel_rfl) (fun _ _ _ h => h) (Or.inl ⟨by rfl, ?hy706⟩) (by assumption) ?rest706
  case hy706 => (intro w hSw; (try dsimp only at hSw); go_simp; try with_reducible rfl)
  simp only [Act.put, List.setIfInBounds_toArray, List.set_cons_zero, List.set_cons_succ]
  refine wpAnyH_ready (rs := [6]) (by kernel_rfl) (by simp) (AllReadyH.cons (o := { dst := some 73, op := Op.call { callee := Callee.value (Operand.func 14), args := #[Operand.tmp 69, Operand.tmp 72], argTypes := #[39, 39] }, type := 4, pos := "law.go:132", after := #[{ on := 2, ground := Ground.data }, { on := 5, ground := Ground.data }, { on := 4, ground := Ground.chain }], guard := none }) rfl (fun K707 hK707 => ?_) AllReadyH.nil)
  go_simp
  refine (same_eq HOa.out HOb.out).mono ?_
  rintro e v17 ⟨rfl, hb⟩
  have CB := hid (CB.out.belowAll hb)
  have PB := hid (PB.out.belowAll hb)
  have KB := hid (KB.out.belowAll hb)
  have HOa := hid (HOa.out.below hb)
  have HOb := hid (HOb.out.below hb)
  have HB := hid (HB.out.trans (hb.mono HB.out.size))
  have hsv17 : v16.heap.size ≤ v17.heap.size := hb.size
  clear HOa HOb
  clear hb
  refine hK707.out _ _ (CB.out) (fun hHeld707 => ?_)
  clear hK707 K707
  try simp only [Act.put, List.setIfInBounds_toArray, List.set_cons_zero, List.set_cons_succ]
  refine wpAnyH_take (i := 7) (oi := { dst := some 18, op := Op.assign (Operand.tmp 73), type := 4, pos := "law.go:132", after := #[{ on := 6, ground := Ground.data }, { on := 6, ground := Ground.chain }, { on := 0, ground := Ground.phase }, { on := 1, ground := Ground.phase }, { on := 2, ground := Ground.phase }, { on := 3, ground := Ground.phase }, { on := 4, ground := Ground.phase }, { on := 5, ground := Ground.phase }, { on := 6, ground := Ground.phase }], guard := none }) (v := ?v708) rfl (by kernel_rfl) (by kernel_rfl) (by kernel_rfl) (fun _ _ _ h => h) (Or.inl ⟨by rfl, ?hy708⟩) (by assumption) ?rest708
  case hy708 => (intro w hSw; (try dsimp only at hSw); go_simp; try with_reducible rfl)
  simp only [Act.put, List.setIfInBounds_toArray, List.set_cons_zero, List.set_cons_succ]
  refine wpAnyH_done (by kernel_rfl) ?_ _
  clear hHeld hHeld703 hHeld705 hHeld707
  go_wp2_with fail
  have CB := hid (BoxAt.drew CB.out)
  have PB := hid (BoxAt.drew PB.out)
  have KB := hid (BoxAt.drew KB.out)
  have HB := hid HB.out.drew
  have hsd800 : v17.heap.size ≤ v17.drew.heap.size := Nat.le_refl _
  refine wp_region_held_drew (S := (fun W => BoxAt W v1.heap.size 39 (PaV.cells q).toArray)) (by kernel_rfl) (PB.out) (fun hHeld => ?_)
  refine wpAnyH_take (i := 0) (oi := { dst := some 74, op := Op.load 39 (Operand.tmp 7), type := 39, pos := "law.go:133", after := #[], guard := none }) (v := ?v801) rfl (by kernel_rfl) (by kernel_rfl) (by kernel_rfl) (fun _ _ _ h => h) (Or.inl ⟨by rfl, ?hy801⟩) (by assumption) ?rest801
  case hy801 => (intro W hSw; refine box_yields 39 (.tmp 7) ?_ v1.heap.size ?_ (PaV.cells q) 39 _ Try.underlying39 Try.infoPa hSw <;> rfl)
  simp only [Act.put, List.setIfInBounds_toArray, List.set_cons_zero, List.set_cons_succ]
  refine wpAnyH_take (i := 2) (oi := { dst := some 76, op := Op.load 39 (Operand.tmp 7), type := 39, pos := "law.go:133", after := #[], guard := none }) (v := ?v802) rfl (by kernel_rfl) (by kernel_rfl) (by kernel_rfl) (fun _ _ _ h => h) (Or.inl ⟨by rfl, ?hy802⟩) (by assumption) ?rest802
  case hy802 => (intro W hSw; refine box_yields 39 (.tmp 7) ?_ v1.heap.size ?_ (PaV.cells q) 39 _ Try.underlying39 Try.infoPa hSw <;> rfl)
  simp only [Act.put, List.setIfInBounds_toArray, List.set_cons_zero, List.set_cons_succ]
  refine wpAnyH_ready (rs := [1]) (by kernel_rfl) (by simp) (AllReadyH.cons (o := { dst := some 75, op := Op.call { callee := Callee.value (Operand.func 23), args := #[Operand.tmp 74], argTypes := #[39] }, type := 39, pos := "law.go:133", after := #[{ on := 0, ground := Ground.data }], guard := none }) rfl (fun K803 hK803 => ?_) AllReadyH.nil)
  go_simp
  refine (own_any (HA.out.below HB.out) HSm.out).mono ?_
  rintro e v18 ⟨qa, rfl, ho, hb⟩
  have CB := hid (CB.out.belowAll hb)
  have PB := hid (PB.out.belowAll hb)
  have KB := hid (KB.out.belowAll hb)
  have HB := hid (HB.out.trans (hb.mono HB.out.size))
  have hsv18 : v17.drew.heap.size ≤ v18.heap.size := hb.size
  have HOa := hid ho
  clear ho
  clear hb
  refine hK803.out _ _ (PB.out) (fun hHeld803 => ?_)
  clear hK803 K803
  try simp only [Act.put, List.setIfInBounds_toArray, List.set_cons_zero, List.set_cons_succ]
  refine wpAnyH_ready (rs := [3]) (by kernel_rfl) (by simp) (AllReadyH.cons (o := { dst := some 77, op := Op.call { callee := Callee.value (Operand.func 14), args := #[Operand.tmp 75, Operand.tmp 76], argTypes := #[39, 39] }, type := 4, pos := "law.go:133", after := #[{ on := 1, ground := Ground.data }, { on := 2, ground := Ground.data }, { on := 1, ground := Ground.chain }], guard := none }) rfl (fun K804 hK804 => ?_) AllReadyH.nil)
  go_simp
  refine (same_eq HOa.out.sees (HA.out.below HB.out)).mono ?_
  rintro e v19 ⟨rfl, hb⟩
  have CB := hid (CB.out.belowAll hb)
  have PB := hid (PB.out.belowAll hb)
  have KB := hid (KB.out.belowAll hb)
  have HOa := hid (HOa.out.below hb)
  have HB := hid (HB.out.trans (hb.mono HB.out.size))
  have hsv19 : v18.heap.size ≤ v19.heap.size := hb.size
  clear HOa
  clear hb
  refine hK804.out _ _ (PB.out) (fun hHeld804 => ?_)
  clear hK804 K804
  try simp only [Act.put, List.setIfInBounds_toArray, List.set_cons_zero, List.set_cons_succ]
  refine wpAnyH_take (i := 4) (oi := { dst := some 19, op := Op.assign (Operand.tmp 77), type := 4, pos := "law.go:133", after := #[{ on := 3, ground := Ground.data }, { on := 3, ground := Ground.chain }, { on := 0, ground := Ground.phase }, { on := 1, ground := Ground.phase }, { on := 2, ground := Ground.phase }, { on := 3, ground := Ground.phase }], guard := none }) (v := ?v805) rfl (by kernel_rfl) (by kernel_rfl) (by kernel_rfl) (fun _ _ _ h => h) (Or.inl ⟨by rfl, ?hy805⟩) (by assumption) ?rest805
  case hy805 => (intro w hSw; (try dsimp only at hSw); go_simp; try with_reducible rfl)
  simp only [Act.put, List.setIfInBounds_toArray, List.set_cons_zero, List.set_cons_succ]
  refine wpAnyH_done (by kernel_rfl) ?_ _
  clear hHeld hHeld803 hHeld804
  go_wp2_with fail
  go_ret
  exact ⟨rfl, HB.out⟩

end Go.Proofs.Ytfdalcfbhebloaa
