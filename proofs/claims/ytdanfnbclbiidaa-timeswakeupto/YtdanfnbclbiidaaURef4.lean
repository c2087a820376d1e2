/-
  The document's Go, over what reads as a partition in every world that keeps from n on.
-/
import Derived.Test.YtdanfnbclbiidaaURef3
namespace Go.Proofs.Ytdanfnbclbiidaa
open Go.RowKit
set_option linter.unusedVariables false

set_option maxRecDepth 100000 in
set_option maxHeartbeats 6400000 in
theorem rgo_z {n : Nat} {q : PaV} {c : Pa} {w : World} {kp kc kv : Int} (hz : PaZ n w q c) (hn : n ≤ w.heap.size) (hsm : c.small) :
    Calls Try.prog 37 #[q.val, Wk.val ⟨kp, kc, kv⟩] w fun e w' => ∃ q', e = .returned (PaV.val q') ∧ PaZ n w' q' (goP c kp kc kv) ∧ Below w.heap.size w w' := by
  have HS0 := hid hz
  have HA := hid hz.at
  have HSm := hid hsm
  have HB := hid (Below.refl w.heap.size w)
  obtain ⟨ap, cpp, hpv, hp1, hp2, hpcell⟩ := HA.out.pr.form
  have hmax : cpp ≤ 9223372036854775807 := hp2
  have HPv := hid hpv
  have HPc := hid hpcell
  clear hz hsm hpv hp2 hpcell
  unfold Wk.val
  simp only
  go_enter Try.func37, Try.ntmps37
  have FL1 := hid trivial
  have FL2 := hid trivial
  have FL3 := hid trivial
  go_wp2_with (first
    | (have hfl := FL1.out
       refine wpList_box rfl 39 (.tmp 0) rfl (PaV.cells q).toArray rfl ?_
       intro v1 b h z
       have PB := hid (show BoxAt v1 w.heap.size 39 (PaV.cells q).toArray from b)
       have HB := hid (HB.out.trans (h.mono HB.out.size))
       have hsv1 : w.heap.size + 1 ≤ v1.heap.size := by omega
       clear b h z hfl FL1)
    | (have hfl := FL2.out
       refine wpList_box rfl 92 (.tmp 1) rfl [.int .i64 kp, .int .i64 kc, .int .i64 kv].toArray rfl ?_
       intro v2 b h z
       have KB := hid (show BoxAt v2 v1.heap.size 92 [.int .i64 kp, .int .i64 kc, .int .i64 kv].toArray from b)
       have PB := hid (PB.out.belowAll h)
       have HB := hid (HB.out.trans (h.mono HB.out.size))
       have hsv2 : v1.heap.size + 1 ≤ v2.heap.size := by omega
       clear b h z hfl FL2)
    | (have hfl := FL3.out
       refine wpList_new rfl 39 rfl _ Try.zeroPa ?_
       intro v3 b h z
       have RB := hid (show BoxAt v3 v2.heap.size 39 (PaV.cells PaV.zero).toArray from b)
       have PB := hid (PB.out.belowAll h)
       have KB := hid (KB.out.belowAll h)
       have HB := hid (HB.out.trans (h.mono HB.out.size))
       have hsv3 : v2.heap.size + 1 ≤ v3.heap.size := by omega
       have kKB0 : v3.cell? ⟨v1.heap.size, 0, none⟩ = some (.int .i64 kp) := (BoxAt.cell KB.out 0).trans rfl
       clear b h z hfl FL3)
    | (refine wpList_load_box rfl 39 _ rfl w.heap.size rfl _ _ PB.out _ Try.underlying39 Try.infoPa ?_)
    | fail)
  refine (rthere_any kp (HA.out.below HB.out)).mono ?_
  rintro e v4 ⟨rfl, hb⟩
  have PB := hid (PB.out.belowAll hb)
  have KB := hid (KB.out.belowAll hb)
  have RB := hid (RB.out.belowAll hb)
  have HB := hid (HB.out.trans (hb.mono HB.out.size))
  have hsv4 : v3.heap.size ≤ v4.heap.size := hb.size
  clear kKB0
  have kKB0 : v4.cell? ⟨v1.heap.size, 0, none⟩ = some (.int .i64 kp) := (BoxAt.cell KB.out 0).trans rfl
  clear hb
  by_cases hin : 0 ≤ kp ∧ kp < c.pr.length
  rotate_left
  · have HIn := hid hin
    rw [decide_eq_false hin]
    clear hin
    have FL4 := hid trivial
    go_wp2_with (first
      | (refine wpList_load_box rfl 39 _ rfl w.heap.size rfl _ _ PB.out _ Try.underlying39 Try.infoPa ?_)
      | (have hfl := FL4.out
         refine wpList_store_whole rfl 39 _ _ rfl rfl v2.heap.size rfl (PaV.cells q) rfl _ _ RB.out rfl Try.infoPa (PaV.one _) ?_
         intro v5 b g z
         have hsv5 : v4.heap.size ≤ v5.heap.size := by omega
         have RB := hid (show BoxAt v5 v2.heap.size 39 (PaV.cells q).toArray from b)
         have PB := hid (PB.out.grown g (fun e => by have := Option.some.inj e; omega))
         have KB := hid (KB.out.grown g (fun e => by have := Option.some.inj e; omega))
         have HB := hid (HB.out.trans (grown_below g (by omega) (by omega)))
         clear kKB0
         have kKB0 : v5.cell? ⟨v1.heap.size, 0, none⟩ = some (.int .i64 kp) := (BoxAt.cell KB.out 0).trans rfl
         clear b g z hfl FL4)
      | fail)
    refine bodyPost_ret (results_cell_row rfl _ _ (v2.heap.size) 39 _ (0, 0) _ rfl RB.out Try.underlying39 rfl Try.infoPa) rfl ?_
    rw [show goP c kp kc kv = c from by unfold goP; rw [deed_out HIn.out]]
    exact ⟨q, rfl, HS0.out.below hn HB.out, HB.out⟩
  rw [decide_eq_true hin]
  obtain ⟨k, hki⟩ : ∃ k : Nat, kp = (k : Int) := ⟨kp.toNat, by omega⟩
  have hk : k < c.pr.length := by omega
  clear hin
  subst hki
  obtain ⟨b1, off, rfl, hbw, hpx⟩ := HPc.out (by omega)
  have HP0 := hid (show PxAt w b1 (off + k * 18) (c.pr.getD k Px.zero) from fun j hj => hpx k hk j hj)
  clear hpx
  obtain ⟨r, hr⟩ : ∃ r, c.pr.getD k Px.zero = r := ⟨_, rfl⟩
  rw [hr] at HP0
  have HR := hid hr
  have HK := hid hk
  clear hr
  have kPB4 : v4.cell? ⟨w.heap.size, 4, none⟩ = some (.slice (some ⟨b1, off, none⟩) c.pr.length cpp) := (BoxAt.cell PB.out 4).trans (by show some q.pr.val = _; rw [HPv.out])
  clear kKB0
  have kKB0 : v4.cell? ⟨v1.heap.size, 0, none⟩ = some (.int .i64 (k : Int)) := (BoxAt.cell KB.out 0).trans rfl
  have kKB1 : v4.cell? ⟨v1.heap.size, 1, none⟩ = some (.int .i64 kc) := (BoxAt.cell KB.out 1).trans rfl
  have kKB2 : v4.cell? ⟨v1.heap.size, 2, none⟩ = some (.int .i64 kv) := (BoxAt.cell KB.out 2).trans rfl
  by_cases hst : r.st = 2
  · obtain ⟨x1, hx1⟩ : ∃ x : Px, { r with st := 1, un := -1, ki := 0, ob := 0, pe := true, co := kc, va := kv, r0 := kc, r1 := kv } = x := ⟨_, rfl⟩
    have HX1 := hid hx1
    clear hx1
    have HD := hid (show goD kc kv r = ⟨x1, true, 0⟩ from by unfold goD; rw [if_pos hst, ← HX1.out])
    have FL5 := hid trivial
    have FL6 := hid trivial
    have FL7 := hid trivial
    have FL8 := hid trivial
    have FL9 := hid trivial
    have FL10 := hid trivial
    have FL11 := hid trivial
    have FL12 := hid trivial
    have FL13 := hid trivial
    have FL14 := hid trivial
    have FL15 := hid trivial
    go_wp2_with (first
      | (refine wpList_load_px rfl _ rfl b1 (off + k * 18) rfl r (HP0.out.below HB.out hbw) ?_)
      | (have hfl := FL5.out
         refine wpList_new rfl 57 rfl _ Try.zeroPx ?_
         intro v6 b h z
         have XB := hid (show BoxAt v6 v4.heap.size 57 (Px.cells Px.zero).toArray from b)
         have PB := hid (PB.out.belowAll h)
         have KB := hid (KB.out.belowAll h)
         have RB := hid (RB.out.belowAll h)
         have HB := hid (HB.out.trans (h.mono HB.out.size))
         have hsv6 : v4.heap.size + 1 ≤ v6.heap.size := by omega
         clear kPB4
         have kPB4 : v6.cell? ⟨w.heap.size, 4, none⟩ = some (.slice (some ⟨b1, off, none⟩) c.pr.length cpp) := (BoxAt.cell PB.out 4).trans (by show some q.pr.val = _; rw [HPv.out])
         clear kKB0
         have kKB0 : v6.cell? ⟨v1.heap.size, 0, none⟩ = some (.int .i64 (k : Int)) := (BoxAt.cell KB.out 0).trans rfl
         clear kKB1
         have kKB1 : v6.cell? ⟨v1.heap.size, 1, none⟩ = some (.int .i64 kc) := (BoxAt.cell KB.out 1).trans rfl
         clear kKB2
         have kKB2 : v6.cell? ⟨v1.heap.size, 2, none⟩ = some (.int .i64 kv) := (BoxAt.cell KB.out 2).trans rfl
         clear b h z hfl FL5)
      | (have hfl := FL6.out
         refine wpList_store_whole rfl 57 _ _ rfl rfl v4.heap.size rfl (Px.cells r) rfl _ _ XB.out rfl Try.infoPx (Px.one _) ?_
         intro v7 b g z
         have hsv7 : v6.heap.size ≤ v7.heap.size := by omega
         have XB := hid (show BoxAt v7 v4.heap.size 57 (Px.cells r).toArray from b)
         have PB := hid (PB.out.grown g (fun e => by have := Option.some.inj e; omega))
         have KB := hid (KB.out.grown g (fun e => by have := Option.some.inj e; omega))
         have RB := hid (RB.out.grown g (fun e => by have := Option.some.inj e; omega))
         have HB := hid (HB.out.trans (grown_below g (by omega) (by omega)))
         clear kPB4
         have kPB4 : v7.cell? ⟨w.heap.size, 4, none⟩ = some (.slice (some ⟨b1, off, none⟩) c.pr.length cpp) := (BoxAt.cell PB.out 4).trans (by show some q.pr.val = _; rw [HPv.out])
         clear kKB0
         have kKB0 : v7.cell? ⟨v1.heap.size, 0, none⟩ = some (.int .i64 (k : Int)) := (BoxAt.cell KB.out 0).trans rfl
         clear kKB1
         have kKB1 : v7.cell? ⟨v1.heap.size, 1, none⟩ = some (.int .i64 kc) := (BoxAt.cell KB.out 1).trans rfl
         clear kKB2
         have kKB2 : v7.cell? ⟨v1.heap.size, 2, none⟩ = some (.int .i64 kv) := (BoxAt.cell KB.out 2).trans rfl
         have kXB0 : v7.cell? ⟨v4.heap.size, 0, none⟩ = some (.int .i64 r.st) := (BoxAt.cell XB.out 0).trans rfl
         clear b g z hfl FL6)
      | (have hfl := FL7.out
         refine wpList_store_box rfl 3 _ _ rfl rfl v4.heap.size 0 (.int .i64 1) rfl rfl rfl rfl (by kernel_rfl) _ _ XB.out (by simp [Px.cells]) ?_
         intro v8 b g z
         have hsv8 : v7.heap.size ≤ v8.heap.size := by omega
         have XB := hid (show BoxAt v8 v4.heap.size 57 (Px.cells { r with st := 1 }).toArray by simpa [Px.cells] using b)
         have PB := hid (PB.out.grown g (fun e => by have := Option.some.inj e; omega))
         have KB := hid (KB.out.grown g (fun e => by have := Option.some.inj e; omega))
         have RB := hid (RB.out.grown g (fun e => by have := Option.some.inj e; omega))
         have HB := hid (HB.out.trans (grown_below g (by omega) (by omega)))
         clear kPB4
         have kPB4 : v8.cell? ⟨w.heap.size, 4, none⟩ = some (.slice (some ⟨b1, off, none⟩) c.pr.length cpp) := (BoxAt.cell PB.out 4).trans (by show some q.pr.val = _; rw [HPv.out])
         clear kKB0
         have kKB0 : v8.cell? ⟨v1.heap.size, 0, none⟩ = some (.int .i64 (k : Int)) := (BoxAt.cell KB.out 0).trans rfl
         clear kKB1
         have kKB1 : v8.cell? ⟨v1.heap.size, 1, none⟩ = some (.int .i64 kc) := (BoxAt.cell KB.out 1).trans rfl
         clear kKB2
         have kKB2 : v8.cell? ⟨v1.heap.size, 2, none⟩ = some (.int .i64 kv) := (BoxAt.cell KB.out 2).trans rfl
         clear b g z hfl FL7)
      | (have hfl := FL8.out
         refine wpList_store_box rfl 3 _ _ rfl rfl v4.heap.size 9 (.int .i64 (-1)) rfl rfl rfl rfl (by kernel_rfl) _ _ XB.out (by simp [Px.cells]) ?_
         intro v9 b g z
         have hsv9 : v8.heap.size ≤ v9.heap.size := by omega
         have XB := hid (show BoxAt v9 v4.heap.size 57 (Px.cells { r with st := 1, un := -1 }).toArray by simpa [Px.cells] using b)
         have PB := hid (PB.out.grown g (fun e => by have := Option.some.inj e; omega))
         have KB := hid (KB.out.grown g (fun e => by have := Option.some.inj e; omega))
         have RB := hid (RB.out.grown g (fun e => by have := Option.some.inj e; omega))
         have HB := hid (HB.out.trans (grown_below g (by omega) (by omega)))
         clear kPB4
         have kPB4 : v9.cell? ⟨w.heap.size, 4, none⟩ = some (.slice (some ⟨b1, off, none⟩) c.pr.length cpp) := (BoxAt.cell PB.out 4).trans (by show some q.pr.val = _; rw [HPv.out])
         clear kKB0
         have kKB0 : v9.cell? ⟨v1.heap.size, 0, none⟩ = some (.int .i64 (k : Int)) := (BoxAt.cell KB.out 0).trans rfl
         clear kKB1
         have kKB1 : v9.cell? ⟨v1.heap.size, 1, none⟩ = some (.int .i64 kc) := (BoxAt.cell KB.out 1).trans rfl
         clear kKB2
         have kKB2 : v9.cell? ⟨v1.heap.size, 2, none⟩ = some (.int .i64 kv) := (BoxAt.cell KB.out 2).trans rfl
         clear b g z hfl FL8)
      | (have hfl := FL9.out
         refine wpList_store_box rfl 3 _ _ rfl rfl v4.heap.size 10 (.int .i64 0) rfl rfl rfl rfl (by kernel_rfl) _ _ XB.out (by simp [Px.cells]) ?_
         intro v10 b g z
         have hsv10 : v9.heap.size ≤ v10.heap.size := by omega
         have XB := hid (show BoxAt v10 v4.heap.size 57 (Px.cells { r with st := 1, un := -1, ki := 0 }).toArray by simpa [Px.cells] using b)
         have PB := hid (PB.out.grown g (fun e => by have := Option.some.inj e; omega))
         have KB := hid (KB.out.grown g (fun e => by have := Option.some.inj e; omega))
         have RB := hid (RB.out.grown g (fun e => by have := Option.some.inj e; omega))
         have HB := hid (HB.out.trans (grown_below g (by omega) (by omega)))
         clear kPB4
         have kPB4 : v10.cell? ⟨w.heap.size, 4, none⟩ = some (.slice (some ⟨b1, off, none⟩) c.pr.length cpp) := (BoxAt.cell PB.out 4).trans (by show some q.pr.val = _; rw [HPv.out])
         clear kKB0
         have kKB0 : v10.cell? ⟨v1.heap.size, 0, none⟩ = some (.int .i64 (k : Int)) := (BoxAt.cell KB.out 0).trans rfl
         clear kKB1
         have kKB1 : v10.cell? ⟨v1.heap.size, 1, none⟩ = some (.int .i64 kc) := (BoxAt.cell KB.out 1).trans rfl
         clear kKB2
         have kKB2 : v10.cell? ⟨v1.heap.size, 2, none⟩ = some (.int .i64 kv) := (BoxAt.cell KB.out 2).trans rfl
         clear b g z hfl FL9)
      | (have hfl := FL10.out
         refine wpList_store_box rfl 3 _ _ rfl rfl v4.heap.size 11 (.int .i64 0) rfl rfl rfl rfl (by kernel_rfl) _ _ XB.out (by simp [Px.cells]) ?_
         intro v11 b g z
         have hsv11 : v10.heap.size ≤ v11.heap.size := by omega
         have XB := hid (show BoxAt v11 v4.heap.size 57 (Px.cells { r with st := 1, un := -1, ki := 0, ob := 0 }).toArray by simpa [Px.cells] using b)
         have PB := hid (PB.out.grown g (fun e => by have := Option.some.inj e; omega))
         have KB := hid (KB.out.grown g (fun e => by have := Option.some.inj e; omega))
         have RB := hid (RB.out.grown g (fun e => by have := Option.some.inj e; omega))
         have HB := hid (HB.out.trans (grown_below g (by omega) (by omega)))
         clear kPB4
         have kPB4 : v11.cell? ⟨w.heap.size, 4, none⟩ = some (.slice (some ⟨b1, off, none⟩) c.pr.length cpp) := (BoxAt.cell PB.out 4).trans (by show some q.pr.val = _; rw [HPv.out])
         clear kKB0
         have kKB0 : v11.cell? ⟨v1.heap.size, 0, none⟩ = some (.int .i64 (k : Int)) := (BoxAt.cell KB.out 0).trans rfl
         clear kKB1
         have kKB1 : v11.cell? ⟨v1.heap.size, 1, none⟩ = some (.int .i64 kc) := (BoxAt.cell KB.out 1).trans rfl
         clear kKB2
         have kKB2 : v11.cell? ⟨v1.heap.size, 2, none⟩ = some (.int .i64 kv) := (BoxAt.cell KB.out 2).trans rfl
         clear b g z hfl FL10)
      | (have hfl := FL11.out
         refine wpList_store_box rfl 4 _ _ rfl rfl v4.heap.size 14 (.bool true) rfl rfl rfl rfl (by kernel_rfl) _ _ XB.out (by simp [Px.cells]) ?_
         intro v12 b g z
         have hsv12 : v11.heap.size ≤ v12.heap.size := by omega
         have XB := hid (show BoxAt v12 v4.heap.size 57 (Px.cells { r with st := 1, un := -1, ki := 0, ob := 0, pe := true }).toArray by simpa [Px.cells] using b)
         have PB := hid (PB.out.grown g (fun e => by have := Option.some.inj e; omega))
         have KB := hid (KB.out.grown g (fun e => by have := Option.some.inj e; omega))
         have RB := hid (RB.out.grown g (fun e => by have := Option.some.inj e; omega))
         have HB := hid (HB.out.trans (grown_below g (by omega) (by omega)))
         clear kPB4
         have kPB4 : v12.cell? ⟨w.heap.size, 4, none⟩ = some (.slice (some ⟨b1, off, none⟩) c.pr.length cpp) := (BoxAt.cell PB.out 4).trans (by show some q.pr.val = _; rw [HPv.out])
         clear kKB0
         have kKB0 : v12.cell? ⟨v1.heap.size, 0, none⟩ = some (.int .i64 (k : Int)) := (BoxAt.cell KB.out 0).trans rfl
         clear kKB1
         have kKB1 : v12.cell? ⟨v1.heap.size, 1, none⟩ = some (.int .i64 kc) := (BoxAt.cell KB.out 1).trans rfl
         clear kKB2
         have kKB2 : v12.cell? ⟨v1.heap.size, 2, none⟩ = some (.int .i64 kv) := (BoxAt.cell KB.out 2).trans rfl
         clear b g z hfl FL11)
      | (have hfl := FL12.out
         refine wpList_store_box rfl 3 _ _ rfl rfl v4.heap.size 15 (.int .i64 kc) rfl rfl rfl rfl (by kernel_rfl) _ _ XB.out (by simp [Px.cells]) ?_
         intro v13 b g z
         have hsv13 : v12.heap.size ≤ v13.heap.size := by omega
         have XB := hid (show BoxAt v13 v4.heap.size 57 (Px.cells { r with st := 1, un := -1, ki := 0, ob := 0, pe := true, co := kc }).toArray by simpa [Px.cells] using b)
         have PB := hid (PB.out.grown g (fun e => by have := Option.some.inj e; omega))
         have KB := hid (KB.out.grown g (fun e => by have := Option.some.inj e; omega))
         have RB := hid (RB.out.grown g (fun e => by have := Option.some.inj e; omega))
         have HB := hid (HB.out.trans (grown_below g (by omega) (by omega)))
         clear kPB4
         have kPB4 : v13.cell? ⟨w.heap.size, 4, none⟩ = some (.slice (some ⟨b1, off, none⟩) c.pr.length cpp) := (BoxAt.cell PB.out 4).trans (by show some q.pr.val = _; rw [HPv.out])
         clear kKB0
         have kKB0 : v13.cell? ⟨v1.heap.size, 0, none⟩ = some (.int .i64 (k : Int)) := (BoxAt.cell KB.out 0).trans rfl
         clear kKB1
         have kKB1 : v13.cell? ⟨v1.heap.size, 1, none⟩ = some (.int .i64 kc) := (BoxAt.cell KB.out 1).trans rfl
         clear kKB2
         have kKB2 : v13.cell? ⟨v1.heap.size, 2, none⟩ = some (.int .i64 kv) := (BoxAt.cell KB.out 2).trans rfl
         clear b g z hfl FL12)
      | (have hfl := FL13.out
         refine wpList_store_box rfl 3 _ _ rfl rfl v4.heap.size 16 (.int .i64 kv) rfl rfl rfl rfl (by kernel_rfl) _ _ XB.out (by simp [Px.cells]) ?_
         intro v14 b g z
         have hsv14 : v13.heap.size ≤ v14.heap.size := by omega
         have XB := hid (show BoxAt v14 v4.heap.size 57 (Px.cells { r with st := 1, un := -1, ki := 0, ob := 0, pe := true, co := kc, va := kv }).toArray by simpa [Px.cells] using b)
         have PB := hid (PB.out.grown g (fun e => by have := Option.some.inj e; omega))
         have KB := hid (KB.out.grown g (fun e => by have := Option.some.inj e; omega))
         have RB := hid (RB.out.grown g (fun e => by have := Option.some.inj e; omega))
         have HB := hid (HB.out.trans (grown_below g (by omega) (by omega)))
         clear kPB4
         have kPB4 : v14.cell? ⟨w.heap.size, 4, none⟩ = some (.slice (some ⟨b1, off, none⟩) c.pr.length cpp) := (BoxAt.cell PB.out 4).trans (by show some q.pr.val = _; rw [HPv.out])
         clear kKB0
         have kKB0 : v14.cell? ⟨v1.heap.size, 0, none⟩ = some (.int .i64 (k : Int)) := (BoxAt.cell KB.out 0).trans rfl
         clear kKB1
         have kKB1 : v14.cell? ⟨v1.heap.size, 1, none⟩ = some (.int .i64 kc) := (BoxAt.cell KB.out 1).trans rfl
         clear kKB2
         have kKB2 : v14.cell? ⟨v1.heap.size, 2, none⟩ = some (.int .i64 kv) := (BoxAt.cell KB.out 2).trans rfl
         clear b g z hfl FL13)
      | (have hfl := FL14.out
         refine wpList_store_box rfl 3 _ _ rfl rfl v4.heap.size 4 (.int .i64 kc) rfl rfl rfl rfl (by kernel_rfl) _ _ XB.out (by simp [Px.cells]) ?_
         intro v15 b g z
         have hsv15 : v14.heap.size ≤ v15.heap.size := by omega
         have XB := hid (show BoxAt v15 v4.heap.size 57 (Px.cells { r with st := 1, un := -1, ki := 0, ob := 0, pe := true, co := kc, va := kv, r0 := kc }).toArray by simpa [Px.cells] using b)
         have PB := hid (PB.out.grown g (fun e => by have := Option.some.inj e; omega))
         have KB := hid (KB.out.grown g (fun e => by have := Option.some.inj e; omega))
         have RB := hid (RB.out.grown g (fun e => by have := Option.some.inj e; omega))
         have HB := hid (HB.out.trans (grown_below g (by omega) (by omega)))
         clear kPB4
         have kPB4 : v15.cell? ⟨w.heap.size, 4, none⟩ = some (.slice (some ⟨b1, off, none⟩) c.pr.length cpp) := (BoxAt.cell PB.out 4).trans (by show some q.pr.val = _; rw [HPv.out])
         clear kKB0
         have kKB0 : v15.cell? ⟨v1.heap.size, 0, none⟩ = some (.int .i64 (k : Int)) := (BoxAt.cell KB.out 0).trans rfl
         clear kKB1
         have kKB1 : v15.cell? ⟨v1.heap.size, 1, none⟩ = some (.int .i64 kc) := (BoxAt.cell KB.out 1).trans rfl
         clear kKB2
         have kKB2 : v15.cell? ⟨v1.heap.size, 2, none⟩ = some (.int .i64 kv) := (BoxAt.cell KB.out 2).trans rfl
         clear b g z hfl FL14)
      | (have hfl := FL15.out
         refine wpList_store_box rfl 3 _ _ rfl rfl v4.heap.size 5 (.int .i64 kv) rfl rfl rfl rfl (by kernel_rfl) _ _ XB.out (by simp [Px.cells]) ?_
         intro v16 b g z
         have hsv16 : v15.heap.size ≤ v16.heap.size := by omega
         have XB := hid (show BoxAt v16 v4.heap.size 57 (Px.cells x1).toArray by rw [← HX1.out]; simpa [Px.cells] using b)
         have PB := hid (PB.out.grown g (fun e => by have := Option.some.inj e; omega))
         have KB := hid (KB.out.grown g (fun e => by have := Option.some.inj e; omega))
         have RB := hid (RB.out.grown g (fun e => by have := Option.some.inj e; omega))
         have HB := hid (HB.out.trans (grown_below g (by omega) (by omega)))
         clear kPB4
         have kPB4 : v16.cell? ⟨w.heap.size, 4, none⟩ = some (.slice (some ⟨b1, off, none⟩) c.pr.length cpp) := (BoxAt.cell PB.out 4).trans (by show some q.pr.val = _; rw [HPv.out])
         clear kKB0
         have kKB0 : v16.cell? ⟨v1.heap.size, 0, none⟩ = some (.int .i64 (k : Int)) := (BoxAt.cell KB.out 0).trans rfl
         clear kKB1
         have kKB1 : v16.cell? ⟨v1.heap.size, 1, none⟩ = some (.int .i64 kc) := (BoxAt.cell KB.out 1).trans rfl
         clear kKB2
         have kKB2 : v16.cell? ⟨v1.heap.size, 2, none⟩ = some (.int .i64 kv) := (BoxAt.cell KB.out 2).trans rfl
         clear b g z hfl FL15)
      | (refine wpList_load_box rfl 39 _ rfl w.heap.size rfl _ _ PB.out _ Try.underlying39 Try.infoPa ?_)
      | (refine wpList_load_box rfl 57 _ rfl v4.heap.size rfl _ _ XB.out _ Try.underlying57 Try.infoPx ?_)
      | fail)
    refine (rqueued_s (x1) HA.out.nx).mono ?_
    rintro e v17 ⟨q2, y, rfl, hy, hq, hb⟩
    have PB := hid (PB.out.belowAll hb)
    have KB := hid (KB.out.belowAll hb)
    have RB := hid (RB.out.belowAll hb)
    have XB := hid (XB.out.belowAll hb)
    have HB := hid (HB.out.trans (hb.mono HB.out.size))
    have hsv17 : v16.heap.size ≤ v17.heap.size := hb.size
    have HQ := hid hq
    have HY := hid hy
    clear hy hq
    clear kPB4
    have kPB4 : v17.cell? ⟨w.heap.size, 4, none⟩ = some (.slice (some ⟨b1, off, none⟩) c.pr.length cpp) := (BoxAt.cell PB.out 4).trans (by show some q.pr.val = _; rw [HPv.out])
    clear kKB0
    have kKB0 : v17.cell? ⟨v1.heap.size, 0, none⟩ = some (.int .i64 (k : Int)) := (BoxAt.cell KB.out 0).trans rfl
    clear kKB1
    have kKB1 : v17.cell? ⟨v1.heap.size, 1, none⟩ = some (.int .i64 kc) := (BoxAt.cell KB.out 1).trans rfl
    clear kKB2
    have kKB2 : v17.cell? ⟨v1.heap.size, 2, none⟩ = some (.int .i64 kv) := (BoxAt.cell KB.out 2).trans rfl
    clear hb
    have FL16 := hid trivial
    have FL17 := hid trivial
    have FL18 := hid trivial
    have FL19 := hid trivial
    go_wp2_with (first
      | (have hfl := FL16.out
         refine wpList_new rfl 39 rfl _ Try.zeroPa ?_
         intro v18 b h z
         have QB := hid (show BoxAt v18 v17.heap.size 39 (PaV.cells PaV.zero).toArray from b)
         have PB := hid (PB.out.belowAll h)
         have KB := hid (KB.out.belowAll h)
         have RB := hid (RB.out.belowAll h)
         have XB := hid (XB.out.belowAll h)
         have HB := hid (HB.out.trans (h.mono HB.out.size))
         have hsv18 : v17.heap.size + 1 ≤ v18.heap.size := by omega
         clear kKB0
         have kKB0 : v18.cell? ⟨v1.heap.size, 0, none⟩ = some (.int .i64 (k : Int)) := (BoxAt.cell KB.out 0).trans rfl
         clear kKB1
         have kKB1 : v18.cell? ⟨v1.heap.size, 1, none⟩ = some (.int .i64 kc) := (BoxAt.cell KB.out 1).trans rfl
         clear kKB2
         have kKB2 : v18.cell? ⟨v1.heap.size, 2, none⟩ = some (.int .i64 kv) := (BoxAt.cell KB.out 2).trans rfl
         clear b h z hfl FL16)
      | (have hfl := FL17.out
         refine wpList_new rfl 57 rfl _ Try.zeroPx ?_
         intro v19 b h z
         have YB := hid (show BoxAt v19 v18.heap.size 57 (Px.cells Px.zero).toArray from b)
         have PB := hid (PB.out.belowAll h)
         have KB := hid (KB.out.belowAll h)
         have RB := hid (RB.out.belowAll h)
         have XB := hid (XB.out.belowAll h)
         have QB := hid (QB.out.belowAll h)
         have HB := hid (HB.out.trans (h.mono HB.out.size))
         have hsv19 : v18.heap.size + 1 ≤ v19.heap.size := by omega
         clear kKB0
         have kKB0 : v19.cell? ⟨v1.heap.size, 0, none⟩ = some (.int .i64 (k : Int)) := (BoxAt.cell KB.out 0).trans rfl
         clear kKB1
         have kKB1 : v19.cell? ⟨v1.heap.size, 1, none⟩ = some (.int .i64 kc) := (BoxAt.cell KB.out 1).trans rfl
         clear kKB2
         have kKB2 : v19.cell? ⟨v1.heap.size, 2, none⟩ = some (.int .i64 kv) := (BoxAt.cell KB.out 2).trans rfl
         clear b h z hfl FL17)
      | (have hfl := FL18.out
         refine wpList_store_whole rfl 39 _ _ rfl rfl v17.heap.size rfl (PaV.cells q2) rfl _ _ QB.out rfl Try.infoPa (PaV.one _) ?_
         intro v20 b g z
         have hsv20 : v19.heap.size ≤ v20.heap.size := by omega
         have QB := hid (show BoxAt v20 v17.heap.size 39 (PaV.cells q2).toArray from b)
         have PB := hid (PB.out.grown g (fun e => by have := Option.some.inj e; omega))
         have KB := hid (KB.out.grown g (fun e => by have := Option.some.inj e; omega))
         have RB := hid (RB.out.grown g (fun e => by have := Option.some.inj e; omega))
         have XB := hid (XB.out.grown g (fun e => by have := Option.some.inj e; omega))
         have YB := hid (YB.out.grown g (fun e => by have := Option.some.inj e; omega))
         have HB := hid (HB.out.trans (grown_below g (by omega) (by omega)))
         clear kKB0
         have kKB0 : v20.cell? ⟨v1.heap.size, 0, none⟩ = some (.int .i64 (k : Int)) := (BoxAt.cell KB.out 0).trans rfl
         clear kKB1
         have kKB1 : v20.cell? ⟨v1.heap.size, 1, none⟩ = some (.int .i64 kc) := (BoxAt.cell KB.out 1).trans rfl
         clear kKB2
         have kKB2 : v20.cell? ⟨v1.heap.size, 2, none⟩ = some (.int .i64 kv) := (BoxAt.cell KB.out 2).trans rfl
         clear b g z hfl FL18)
      | (have hfl := FL19.out
         refine wpList_store_whole rfl 57 _ _ rfl rfl v18.heap.size rfl (Px.cells y) rfl _ _ YB.out rfl Try.infoPx (Px.one _) ?_
         intro v21 b g z
         have hsv21 : v20.heap.size ≤ v21.heap.size := by omega
         have YB := hid (show BoxAt v21 v18.heap.size 57 (Px.cells y).toArray from b)
         have PB := hid (PB.out.grown g (fun e => by have := Option.some.inj e; omega))
         have KB := hid (KB.out.grown g (fun e => by have := Option.some.inj e; omega))
         have RB := hid (RB.out.grown g (fun e => by have := Option.some.inj e; omega))
         have XB := hid (XB.out.grown g (fun e => by have := Option.some.inj e; omega))
         have QB := hid (QB.out.grown g (fun e => by have := Option.some.inj e; omega))
         have HB := hid (HB.out.trans (grown_below g (by omega) (by omega)))
         clear kKB0
         have kKB0 : v21.cell? ⟨v1.heap.size, 0, none⟩ = some (.int .i64 (k : Int)) := (BoxAt.cell KB.out 0).trans rfl
         clear kKB1
         have kKB1 : v21.cell? ⟨v1.heap.size, 1, none⟩ = some (.int .i64 kc) := (BoxAt.cell KB.out 1).trans rfl
         clear kKB2
         have kKB2 : v21.cell? ⟨v1.heap.size, 2, none⟩ = some (.int .i64 kv) := (BoxAt.cell KB.out 2).trans rfl
         clear b g z hfl FL19)
      | (refine wpList_load_box rfl 39 _ rfl v17.heap.size rfl _ _ QB.out _ Try.underlying39 Try.infoPa ?_)
      | (refine wpList_load_box rfl 57 _ rfl v18.heap.size rfl _ _ YB.out _ Try.underlying57 Try.infoPx ?_)
      | fail)
    refine (rwith_z (n := n) (c := { c with nx := wrap64 (c.nx + 1) }) k (y) (by rw [HQ.out]; exact PaZ.nx _ (HS0.out.below hn HB.out)) (by omega) HSm.out.pr HK.out).mono ?_
    rintro e v22 ⟨q', rfl, ho, hb⟩
    have PB := hid (PB.out.belowAll hb)
    have KB := hid (KB.out.belowAll hb)
    have RB := hid (RB.out.belowAll hb)
    have XB := hid (XB.out.belowAll hb)
    have QB := hid (QB.out.belowAll hb)
    have YB := hid (YB.out.belowAll hb)
    have HB := hid (HB.out.trans (hb.mono HB.out.size))
    have hsv22 : v21.heap.size ≤ v22.heap.size := hb.size
    rw [HY.out] at ho
    have HO := hid ho
    clear ho
    clear kKB0
    have kKB0 : v22.cell? ⟨v1.heap.size, 0, none⟩ = some (.int .i64 (k : Int)) := (BoxAt.cell KB.out 0).trans rfl
    clear kKB1
    have kKB1 : v22.cell? ⟨v1.heap.size, 1, none⟩ = some (.int .i64 kc) := (BoxAt.cell KB.out 1).trans rfl
    clear kKB2
    have kKB2 : v22.cell? ⟨v1.heap.size, 2, none⟩ = some (.int .i64 kv) := (BoxAt.cell KB.out 2).trans rfl
    clear hb
    have FL20 := hid trivial
    go_wp2_with (first
      | (have hfl := FL20.out
         refine wpList_store_whole rfl 39 _ _ rfl rfl v2.heap.size rfl (PaV.cells q') rfl _ _ RB.out rfl Try.infoPa (PaV.one _) ?_
         intro v23 b g z
         have hsv23 : v22.heap.size ≤ v23.heap.size := by omega
         have HO := hid (HO.out.put (by omega) (by omega) g RB.out b)
         have RB := hid (show BoxAt v23 v2.heap.size 39 (PaV.cells q').toArray from b)
         have PB := hid (PB.out.grown g (fun e => by have := Option.some.inj e; omega))
         have KB := hid (KB.out.grown g (fun e => by have := Option.some.inj e; omega))
         have XB := hid (XB.out.grown g (fun e => by have := Option.some.inj e; omega))
         have QB := hid (QB.out.grown g (fun e => by have := Option.some.inj e; omega))
         have YB := hid (YB.out.grown g (fun e => by have := Option.some.inj e; omega))
         have HB := hid (HB.out.trans (grown_below g (by omega) (by omega)))
         clear kKB0
         have kKB0 : v23.cell? ⟨v1.heap.size, 0, none⟩ = some (.int .i64 (k : Int)) := (BoxAt.cell KB.out 0).trans rfl
         clear kKB1
         have kKB1 : v23.cell? ⟨v1.heap.size, 1, none⟩ = some (.int .i64 kc) := (BoxAt.cell KB.out 1).trans rfl
         clear kKB2
         have kKB2 : v23.cell? ⟨v1.heap.size, 2, none⟩ = some (.int .i64 kv) := (BoxAt.cell KB.out 2).trans rfl
         clear b g z hfl FL20)
      | fail)
    refine bodyPost_ret (results_cell_row rfl _ _ (v2.heap.size) 39 _ (0, 0) _ rfl RB.out Try.underlying39 rfl Try.infoPa) rfl ?_
    rw [show goP c (k : Int) kc kv = { c with pr := c.pr.set k { x1 with si := c.nx }, nx := wrap64 (c.nx + 1) } from by unfold goP; rw [deed_does_q HK.out _ (by rw [HR.out]; exact HD.out)]]
    exact ⟨q', rfl, HO.out, HB.out⟩
  · have HD := hid (show goD kc kv r = ⟨r, false, 1⟩ from by unfold goD; rw [if_neg hst])
    have thst : (r.st == 2) = false := by simpa using hst
    have thsn : (r.st != 2) = true := by simpa using hst
    have FL21 := hid trivial
    have FL22 := hid trivial
    have FL23 := hid trivial
    go_wp2_with (first
      | (refine wpList_load_px rfl _ rfl b1 (off + k * 18) rfl r (HP0.out.below HB.out hbw) ?_)
      | (have hfl := FL21.out
         refine wpList_new rfl 57 rfl _ Try.zeroPx ?_
         intro v24 b h z
         have XB := hid (show BoxAt v24 v4.heap.size 57 (Px.cells Px.zero).toArray from b)
         have PB := hid (PB.out.belowAll h)
         have KB := hid (KB.out.belowAll h)
         have RB := hid (RB.out.belowAll h)
         have HB := hid (HB.out.trans (h.mono HB.out.size))
         have hsv24 : v4.heap.size + 1 ≤ v24.heap.size := by omega
         clear kPB4
         have kPB4 : v24.cell? ⟨w.heap.size, 4, none⟩ = some (.slice (some ⟨b1, off, none⟩) c.pr.length cpp) := (BoxAt.cell PB.out 4).trans (by show some q.pr.val = _; rw [HPv.out])
         clear kKB0
         have kKB0 : v24.cell? ⟨v1.heap.size, 0, none⟩ = some (.int .i64 (k : Int)) := (BoxAt.cell KB.out 0).trans rfl
         clear kKB1
         have kKB1 : v24.cell? ⟨v1.heap.size, 1, none⟩ = some (.int .i64 kc) := (BoxAt.cell KB.out 1).trans rfl
         clear kKB2
         have kKB2 : v24.cell? ⟨v1.heap.size, 2, none⟩ = some (.int .i64 kv) := (BoxAt.cell KB.out 2).trans rfl
         clear b h z hfl FL21)
      | (have hfl := FL22.out
         refine wpList_store_whole rfl 57 _ _ rfl rfl v4.heap.size rfl (Px.cells r) rfl _ _ XB.out rfl Try.infoPx (Px.one _) ?_
         intro v25 b g z
         have hsv25 : v24.heap.size ≤ v25.heap.size := by omega
         have XB := hid (show BoxAt v25 v4.heap.size 57 (Px.cells r).toArray from b)
         have PB := hid (PB.out.grown g (fun e => by have := Option.some.inj e; omega))
         have KB := hid (KB.out.grown g (fun e => by have := Option.some.inj e; omega))
         have RB := hid (RB.out.grown g (fun e => by have := Option.some.inj e; omega))
         have HB := hid (HB.out.trans (grown_below g (by omega) (by omega)))
         clear kPB4
         have kPB4 : v25.cell? ⟨w.heap.size, 4, none⟩ = some (.slice (some ⟨b1, off, none⟩) c.pr.length cpp) := (BoxAt.cell PB.out 4).trans (by show some q.pr.val = _; rw [HPv.out])
         clear kKB0
         have kKB0 : v25.cell? ⟨v1.heap.size, 0, none⟩ = some (.int .i64 (k : Int)) := (BoxAt.cell KB.out 0).trans rfl
         clear kKB1
         have kKB1 : v25.cell? ⟨v1.heap.size, 1, none⟩ = some (.int .i64 kc) := (BoxAt.cell KB.out 1).trans rfl
         clear kKB2
         have kKB2 : v25.cell? ⟨v1.heap.size, 2, none⟩ = some (.int .i64 kv) := (BoxAt.cell KB.out 2).trans rfl
         have kXB0 : v25.cell? ⟨v4.heap.size, 0, none⟩ = some (.int .i64 r.st) := (BoxAt.cell XB.out 0).trans rfl
         clear b g z hfl FL22)
      | (refine wpList_load_box rfl 39 _ rfl w.heap.size rfl _ _ PB.out _ Try.underlying39 Try.infoPa ?_)
      | (have hfl := FL23.out
         refine wpList_store_whole rfl 39 _ _ rfl rfl v2.heap.size rfl (PaV.cells q) rfl _ _ RB.out rfl Try.infoPa (PaV.one _) ?_
         intro v26 b g z
         have hsv26 : v25.heap.size ≤ v26.heap.size := by omega
         have RB := hid (show BoxAt v26 v2.heap.size 39 (PaV.cells q).toArray from b)
         have PB := hid (PB.out.grown g (fun e => by have := Option.some.inj e; omega))
         have KB := hid (KB.out.grown g (fun e => by have := Option.some.inj e; omega))
         have XB := hid (XB.out.grown g (fun e => by have := Option.some.inj e; omega))
         have HB := hid (HB.out.trans (grown_below g (by omega) (by omega)))
         clear kPB4
         have kPB4 : v26.cell? ⟨w.heap.size, 4, none⟩ = some (.slice (some ⟨b1, off, none⟩) c.pr.length cpp) := (BoxAt.cell PB.out 4).trans (by show some q.pr.val = _; rw [HPv.out])
         clear kKB0
         have kKB0 : v26.cell? ⟨v1.heap.size, 0, none⟩ = some (.int .i64 (k : Int)) := (BoxAt.cell KB.out 0).trans rfl
         clear kKB1
         have kKB1 : v26.cell? ⟨v1.heap.size, 1, none⟩ = some (.int .i64 kc) := (BoxAt.cell KB.out 1).trans rfl
         clear kKB2
         have kKB2 : v26.cell? ⟨v1.heap.size, 2, none⟩ = some (.int .i64 kv) := (BoxAt.cell KB.out 2).trans rfl
         clear kXB0
         have kXB0 : v26.cell? ⟨v4.heap.size, 0, none⟩ = some (.int .i64 r.st) := (BoxAt.cell XB.out 0).trans rfl
         clear b g z hfl FL23)
      | fail)
    refine bodyPost_ret (results_cell_row rfl _ _ (v2.heap.size) 39 _ (0, 0) _ rfl RB.out Try.underlying39 rfl Try.infoPa) rfl ?_
    rw [show goP c (k : Int) kc kv = c from by unfold goP; rw [deed_idle HK.out _ (by rw [HR.out]; exact HD.out)]]
    exact ⟨q, rfl, HS0.out.below hn HB.out, HB.out⟩

end Go.Proofs.Ytdanfnbclbiidaa
