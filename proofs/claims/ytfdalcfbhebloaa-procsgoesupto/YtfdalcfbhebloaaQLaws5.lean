/-
  ProcsGoes: who is blocked waits, and goes on with what its call returns in its registers; who is ready does not go on.
-/
import Derived.Test.YtfdalcfbhebloaaQLaws1
import Derived.Test.YtfdalcfbhebloaaQSame3E
import Derived.Test.YtfdalcfbhebloaaQLeaM
import Derived.Test.YtfdalcfbhebloaaQFacts3
namespace Go.Proofs.Ytfdalcfbhebloaa
open Go.RowKit
set_option linter.unusedVariables false

theorem Try.infoWkB : (Try.prog.info? 47).map (·.size) = some 3 := by kernel_rfl
set_option maxRecDepth 100000 in
set_option maxHeartbeats 12800000 in
theorem walk_ProcsGoes (w : World) (x0 : PaX) (f0 : x0.fit w) (x1 : Wk) (f1 : x1.fit) (ki : Int) (w2 : (Lit.int .i64 ki).wf = true) (un : Int) (w3 : (Lit.int .i64 un).wf = true) (hN : 2 * (x0.c.bo.length + x0.c.bu.length + x0.c.se.length + x0.c.ev.length) ≤ 1048576) :
    Calls Try.prog 9 #[x0.val, x1.val, .int .i64 ki, .int .i64 un] w fun e w' => e = .returned (.bool true) ∧ Below w.heap.size w w' := by
  obtain ⟨q, c⟩ := x0
  obtain ⟨kp, kc, kv⟩ := x1
  unfold PaX.val Wk.val
  simp only at hN ⊢
  have HA := hid f0.1
  have HNm := hid (show c.bo.length + c.bu.length + c.se.length + c.ev.length ≤ 900000 by omega)
  obtain ⟨ap, cpp, hpv, hp1, hp2, hpcell⟩ := HA.out.pr.form
  have hmax : cpp ≤ 9223372036854775807 := hp2
  have HPv := hid hpv
  have HPc := hid hpcell
  clear hpv hp2 hpcell
  clear hN f0 f1 w2 w3
  have HB := hid (Below.refl w.heap.size w)
  go_enter Try.func9, Try.ntmps9
  have FL1 := hid trivial
  have FL2 := hid trivial
  go_wp2_with (first
    | (have hfl := FL1.out
       refine wpList_box rfl 39 (.tmp 0) rfl (PaV.cells q).toArray rfl ?_
       intro v1 b h z
       have PB := hid (show BoxAt v1 w.heap.size 39 (PaV.cells q).toArray from b)
       have HB := hid (HB.out.trans (h.mono HB.out.size))
       have hsv1 : w.heap.size + 1 ≤ v1.heap.size := by omega
       clear b h z hfl FL1)
    | (have hfl := FL2.out
       refine wpList_box rfl 47 (.tmp 1) rfl [.int .i64 kp, .int .i64 kc, .int .i64 kv].toArray rfl ?_
       intro v2 b h z
       have KB := hid (show BoxAt v2 v1.heap.size 47 [.int .i64 kp, .int .i64 kc, .int .i64 kv].toArray from b)
       have PB := hid (PB.out.belowAll h)
       have HB := hid (HB.out.trans (h.mono HB.out.size))
       have hsv2 : v1.heap.size + 1 ≤ v2.heap.size := by omega
       clear b h z hfl FL2)
    | fail)
  refine (qawake_any _).mono ?_
  rintro e v3 ⟨rfl, hb⟩
  have PB := hid (PB.out.belowAll hb)
  have KB := hid (KB.out.belowAll hb)
  have HB := hid (HB.out.trans (hb.mono HB.out.size))
  have hsv3 : v2.heap.size ≤ v3.heap.size := hb.size
  clear hb
  go_wp2_with (first
    | (refine wpList_load_box rfl 39 _ rfl w.heap.size rfl _ _ PB.out _ Try.underlying39 Try.infoPa ?_)
    | fail)
  refine (few_tot (HA.out.below HB.out) HNm.out).mono ?_
  rintro e v4 ⟨⟨ok, rfl, hok⟩, hb⟩
  have PB := hid (PB.out.belowAll hb)
  have KB := hid (KB.out.belowAll hb)
  have HB := hid (HB.out.trans (hb.mono HB.out.size))
  have hsv4 : v3.heap.size ≤ v4.heap.size := hb.size
  have HOk := hid hok
  clear hok
  clear hb
  have kPB4 : v4.cell? ⟨w.heap.size, 4, none⟩ = some (.slice ap c.pr.length cpp) := (BoxAt.cell PB.out 4).trans (by show some q.pr.val = _; rw [HPv.out])
  have kKB0 : v4.cell? ⟨v1.heap.size, 0, none⟩ = some (.int .i64 kp) := (BoxAt.cell KB.out 0).trans rfl
  have kKB1 : v4.cell? ⟨v1.heap.size, 1, none⟩ = some (.int .i64 kc) := (BoxAt.cell KB.out 1).trans rfl
  have kKB2 : v4.cell? ⟨v1.heap.size, 2, none⟩ = some (.int .i64 kv) := (BoxAt.cell KB.out 2).trans rfl
  rcases ok with _ | _
  · go_wp2
    go_ret
    exact ⟨rfl, HB.out⟩
  have HT := hid (HOk.out rfl)
  have HSm := hid HT.out.small
  clear HOk
  by_cases hk0 : kp < 0
  · go_wp2
    go_ret
    exact ⟨rfl, HB.out⟩
  by_cases hk1 : (c.pr.length : Int) ≤ kp
  · go_wp2
    go_ret
    exact ⟨rfl, HB.out⟩
  obtain ⟨k, hki⟩ : ∃ k : Nat, kp = (k : Int) := ⟨kp.toNat, by omega⟩
  have hk : k < c.pr.length := by omega
  clear hk0 hk1
  subst hki
  clear kPB4
  obtain ⟨b1, off, rfl, hbw, hpx⟩ := HPc.out (by omega)
  have HP0 := hid (show PxAt w b1 (off + k * 18) (c.pr.getD k Px.zero) from fun j hj => hpx k hk j hj)
  clear hpx
  obtain ⟨r, hr⟩ : ∃ r, c.pr.getD k Px.zero = r := ⟨_, rfl⟩
  rw [hr] at HP0
  have HR := hid hr
  have HK := hid hk
  clear hr
  have kPB4 : v4.cell? ⟨w.heap.size, 4, none⟩ = some (.slice (some ⟨b1, off, none⟩) c.pr.length cpp) := (BoxAt.cell PB.out 4).trans (by show some q.pr.val = _; rw [HPv.out])
  have kKB0 : v4.cell? ⟨v1.heap.size, 0, none⟩ = some (.int .i64 (k : Int)) := (BoxAt.cell KB.out 0).trans rfl
  have kKB1 : v4.cell? ⟨v1.heap.size, 1, none⟩ = some (.int .i64 kc) := (BoxAt.cell KB.out 1).trans rfl
  have kKB2 : v4.cell? ⟨v1.heap.size, 2, none⟩ = some (.int .i64 kv) := (BoxAt.cell KB.out 2).trans rfl
  have tk0 : decide ((k : Int) < 0) = false := decide_eq_false (by omega)
  have tk1 : decide (c.pr.length ≤ k) = false := decide_eq_false (by omega)
  by_cases hst : r.st = 1
  · have HSt := hid hst
    have FL3 := hid trivial
    have FL4 := hid trivial
    go_wp2_with (first
      | (refine wpList_load_px rfl _ rfl b1 (off + k * 18) rfl r (HP0.out.below HB.out hbw) ?_)
      | (have hfl := FL3.out
         refine wpList_new rfl 58 rfl _ Try.zeroPx ?_
         intro v5 b h z
         have XB := hid (show BoxAt v5 v4.heap.size 58 (Px.cells Px.zero).toArray from b)
         have PB := hid (PB.out.belowAll h)
         have KB := hid (KB.out.belowAll h)
         have HB := hid (HB.out.trans (h.mono HB.out.size))
         have hsv5 : v4.heap.size + 1 ≤ v5.heap.size := by omega
         clear kPB4
         have kPB4 : v5.cell? ⟨w.heap.size, 4, none⟩ = some (.slice (some ⟨b1, off, none⟩) c.pr.length cpp) := (BoxAt.cell PB.out 4).trans (by show some q.pr.val = _; rw [HPv.out])
         clear kKB0
         have kKB0 : v5.cell? ⟨v1.heap.size, 0, none⟩ = some (.int .i64 (k : Int)) := (BoxAt.cell KB.out 0).trans rfl
         clear kKB1
         have kKB1 : v5.cell? ⟨v1.heap.size, 1, none⟩ = some (.int .i64 kc) := (BoxAt.cell KB.out 1).trans rfl
         clear kKB2
         have kKB2 : v5.cell? ⟨v1.heap.size, 2, none⟩ = some (.int .i64 kv) := (BoxAt.cell KB.out 2).trans rfl
         clear b h z hfl FL3)
      | (have hfl := FL4.out
         refine wpList_store_whole rfl 58 _ _ rfl rfl v4.heap.size rfl (Px.cells r) rfl _ _ XB.out rfl Try.infoPx (Px.one _) ?_
         intro v6 b g z
         have hsv6 : v5.heap.size ≤ v6.heap.size := by omega
         have XB := hid (show BoxAt v6 v4.heap.size 58 (Px.cells r).toArray from b)
         have PB := hid (PB.out.grown g (fun e => by have := Option.some.inj e; omega))
         have KB := hid (KB.out.grown g (fun e => by have := Option.some.inj e; omega))
         have HB := hid (HB.out.trans (grown_below g (by omega) (by omega)))
         clear kPB4
         have kPB4 : v6.cell? ⟨w.heap.size, 4, none⟩ = some (.slice (some ⟨b1, off, none⟩) c.pr.length cpp) := (BoxAt.cell PB.out 4).trans (by show some q.pr.val = _; rw [HPv.out])
         clear kKB0
         have kKB0 : v6.cell? ⟨v1.heap.size, 0, none⟩ = some (.int .i64 (k : Int)) := (BoxAt.cell KB.out 0).trans rfl
         clear kKB1
         have kKB1 : v6.cell? ⟨v1.heap.size, 1, none⟩ = some (.int .i64 kc) := (BoxAt.cell KB.out 1).trans rfl
         clear kKB2
         have kKB2 : v6.cell? ⟨v1.heap.size, 2, none⟩ = some (.int .i64 kv) := (BoxAt.cell KB.out 2).trans rfl
         have kXB0 : v6.cell? ⟨v4.heap.size, 0, none⟩ = some (.int .i64 r.st) := (BoxAt.cell XB.out 0).trans rfl
         have kXB3 : v6.cell? ⟨v4.heap.size, 3, none⟩ = some (.int .i64 r.pc) := (BoxAt.cell XB.out 3).trans rfl
         clear b g z hfl FL4)
      | (refine wpList_load_box rfl 39 _ rfl w.heap.size rfl _ _ PB.out _ Try.underlying39 Try.infoPa ?_)
      | fail)
    obtain ⟨C1, hC1⟩ : ∃ C, blockP c (k : Int) ki 0 un 3 = C := ⟨_, rfl⟩
    have HL1 := hid (show C1.pr.length = c.pr.length by rw [← hC1]; exact block_len _ _ _ _ _ _)
    have HS1 := hid (show C1.small by rw [← hC1]; exact block_small HSm.out _ _ _ _ _)
    have HC1 := hid hC1
    clear hC1
    refine (block_api (i := (k : Int)) (ki := ki) (ob := 0) (un := un) (ca := 3) (HA.out.below HB.out) HSm.out).mono ?_
    rintro e v7 ⟨qa, rfl, ho, hb⟩
    have PB := hid (PB.out.belowAll hb)
    have KB := hid (KB.out.belowAll hb)
    have XB := hid (XB.out.belowAll hb)
    have HB := hid (HB.out.trans (hb.mono HB.out.size))
    have hsv7 : v6.heap.size ≤ v7.heap.size := hb.size
    rw [HC1.out] at ho
    have HO1 := hid ho
    obtain ⟨a1, cp1, hv, hm0, hm1, hg⟩ := row_form ho.pr
    rw [HL1.out] at hv hm0 hg
    have HV1 := hid hv
    have HG1 := hid hg
    have hcl1 : c.pr.length ≤ cp1 := hm0
    have hcm1 : cp1 ≤ 9223372036854775807 := hm1
    clear ho hv hm0 hm1 hg
    clear kPB4
    have kPB4 : v7.cell? ⟨w.heap.size, 4, none⟩ = some (.slice (some ⟨b1, off, none⟩) c.pr.length cpp) := (BoxAt.cell PB.out 4).trans (by show some q.pr.val = _; rw [HPv.out])
    clear kKB0
    have kKB0 : v7.cell? ⟨v1.heap.size, 0, none⟩ = some (.int .i64 (k : Int)) := (BoxAt.cell KB.out 0).trans rfl
    clear kKB1
    have kKB1 : v7.cell? ⟨v1.heap.size, 1, none⟩ = some (.int .i64 kc) := (BoxAt.cell KB.out 1).trans rfl
    clear kKB2
    have kKB2 : v7.cell? ⟨v1.heap.size, 2, none⟩ = some (.int .i64 kv) := (BoxAt.cell KB.out 2).trans rfl
    clear kXB0
    have kXB0 : v7.cell? ⟨v4.heap.size, 0, none⟩ = some (.int .i64 r.st) := (BoxAt.cell XB.out 0).trans rfl
    clear kXB3
    have kXB3 : v7.cell? ⟨v4.heap.size, 3, none⟩ = some (.int .i64 r.pc) := (BoxAt.cell XB.out 3).trans rfl
    clear hb
    have HBa := hid (Below.refl v7.heap.size v7)
    obtain ⟨y1, hy1⟩ : ∃ y : Px, { r with st := 2, ki := ki, ob := 0, un := un, ca := 3 } = y := ⟨_, rfl⟩
    have HE1 := hid (show C1.pr.getD k Px.zero = y1 from by rw [← HC1.out, block_at HK.out (by rw [HR.out]; exact hst), HR.out, hy1])
    have HY1 := hid hy1
    clear hy1
    obtain ⟨g1, ha1, _, hgl1⟩ := HG1.out (by omega)
    subst ha1
    have HP1 := hid (show PxAt v7 g1 (k * 18) y1 from by have h4 := HO1.out.pr; rw [HV1.out, ← HL1.out] at h4; have h5 := OP.at h4 k (by rw [HL1.out]; exact HK.out); rw [HE1.out] at h5; exact h5)
    have FL5 := hid trivial
    have FL6 := hid trivial
    go_wp2_with (first
      | (have hfl := FL5.out
         refine wpList_new rfl 39 rfl _ Try.zeroPa ?_
         intro v8 b h z
         have QB := hid (show BoxAt v8 v7.heap.size 39 (PaV.cells PaV.zero).toArray from b)
         have PB := hid (PB.out.belowAll h)
         have KB := hid (KB.out.belowAll h)
         have XB := hid (XB.out.belowAll h)
         have HBa := hid (HBa.out.trans (h.mono (by omega)))
         have HB := hid (HB.out.trans (h.mono HB.out.size))
         have hsv8 : v7.heap.size + 1 ≤ v8.heap.size := by omega
         clear kPB4
         have kPB4 : v8.cell? ⟨w.heap.size, 4, none⟩ = some (.slice (some ⟨b1, off, none⟩) c.pr.length cpp) := (BoxAt.cell PB.out 4).trans (by show some q.pr.val = _; rw [HPv.out])
         clear kKB0
         have kKB0 : v8.cell? ⟨v1.heap.size, 0, none⟩ = some (.int .i64 (k : Int)) := (BoxAt.cell KB.out 0).trans rfl
         clear kKB1
         have kKB1 : v8.cell? ⟨v1.heap.size, 1, none⟩ = some (.int .i64 kc) := (BoxAt.cell KB.out 1).trans rfl
         clear kKB2
         have kKB2 : v8.cell? ⟨v1.heap.size, 2, none⟩ = some (.int .i64 kv) := (BoxAt.cell KB.out 2).trans rfl
         clear kXB0
         have kXB0 : v8.cell? ⟨v4.heap.size, 0, none⟩ = some (.int .i64 r.st) := (BoxAt.cell XB.out 0).trans rfl
         clear kXB3
         have kXB3 : v8.cell? ⟨v4.heap.size, 3, none⟩ = some (.int .i64 r.pc) := (BoxAt.cell XB.out 3).trans rfl
         clear b h z hfl FL5)
      | (have hfl := FL6.out
         refine wpList_store_whole rfl 39 _ _ rfl rfl v7.heap.size rfl (PaV.cells qa) rfl _ _ QB.out rfl Try.infoPa (PaV.one _) ?_
         intro v9 b g z
         have hsv9 : v8.heap.size ≤ v9.heap.size := by omega
         have HBa := hid (HBa.out.trans (grown_below g (by omega) (by omega)))
         have QB := hid (show BoxAt v9 v7.heap.size 39 (PaV.cells qa).toArray from b)
         have PB := hid (PB.out.grown g (fun e => by have := Option.some.inj e; omega))
         have KB := hid (KB.out.grown g (fun e => by have := Option.some.inj e; omega))
         have XB := hid (XB.out.grown g (fun e => by have := Option.some.inj e; omega))
         have HB := hid (HB.out.trans (grown_below g (by omega) (by omega)))
         clear kPB4
         have kPB4 : v9.cell? ⟨w.heap.size, 4, none⟩ = some (.slice (some ⟨b1, off, none⟩) c.pr.length cpp) := (BoxAt.cell PB.out 4).trans (by show some q.pr.val = _; rw [HPv.out])
         clear kKB0
         have kKB0 : v9.cell? ⟨v1.heap.size, 0, none⟩ = some (.int .i64 (k : Int)) := (BoxAt.cell KB.out 0).trans rfl
         clear kKB1
         have kKB1 : v9.cell? ⟨v1.heap.size, 1, none⟩ = some (.int .i64 kc) := (BoxAt.cell KB.out 1).trans rfl
         clear kKB2
         have kKB2 : v9.cell? ⟨v1.heap.size, 2, none⟩ = some (.int .i64 kv) := (BoxAt.cell KB.out 2).trans rfl
         clear kXB0
         have kXB0 : v9.cell? ⟨v4.heap.size, 0, none⟩ = some (.int .i64 r.st) := (BoxAt.cell XB.out 0).trans rfl
         clear kXB3
         have kXB3 : v9.cell? ⟨v4.heap.size, 3, none⟩ = some (.int .i64 r.pc) := (BoxAt.cell XB.out 3).trans rfl
         have kQB4 : v9.cell? ⟨v7.heap.size, 4, none⟩ = some (.slice (some ⟨g1, 0, none⟩) c.pr.length cp1) := (BoxAt.cell QB.out 4).trans (by show some qa.pr.val = _; rw [HV1.out])
         clear b g z hfl FL6)
      | (refine wpList_load_box rfl 39 _ rfl v7.heap.size rfl _ _ QB.out _ Try.underlying39 Try.infoPa ?_)
      | (refine wpList_load_box rfl 47 _ rfl v1.heap.size rfl _ _ KB.out _ Try.underlying47 Try.infoWkB ?_)
      | fail)
    obtain ⟨C2, hC2⟩ : ∃ C, goP C1 (k : Int) kc kv = C := ⟨_, rfl⟩
    have HL2 := hid (show C2.pr.length = c.pr.length by rw [← hC2]; exact (go_len _ _ _ _).trans HL1.out)
    obtain ⟨z1, hz1⟩ : ∃ y : Px, { y1 with st := 1, un := -1, ki := 0, ob := 0, pe := true, co := kc, va := kv, r0 := kc, r1 := kv, si := C1.nx } = y := ⟨_, rfl⟩
    have HE2 := hid (show C2.pr.getD k Px.zero = z1 from by rw [← hC2, go_at (by rw [HL1.out]; exact HK.out) (by rw [HE1.out, ← HY1.out]), HE1.out, hz1])
    have HZ1 := hid hz1
    have HC2 := hid hC2
    clear hz1 hC2
    refine (go_api (k := ⟨(k : Int), kc, kv⟩) (HO1.out.below HBa.out).sees HS1.out).mono ?_
    rintro e v10 ⟨qb, rfl, ho, hb⟩
    have PB := hid (PB.out.belowAll hb)
    have KB := hid (KB.out.belowAll hb)
    have XB := hid (XB.out.belowAll hb)
    have QB := hid (QB.out.belowAll hb)
    have HBa := hid (HBa.out.trans (hb.mono (by omega)))
    have HB := hid (HB.out.trans (hb.mono HB.out.size))
    have hsv10 : v9.heap.size ≤ v10.heap.size := hb.size
    rw [HC2.out] at ho
    have HO2 := hid ho
    obtain ⟨a2, cp2, hv, hm0, hm1, hg⟩ := row_form ho.pr
    rw [HL2.out] at hv hm0 hg
    have HV2 := hid hv
    have HG2 := hid hg
    have hcl2 : c.pr.length ≤ cp2 := hm0
    have hcm2 : cp2 ≤ 9223372036854775807 := hm1
    clear ho hv hm0 hm1 hg
    clear kPB4
    have kPB4 : v10.cell? ⟨w.heap.size, 4, none⟩ = some (.slice (some ⟨b1, off, none⟩) c.pr.length cpp) := (BoxAt.cell PB.out 4).trans (by show some q.pr.val = _; rw [HPv.out])
    clear kKB0
    have kKB0 : v10.cell? ⟨v1.heap.size, 0, none⟩ = some (.int .i64 (k : Int)) := (BoxAt.cell KB.out 0).trans rfl
    clear kKB1
    have kKB1 : v10.cell? ⟨v1.heap.size, 1, none⟩ = some (.int .i64 kc) := (BoxAt.cell KB.out 1).trans rfl
    clear kKB2
    have kKB2 : v10.cell? ⟨v1.heap.size, 2, none⟩ = some (.int .i64 kv) := (BoxAt.cell KB.out 2).trans rfl
    clear kXB0
    have kXB0 : v10.cell? ⟨v4.heap.size, 0, none⟩ = some (.int .i64 r.st) := (BoxAt.cell XB.out 0).trans rfl
    clear kXB3
    have kXB3 : v10.cell? ⟨v4.heap.size, 3, none⟩ = some (.int .i64 r.pc) := (BoxAt.cell XB.out 3).trans rfl
    clear kQB4
    have kQB4 : v10.cell? ⟨v7.heap.size, 4, none⟩ = some (.slice (some ⟨g1, 0, none⟩) c.pr.length cp1) := (BoxAt.cell QB.out 4).trans (by show some qa.pr.val = _; rw [HV1.out])
    clear hb
    have HBb := hid (Below.refl v10.heap.size v10)
    obtain ⟨g2, ha2, _, hgl2⟩ := HG2.out (by omega)
    subst ha2
    have HP2 := hid (show PxAt v10 g2 (k * 18) z1 from by have h4 := HO2.out.pr; rw [HV2.out, ← HL2.out] at h4; have h5 := OP.at h4 k (by rw [HL2.out]; exact HK.out); rw [HE2.out] at h5; exact h5)
    have FL7 := hid trivial
    have FL8 := hid trivial
    have FL9 := hid trivial
    have FL10 := hid trivial
    have FL11 := hid trivial
    have FL12 := hid trivial
    go_wp2_with (first
      | (have hfl := FL7.out
         refine wpList_new rfl 39 rfl _ Try.zeroPa ?_
         intro v11 b h z
         have TB := hid (show BoxAt v11 v10.heap.size 39 (PaV.cells PaV.zero).toArray from b)
         have PB := hid (PB.out.belowAll h)
         have KB := hid (KB.out.belowAll h)
         have XB := hid (XB.out.belowAll h)
         have QB := hid (QB.out.belowAll h)
         have HBa := hid (HBa.out.trans (h.mono (by omega)))
         have HBb := hid (HBb.out.trans (h.mono (by omega)))
         have HB := hid (HB.out.trans (h.mono HB.out.size))
         have hsv11 : v10.heap.size + 1 ≤ v11.heap.size := by omega
         clear kPB4
         have kPB4 : v11.cell? ⟨w.heap.size, 4, none⟩ = some (.slice (some ⟨b1, off, none⟩) c.pr.length cpp) := (BoxAt.cell PB.out 4).trans (by show some q.pr.val = _; rw [HPv.out])
         clear kKB0
         have kKB0 : v11.cell? ⟨v1.heap.size, 0, none⟩ = some (.int .i64 (k : Int)) := (BoxAt.cell KB.out 0).trans rfl
         clear kKB1
         have kKB1 : v11.cell? ⟨v1.heap.size, 1, none⟩ = some (.int .i64 kc) := (BoxAt.cell KB.out 1).trans rfl
         clear kKB2
         have kKB2 : v11.cell? ⟨v1.heap.size, 2, none⟩ = some (.int .i64 kv) := (BoxAt.cell KB.out 2).trans rfl
         clear kXB0
         have kXB0 : v11.cell? ⟨v4.heap.size, 0, none⟩ = some (.int .i64 r.st) := (BoxAt.cell XB.out 0).trans rfl
         clear kXB3
         have kXB3 : v11.cell? ⟨v4.heap.size, 3, none⟩ = some (.int .i64 r.pc) := (BoxAt.cell XB.out 3).trans rfl
         clear kQB4
         have kQB4 : v11.cell? ⟨v7.heap.size, 4, none⟩ = some (.slice (some ⟨g1, 0, none⟩) c.pr.length cp1) := (BoxAt.cell QB.out 4).trans (by show some qa.pr.val = _; rw [HV1.out])
         clear b h z hfl FL7)
      | (have hfl := FL8.out
         refine wpList_store_whole rfl 39 _ _ rfl rfl v10.heap.size rfl (PaV.cells qb) rfl _ _ TB.out rfl Try.infoPa (PaV.one _) ?_
         intro v12 b g z
         have hsv12 : v11.heap.size ≤ v12.heap.size := by omega
         have HBa := hid (HBa.out.trans (grown_below g (by omega) (by omega)))
         have HBb := hid (HBb.out.trans (grown_below g (by omega) (by omega)))
         have TB := hid (show BoxAt v12 v10.heap.size 39 (PaV.cells qb).toArray from b)
         have PB := hid (PB.out.grown g (fun e => by have := Option.some.inj e; omega))
         have KB := hid (KB.out.grown g (fun e => by have := Option.some.inj e; omega))
         have XB := hid (XB.out.grown g (fun e => by have := Option.some.inj e; omega))
         have QB := hid (QB.out.grown g (fun e => by have := Option.some.inj e; omega))
         have HB := hid (HB.out.trans (grown_below g (by omega) (by omega)))
         clear kPB4
         have kPB4 : v12.cell? ⟨w.heap.size, 4, none⟩ = some (.slice (some ⟨b1, off, none⟩) c.pr.length cpp) := (BoxAt.cell PB.out 4).trans (by show some q.pr.val = _; rw [HPv.out])
         clear kKB0
         have kKB0 : v12.cell? ⟨v1.heap.size, 0, none⟩ = some (.int .i64 (k : Int)) := (BoxAt.cell KB.out 0).trans rfl
         clear kKB1
         have kKB1 : v12.cell? ⟨v1.heap.size, 1, none⟩ = some (.int .i64 kc) := (BoxAt.cell KB.out 1).trans rfl
         clear kKB2
         have kKB2 : v12.cell? ⟨v1.heap.size, 2, none⟩ = some (.int .i64 kv) := (BoxAt.cell KB.out 2).trans rfl
         clear kXB0
         have kXB0 : v12.cell? ⟨v4.heap.size, 0, none⟩ = some (.int .i64 r.st) := (BoxAt.cell XB.out 0).trans rfl
         clear kXB3
         have kXB3 : v12.cell? ⟨v4.heap.size, 3, none⟩ = some (.int .i64 r.pc) := (BoxAt.cell XB.out 3).trans rfl
         clear kQB4
         have kQB4 : v12.cell? ⟨v7.heap.size, 4, none⟩ = some (.slice (some ⟨g1, 0, none⟩) c.pr.length cp1) := (BoxAt.cell QB.out 4).trans (by show some qa.pr.val = _; rw [HV1.out])
         have kTB4 : v12.cell? ⟨v10.heap.size, 4, none⟩ = some (.slice (some ⟨g2, 0, none⟩) c.pr.length cp2) := (BoxAt.cell TB.out 4).trans (by show some qb.pr.val = _; rw [HV2.out])
         clear b g z hfl FL8)
      | (refine wpList_load_px rfl _ rfl g1 (k * 18) rfl y1 (HP1.out.below HBa.out (by omega)) ?_)
      | (have hfl := FL9.out
         refine wpList_new rfl 58 rfl _ Try.zeroPx ?_
         intro v13 b h z
         have YB := hid (show BoxAt v13 v12.heap.size 58 (Px.cells Px.zero).toArray from b)
         have PB := hid (PB.out.belowAll h)
         have KB := hid (KB.out.belowAll h)
         have XB := hid (XB.out.belowAll h)
         have QB := hid (QB.out.belowAll h)
         have TB := hid (TB.out.belowAll h)
         have HBa := hid (HBa.out.trans (h.mono (by omega)))
         have HBb := hid (HBb.out.trans (h.mono (by omega)))
         have HB := hid (HB.out.trans (h.mono HB.out.size))
         have hsv13 : v12.heap.size + 1 ≤ v13.heap.size := by omega
         clear kPB4
         have kPB4 : v13.cell? ⟨w.heap.size, 4, none⟩ = some (.slice (some ⟨b1, off, none⟩) c.pr.length cpp) := (BoxAt.cell PB.out 4).trans (by show some q.pr.val = _; rw [HPv.out])
         clear kKB0
         have kKB0 : v13.cell? ⟨v1.heap.size, 0, none⟩ = some (.int .i64 (k : Int)) := (BoxAt.cell KB.out 0).trans rfl
         clear kKB1
         have kKB1 : v13.cell? ⟨v1.heap.size, 1, none⟩ = some (.int .i64 kc) := (BoxAt.cell KB.out 1).trans rfl
         clear kKB2
         have kKB2 : v13.cell? ⟨v1.heap.size, 2, none⟩ = some (.int .i64 kv) := (BoxAt.cell KB.out 2).trans rfl
         clear kXB0
         have kXB0 : v13.cell? ⟨v4.heap.size, 0, none⟩ = some (.int .i64 r.st) := (BoxAt.cell XB.out 0).trans rfl
         clear kXB3
         have kXB3 : v13.cell? ⟨v4.heap.size, 3, none⟩ = some (.int .i64 r.pc) := (BoxAt.cell XB.out 3).trans rfl
         clear kQB4
         have kQB4 : v13.cell? ⟨v7.heap.size, 4, none⟩ = some (.slice (some ⟨g1, 0, none⟩) c.pr.length cp1) := (BoxAt.cell QB.out 4).trans (by show some qa.pr.val = _; rw [HV1.out])
         clear kTB4
         have kTB4 : v13.cell? ⟨v10.heap.size, 4, none⟩ = some (.slice (some ⟨g2, 0, none⟩) c.pr.length cp2) := (BoxAt.cell TB.out 4).trans (by show some qb.pr.val = _; rw [HV2.out])
         clear b h z hfl FL9)
      | (have hfl := FL10.out
         refine wpList_store_whole rfl 58 _ _ rfl rfl v12.heap.size rfl (Px.cells y1) rfl _ _ YB.out rfl Try.infoPx (Px.one _) ?_
         intro v14 b g z
         have hsv14 : v13.heap.size ≤ v14.heap.size := by omega
         have HBa := hid (HBa.out.trans (grown_below g (by omega) (by omega)))
         have HBb := hid (HBb.out.trans (grown_below g (by omega) (by omega)))
         have YB := hid (show BoxAt v14 v12.heap.size 58 (Px.cells y1).toArray from b)
         have PB := hid (PB.out.grown g (fun e => by have := Option.some.inj e; omega))
         have KB := hid (KB.out.grown g (fun e => by have := Option.some.inj e; omega))
         have XB := hid (XB.out.grown g (fun e => by have := Option.some.inj e; omega))
         have QB := hid (QB.out.grown g (fun e => by have := Option.some.inj e; omega))
         have TB := hid (TB.out.grown g (fun e => by have := Option.some.inj e; omega))
         have HB := hid (HB.out.trans (grown_below g (by omega) (by omega)))
         clear kPB4
         have kPB4 : v14.cell? ⟨w.heap.size, 4, none⟩ = some (.slice (some ⟨b1, off, none⟩) c.pr.length cpp) := (BoxAt.cell PB.out 4).trans (by show some q.pr.val = _; rw [HPv.out])
         clear kKB0
         have kKB0 : v14.cell? ⟨v1.heap.size, 0, none⟩ = some (.int .i64 (k : Int)) := (BoxAt.cell KB.out 0).trans rfl
         clear kKB1
         have kKB1 : v14.cell? ⟨v1.heap.size, 1, none⟩ = some (.int .i64 kc) := (BoxAt.cell KB.out 1).trans rfl
         clear kKB2
         have kKB2 : v14.cell? ⟨v1.heap.size, 2, none⟩ = some (.int .i64 kv) := (BoxAt.cell KB.out 2).trans rfl
         clear kXB0
         have kXB0 : v14.cell? ⟨v4.heap.size, 0, none⟩ = some (.int .i64 r.st) := (BoxAt.cell XB.out 0).trans rfl
         clear kXB3
         have kXB3 : v14.cell? ⟨v4.heap.size, 3, none⟩ = some (.int .i64 r.pc) := (BoxAt.cell XB.out 3).trans rfl
         clear kQB4
         have kQB4 : v14.cell? ⟨v7.heap.size, 4, none⟩ = some (.slice (some ⟨g1, 0, none⟩) c.pr.length cp1) := (BoxAt.cell QB.out 4).trans (by show some qa.pr.val = _; rw [HV1.out])
         clear kTB4
         have kTB4 : v14.cell? ⟨v10.heap.size, 4, none⟩ = some (.slice (some ⟨g2, 0, none⟩) c.pr.length cp2) := (BoxAt.cell TB.out 4).trans (by show some qb.pr.val = _; rw [HV2.out])
         have kYB0 : v14.cell? ⟨v12.heap.size, 0, none⟩ = some (.int .i64 2) := (BoxAt.cell YB.out 0).trans (by rw [← HY1.out]; rfl)
         have kYB10 : v14.cell? ⟨v12.heap.size, 10, none⟩ = some (.int .i64 ki) := (BoxAt.cell YB.out 10).trans (by rw [← HY1.out]; rfl)
         have kYB9 : v14.cell? ⟨v12.heap.size, 9, none⟩ = some (.int .i64 un) := (BoxAt.cell YB.out 9).trans (by rw [← HY1.out]; rfl)
         clear b g z hfl FL10)
      | (refine wpList_load_px rfl _ rfl g2 (k * 18) rfl z1 (HP2.out.below HBb.out (by omega)) ?_)
      | (have hfl := FL11.out
         refine wpList_new rfl 58 rfl _ Try.zeroPx ?_
         intro v15 b h z
         have ZB := hid (show BoxAt v15 v14.heap.size 58 (Px.cells Px.zero).toArray from b)
         have PB := hid (PB.out.belowAll h)
         have KB := hid (KB.out.belowAll h)
         have XB := hid (XB.out.belowAll h)
         have QB := hid (QB.out.belowAll h)
         have TB := hid (TB.out.belowAll h)
         have YB := hid (YB.out.belowAll h)
         have HBa := hid (HBa.out.trans (h.mono (by omega)))
         have HBb := hid (HBb.out.trans (h.mono (by omega)))
         have HB := hid (HB.out.trans (h.mono HB.out.size))
         have hsv15 : v14.heap.size + 1 ≤ v15.heap.size := by omega
         clear kPB4
         have kPB4 : v15.cell? ⟨w.heap.size, 4, none⟩ = some (.slice (some ⟨b1, off, none⟩) c.pr.length cpp) := (BoxAt.cell PB.out 4).trans (by show some q.pr.val = _; rw [HPv.out])
         clear kKB0
         have kKB0 : v15.cell? ⟨v1.heap.size, 0, none⟩ = some (.int .i64 (k : Int)) := (BoxAt.cell KB.out 0).trans rfl
         clear kKB1
         have kKB1 : v15.cell? ⟨v1.heap.size, 1, none⟩ = some (.int .i64 kc) := (BoxAt.cell KB.out 1).trans rfl
         clear kKB2
         have kKB2 : v15.cell? ⟨v1.heap.size, 2, none⟩ = some (.int .i64 kv) := (BoxAt.cell KB.out 2).trans rfl
         clear kXB0
         have kXB0 : v15.cell? ⟨v4.heap.size, 0, none⟩ = some (.int .i64 r.st) := (BoxAt.cell XB.out 0).trans rfl
         clear kXB3
         have kXB3 : v15.cell? ⟨v4.heap.size, 3, none⟩ = some (.int .i64 r.pc) := (BoxAt.cell XB.out 3).trans rfl
         clear kQB4
         have kQB4 : v15.cell? ⟨v7.heap.size, 4, none⟩ = some (.slice (some ⟨g1, 0, none⟩) c.pr.length cp1) := (BoxAt.cell QB.out 4).trans (by show some qa.pr.val = _; rw [HV1.out])
         clear kTB4
         have kTB4 : v15.cell? ⟨v10.heap.size, 4, none⟩ = some (.slice (some ⟨g2, 0, none⟩) c.pr.length cp2) := (BoxAt.cell TB.out 4).trans (by show some qb.pr.val = _; rw [HV2.out])
         clear kYB0
         have kYB0 : v15.cell? ⟨v12.heap.size, 0, none⟩ = some (.int .i64 2) := (BoxAt.cell YB.out 0).trans (by rw [← HY1.out]; rfl)
         clear kYB10
         have kYB10 : v15.cell? ⟨v12.heap.size, 10, none⟩ = some (.int .i64 ki) := (BoxAt.cell YB.out 10).trans (by rw [← HY1.out]; rfl)
         clear kYB9
         have kYB9 : v15.cell? ⟨v12.heap.size, 9, none⟩ = some (.int .i64 un) := (BoxAt.cell YB.out 9).trans (by rw [← HY1.out]; rfl)
         clear b h z hfl FL11)
      | (have hfl := FL12.out
         refine wpList_store_whole rfl 58 _ _ rfl rfl v14.heap.size rfl (Px.cells z1) rfl _ _ ZB.out rfl Try.infoPx (Px.one _) ?_
         intro v16 b g z
         have hsv16 : v15.heap.size ≤ v16.heap.size := by omega
         have HBa := hid (HBa.out.trans (grown_below g (by omega) (by omega)))
         have HBb := hid (HBb.out.trans (grown_below g (by omega) (by omega)))
         have ZB := hid (show BoxAt v16 v14.heap.size 58 (Px.cells z1).toArray from b)
         have PB := hid (PB.out.grown g (fun e => by have := Option.some.inj e; omega))
         have KB := hid (KB.out.grown g (fun e => by have := Option.some.inj e; omega))
         have XB := hid (XB.out.grown g (fun e => by have := Option.some.inj e; omega))
         have QB := hid (QB.out.grown g (fun e => by have := Option.some.inj e; omega))
         have TB := hid (TB.out.grown g (fun e => by have := Option.some.inj e; omega))
         have YB := hid (YB.out.grown g (fun e => by have := Option.some.inj e; omega))
         have HB := hid (HB.out.trans (grown_below g (by omega) (by omega)))
         clear kPB4
         have kPB4 : v16.cell? ⟨w.heap.size, 4, none⟩ = some (.slice (some ⟨b1, off, none⟩) c.pr.length cpp) := (BoxAt.cell PB.out 4).trans (by show some q.pr.val = _; rw [HPv.out])
         clear kKB0
         have kKB0 : v16.cell? ⟨v1.heap.size, 0, none⟩ = some (.int .i64 (k : Int)) := (BoxAt.cell KB.out 0).trans rfl
         clear kKB1
         have kKB1 : v16.cell? ⟨v1.heap.size, 1, none⟩ = some (.int .i64 kc) := (BoxAt.cell KB.out 1).trans rfl
         clear kKB2
         have kKB2 : v16.cell? ⟨v1.heap.size, 2, none⟩ = some (.int .i64 kv) := (BoxAt.cell KB.out 2).trans rfl
         clear kXB0
         have kXB0 : v16.cell? ⟨v4.heap.size, 0, none⟩ = some (.int .i64 r.st) := (BoxAt.cell XB.out 0).trans rfl
         clear kXB3
         have kXB3 : v16.cell? ⟨v4.heap.size, 3, none⟩ = some (.int .i64 r.pc) := (BoxAt.cell XB.out 3).trans rfl
         clear kQB4
         have kQB4 : v16.cell? ⟨v7.heap.size, 4, none⟩ = some (.slice (some ⟨g1, 0, none⟩) c.pr.length cp1) := (BoxAt.cell QB.out 4).trans (by show some qa.pr.val = _; rw [HV1.out])
         clear kTB4
         have kTB4 : v16.cell? ⟨v10.heap.size, 4, none⟩ = some (.slice (some ⟨g2, 0, none⟩) c.pr.length cp2) := (BoxAt.cell TB.out 4).trans (by show some qb.pr.val = _; rw [HV2.out])
         clear kYB0
         have kYB0 : v16.cell? ⟨v12.heap.size, 0, none⟩ = some (.int .i64 2) := (BoxAt.cell YB.out 0).trans (by rw [← HY1.out]; rfl)
         clear kYB10
         have kYB10 : v16.cell? ⟨v12.heap.size, 10, none⟩ = some (.int .i64 ki) := (BoxAt.cell YB.out 10).trans (by rw [← HY1.out]; rfl)
         clear kYB9
         have kYB9 : v16.cell? ⟨v12.heap.size, 9, none⟩ = some (.int .i64 un) := (BoxAt.cell YB.out 9).trans (by rw [← HY1.out]; rfl)
         have kZB0 : v16.cell? ⟨v14.heap.size, 0, none⟩ = some (.int .i64 1) := (BoxAt.cell ZB.out 0).trans (by rw [← HZ1.out, ← HY1.out]; rfl)
         have kZB14 : v16.cell? ⟨v14.heap.size, 14, none⟩ = some (.bool true) := (BoxAt.cell ZB.out 14).trans (by rw [← HZ1.out, ← HY1.out]; rfl)
         have kZB4 : v16.cell? ⟨v14.heap.size, 4, none⟩ = some (.int .i64 kc) := (BoxAt.cell ZB.out 4).trans (by rw [← HZ1.out, ← HY1.out]; rfl)
         have kZB5 : v16.cell? ⟨v14.heap.size, 5, none⟩ = some (.int .i64 kv) := (BoxAt.cell ZB.out 5).trans (by rw [← HZ1.out, ← HY1.out]; rfl)
         have kZB3 : v16.cell? ⟨v14.heap.size, 3, none⟩ = some (.int .i64 r.pc) := (BoxAt.cell ZB.out 3).trans (by rw [← HZ1.out, ← HY1.out]; rfl)
         have kZB17 : v16.cell? ⟨v14.heap.size, 17, none⟩ = some (.int .i64 3) := (BoxAt.cell ZB.out 17).trans (by rw [← HZ1.out, ← HY1.out]; rfl)
         clear b g z hfl FL12)
      | fail)
    have PB := hid (BoxAt.drew PB.out)
    have KB := hid (BoxAt.drew KB.out)
    have XB := hid (BoxAt.drew XB.out)
    have QB := hid (BoxAt.drew QB.out)
    have TB := hid (BoxAt.drew TB.out)
    have YB := hid (BoxAt.drew YB.out)
    have ZB := hid (BoxAt.drew ZB.out)
    have HBa := hid (HBa.out.trans (((Below.refl v16.heap.size v16).drew).mono (by omega)))
    have HBb := hid (HBb.out.trans (((Below.refl v16.heap.size v16).drew).mono (by omega)))
    have HB := hid HB.out.drew
    have hsd900 : v16.heap.size ≤ v16.drew.heap.size := Nat.le_refl _
    clear kPB4
    have kPB4 : v16.drew.cell? ⟨w.heap.size, 4, none⟩ = some (.slice (some ⟨b1, off, none⟩) c.pr.length cpp) := (BoxAt.cell PB.out 4).trans (by show some q.pr.val = _; rw [HPv.out])
    clear kKB0
    have kKB0 : v16.drew.cell? ⟨v1.heap.size, 0, none⟩ = some (.int .i64 (k : Int)) := (BoxAt.cell KB.out 0).trans rfl
    clear kKB1
    have kKB1 : v16.drew.cell? ⟨v1.heap.size, 1, none⟩ = some (.int .i64 kc) := (BoxAt.cell KB.out 1).trans rfl
    clear kKB2
    have kKB2 : v16.drew.cell? ⟨v1.heap.size, 2, none⟩ = some (.int .i64 kv) := (BoxAt.cell KB.out 2).trans rfl
    clear kXB0
    have kXB0 : v16.drew.cell? ⟨v4.heap.size, 0, none⟩ = some (.int .i64 r.st) := (BoxAt.cell XB.out 0).trans rfl
    clear kXB3
    have kXB3 : v16.drew.cell? ⟨v4.heap.size, 3, none⟩ = some (.int .i64 r.pc) := (BoxAt.cell XB.out 3).trans rfl
    clear kQB4
    have kQB4 : v16.drew.cell? ⟨v7.heap.size, 4, none⟩ = some (.slice (some ⟨g1, 0, none⟩) c.pr.length cp1) := (BoxAt.cell QB.out 4).trans (by show some qa.pr.val = _; rw [HV1.out])
    clear kTB4
    have kTB4 : v16.drew.cell? ⟨v10.heap.size, 4, none⟩ = some (.slice (some ⟨g2, 0, none⟩) c.pr.length cp2) := (BoxAt.cell TB.out 4).trans (by show some qb.pr.val = _; rw [HV2.out])
    clear kYB0
    have kYB0 : v16.drew.cell? ⟨v12.heap.size, 0, none⟩ = some (.int .i64 2) := (BoxAt.cell YB.out 0).trans (by rw [← HY1.out]; rfl)
    clear kYB10
    have kYB10 : v16.drew.cell? ⟨v12.heap.size, 10, none⟩ = some (.int .i64 ki) := (BoxAt.cell YB.out 10).trans (by rw [← HY1.out]; rfl)
    clear kYB9
    have kYB9 : v16.drew.cell? ⟨v12.heap.size, 9, none⟩ = some (.int .i64 un) := (BoxAt.cell YB.out 9).trans (by rw [← HY1.out]; rfl)
    clear kZB0
    have kZB0 : v16.drew.cell? ⟨v14.heap.size, 0, none⟩ = some (.int .i64 1) := (BoxAt.cell ZB.out 0).trans (by rw [← HZ1.out, ← HY1.out]; rfl)
    clear kZB14
    have kZB14 : v16.drew.cell? ⟨v14.heap.size, 14, none⟩ = some (.bool true) := (BoxAt.cell ZB.out 14).trans (by rw [← HZ1.out, ← HY1.out]; rfl)
    clear kZB4
    have kZB4 : v16.drew.cell? ⟨v14.heap.size, 4, none⟩ = some (.int .i64 kc) := (BoxAt.cell ZB.out 4).trans (by rw [← HZ1.out, ← HY1.out]; rfl)
    clear kZB5
    have kZB5 : v16.drew.cell? ⟨v14.heap.size, 5, none⟩ = some (.int .i64 kv) := (BoxAt.cell ZB.out 5).trans (by rw [← HZ1.out, ← HY1.out]; rfl)
    clear kZB3
    have kZB3 : v16.drew.cell? ⟨v14.heap.size, 3, none⟩ = some (.int .i64 r.pc) := (BoxAt.cell ZB.out 3).trans (by rw [← HZ1.out, ← HY1.out]; rfl)
    clear kZB17
    have kZB17 : v16.drew.cell? ⟨v14.heap.size, 17, none⟩ = some (.int .i64 3) := (BoxAt.cell ZB.out 17).trans (by rw [← HZ1.out, ← HY1.out]; rfl)
    refine wp_region_held_drew (S := (fun W => BoxAt W w.heap.size 39 (PaV.cells q).toArray ∧ BoxAt W v1.heap.size 47 [.int .i64 (k : Int), .int .i64 kc, .int .i64 kv].toArray)) (by kernel_rfl) (⟨PB.out, KB.out⟩) (fun hHeld => ?_)
    refine wpAnyH_take (i := 0) (oi := { dst := some 91, op := Op.load 39 (Operand.tmp 4), type := 39, pos := "more.go:79", after := #[], guard := none }) (v := ?v901) rfl (by kernel_rfl) (by kernel_rfl) (by kernel_rfl) (fun _ _ _ h => h) (Or.inl ⟨by rfl, ?hy901⟩) (by assumption) ?rest901
    case hy901 => (intro W hSw; refine box_yields 39 (.tmp 4) ?_ w.heap.size ?_ (PaV.cells q) 39 _ Try.underlying39 Try.infoPa hSw.1 <;> rfl)
    simp only [Act.put, List.setIfInBounds_toArray, List.set_cons_zero, List.set_cons_succ]
    refine wpAnyH_take (i := 1) (oi := { dst := some 92, op := Op.load 47 (Operand.tmp 5), type := 47, pos := "more.go:79", after := #[], guard := none }) (v := ?v902) rfl (by kernel_rfl) (by kernel_rfl) (by kernel_rfl) (fun _ _ _ h => h) (Or.inl ⟨by rfl, ?hy902⟩) (by assumption) ?rest902
    case hy902 => (intro W hSw; refine box_yields 47 (.tmp 5) ?_ v1.heap.size ?_ [.int .i64 (k : Int), .int .i64 kc, .int .i64 kv] 47 _ Try.underlying47 Try.infoWkB hSw.2 <;> rfl)
    simp only [Act.put, List.setIfInBounds_toArray, List.set_cons_zero, List.set_cons_succ]
    refine wpAnyH_take (i := 3) (oi := { dst := some 94, op := Op.load 39 (Operand.tmp 4), type := 39, pos := "more.go:79", after := #[], guard := none }) (v := ?v903) rfl (by kernel_rfl) (by kernel_rfl) (by kernel_rfl) (fun _ _ _ h => h) (Or.inl ⟨by rfl, ?hy903⟩) (by assumption) ?rest903
    case hy903 => (intro W hSw; refine box_yields 39 (.tmp 4) ?_ w.heap.size ?_ (PaV.cells q) 39 _ Try.underlying39 Try.infoPa hSw.1 <;> rfl)
    simp only [Act.put, List.setIfInBounds_toArray, List.set_cons_zero, List.set_cons_succ]
    refine wpAnyH_ready (rs := [2]) (by kernel_rfl) (by simp) (AllReadyH.cons (o := { dst := some 93, op := Op.call { callee := Callee.value (Operand.func 17), args := #[Operand.tmp 91, Operand.tmp 92], argTypes := #[39, 47] }, type := 39, pos := "more.go:79", after := #[{ on := 0, ground := Ground.data }, { on := 1, ground := Ground.data }], guard := none }) rfl (fun K904 hK904 => ?_) AllReadyH.nil)
    go_simp
    refine (go_api (k := ⟨(k : Int), kc, kv⟩) (HA.out.below HB.out) HSm.out).mono ?_
    rintro e v17 ⟨qc, rfl, ho, hb⟩
    have PB := hid (PB.out.belowAll hb)
    have KB := hid (KB.out.belowAll hb)
    have XB := hid (XB.out.belowAll hb)
    have QB := hid (QB.out.belowAll hb)
    have TB := hid (TB.out.belowAll hb)
    have YB := hid (YB.out.belowAll hb)
    have ZB := hid (ZB.out.belowAll hb)
    have HBa := hid (HBa.out.trans (hb.mono (by omega)))
    have HBb := hid (HBb.out.trans (hb.mono (by omega)))
    have HB := hid (HB.out.trans (hb.mono HB.out.size))
    have hsv17 : v16.drew.heap.size ≤ v17.heap.size := hb.size
    rw [go_idle HK.out (by rw [HR.out, HSt.out]; decide)] at ho
    have HOc := hid ho
    clear ho
    clear hb
    refine hK904.out _ _ (⟨PB.out, KB.out⟩) (fun hHeld904 => ?_)
    clear hK904 K904
    try simp only [Act.put, List.setIfInBounds_toArray, List.set_cons_zero, List.set_cons_succ]
    refine wpAnyH_ready (rs := [4]) (by kernel_rfl) (by simp) (AllReadyH.cons (o := { dst := some 95, op := Op.call { callee := Callee.value (Operand.func 14), args := #[Operand.tmp 93, Operand.tmp 94], argTypes := #[39, 39] }, type := 4, pos := "more.go:79", after := #[{ on := 2, ground := Ground.data }, { on := 3, ground := Ground.data }, { on := 2, ground := Ground.chain }], guard := none }) rfl (fun K905 hK905 => ?_) AllReadyH.nil)
    go_simp
    refine (same_eq HOc.out.sees (HA.out.below HB.out)).mono ?_
    rintro e v18 ⟨rfl, hb⟩
    have PB := hid (PB.out.belowAll hb)
    have KB := hid (KB.out.belowAll hb)
    have XB := hid (XB.out.belowAll hb)
    have QB := hid (QB.out.belowAll hb)
    have TB := hid (TB.out.belowAll hb)
    have YB := hid (YB.out.belowAll hb)
    have ZB := hid (ZB.out.belowAll hb)
    have HBa := hid (HBa.out.trans (hb.mono (by omega)))
    have HBb := hid (HBb.out.trans (hb.mono (by omega)))
    have HB := hid (HB.out.trans (hb.mono HB.out.size))
    have hsv18 : v17.heap.size ≤ v18.heap.size := hb.size
    clear HOc
    clear hb
    refine hK905.out _ _ (⟨PB.out, KB.out⟩) (fun hHeld905 => ?_)
    clear hK905 K905
    try simp only [Act.put, List.setIfInBounds_toArray, List.set_cons_zero, List.set_cons_succ]
    refine wpAnyH_take (i := 5) (oi := { dst := some 17, op := Op.assign (Operand.tmp 95), type := 4, pos := "more.go:79", after := #[{ on := 4, ground := Ground.data }, { on := 4, ground := Ground.chain }, { on := 0, ground := Ground.phase }, { on := 1, ground := Ground.phase }, { on := 2, ground := Ground.phase }, { on := 3, ground := Ground.phase }, { on := 4, ground := Ground.phase }], guard := none }) (v := ?v906) rfl (by kernel_rfl) (by kernel_rfl) (by kernel_rfl) (fun _ _ _ h => h) (Or.inl ⟨by rfl, ?hy906⟩) (by assumption) ?rest906
    case hy906 => (intro w hSw; (try dsimp only at hSw); go_simp; try with_reducible rfl)
    simp only [Act.put, List.setIfInBounds_toArray, List.set_cons_zero, List.set_cons_succ]
    refine wpAnyH_done (by kernel_rfl) ?_ _
    clear hHeld hHeld904 hHeld905
    clear kPB4
    have kPB4 : v18.cell? ⟨w.heap.size, 4, none⟩ = some (.slice (some ⟨b1, off, none⟩) c.pr.length cpp) := (BoxAt.cell PB.out 4).trans (by show some q.pr.val = _; rw [HPv.out])
    clear kKB0
    have kKB0 : v18.cell? ⟨v1.heap.size, 0, none⟩ = some (.int .i64 (k : Int)) := (BoxAt.cell KB.out 0).trans rfl
    clear kKB1
    have kKB1 : v18.cell? ⟨v1.heap.size, 1, none⟩ = some (.int .i64 kc) := (BoxAt.cell KB.out 1).trans rfl
    clear kKB2
    have kKB2 : v18.cell? ⟨v1.heap.size, 2, none⟩ = some (.int .i64 kv) := (BoxAt.cell KB.out 2).trans rfl
    clear kXB0
    have kXB0 : v18.cell? ⟨v4.heap.size, 0, none⟩ = some (.int .i64 r.st) := (BoxAt.cell XB.out 0).trans rfl
    clear kXB3
    have kXB3 : v18.cell? ⟨v4.heap.size, 3, none⟩ = some (.int .i64 r.pc) := (BoxAt.cell XB.out 3).trans rfl
    clear kQB4
    have kQB4 : v18.cell? ⟨v7.heap.size, 4, none⟩ = some (.slice (some ⟨g1, 0, none⟩) c.pr.length cp1) := (BoxAt.cell QB.out 4).trans (by show some qa.pr.val = _; rw [HV1.out])
    clear kTB4
    have kTB4 : v18.cell? ⟨v10.heap.size, 4, none⟩ = some (.slice (some ⟨g2, 0, none⟩) c.pr.length cp2) := (BoxAt.cell TB.out 4).trans (by show some qb.pr.val = _; rw [HV2.out])
    clear kYB0
    have kYB0 : v18.cell? ⟨v12.heap.size, 0, none⟩ = some (.int .i64 2) := (BoxAt.cell YB.out 0).trans (by rw [← HY1.out]; rfl)
    clear kYB10
    have kYB10 : v18.cell? ⟨v12.heap.size, 10, none⟩ = some (.int .i64 ki) := (BoxAt.cell YB.out 10).trans (by rw [← HY1.out]; rfl)
    clear kYB9
    have kYB9 : v18.cell? ⟨v12.heap.size, 9, none⟩ = some (.int .i64 un) := (BoxAt.cell YB.out 9).trans (by rw [← HY1.out]; rfl)
    clear kZB0
    have kZB0 : v18.cell? ⟨v14.heap.size, 0, none⟩ = some (.int .i64 1) := (BoxAt.cell ZB.out 0).trans (by rw [← HZ1.out, ← HY1.out]; rfl)
    clear kZB14
    have kZB14 : v18.cell? ⟨v14.heap.size, 14, none⟩ = some (.bool true) := (BoxAt.cell ZB.out 14).trans (by rw [← HZ1.out, ← HY1.out]; rfl)
    clear kZB4
    have kZB4 : v18.cell? ⟨v14.heap.size, 4, none⟩ = some (.int .i64 kc) := (BoxAt.cell ZB.out 4).trans (by rw [← HZ1.out, ← HY1.out]; rfl)
    clear kZB5
    have kZB5 : v18.cell? ⟨v14.heap.size, 5, none⟩ = some (.int .i64 kv) := (BoxAt.cell ZB.out 5).trans (by rw [← HZ1.out, ← HY1.out]; rfl)
    clear kZB3
    have kZB3 : v18.cell? ⟨v14.heap.size, 3, none⟩ = some (.int .i64 r.pc) := (BoxAt.cell ZB.out 3).trans (by rw [← HZ1.out, ← HY1.out]; rfl)
    clear kZB17
    have kZB17 : v18.cell? ⟨v14.heap.size, 17, none⟩ = some (.int .i64 3) := (BoxAt.cell ZB.out 17).trans (by rw [← HZ1.out, ← HY1.out]; rfl)
    go_wp2_with fail
    go_ret
    exact ⟨rfl, HB.out⟩
  · have thst : (r.st == 1) = false := by simpa using hst
    have thsn : (r.st != 1) = true := by simpa using hst
    have FL13 := hid trivial
    have FL14 := hid trivial
    go_wp2_with (first
      | (refine wpList_load_px rfl _ rfl b1 (off + k * 18) rfl r (HP0.out.below HB.out hbw) ?_)
      | (have hfl := FL13.out
         refine wpList_new rfl 58 rfl _ Try.zeroPx ?_
         intro v19 b h z
         have XB := hid (show BoxAt v19 v4.heap.size 58 (Px.cells Px.zero).toArray from b)
         have PB := hid (PB.out.belowAll h)
         have KB := hid (KB.out.belowAll h)
         have HB := hid (HB.out.trans (h.mono HB.out.size))
         have hsv19 : v4.heap.size + 1 ≤ v19.heap.size := by omega
         clear kPB4
         have kPB4 : v19.cell? ⟨w.heap.size, 4, none⟩ = some (.slice (some ⟨b1, off, none⟩) c.pr.length cpp) := (BoxAt.cell PB.out 4).trans (by show some q.pr.val = _; rw [HPv.out])
         clear kKB0
         have kKB0 : v19.cell? ⟨v1.heap.size, 0, none⟩ = some (.int .i64 (k : Int)) := (BoxAt.cell KB.out 0).trans rfl
         clear kKB1
         have kKB1 : v19.cell? ⟨v1.heap.size, 1, none⟩ = some (.int .i64 kc) := (BoxAt.cell KB.out 1).trans rfl
         clear kKB2
         have kKB2 : v19.cell? ⟨v1.heap.size, 2, none⟩ = some (.int .i64 kv) := (BoxAt.cell KB.out 2).trans rfl
         clear b h z hfl FL13)
      | (have hfl := FL14.out
         refine wpList_store_whole rfl 58 _ _ rfl rfl v4.heap.size rfl (Px.cells r) rfl _ _ XB.out rfl Try.infoPx (Px.one _) ?_
         intro v20 b g z
         have hsv20 : v19.heap.size ≤ v20.heap.size := by omega
         have XB := hid (show BoxAt v20 v4.heap.size 58 (Px.cells r).toArray from b)
         have PB := hid (PB.out.grown g (fun e => by have := Option.some.inj e; omega))
         have KB := hid (KB.out.grown g (fun e => by have := Option.some.inj e; omega))
         have HB := hid (HB.out.trans (grown_below g (by omega) (by omega)))
         clear kPB4
         have kPB4 : v20.cell? ⟨w.heap.size, 4, none⟩ = some (.slice (some ⟨b1, off, none⟩) c.pr.length cpp) := (BoxAt.cell PB.out 4).trans (by show some q.pr.val = _; rw [HPv.out])
         clear kKB0
         have kKB0 : v20.cell? ⟨v1.heap.size, 0, none⟩ = some (.int .i64 (k : Int)) := (BoxAt.cell KB.out 0).trans rfl
         clear kKB1
         have kKB1 : v20.cell? ⟨v1.heap.size, 1, none⟩ = some (.int .i64 kc) := (BoxAt.cell KB.out 1).trans rfl
         clear kKB2
         have kKB2 : v20.cell? ⟨v1.heap.size, 2, none⟩ = some (.int .i64 kv) := (BoxAt.cell KB.out 2).trans rfl
         have kXB0 : v20.cell? ⟨v4.heap.size, 0, none⟩ = some (.int .i64 r.st) := (BoxAt.cell XB.out 0).trans rfl
         clear b g z hfl FL14)
      | (refine wpList_load_box rfl 39 _ rfl w.heap.size rfl _ _ PB.out _ Try.underlying39 Try.infoPa ?_)
      | fail)
    obtain ⟨C1, hC1⟩ : ∃ C, blockP c (k : Int) ki 0 un 3 = C := ⟨_, rfl⟩
    have HL1 := hid (show C1.pr.length = c.pr.length by rw [← hC1]; exact block_len _ _ _ _ _ _)
    have HS1 := hid (show C1.small by rw [← hC1]; exact block_small HSm.out _ _ _ _ _)
    have HC1 := hid hC1
    clear hC1
    refine (block_api (i := (k : Int)) (ki := ki) (ob := 0) (un := un) (ca := 3) (HA.out.below HB.out) HSm.out).mono ?_
    rintro e v21 ⟨qa, rfl, ho, hb⟩
    have PB := hid (PB.out.belowAll hb)
    have KB := hid (KB.out.belowAll hb)
    have XB := hid (XB.out.belowAll hb)
    have HB := hid (HB.out.trans (hb.mono HB.out.size))
    have hsv21 : v20.heap.size ≤ v21.heap.size := hb.size
    rw [HC1.out] at ho
    have HO1 := hid ho
    obtain ⟨a1, cp1, hv, hm0, hm1, hg⟩ := row_form ho.pr
    rw [HL1.out] at hv hm0 hg
    have HV1 := hid hv
    have HG1 := hid hg
    have hcl1 : c.pr.length ≤ cp1 := hm0
    have hcm1 : cp1 ≤ 9223372036854775807 := hm1
    clear ho hv hm0 hm1 hg
    clear kPB4
    have kPB4 : v21.cell? ⟨w.heap.size, 4, none⟩ = some (.slice (some ⟨b1, off, none⟩) c.pr.length cpp) := (BoxAt.cell PB.out 4).trans (by show some q.pr.val = _; rw [HPv.out])
    clear kKB0
    have kKB0 : v21.cell? ⟨v1.heap.size, 0, none⟩ = some (.int .i64 (k : Int)) := (BoxAt.cell KB.out 0).trans rfl
    clear kKB1
    have kKB1 : v21.cell? ⟨v1.heap.size, 1, none⟩ = some (.int .i64 kc) := (BoxAt.cell KB.out 1).trans rfl
    clear kKB2
    have kKB2 : v21.cell? ⟨v1.heap.size, 2, none⟩ = some (.int .i64 kv) := (BoxAt.cell KB.out 2).trans rfl
    clear kXB0
    have kXB0 : v21.cell? ⟨v4.heap.size, 0, none⟩ = some (.int .i64 r.st) := (BoxAt.cell XB.out 0).trans rfl
    clear hb
    have HBa := hid (Below.refl v21.heap.size v21)
    have HI := hid (show C1 = c from by rw [← HC1.out]; exact block_idle HK.out (by rw [HR.out]; exact hst))
    clear hst
    have FL15 := hid trivial
    have FL16 := hid trivial
    go_wp2_with (first
      | (have hfl := FL15.out
         refine wpList_new rfl 39 rfl _ Try.zeroPa ?_
         intro v22 b h z
         have QB := hid (show BoxAt v22 v21.heap.size 39 (PaV.cells PaV.zero).toArray from b)
         have PB := hid (PB.out.belowAll h)
         have KB := hid (KB.out.belowAll h)
         have XB := hid (XB.out.belowAll h)
         have HBa := hid (HBa.out.trans (h.mono (by omega)))
         have HB := hid (HB.out.trans (h.mono HB.out.size))
         have hsv22 : v21.heap.size + 1 ≤ v22.heap.size := by omega
         clear kPB4
         have kPB4 : v22.cell? ⟨w.heap.size, 4, none⟩ = some (.slice (some ⟨b1, off, none⟩) c.pr.length cpp) := (BoxAt.cell PB.out 4).trans (by show some q.pr.val = _; rw [HPv.out])
         clear kKB0
         have kKB0 : v22.cell? ⟨v1.heap.size, 0, none⟩ = some (.int .i64 (k : Int)) := (BoxAt.cell KB.out 0).trans rfl
         clear kKB1
         have kKB1 : v22.cell? ⟨v1.heap.size, 1, none⟩ = some (.int .i64 kc) := (BoxAt.cell KB.out 1).trans rfl
         clear kKB2
         have kKB2 : v22.cell? ⟨v1.heap.size, 2, none⟩ = some (.int .i64 kv) := (BoxAt.cell KB.out 2).trans rfl
         clear kXB0
         have kXB0 : v22.cell? ⟨v4.heap.size, 0, none⟩ = some (.int .i64 r.st) := (BoxAt.cell XB.out 0).trans rfl
         clear b h z hfl FL15)
      | (have hfl := FL16.out
         refine wpList_store_whole rfl 39 _ _ rfl rfl v21.heap.size rfl (PaV.cells qa) rfl _ _ QB.out rfl Try.infoPa (PaV.one _) ?_
         intro v23 b g z
         have hsv23 : v22.heap.size ≤ v23.heap.size := by omega
         have HBa := hid (HBa.out.trans (grown_below g (by omega) (by omega)))
         have QB := hid (show BoxAt v23 v21.heap.size 39 (PaV.cells qa).toArray from b)
         have PB := hid (PB.out.grown g (fun e => by have := Option.some.inj e; omega))
         have KB := hid (KB.out.grown g (fun e => by have := Option.some.inj e; omega))
         have XB := hid (XB.out.grown g (fun e => by have := Option.some.inj e; omega))
         have HB := hid (HB.out.trans (grown_below g (by omega) (by omega)))
         clear kPB4
         have kPB4 : v23.cell? ⟨w.heap.size, 4, none⟩ = some (.slice (some ⟨b1, off, none⟩) c.pr.length cpp) := (BoxAt.cell PB.out 4).trans (by show some q.pr.val = _; rw [HPv.out])
         clear kKB0
         have kKB0 : v23.cell? ⟨v1.heap.size, 0, none⟩ = some (.int .i64 (k : Int)) := (BoxAt.cell KB.out 0).trans rfl
         clear kKB1
         have kKB1 : v23.cell? ⟨v1.heap.size, 1, none⟩ = some (.int .i64 kc) := (BoxAt.cell KB.out 1).trans rfl
         clear kKB2
         have kKB2 : v23.cell? ⟨v1.heap.size, 2, none⟩ = some (.int .i64 kv) := (BoxAt.cell KB.out 2).trans rfl
         clear kXB0
         have kXB0 : v23.cell? ⟨v4.heap.size, 0, none⟩ = some (.int .i64 r.st) := (BoxAt.cell XB.out 0).trans rfl
         have kQB4 : v23.cell? ⟨v21.heap.size, 4, none⟩ = some (.slice a1 c.pr.length cp1) := (BoxAt.cell QB.out 4).trans (by show some qa.pr.val = _; rw [HV1.out])
         clear b g z hfl FL16)
      | (refine wpList_load_box rfl 39 _ rfl v21.heap.size rfl _ _ QB.out _ Try.underlying39 Try.infoPa ?_)
      | (refine wpList_load_box rfl 47 _ rfl v1.heap.size rfl _ _ KB.out _ Try.underlying47 Try.infoWkB ?_)
      | fail)
    refine (go_api (k := ⟨(k : Int), kc, kv⟩) (HO1.out.below HBa.out).sees HS1.out).mono ?_
    rintro e v24 ⟨qb, rfl, ho, hb⟩
    have PB := hid (PB.out.belowAll hb)
    have KB := hid (KB.out.belowAll hb)
    have XB := hid (XB.out.belowAll hb)
    have QB := hid (QB.out.belowAll hb)
    have HBa := hid (HBa.out.trans (hb.mono (by omega)))
    have HB := hid (HB.out.trans (hb.mono HB.out.size))
    have hsv24 : v23.heap.size ≤ v24.heap.size := hb.size
    have HO2 := hid ho
    obtain ⟨a2, cp2, hv, hm0, hm1, hg⟩ := row_form ho.pr
    rw [show (goP C1 (k : Int) kc kv).pr.length = c.pr.length from (go_len _ _ _ _).trans HL1.out] at hv hm0 hg
    have HV2 := hid hv
    have HG2 := hid hg
    have hcl2 : c.pr.length ≤ cp2 := hm0
    have hcm2 : cp2 ≤ 9223372036854775807 := hm1
    clear ho hv hm0 hm1 hg
    clear kPB4
    have kPB4 : v24.cell? ⟨w.heap.size, 4, none⟩ = some (.slice (some ⟨b1, off, none⟩) c.pr.length cpp) := (BoxAt.cell PB.out 4).trans (by show some q.pr.val = _; rw [HPv.out])
    clear kKB0
    have kKB0 : v24.cell? ⟨v1.heap.size, 0, none⟩ = some (.int .i64 (k : Int)) := (BoxAt.cell KB.out 0).trans rfl
    clear kKB1
    have kKB1 : v24.cell? ⟨v1.heap.size, 1, none⟩ = some (.int .i64 kc) := (BoxAt.cell KB.out 1).trans rfl
    clear kKB2
    have kKB2 : v24.cell? ⟨v1.heap.size, 2, none⟩ = some (.int .i64 kv) := (BoxAt.cell KB.out 2).trans rfl
    clear kXB0
    have kXB0 : v24.cell? ⟨v4.heap.size, 0, none⟩ = some (.int .i64 r.st) := (BoxAt.cell XB.out 0).trans rfl
    clear kQB4
    have kQB4 : v24.cell? ⟨v21.heap.size, 4, none⟩ = some (.slice a1 c.pr.length cp1) := (BoxAt.cell QB.out 4).trans (by show some qa.pr.val = _; rw [HV1.out])
    clear hb
    have FL17 := hid trivial
    have FL18 := hid trivial
    go_wp2_with (first
      | (have hfl := FL17.out
         refine wpList_new rfl 39 rfl _ Try.zeroPa ?_
         intro v25 b h z
         have TB := hid (show BoxAt v25 v24.heap.size 39 (PaV.cells PaV.zero).toArray from b)
         have PB := hid (PB.out.belowAll h)
         have KB := hid (KB.out.belowAll h)
         have XB := hid (XB.out.belowAll h)
         have QB := hid (QB.out.belowAll h)
         have HBa := hid (HBa.out.trans (h.mono (by omega)))
         have HB := hid (HB.out.trans (h.mono HB.out.size))
         have hsv25 : v24.heap.size + 1 ≤ v25.heap.size := by omega
         clear kPB4
         have kPB4 : v25.cell? ⟨w.heap.size, 4, none⟩ = some (.slice (some ⟨b1, off, none⟩) c.pr.length cpp) := (BoxAt.cell PB.out 4).trans (by show some q.pr.val = _; rw [HPv.out])
         clear kKB0
         have kKB0 : v25.cell? ⟨v1.heap.size, 0, none⟩ = some (.int .i64 (k : Int)) := (BoxAt.cell KB.out 0).trans rfl
         clear kKB1
         have kKB1 : v25.cell? ⟨v1.heap.size, 1, none⟩ = some (.int .i64 kc) := (BoxAt.cell KB.out 1).trans rfl
         clear kKB2
         have kKB2 : v25.cell? ⟨v1.heap.size, 2, none⟩ = some (.int .i64 kv) := (BoxAt.cell KB.out 2).trans rfl
         clear kXB0
         have kXB0 : v25.cell? ⟨v4.heap.size, 0, none⟩ = some (.int .i64 r.st) := (BoxAt.cell XB.out 0).trans rfl
         clear kQB4
         have kQB4 : v25.cell? ⟨v21.heap.size, 4, none⟩ = some (.slice a1 c.pr.length cp1) := (BoxAt.cell QB.out 4).trans (by show some qa.pr.val = _; rw [HV1.out])
         clear b h z hfl FL17)
      | (have hfl := FL18.out
         refine wpList_store_whole rfl 39 _ _ rfl rfl v24.heap.size rfl (PaV.cells qb) rfl _ _ TB.out rfl Try.infoPa (PaV.one _) ?_
         intro v26 b g z
         have hsv26 : v25.heap.size ≤ v26.heap.size := by omega
         have HBa := hid (HBa.out.trans (grown_below g (by omega) (by omega)))
         have TB := hid (show BoxAt v26 v24.heap.size 39 (PaV.cells qb).toArray from b)
         have PB := hid (PB.out.grown g (fun e => by have := Option.some.inj e; omega))
         have KB := hid (KB.out.grown g (fun e => by have := Option.some.inj e; omega))
         have XB := hid (XB.out.grown g (fun e => by have := Option.some.inj e; omega))
         have QB := hid (QB.out.grown g (fun e => by have := Option.some.inj e; omega))
         have HB := hid (HB.out.trans (grown_below g (by omega) (by omega)))
         clear kPB4
         have kPB4 : v26.cell? ⟨w.heap.size, 4, none⟩ = some (.slice (some ⟨b1, off, none⟩) c.pr.length cpp) := (BoxAt.cell PB.out 4).trans (by show some q.pr.val = _; rw [HPv.out])
         clear kKB0
         have kKB0 : v26.cell? ⟨v1.heap.size, 0, none⟩ = some (.int .i64 (k : Int)) := (BoxAt.cell KB.out 0).trans rfl
         clear kKB1
         have kKB1 : v26.cell? ⟨v1.heap.size, 1, none⟩ = some (.int .i64 kc) := (BoxAt.cell KB.out 1).trans rfl
         clear kKB2
         have kKB2 : v26.cell? ⟨v1.heap.size, 2, none⟩ = some (.int .i64 kv) := (BoxAt.cell KB.out 2).trans rfl
         clear kXB0
         have kXB0 : v26.cell? ⟨v4.heap.size, 0, none⟩ = some (.int .i64 r.st) := (BoxAt.cell XB.out 0).trans rfl
         clear kQB4
         have kQB4 : v26.cell? ⟨v21.heap.size, 4, none⟩ = some (.slice a1 c.pr.length cp1) := (BoxAt.cell QB.out 4).trans (by show some qa.pr.val = _; rw [HV1.out])
         have kTB4 : v26.cell? ⟨v24.heap.size, 4, none⟩ = some (.slice a2 c.pr.length cp2) := (BoxAt.cell TB.out 4).trans (by show some qb.pr.val = _; rw [HV2.out])
         clear b g z hfl FL18)
      | (refine wpList_load_box rfl 39 _ rfl w.heap.size rfl _ _ PB.out _ Try.underlying39 Try.infoPa ?_)
      | (refine wpList_load_box rfl 39 _ rfl v21.heap.size rfl _ _ QB.out _ Try.underlying39 Try.infoPa ?_)
      | fail)
    refine (same_eq (HA.out.below HB.out) (by have h := (HO1.out.below HBa.out).sees; rw [HI.out] at h; exact h)).mono ?_
    rintro e v27 ⟨rfl, hb⟩
    have PB := hid (PB.out.belowAll hb)
    have KB := hid (KB.out.belowAll hb)
    have XB := hid (XB.out.belowAll hb)
    have QB := hid (QB.out.belowAll hb)
    have TB := hid (TB.out.belowAll hb)
    have HBa := hid (HBa.out.trans (hb.mono (by omega)))
    have HB := hid (HB.out.trans (hb.mono HB.out.size))
    have hsv27 : v26.heap.size ≤ v27.heap.size := hb.size
    clear kPB4
    have kPB4 : v27.cell? ⟨w.heap.size, 4, none⟩ = some (.slice (some ⟨b1, off, none⟩) c.pr.length cpp) := (BoxAt.cell PB.out 4).trans (by show some q.pr.val = _; rw [HPv.out])
    clear kKB0
    have kKB0 : v27.cell? ⟨v1.heap.size, 0, none⟩ = some (.int .i64 (k : Int)) := (BoxAt.cell KB.out 0).trans rfl
    clear kKB1
    have kKB1 : v27.cell? ⟨v1.heap.size, 1, none⟩ = some (.int .i64 kc) := (BoxAt.cell KB.out 1).trans rfl
    clear kKB2
    have kKB2 : v27.cell? ⟨v1.heap.size, 2, none⟩ = some (.int .i64 kv) := (BoxAt.cell KB.out 2).trans rfl
    clear kXB0
    have kXB0 : v27.cell? ⟨v4.heap.size, 0, none⟩ = some (.int .i64 r.st) := (BoxAt.cell XB.out 0).trans rfl
    clear kQB4
    have kQB4 : v27.cell? ⟨v21.heap.size, 4, none⟩ = some (.slice a1 c.pr.length cp1) := (BoxAt.cell QB.out 4).trans (by show some qa.pr.val = _; rw [HV1.out])
    clear kTB4
    have kTB4 : v27.cell? ⟨v24.heap.size, 4, none⟩ = some (.slice a2 c.pr.length cp2) := (BoxAt.cell TB.out 4).trans (by show some qb.pr.val = _; rw [HV2.out])
    clear hb
    go_wp2
    go_ret
    exact ⟨rfl, HB.out⟩

end Go.Proofs.Ytfdalcfbhebloaa
