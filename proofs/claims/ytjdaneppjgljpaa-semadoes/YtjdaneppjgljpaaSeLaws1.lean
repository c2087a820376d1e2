/-
  SemaDoes: the walk.
-/
import Derived.Test.YtjdaneppjgljpaaSeAwake
import Derived.Test.YtjdaneppjgljpaaSeOpen
namespace Go.Proofs.Ytjdaneppjgljpaa
open Go.RowKit
set_option linter.unusedVariables false


set_option maxRecDepth 100000 in
set_option maxHeartbeats 3200000 in
theorem walk_SemaDoes (w : World) (x0 : SeX) (f0 : x0.fit w) (y : Wt) (f1 : y.fit) (may : Bool) :
    Calls Try.prog 3 #[x0.val, y.val, .bool may] w fun e w' => e = .returned (.bool true) ∧ Below w.heap.size w w' := by
  obtain ⟨p, r, v⟩ := y
  clear f1
  obtain ⟨⟨c, m, k, s⟩, ⟨c', m', k', l⟩⟩ := x0
  obtain ⟨⟨h1, h2, h3, hs⟩, -⟩ := f0
  simp only at h1 h2 h3 hs
  subst h1 h2 h3
  have HV := hid hs
  obtain ⟨a2, c2, hs1, hc1, hc2, -⟩ := hs.form
  obtain ⟨sa, sn, sc⟩ := s
  simp only [Sl.val, Value.slice.injEq] at hs1
  obtain ⟨rfl, rfl, rfl⟩ := hs1
  unfold maxLen at hc2
  simp only [Sl.val] at HV
  clear hs
  unfold SeX.val SeV.val Wt.val
  simp only
  obtain ⟨M, hM⟩ : ∃ M, l.length = M := ⟨_, rfl⟩
  have HM := hid hM
  rw [hM] at hc1 HV ⊢
  clear hM
  have HB := hid (Below.refl w.heap.size w)
  obtain ⟨GC, hGC⟩ : ∃ cc, getC c may = cc := ⟨_, rfl⟩
  have HGC := hid hGC
  have eGC : (GC == GC) = true := by simp
  clear hGC
  obtain ⟨GN, hGN⟩ : ∃ cc, getN c = cc := ⟨_, rfl⟩
  have HGN := hid hGN
  have eGN : (GN == GN) = true := by simp
  clear hGN
  obtain ⟨PC, hPC⟩ : ∃ cc, putC c m l = cc := ⟨_, rfl⟩
  have HPC := hid hPC
  have ePC : (PC == PC) = true := by simp
  clear hPC
  obtain ⟨PN, hPN⟩ : ∃ cc, putN c m l = cc := ⟨_, rfl⟩
  have HPN := hid hPN
  have ePN : (PN == PN) = true := by simp
  clear hPN
  go_enter Try.func3, Try.ntmps3
  have FL1 := hid trivial
  have FL2 := hid trivial
  go_wp2_with (first
    | (have hfl := FL1.out
       refine wpList_box rfl 24 (.tmp 0) rfl #[.int .i64 c, .int .i64 m, .bool k, .slice sa M sc] rfl ?_
       intro v1 b h z
       have PB := hid (show BoxAt v1 w.heap.size 24 #[.int .i64 c, .int .i64 m, .bool k, .slice sa M sc] from b)
       have HB := hid (HB.out.trans (h.mono HB.out.size))
       have hsv1 : w.heap.size + 1 ≤ v1.heap.size := by first | exact h.size | omega
       clear b h z hfl FL1)
    | (have hfl := FL2.out
       refine wpList_box rfl 26 (.tmp 1) rfl #[.int .i64 p, .int .i64 r, .int .i64 v] rfl ?_
       intro v2 b h z
       have WB := hid (show BoxAt v2 v1.heap.size 26 #[.int .i64 p, .int .i64 r, .int .i64 v] from b)
       have PB := hid (PB.out.belowAll h)
       have HB := hid (HB.out.trans (h.mono HB.out.size))
       have hsv2 : v1.heap.size + 1 ≤ v2.heap.size := by first | exact h.size | omega
       have kPB3 : v2.cell? ⟨w.heap.size, 3, none⟩ = some (.slice sa M sc) := (BoxAt.cell PB.out 3).trans rfl
       clear b h z hfl FL2)
    | fail)
  refine (seawake_any _).mono ?_
  rintro e v3 ⟨rfl, hb⟩
  have PB := hid (PB.out.belowAll hb)
  have WB := hid (WB.out.belowAll hb)
  have HB := hid (HB.out.trans (hb.mono HB.out.size))
  have hsv3 : v2.heap.size ≤ v3.heap.size := by first | exact hb.size | omega
  clear kPB3
  have kPB3 : v3.cell? ⟨w.heap.size, 3, none⟩ = some (.slice sa M sc) := (BoxAt.cell PB.out 3).trans rfl
  clear hb
  by_cases hgd0 : (60 : Int) < (M : Int)
  · go_wp2
    go_ret
    exact ⟨rfl, HB.out⟩
  have HL := hid (show l.length ≤ 60 by have := HM.out; omega)
  go_wp2_with (first
    | (refine wpList_load_box rfl 24 _ rfl (w.heap.size) rfl _ _ PB.out _ Try.underlying24 Try.infoSe ?_)
    | (refine wpList_load_box rfl 26 _ rfl (v1.heap.size) rfl _ _ WB.out _ Try.underlying26 Try.infoWt ?_)
    | fail)
  refine (get_any c m k p r v may (s := ⟨sa, M, sc⟩) (HV.out.below HB.out) (by have := HL.out; omega)).mono ?_
  rintro e v4 ⟨x1, rfl, hu, hb⟩
  have PB := hid (PB.out.belowAll hb)
  have WB := hid (WB.out.belowAll hb)
  have HB := hid (HB.out.trans (hb.mono HB.out.size))
  have hsv4 : v3.heap.size ≤ v4.heap.size := by first | exact hb.size | omega
  rw [HGC.out, HGN.out]
  have HU1 := hid hu
  clear hu
  clear kPB3
  have kPB3 : v4.cell? ⟨w.heap.size, 3, none⟩ = some (.slice sa M sc) := (BoxAt.cell PB.out 3).trans rfl
  clear hb
  have FL3 := hid trivial
  have FL4 := hid trivial
  go_wp2_with (first
    | (have hfl := FL3.out
       refine wpList_new rfl 24 rfl _ Try.zeroSe ?_
       intro v5 b h z
       have XB := hid (show BoxAt v5 v4.heap.size 24 #[.int .i64 0, .int .i64 0, .bool false, .slice none 0 0] from b)
       have PB := hid (PB.out.belowAll h)
       have WB := hid (WB.out.belowAll h)
       have HU1 := hid (HU1.out.below h)
       have HB := hid (HB.out.trans (h.mono HB.out.size))
       have hsv5 : v4.heap.size + 1 ≤ v5.heap.size := by first | exact h.size | omega
       clear kPB3
       have kPB3 : v5.cell? ⟨w.heap.size, 3, none⟩ = some (.slice sa M sc) := (BoxAt.cell PB.out 3).trans rfl
       clear b h z hfl FL3)
    | (have hfl := FL4.out
       refine wpList_store_whole rfl 24 _ _ rfl rfl (v4.heap.size) rfl [.int .i64 GN, .int .i64 m, .bool k, .slice x1.a x1.n x1.c] rfl _ _ XB.out rfl Try.infoSe (by simp [Value.oneCell']) ?_
       intro v6 b g z
       have hsv6 : v5.heap.size ≤ v6.heap.size := by omega
       have HU1 := hid (HU1.out.put g XB.out (by decide))
       have XB := hid (show BoxAt v6 (v4.heap.size) 24 #[.int .i64 GN, .int .i64 m, .bool k, .slice x1.a x1.n x1.c] from b)
       have PB := hid (PB.out.grown g (fun e => by have := Option.some.inj e; omega))
       have WB := hid (WB.out.grown g (fun e => by have := Option.some.inj e; omega))
       have HB := hid (HB.out.trans (grown_below g (by omega) (by omega)))
       clear kPB3
       have kPB3 : v6.cell? ⟨w.heap.size, 3, none⟩ = some (.slice sa M sc) := (BoxAt.cell PB.out 3).trans rfl
       clear b g z hfl FL4)
    | (refine wpList_load_box rfl 24 _ rfl (w.heap.size) rfl _ _ PB.out _ Try.underlying24 Try.infoSe ?_)
    | (refine wpList_load_box rfl 26 _ rfl (v1.heap.size) rfl _ _ WB.out _ Try.underlying26 Try.infoWt ?_)
    | fail)
  refine (rget_any c m k p r v may (s := ⟨sa, M, sc⟩) (HV.out.below HB.out) (by have := HL.out; omega)).mono ?_
  rintro e v7 ⟨x2, rfl, hu, hb⟩
  have PB := hid (PB.out.belowAll hb)
  have WB := hid (WB.out.belowAll hb)
  have XB := hid (XB.out.belowAll hb)
  have HU1 := hid (HU1.out.below hb)
  have HB := hid (HB.out.trans (hb.mono HB.out.size))
  have hsv7 : v6.heap.size ≤ v7.heap.size := by first | exact hb.size | omega
  rw [HGC.out, HGN.out]
  have HU2 := hid hu
  clear hu
  clear kPB3
  have kPB3 : v7.cell? ⟨w.heap.size, 3, none⟩ = some (.slice sa M sc) := (BoxAt.cell PB.out 3).trans rfl
  clear hb
  have FL5 := hid trivial
  have FL6 := hid trivial
  go_wp2_with (first
    | (have hfl := FL5.out
       refine wpList_new rfl 24 rfl _ Try.zeroSe ?_
       intro v8 b h z
       have YB := hid (show BoxAt v8 v7.heap.size 24 #[.int .i64 0, .int .i64 0, .bool false, .slice none 0 0] from b)
       have PB := hid (PB.out.belowAll h)
       have WB := hid (WB.out.belowAll h)
       have XB := hid (XB.out.belowAll h)
       have HU1 := hid (HU1.out.below h)
       have HU2 := hid (HU2.out.below h)
       have HB := hid (HB.out.trans (h.mono HB.out.size))
       have hsv8 : v7.heap.size + 1 ≤ v8.heap.size := by first | exact h.size | omega
       clear kPB3
       have kPB3 : v8.cell? ⟨w.heap.size, 3, none⟩ = some (.slice sa M sc) := (BoxAt.cell PB.out 3).trans rfl
       clear b h z hfl FL5)
    | (have hfl := FL6.out
       refine wpList_store_whole rfl 24 _ _ rfl rfl (v7.heap.size) rfl [.int .i64 GN, .int .i64 m, .bool k, .slice x2.a x2.n x2.c] rfl _ _ YB.out rfl Try.infoSe (by simp [Value.oneCell']) ?_
       intro v9 b g z
       have hsv9 : v8.heap.size ≤ v9.heap.size := by omega
       have HU1 := hid (HU1.out.put g YB.out (by decide))
       have HU2 := hid (HU2.out.put g YB.out (by decide))
       have YB := hid (show BoxAt v9 (v7.heap.size) 24 #[.int .i64 GN, .int .i64 m, .bool k, .slice x2.a x2.n x2.c] from b)
       have PB := hid (PB.out.grown g (fun e => by have := Option.some.inj e; omega))
       have WB := hid (WB.out.grown g (fun e => by have := Option.some.inj e; omega))
       have XB := hid (XB.out.grown g (fun e => by have := Option.some.inj e; omega))
       have HB := hid (HB.out.trans (grown_below g (by omega) (by omega)))
       clear kPB3
       have kPB3 : v9.cell? ⟨w.heap.size, 3, none⟩ = some (.slice sa M sc) := (BoxAt.cell PB.out 3).trans rfl
       clear b g z hfl FL6)
    | (refine wpList_load_box rfl 24 _ rfl (w.heap.size) rfl _ _ PB.out _ Try.underlying24 Try.infoSe ?_)
    | fail)
  refine (put_any c m k (s := ⟨sa, M, sc⟩) (HV.out.below HB.out) (by have := HL.out; omega)).mono ?_
  rintro e v10 ⟨x3, q3, rfl, hu, hq, hb⟩
  have PB := hid (PB.out.belowAll hb)
  have WB := hid (WB.out.belowAll hb)
  have XB := hid (XB.out.belowAll hb)
  have YB := hid (YB.out.belowAll hb)
  have HU1 := hid (HU1.out.below hb)
  have HU2 := hid (HU2.out.below hb)
  have HB := hid (HB.out.trans (hb.mono HB.out.size))
  have hsv10 : v9.heap.size ≤ v10.heap.size := by first | exact hb.size | omega
  rw [HPC.out, HPN.out]
  have HU3 := hid hu
  have HQ3 := hid hq
  clear hu hq
  clear kPB3
  have kPB3 : v10.cell? ⟨w.heap.size, 3, none⟩ = some (.slice sa M sc) := (BoxAt.cell PB.out 3).trans rfl
  clear hb
  have FL7 := hid trivial
  have FL8 := hid trivial
  go_wp2_with (first
    | (have hfl := FL7.out
       refine wpList_new rfl 24 rfl _ Try.zeroSe ?_
       intro v11 b h z
       have AB := hid (show BoxAt v11 v10.heap.size 24 #[.int .i64 0, .int .i64 0, .bool false, .slice none 0 0] from b)
       have PB := hid (PB.out.belowAll h)
       have WB := hid (WB.out.belowAll h)
       have XB := hid (XB.out.belowAll h)
       have YB := hid (YB.out.belowAll h)
       have HU1 := hid (HU1.out.below h)
       have HU2 := hid (HU2.out.below h)
       have HU3 := hid (HU3.out.below h)
       have HQ3 := hid (HQ3.out.below h)
       have HB := hid (HB.out.trans (h.mono HB.out.size))
       have hsv11 : v10.heap.size + 1 ≤ v11.heap.size := by first | exact h.size | omega
       clear kPB3
       have kPB3 : v11.cell? ⟨w.heap.size, 3, none⟩ = some (.slice sa M sc) := (BoxAt.cell PB.out 3).trans rfl
       clear b h z hfl FL7)
    | (have hfl := FL8.out
       refine wpList_store_whole rfl 24 _ _ rfl rfl (v10.heap.size) rfl [.int .i64 PN, .int .i64 m, .bool k, .slice x3.a x3.n x3.c] rfl _ _ AB.out rfl Try.infoSe (by simp [Value.oneCell']) ?_
       intro v12 b g z
       have hsv12 : v11.heap.size ≤ v12.heap.size := by omega
       have HU1 := hid (HU1.out.put g AB.out (by decide))
       have HU2 := hid (HU2.out.put g AB.out (by decide))
       have HU3 := hid (HU3.out.put g AB.out (by decide))
       have HQ3 := hid (HQ3.out.put g AB.out (by decide))
       have AB := hid (show BoxAt v12 (v10.heap.size) 24 #[.int .i64 PN, .int .i64 m, .bool k, .slice x3.a x3.n x3.c] from b)
       have PB := hid (PB.out.grown g (fun e => by have := Option.some.inj e; omega))
       have WB := hid (WB.out.grown g (fun e => by have := Option.some.inj e; omega))
       have XB := hid (XB.out.grown g (fun e => by have := Option.some.inj e; omega))
       have YB := hid (YB.out.grown g (fun e => by have := Option.some.inj e; omega))
       have HB := hid (HB.out.trans (grown_below g (by omega) (by omega)))
       clear kPB3
       have kPB3 : v12.cell? ⟨w.heap.size, 3, none⟩ = some (.slice sa M sc) := (BoxAt.cell PB.out 3).trans rfl
       clear b g z hfl FL8)
    | (refine wpList_load_box rfl 24 _ rfl (w.heap.size) rfl _ _ PB.out _ Try.underlying24 Try.infoSe ?_)
    | fail)
  refine (rput_any c m k (s := ⟨sa, M, sc⟩) (HV.out.below HB.out) (by have := HL.out; omega)).mono ?_
  rintro e v13 ⟨x4, q4, rfl, hu, hq, hb⟩
  have PB := hid (PB.out.belowAll hb)
  have WB := hid (WB.out.belowAll hb)
  have XB := hid (XB.out.belowAll hb)
  have YB := hid (YB.out.belowAll hb)
  have AB := hid (AB.out.belowAll hb)
  have HU1 := hid (HU1.out.below hb)
  have HU2 := hid (HU2.out.below hb)
  have HU3 := hid (HU3.out.below hb)
  have HQ3 := hid (HQ3.out.below hb)
  have HB := hid (HB.out.trans (hb.mono HB.out.size))
  have hsv13 : v12.heap.size ≤ v13.heap.size := by first | exact hb.size | omega
  rw [HPC.out, HPN.out]
  have HU4 := hid hu
  have HQ4 := hid hq
  clear hu hq
  clear kPB3
  have kPB3 : v13.cell? ⟨w.heap.size, 3, none⟩ = some (.slice sa M sc) := (BoxAt.cell PB.out 3).trans rfl
  clear hb
  have HBV := hid (Below.refl v13.heap.size v13)
  have FL9 := hid trivial
  have FL10 := hid trivial
  go_wp2_with (first
    | (have hfl := FL9.out
       refine wpList_new rfl 24 rfl _ Try.zeroSe ?_
       intro v14 b h z
       have CB := hid (show BoxAt v14 v13.heap.size 24 #[.int .i64 0, .int .i64 0, .bool false, .slice none 0 0] from b)
       have PB := hid (PB.out.belowAll h)
       have WB := hid (WB.out.belowAll h)
       have XB := hid (XB.out.belowAll h)
       have YB := hid (YB.out.belowAll h)
       have AB := hid (AB.out.belowAll h)
       have HU1 := hid (HU1.out.below h)
       have HU2 := hid (HU2.out.below h)
       have HU3 := hid (HU3.out.below h)
       have HQ3 := hid (HQ3.out.below h)
       have HQ4 := hid (HQ4.out.below h)
       have HBV := hid (HBV.out.trans (h.mono HBV.out.size))
       have HB := hid (HB.out.trans (h.mono HB.out.size))
       have hsv14 : v13.heap.size + 1 ≤ v14.heap.size := by first | exact h.size | omega
       clear kPB3
       have kPB3 : v14.cell? ⟨w.heap.size, 3, none⟩ = some (.slice sa M sc) := (BoxAt.cell PB.out 3).trans rfl
       clear b h z hfl FL9)
    | (have hfl := FL10.out
       refine wpList_store_whole rfl 24 _ _ rfl rfl (v13.heap.size) rfl [.int .i64 PN, .int .i64 m, .bool k, .slice x4.a x4.n x4.c] rfl _ _ CB.out rfl Try.infoSe (by simp [Value.oneCell']) ?_
       intro v15 b g z
       have hsv15 : v14.heap.size ≤ v15.heap.size := by omega
       have HU1 := hid (HU1.out.put g CB.out (by decide))
       have HU2 := hid (HU2.out.put g CB.out (by decide))
       have HU3 := hid (HU3.out.put g CB.out (by decide))
       have HQ3 := hid (HQ3.out.put g CB.out (by decide))
       have HQ4 := hid (HQ4.out.put g CB.out (by decide))
       have HBV := hid (HBV.out.trans (grown_below g (by omega) (by omega)))
       have CB := hid (show BoxAt v15 (v13.heap.size) 24 #[.int .i64 PN, .int .i64 m, .bool k, .slice x4.a x4.n x4.c] from b)
       have PB := hid (PB.out.grown g (fun e => by have := Option.some.inj e; omega))
       have WB := hid (WB.out.grown g (fun e => by have := Option.some.inj e; omega))
       have XB := hid (XB.out.grown g (fun e => by have := Option.some.inj e; omega))
       have YB := hid (YB.out.grown g (fun e => by have := Option.some.inj e; omega))
       have AB := hid (AB.out.grown g (fun e => by have := Option.some.inj e; omega))
       have HB := hid (HB.out.trans (grown_below g (by omega) (by omega)))
       clear kPB3
       have kPB3 : v15.cell? ⟨w.heap.size, 3, none⟩ = some (.slice sa M sc) := (BoxAt.cell PB.out 3).trans rfl
       clear b g z hfl FL10)
    | (refine wpList_load_box rfl 24 _ rfl (v4.heap.size) rfl _ _ XB.out _ Try.underlying24 Try.infoSe ?_)
    | (refine wpList_load_box rfl 24 _ rfl (v7.heap.size) rfl _ _ YB.out _ Try.underlying24 Try.infoSe ?_)
    | fail)
  refine (rsame_any GN m k HU1.out.sees HU2.out.sees).mono ?_
  rintro e v16 ⟨rfl, hb⟩
  have PB := hid (PB.out.belowAll hb)
  have WB := hid (WB.out.belowAll hb)
  have XB := hid (XB.out.belowAll hb)
  have YB := hid (YB.out.belowAll hb)
  have AB := hid (AB.out.belowAll hb)
  have CB := hid (CB.out.belowAll hb)
  have HU1 := hid (HU1.out.below hb)
  have HU2 := hid (HU2.out.below hb)
  have HU3 := hid (HU3.out.below hb)
  have HQ3 := hid (HQ3.out.below hb)
  have HQ4 := hid (HQ4.out.below hb)
  have HBV := hid (HBV.out.trans (hb.mono HBV.out.size))
  have HB := hid (HB.out.trans (hb.mono HB.out.size))
  have hsv16 : v15.heap.size ≤ v16.heap.size := by first | exact hb.size | omega
  clear kPB3
  have kPB3 : v16.cell? ⟨w.heap.size, 3, none⟩ = some (.slice sa M sc) := (BoxAt.cell PB.out 3).trans rfl
  clear hb
  go_wp2_with (first
    | (refine wpList_load_box rfl 24 _ rfl (v10.heap.size) rfl _ _ AB.out _ Try.underlying24 Try.infoSe ?_)
    | (refine wpList_load_box rfl 24 _ rfl (v13.heap.size) rfl _ _ CB.out _ Try.underlying24 Try.infoSe ?_)
    | fail)
  refine (rsame_any PN m k HU3.out.sees (HU4.out.below HBV.out)).mono ?_
  rintro e v17 ⟨rfl, hb⟩
  have PB := hid (PB.out.belowAll hb)
  have WB := hid (WB.out.belowAll hb)
  have XB := hid (XB.out.belowAll hb)
  have YB := hid (YB.out.belowAll hb)
  have AB := hid (AB.out.belowAll hb)
  have CB := hid (CB.out.belowAll hb)
  have HU1 := hid (HU1.out.below hb)
  have HU2 := hid (HU2.out.below hb)
  have HU3 := hid (HU3.out.below hb)
  have HQ3 := hid (HQ3.out.below hb)
  have HQ4 := hid (HQ4.out.below hb)
  have HBV := hid (HBV.out.trans (hb.mono HBV.out.size))
  have HB := hid (HB.out.trans (hb.mono HB.out.size))
  have hsv17 : v16.heap.size ≤ v17.heap.size := by first | exact hb.size | omega
  clear kPB3
  have kPB3 : v17.cell? ⟨w.heap.size, 3, none⟩ = some (.slice sa M sc) := (BoxAt.cell PB.out 3).trans rfl
  clear hb
  go_wp2_with fail
  refine (same_Wk HQ3.out.sees HQ4.out.sees).mono ?_
  rintro e v18 ⟨rfl, hb⟩
  have PB := hid (PB.out.belowAll hb)
  have WB := hid (WB.out.belowAll hb)
  have XB := hid (XB.out.belowAll hb)
  have YB := hid (YB.out.belowAll hb)
  have AB := hid (AB.out.belowAll hb)
  have CB := hid (CB.out.belowAll hb)
  have HU1 := hid (HU1.out.below hb)
  have HU2 := hid (HU2.out.below hb)
  have HU3 := hid (HU3.out.below hb)
  have HQ3 := hid (HQ3.out.below hb)
  have HQ4 := hid (HQ4.out.below hb)
  have HBV := hid (HBV.out.trans (hb.mono HBV.out.size))
  have HB := hid (HB.out.trans (hb.mono HB.out.size))
  have hsv18 : v17.heap.size ≤ v18.heap.size := by first | exact hb.size | omega
  clear kPB3
  have kPB3 : v18.cell? ⟨w.heap.size, 3, none⟩ = some (.slice sa M sc) := (BoxAt.cell PB.out 3).trans rfl
  clear hb
  clear HU1 HU2 HU3 HQ3 HQ4 HBV
  clear HU4
  go_wp2
  go_ret
  exact ⟨rfl, HB.out⟩

end Go.Proofs.Ytjdaneppjgljpaa
