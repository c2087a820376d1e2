/-
  What Get and Put of a semaphore return.
-/
import Derived.Test.YtjdaneppjgljpaaSe1
namespace Go.Proofs.Ytjdaneppjgljpaa
open Go.RowKit
set_option linter.unusedVariables false


set_option maxRecDepth 100000 in
set_option maxHeartbeats 1600000 in
theorem get_any (c m : Int) (k : Bool) {s : Sl} {l : List Wt} (p r v : Int) (may : Bool) {w : World} (hs : SeesWt w s.val l) (hl : l.length ≤ 800000) :
    Calls Try.prog 9 #[SeV.val ⟨c, m, k, s⟩, .agg #[.int .i64 p, .int .i64 r, .int .i64 v], .bool may] w fun e w' => ∃ (u : Sl), e = .returned (.tuple #[SeV.val ⟨getN c, m, k, u⟩, .int .i64 (getC c may)]) ∧ OWt w' w.heap.size u.val (getL c k l ⟨p, r, v⟩ may) ∧ Below w.heap.size w w' := by
  have HV := hid hs
  obtain ⟨a2, c2, hs1, hc1, hc2, -⟩ := hs.form
  obtain ⟨sa, sn, sc⟩ := s
  simp only [Sl.val, Value.slice.injEq] at hs1
  obtain ⟨rfl, rfl, rfl⟩ := hs1
  unfold maxLen at hc2
  simp only [Sl.val] at HV
  clear hs
  unfold SeV.val
  simp only
  obtain ⟨M, hM⟩ : ∃ M, l.length = M := ⟨_, rfl⟩
  have HM := hid hM
  have HL := hid hl
  rw [hM] at hl hc1 HV ⊢
  clear hM
  obtain ⟨GN, hGN⟩ : ∃ cc, getN c = cc := ⟨_, rfl⟩
  have HGN := hid hGN
  rw [hGN]
  clear hGN
  obtain ⟨GC, hGC⟩ : ∃ cc, getC c may = cc := ⟨_, rfl⟩
  have HGC := hid hGC
  rw [hGC]
  clear hGC
  obtain ⟨GL, hGL⟩ : ∃ cc, getL c k l ⟨p, r, v⟩ may = cc := ⟨_, rfl⟩
  have HGL := hid hGL
  rw [hGL]
  clear hGL
  have HB := hid (Below.refl w.heap.size w)
  go_enter Try.func9, Try.ntmps9
  have FL1 := hid trivial
  have FL2 := hid trivial
  have FL3 := hid trivial
  go_wp2_with (first
    | (have hfl := FL1.out
       refine wpList_box rfl 24 (.tmp 0) rfl #[.int .i64 c, .int .i64 m, .bool k, .slice sa M sc] rfl ?_
       intro v1 b h z
       have PB := hid (show BoxAt v1 w.heap.size 24 #[.int .i64 c, .int .i64 m, .bool k, .slice sa M sc] from b)
       have HB := hid (HB.out.trans (h.mono HB.out.size))
       have hsv1 : w.heap.size + 1 ≤ v1.heap.size := by first | exact h.size | omega
       clear b h z hfl FL1)
    | (have hfl := FL2.out
       refine wpList_box rfl 26 (.tmp 1) rfl #[.int .i64 p, .int .i64 r, .int .i64 v] rfl ?_
       intro v2 b h z
       have WB := hid (show BoxAt v2 v1.heap.size 26 #[.int .i64 p, .int .i64 r, .int .i64 v] from b)
       have PB := hid (PB.out.belowAll h)
       have HB := hid (HB.out.trans (h.mono HB.out.size))
       have hsv2 : v1.heap.size + 1 ≤ v2.heap.size := by first | exact h.size | omega
       clear b h z hfl FL2)
    | (have hfl := FL3.out
       refine wpList_new rfl 24 rfl _ Try.zeroSe ?_
       intro v3 b h z
       have RB := hid (show BoxAt v3 v2.heap.size 24 #[.int .i64 0, .int .i64 0, .bool false, .slice none 0 0] from b)
       have PB := hid (PB.out.belowAll h)
       have WB := hid (WB.out.belowAll h)
       have HB := hid (HB.out.trans (h.mono HB.out.size))
       have hsv3 : v2.heap.size + 1 ≤ v3.heap.size := by first | exact h.size | omega
       clear b h z hfl FL3
       refine Hid.out ?_)
    | fail)
  refine hid ?_
  go_wp2_with (first
    | (refine wpList_load_box rfl 24 _ rfl (w.heap.size) rfl _ _ PB.out _ Try.underlying24 Try.infoSe ?_)
    | fail)
  have HBw := HB.out.size
  refine (own_any c m k (s := ⟨sa, M, sc⟩) (HV.out.below HB.out) HL.out).mono ?_
  rintro e v4 ⟨x, rfl, hu, hb⟩
  have PB := hid (PB.out.belowAll hb)
  have WB := hid (WB.out.belowAll hb)
  have RB := hid (RB.out.belowAll hb)
  have HB := hid (HB.out.trans (hb.mono HB.out.size))
  have hsv4 : v3.heap.size ≤ v4.heap.size := by first | exact hb.size | omega
  have HC := hid (hu.mono HBw)
  clear hu HBw
  simp only [Sl.val] at HC
  clear hb
  have FL4 := hid trivial
  have FL5 := hid trivial
  go_wp2_with (first
    | (have hfl := FL4.out
       refine wpList_new rfl 46 rfl _ Try.zeroOs ?_
       intro v5 b h z
       have OB := hid (show BoxAt v5 v4.heap.size 46 #[.int .i64 0, .int .i64 0, .bool false, .slice none 0 0] from b)
       have PB := hid (PB.out.belowAll h)
       have WB := hid (WB.out.belowAll h)
       have RB := hid (RB.out.belowAll h)
       have HC := hid (HC.out.below h)
       have HB := hid (HB.out.trans (h.mono HB.out.size))
       have hsv5 : v4.heap.size + 1 ≤ v5.heap.size := by first | exact h.size | omega
       clear b h z hfl FL4)
    | (have hfl := FL5.out
       refine wpList_store_whole rfl 46 _ _ rfl rfl (v4.heap.size) rfl [.int .i64 c, .int .i64 m, .bool k, .slice x.a x.n x.c] rfl _ _ OB.out rfl Try.infoOs (by simp [Value.oneCell']) ?_
       intro v6 b g z
       have hsv6 : v5.heap.size ≤ v6.heap.size := by omega
       have HC := hid (HC.out.put g OB.out (by decide))
       have OB := hid (show BoxAt v6 (v4.heap.size) 46 #[.int .i64 c, .int .i64 m, .bool k, .slice x.a x.n x.c] from b)
       have PB := hid (PB.out.grown g (fun e => by have := Option.some.inj e; omega))
       have WB := hid (WB.out.grown g (fun e => by have := Option.some.inj e; omega))
       have RB := hid (RB.out.grown g (fun e => by have := Option.some.inj e; omega))
       have HB := hid (HB.out.trans (grown_below g (by omega) (by omega)))
       clear b g z hfl FL5)
    | (refine wpList_load_box rfl 26 _ rfl (v1.heap.size) rfl _ _ WB.out _ Try.underlying26 Try.infoWt ?_)
    | fail)
  refine (sget_any (D := w.heap.size) c m k p r v may OB.out (by omega) HC.out HL.out).mono ?_
  rintro e v7 ⟨u, rfl, b, ho, g⟩
  have hsgv7 : v6.heap.size ≤ v7.heap.size := g.size
  have hsv7 : v6.heap.size ≤ v7.heap.size := by omega
  have HC := hid (HC.out.put g OB.out (by decide))
  have OB := hid (show BoxAt v7 (v4.heap.size) 46 #[.int .i64 GN, .int .i64 m, .bool k, .slice u.a u.n u.c] from by rw [HGN.out] at b; exact b)
  have PB := hid (PB.out.grown g (fun e => by have := Option.some.inj e; omega))
  have WB := hid (WB.out.grown g (fun e => by have := Option.some.inj e; omega))
  have RB := hid (RB.out.grown g (fun e => by have := Option.some.inj e; omega))
  have HB := hid (HB.out.trans (grown_below g (by omega) (by omega)))
  clear HC
  rw [HGL.out] at ho
  have HU := hid ho
  clear ho
  clear b g hsgv7
  rw [HGC.out]
  have FL6 := hid trivial
  go_wp2_with (first
    | (refine wpList_load_box rfl 24 _ rfl (v4.heap.size) rfl _ _ OB.out _ Try.underlying24 Try.infoSe ?_)
    | (have hfl := FL6.out
       refine wpList_store_whole rfl 24 _ _ rfl rfl (v2.heap.size) rfl [.int .i64 GN, .int .i64 m, .bool k, .slice u.a u.n u.c] rfl _ _ RB.out rfl Try.infoSe (by simp [Value.oneCell']) ?_
       intro v8 b g z
       have hsv8 : v7.heap.size ≤ v8.heap.size := by omega
       have HU := hid (HU.out.put g RB.out (by decide))
       have RB := hid (show BoxAt v8 (v2.heap.size) 24 #[.int .i64 GN, .int .i64 m, .bool k, .slice u.a u.n u.c] from b)
       have PB := hid (PB.out.grown g (fun e => by have := Option.some.inj e; omega))
       have WB := hid (WB.out.grown g (fun e => by have := Option.some.inj e; omega))
       have OB := hid (OB.out.grown g (fun e => by have := Option.some.inj e; omega))
       have HB := hid (HB.out.trans (grown_below g (by omega) (by omega)))
       clear b g z hfl FL6)
    | fail)
  refine bodyPost_ret (results_box_tmp rfl _ _ (v2.heap.size) 24 _ (0, 0) _ rfl RB.out Try.underlying24 rfl Try.infoSe) rfl ?_
  exact ⟨u, rfl, HU.out, HB.out⟩

set_option maxRecDepth 100000 in
set_option maxHeartbeats 1600000 in
theorem put_any (c m : Int) (k : Bool) {s : Sl} {l : List Wt} {w : World} (hs : SeesWt w s.val l) (hl : l.length ≤ 800000) :
    Calls Try.prog 11 #[SeV.val ⟨c, m, k, s⟩] w fun e w' => ∃ (u q : Sl), e = .returned (.tuple #[SeV.val ⟨putN c m l, m, k, u⟩, .int .i64 (putC c m l), q.val]) ∧ OWt w' w.heap.size u.val (l.drop 1) ∧ OWk w' w.heap.size q.val (putW l) ∧ Below w.heap.size w w' := by
  have HV := hid hs
  obtain ⟨a2, c2, hs1, hc1, hc2, -⟩ := hs.form
  obtain ⟨sa, sn, sc⟩ := s
  simp only [Sl.val, Value.slice.injEq] at hs1
  obtain ⟨rfl, rfl, rfl⟩ := hs1
  unfold maxLen at hc2
  simp only [Sl.val] at HV
  clear hs
  unfold SeV.val
  simp only
  obtain ⟨M, hM⟩ : ∃ M, l.length = M := ⟨_, rfl⟩
  have HM := hid hM
  have HL := hid hl
  rw [hM] at hl hc1 HV ⊢
  obtain ⟨GN, hGN⟩ : ∃ cc, putN c m l = cc := ⟨_, rfl⟩
  have HGN := hid hGN
  rw [hGN]
  clear hGN
  obtain ⟨GC, hGC⟩ : ∃ cc, putC c m l = cc := ⟨_, rfl⟩
  have HGC := hid hGC
  rw [hGC]
  clear hGC
  obtain ⟨GW, hGW⟩ : ∃ cc, putW l = cc := ⟨_, rfl⟩
  have HGW := hid hGW
  rw [hGW]
  clear hGW
  clear hM
  have HB := hid (Below.refl w.heap.size w)
  go_enter Try.func11, Try.ntmps11
  have FL1 := hid trivial
  have FL2 := hid trivial
  go_wp2_with (first
    | (have hfl := FL1.out
       refine wpList_box rfl 24 (.tmp 0) rfl #[.int .i64 c, .int .i64 m, .bool k, .slice sa M sc] rfl ?_
       intro v1 b h z
       have PB := hid (show BoxAt v1 w.heap.size 24 #[.int .i64 c, .int .i64 m, .bool k, .slice sa M sc] from b)
       have HB := hid (HB.out.trans (h.mono HB.out.size))
       have hsv1 : w.heap.size + 1 ≤ v1.heap.size := by first | exact h.size | omega
       clear b h z hfl FL1)
    | (have hfl := FL2.out
       refine wpList_new rfl 24 rfl _ Try.zeroSe ?_
       intro v2 b h z
       have RB := hid (show BoxAt v2 v1.heap.size 24 #[.int .i64 0, .int .i64 0, .bool false, .slice none 0 0] from b)
       have PB := hid (PB.out.belowAll h)
       have HB := hid (HB.out.trans (h.mono HB.out.size))
       have hsv2 : v1.heap.size + 1 ≤ v2.heap.size := by first | exact h.size | omega
       clear b h z hfl FL2
       refine Hid.out ?_)
    | fail)
  refine hid ?_
  go_wp2_with (first
    | (refine wpList_load_box rfl 24 _ rfl (w.heap.size) rfl _ _ PB.out _ Try.underlying24 Try.infoSe ?_)
    | fail)
  have HBw := HB.out.size
  refine (own_any c m k (s := ⟨sa, M, sc⟩) (HV.out.below HB.out) HL.out).mono ?_
  rintro e v3 ⟨x, rfl, hu, hb⟩
  have PB := hid (PB.out.belowAll hb)
  have RB := hid (RB.out.belowAll hb)
  have HB := hid (HB.out.trans (hb.mono HB.out.size))
  have hsv3 : v2.heap.size ≤ v3.heap.size := by first | exact hb.size | omega
  have HC := hid (hu.mono HBw)
  clear hu HBw
  simp only [Sl.val] at HC
  clear hb
  have FL3 := hid trivial
  have FL4 := hid trivial
  go_wp2_with (first
    | (have hfl := FL3.out
       refine wpList_new rfl 46 rfl _ Try.zeroOs ?_
       intro v4 b h z
       have OB := hid (show BoxAt v4 v3.heap.size 46 #[.int .i64 0, .int .i64 0, .bool false, .slice none 0 0] from b)
       have PB := hid (PB.out.belowAll h)
       have RB := hid (RB.out.belowAll h)
       have HC := hid (HC.out.below h)
       have HB := hid (HB.out.trans (h.mono HB.out.size))
       have hsv4 : v3.heap.size + 1 ≤ v4.heap.size := by first | exact h.size | omega
       clear b h z hfl FL3)
    | (have hfl := FL4.out
       refine wpList_store_whole rfl 46 _ _ rfl rfl (v3.heap.size) rfl [.int .i64 c, .int .i64 m, .bool k, .slice x.a x.n x.c] rfl _ _ OB.out rfl Try.infoOs (by simp [Value.oneCell']) ?_
       intro v5 b g z
       have hsv5 : v4.heap.size ≤ v5.heap.size := by omega
       have HC := hid (HC.out.put g OB.out (by decide))
       have OB := hid (show BoxAt v5 (v3.heap.size) 46 #[.int .i64 c, .int .i64 m, .bool k, .slice x.a x.n x.c] from b)
       have PB := hid (PB.out.grown g (fun e => by have := Option.some.inj e; omega))
       have RB := hid (RB.out.grown g (fun e => by have := Option.some.inj e; omega))
       have HB := hid (HB.out.trans (grown_below g (by omega) (by omega)))
       clear b g z hfl FL4)
    | fail)
  refine (sput_any (D := w.heap.size) c m k OB.out (by omega) HC.out HL.out).mono ?_
  rintro e v6 ⟨u, q, rfl, b, ho, hq, g⟩
  have hsgv6 : v5.heap.size ≤ v6.heap.size := g.size
  have hsv6 : v5.heap.size ≤ v6.heap.size := by omega
  have HC := hid (HC.out.put g OB.out (by decide))
  have OB := hid (show BoxAt v6 (v3.heap.size) 46 #[.int .i64 GN, .int .i64 m, .bool k, .slice u.a u.n u.c] from by rw [HGN.out] at b; exact b)
  have PB := hid (PB.out.grown g (fun e => by have := Option.some.inj e; omega))
  have RB := hid (RB.out.grown g (fun e => by have := Option.some.inj e; omega))
  have HB := hid (HB.out.trans (grown_below g (by omega) (by omega)))
  clear HC
  rw [HGW.out] at hq
  have HU := hid ho
  have HQ := hid (hq.mono (base' := w.heap.size) (by omega))
  clear ho hq
  clear b g hsgv6
  rw [HGC.out]
  have FL5 := hid trivial
  go_wp2_with (first
    | (refine wpList_load_box rfl 24 _ rfl (v3.heap.size) rfl _ _ OB.out _ Try.underlying24 Try.infoSe ?_)
    | (have hfl := FL5.out
       refine wpList_store_whole rfl 24 _ _ rfl rfl (v1.heap.size) rfl [.int .i64 GN, .int .i64 m, .bool k, .slice u.a u.n u.c] rfl _ _ RB.out rfl Try.infoSe (by simp [Value.oneCell']) ?_
       intro v7 b g z
       have hsv7 : v6.heap.size ≤ v7.heap.size := by omega
       have HU := hid (HU.out.put g RB.out (by decide))
       have HQ := hid (HQ.out.put g RB.out (by decide))
       have RB := hid (show BoxAt v7 (v1.heap.size) 24 #[.int .i64 GN, .int .i64 m, .bool k, .slice u.a u.n u.c] from b)
       have PB := hid (PB.out.grown g (fun e => by have := Option.some.inj e; omega))
       have OB := hid (OB.out.grown g (fun e => by have := Option.some.inj e; omega))
       have HB := hid (HB.out.trans (grown_below g (by omega) (by omega)))
       clear b g z hfl FL5)
    | fail)
  refine bodyPost_ret (results_box_tmp2 rfl _ _ (v1.heap.size) 24 _ (0, 0) _ rfl RB.out Try.underlying24 rfl Try.infoSe) rfl ?_
  exact ⟨u, q, rfl, HU.out, HQ.out, HB.out⟩

end Go.Proofs.Ytjdaneppjgljpaa
