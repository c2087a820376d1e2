/-
  MemNone returns true, whatever memory and regions it is given, and nothing that was there is written.
-/
import Derived.Test.YtkkpghhomekgmaaMLaws1
import Derived.Deep.RegionHeld3
import Derived.Deep.AppendLies
namespace Go.Proofs.Ytkkpghhomekgmaa
open Go.RowKit
set_option linter.unusedVariables false

theorem Try.infoR : (Try.prog.info? 35).map (fun i => (i.zero, i.size, i.bytes)) = some (some (.agg #[.int .i64 0, .int .i64 0, .bool false]), 3, 24) := by kernel_rfl

theorem rg_len (l : List Rg) : ∀ e ∈ l.map Rg.cells, e.length = 3 := by intro e he; simp at he; obtain ⟨r, _, rfl⟩ := he; rfl
theorem rg_flat (l : List Rg) : (l.map Rg.cells).flatten.length = l.length * 3 := by have := flat_len 3 _ (rg_len l); simpa using this
theorem rg_one (l : List Rg) : ∀ u ∈ (l.map Rg.cells).flatten, u.oneCell' = true := by
  intro u hu
  obtain ⟨e, he, hr⟩ := List.mem_flatten.1 hu
  obtain ⟨r, _, rfl⟩ := List.mem_map.1 he
  simp [Rg.cells] at hr
  rcases hr with rfl | rfl | rfl <;> rfl
theorem rg_snoc (l : List Rg) (r : Rg) : ((l ++ [r]).map Rg.cells).flatten = (l.map Rg.cells).flatten ++ [.int .i64 r.f, .int .i64 r.n, .bool r.wr] := by simp [Rg.cells]

theorem SeesR.news {w : World} {b off len cap : Nat} {l : List Rg} (h : SeesR w (.slice (some ⟨b, off, none⟩) len cap) l) : ∀ j u, (l.map Rg.cells).flatten[j]? = some u → w.cell? ((⟨b, off, none⟩ : Addr).add j) = some u := by
  rcases h with ⟨hv, _⟩ | ⟨x, cap', hv, _, _, hc⟩
  · simp at hv
  · simp only [Value.slice.injEq, Option.some.injEq] at hv
    obtain ⟨rfl, _, _⟩ := hv
    exact SeesC.cells (rg_len l) hc

/-- append(nil, none...) is nil. -/
theorem append_none (w : World) (ty : TypeId) (a : Option Addr) (cap : Nat) : (Builtin.append_ #[23, 23] ty #[.slice none 0 0, .slice a 0 cap]).run Try.prog w = .ok (.slice none 0 0) w := by
  obtain ⟨i0, hi, hz0, hz1, hz2⟩ := info_parts Try.infoR
  cases a
  · simp [Builtin.append_, run_underlying Try.underlying23, sizeOf, typeInfo, hi, Builtin.lenOf, Builtin.firstCells]
  · rename_i x
    have h := run_loadCells_list (P := Try.prog) w x [] (by simp)
    simp at h
    simp [Builtin.append_, run_underlying Try.underlying23, sizeOf, typeInfo, hi, Builtin.lenOf, Builtin.firstCells, h]

theorem step_append_none {w : World} {ops : Array Oper} {o : Oper} {a : Act} {K : Act → World → Prop} {Q : Exit → Act → World → Prop} {E : Prop} (hgd : o.guard = none) (s x : Operand)
    (ho : o.op = .call { callee := .builtin .append, args := #[s, x], argTypes := #[23, 23] }) (hs : a.eval s = .slice none 0 0) (b : Option Addr) (cap : Nat) (hx : a.eval x = .slice b 0 cap)
    (h : K (a.put o.dst (.slice none 0 0)) w) : if Region.wanted o (yielded ops a.tmps) = true then Oper.wp Try.prog o a w K Q else E := by
  have hw : Region.wanted o (yielded ops a.tmps) = true := by simp [Region.wanted, hgd]
  rw [if_pos hw]
  unfold Oper.wp execOp
  simp only [ho, resolve, invoke, builtin, Sem.run_bind, Sem.run_pure, Result.andThen_ok, List.map_toArray, List.map_cons, List.map_nil, hs, hx, append_none]
  exact h

theorem touch_none (n : Nat) (k : Int) : touchE n [] k false ≠ 0 ∧ touchE n [] k true = touchE n [] k false := by
  unfold touchE; split <;> simp
theorem touch_more (n : Nat) (l : List Rg) (r : Rg) (k : Int) (h : touchE n l k false = 0) : touchE n (l ++ [r]) k false = 0 := by
  unfold touchE at h ⊢
  split at h
  · simp at h
  · rename_i h1
    rw [if_neg h1]
    split at h
    · rename_i h2; rw [if_pos (by rw [List.any_append, h2]; rfl)]
    · simp at h

set_option maxRecDepth 100000 in
set_option maxHeartbeats 3200000 in
theorem walk_MemNone (w : World) (v0 : Value) (m : List Int) (s0 : Sees w .i64 v0 m) (f0 : ∀ n ∈ m, (Lit.int .i64 n).wf = true) (v1 : Value) (l : List Rg) (s1 : SeesR w v1 l) (f1 : ∀ r ∈ l, r.fit) (g : Rg) (f2 : g.fit) (k : Int) (hk : (Lit.int .i64 k).wf = true) :
    Calls Try.prog 6 #[v0, v1, g.val, .int .i64 k] w fun e w' => e = .returned (.bool true) ∧ Below w.heap.size w w' := by
  obtain ⟨i0, hi, hz0, hz1, hz2⟩ := info_parts Try.infoR
  obtain ⟨am, cm, rfl, hm1, hm2, hmc⟩ := s0.form
  obtain ⟨al, cl, rfl, hl1, hl2, hlc⟩ := s1.form
  unfold maxLen at hm2 hl2
  have HK := hid (bounds_i64 hk)
  have HC := hid hlc
  clear hk f0 hlc hmc
  obtain ⟨f, n, q⟩ := g
  have HF2 := hid (show ∀ r ∈ l ++ [(⟨f, n, q⟩ : Rg)], r.fit by
    intro r hr
    rcases List.mem_append.1 hr with h | h
    · exact f1 r h
    · simp at h; subst h; exact f2)
  have HF := hid f1
  have H0 := hid s0
  have H1 := hid s1
  have HB0 := hid (alloc_below w (.cells #[.int .i64 f, .int .i64 n, .bool q] 35))
  unfold Rg.val
  simp only
  clear f1 f2 s0 s1
  go_enter Try.func6, Try.ntmps6
  go_wp2_with fail
  refine (mawake_any _).mono ?_
  rintro e w1 ⟨rfl, hb⟩
  have hx : ∀ w', Below (w.alloc (.cells #[.int .i64 f, .int .i64 n, .bool q] 35)).heap.size (w.alloc (.cells #[.int .i64 f, .int .i64 n, .bool q] 35)) w' → w'.cell? ⟨w.heap.size, 0, none⟩ = some (.int .i64 f) ∧ w'.cell? ⟨w.heap.size, 1, none⟩ = some (.int .i64 n) ∧ w'.cell? ⟨w.heap.size, 2, none⟩ = some (.bool q) ∧ w.heap.size < w'.heap.size :=
    fun w' hb => ⟨(hb.cell (by simp)).trans (by simp), (hb.cell (by simp)).trans (by simp), (hb.cell (by simp)).trans (by simp), by have := hb.size; simp at this; omega⟩
  have HX := hid hx
  clear hx
  have hbw : Below w.heap.size w w1 := HB0.out.trans (hb.mono (by simp))
  by_cases hlen : 200 < m.length
  · go_wp2
    go_ret
    exact ⟨rfl, hbw⟩
  by_cases hlen2 : 20 < l.length
  · go_wp2
    go_ret
    exact ⟨rfl, hbw⟩
  generalize hw0 : w.alloc (.cells #[.int .i64 f, .int .i64 n, .bool q] 35) = w0 at *
  clear hw0 HB0
  go_wp2_with fail
  refine (load_any _ _ m [] k _ (H0.out.below hbw) (SeesR.nil _) (by simp) HK.out).mono ?_
  rintro e w2 ⟨rfl, hb2⟩
  replace hb := hb.trans (hb2.mono hb.size)
  replace hbw := hbw.trans (hb2.mono hbw.size)
  clear hb2
  go_wp2_with fail
  refine (store_any _ _ m [] k 1 _ (H0.out.below hbw) (SeesR.nil _) (by simp) HK.out (by omega)).mono ?_
  rintro e w3 ⟨u, rfl, hown, hb2⟩
  replace hb := hb.trans (hb2.mono hb.size)
  replace hbw := hbw.trans (hb2.mono hbw.size)
  clear hb2 hown
  go_wp2_with fail
  refine (load_any _ _ m l k _ (H0.out.below hbw) (H1.out.below hbw) HF.out HK.out).mono ?_
  rintro e w4 ⟨rfl, hb2⟩
  replace hb := hb.trans (hb2.mono hb.size)
  replace hbw := hbw.trans (hb2.mono hbw.size)
  clear hb2
  have HT := hid (touch_none m.length k)
  have HM := hid (touch_more m.length l ⟨f, n, q⟩ k)
  rw [HT.out.2]
  generalize loadV m [] k = lv1
  generalize loadV m l k = lv2
  generalize touchE m.length [] k false = t1 at *
  obtain ⟨c0, c1, c2, hz⟩ := HX.out _ hb
  clear HX hb
  have H0' := hid (H0.out.below hbw)
  have H1' := hid (H1.out.below hbw)
  have hm0 : ∀ w', Below w4.heap.size w4 w' → Below w4.heap.size w4 w' ∧ w'.cell? ⟨w.heap.size, 0, none⟩ = some (.int .i64 f) ∧ w'.cell? ⟨w.heap.size, 1, none⟩ = some (.int .i64 n) ∧ w'.cell? ⟨w.heap.size, 2, none⟩ = some (.bool q) :=
    fun w' hb => ⟨hb, (hb.cell (by exact hz)).trans c0, (hb.cell (by exact hz)).trans c1, (hb.cell (by exact hz)).trans c2⟩
  have MK := hid hm0
  clear hm0 H0 H1
  by_cases hl0 : l.length = 0
  · have hl00 : l = [] := List.eq_nil_of_length_eq_zero hl0
    subst hl00
    simp only [List.nil_append] at HF2 HM
    clear hl0 HC H1'
    go_wp2_with fail
    go_region_held3 (fun w' => Below w4.heap.size w4 w' ∧ w'.cell? ⟨w.heap.size, 0, none⟩ = some (.int .i64 f) ∧ w'.cell? ⟨w.heap.size, 1, none⟩ = some (.int .i64 n) ∧ w'.cell? ⟨w.heap.size, 2, none⟩ = some (.bool q))
      ((go_split_ands; refine MK.out _ ?_; first
        | exact (Below.refl _ _).drew
        | assumption
        | exact Below.alloc (by assumption) (Below.size (by assumption)) _
        | exact Below.grown (by assumption) hgrow2 (Below.size (by assumption)) (by intro k hk; simp [Value.ownBlock] at hk)
        | exact Below.trans (by assumption) (Below.mono hb7 (Below.size (by assumption)))))
      ((go_split_ands; first
        | (go_at_call 11
           refine (load_any _ _ m [⟨f, n, q⟩] k _ (H0'.out.below (by assumption)) (SeesR.of_owns (base := w4.heap.size) (e := 35) (n := 1) (by simp) (by simpa [Rg.cells] using hown2)) HF2.out HK.out).mono ?_
           rintro e w7 ⟨rfl, hb7⟩)
        | (refine step_append_none (by rfl) _ _ (by rfl) (by rfl) al cl (by rfl) ?_)
        | (refine step_append_lies _ (by rfl) _ _ _ (by rfl) w4.heap.size 35 i0 _ 3 24 Try.underlying23 hi hz0 hz1 hz2 rfl (by omega) (.slice none 0 0) 0 [] (by rfl) (World.ownsRow_nil _ _ _ _)
            ⟨_, 0, none⟩ 1 1 [.int .i64 f, .int .i64 n, .bool q] (by rfl) (by rfl)
            (World.news_of_block (cs := #[.int .i64 f, .int .i64 n, .bool q]) (t := 35) (fr := (0, 0)) (heap_alloc_new _ _))
            (by simp [Value.oneCell']) (by omega) (by unfold maxLen; omega) (by omega) (Below.size (by assumption)) _ rfl ?_
           intro g2 cap2 w6 hown2 hgrow2 hat2 hlt2)))
    all_goals
      go_split_ands
      rename_i hbk _ _ _
      have hbz := hbw.trans (Below.mono hbk hbw.size)
      have HZ := hid hbz
      have HN := hid HT.out.1
      clear HT MK hbk hbz hbw hown2 hgrow2 hat2 hlt2 H0' HF HF2 HK hi hz0 hz1 hz2 hb7
      generalize touchE m.length [⟨f, n, q⟩] k false = t3 at *
      generalize touchE m.length [] k false = t2 at *
      generalize loadV m [⟨f, n, q⟩] k = lv3 at *
      have ht1 : (t1 != 0) = true := by simp [HN.out]
      have ht1' : (t1 == t1) = true := by simp
      by_cases ht2 : t2 = 0
      · have := HM.out ht2
        subst this
        subst ht2
        clear HM
        go_wp2
        go_ret
        exact ⟨rfl, HZ.out⟩
      · have ht2' : (t2 != 0) = true := by simp [ht2]
        clear HM ht2
        go_wp2
        go_ret
        exact ⟨rfl, HZ.out⟩
  · obtain ⟨b, off, rfl, _, _⟩ := HC.out (by omega)
    clear HC
    go_wp2_with fail
    go_region_held3 (fun w' => Below w4.heap.size w4 w' ∧ w'.cell? ⟨w.heap.size, 0, none⟩ = some (.int .i64 f) ∧ w'.cell? ⟨w.heap.size, 1, none⟩ = some (.int .i64 n) ∧ w'.cell? ⟨w.heap.size, 2, none⟩ = some (.bool q))
      ((go_split_ands; refine MK.out _ ?_; first
        | exact (Below.refl _ _).drew
        | exact Below.alloc (by assumption) (Below.size (by assumption)) _
        | exact Below.grown (by assumption) hgrow (Below.size (by assumption)) (by intro k hk; simp [Value.ownBlock] at hk)
        | exact Below.grown (by assumption) hgrow2 (Below.size (by assumption)) (fun k hk => (hown1.lt k hk).1)
        | exact Below.trans (by assumption) (Below.mono hb7 (Below.size (by assumption)))))
      ((go_split_ands; first
        | (go_at_call 11
           refine (load_any _ _ m (l ++ [⟨f, n, q⟩]) k _ (H0'.out.below (by assumption)) (SeesR.of_owns (base := w4.heap.size) (e := 35) (n := l.length + 1) (by simp) (by rw [rg_snoc]; simpa using hown2)) HF2.out HK.out).mono ?_
           rintro e w7 ⟨rfl, hb7⟩)
        | (refine step_append_lies _ (by rfl) _ _ _ (by rfl) w4.heap.size 35 i0 _ 3 24 Try.underlying23 hi hz0 hz1 hz2 rfl (by omega) (.slice none 0 0) 0 [] (by rfl) (World.ownsRow_nil _ _ _ _)
            ⟨b, off, none⟩ l.length cl (l.map Rg.cells).flatten (by rfl) (rg_flat l) (SeesR.news (H1'.out.below (by assumption))) (rg_one l) (by omega) (by unfold maxLen; omega) (by omega) (Below.size (by assumption)) _ rfl ?_
           intro gg cap w5 hown1 hgrow hat hlt
           simp only [Nat.zero_add, List.nil_append] at hown1 ⊢)
        | (refine step_append_lies _ (by rfl) _ _ _ (by rfl) w4.heap.size 35 i0 _ 3 24 Try.underlying23 hi hz0 hz1 hz2 rfl (by omega) (.slice (some ⟨gg, 0, none⟩) l.length cap) l.length _ (by rfl) (by first | exact hown1 | exact hown1.alloc _)
            ⟨_, 0, none⟩ 1 1 [.int .i64 f, .int .i64 n, .bool q] (by rfl) (by rfl)
            (by first
              | exact World.news_of_block (cs := #[.int .i64 f, .int .i64 n, .bool q]) (t := 35) (fr := (0, 0)) (heap_alloc_new _ _)
              | exact World.news_of_block (cs := #[.int .i64 f, .int .i64 n, .bool q]) (t := 35) (fr := (0, 0)) ((hgrow.block _ (by simp) (by simp [Value.ownBlock])).trans (heap_alloc_new _ _)))
            (by simp [Value.oneCell']) (by omega) (by unfold maxLen; omega) (by omega) (Below.size (by assumption)) _ rfl ?_
           intro g2 cap2 w6 hown2 hgrow2 hat2 hlt2)))
    all_goals
      go_split_ands
      rename_i hbk _ _ _
      have hbz := hbw.trans (Below.mono hbk hbw.size)
      have HZ := hid hbz
      have HN := hid HT.out.1
      clear HT MK hbk hbz hbw hown1 hown2 hgrow hgrow2 hat hat2 hlt hlt2 H0' H1' HF HF2 HK hi hz0 hz1 hz2 hb7
      generalize touchE m.length (l ++ [⟨f, n, q⟩]) k false = t3 at *
      generalize touchE m.length l k false = t2 at *
      generalize loadV m (l ++ [⟨f, n, q⟩]) k = lv3 at *
      have ht1 : (t1 != 0) = true := by simp [HN.out]
      have ht1' : (t1 == t1) = true := by simp
      by_cases ht2 : t2 = 0
      · have := HM.out ht2
        subst this
        subst ht2
        clear HM
        go_wp2
        go_ret
        exact ⟨rfl, HZ.out⟩
      · have ht2' : (t2 != 0) = true := by simp [ht2]
        clear HM ht2
        go_wp2
        go_ret
        exact ⟨rfl, HZ.out⟩
end Go.Proofs.Ytkkpghhomekgmaa
