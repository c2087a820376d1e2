/-
  MemTwice returns true, whatever regions it is given, and nothing that was there is written.
-/
import Derived.Test.YtkkpghhomekgmaaMLaws3
namespace Go.Proofs.Ytkkpghhomekgmaa
open Go.RowKit
set_option linter.unusedVariables false

theorem may_parts {l : List Rg} {n : Int} (h : mayB l n = true) : 1 ≤ n ∧ n ≤ 64 ∧ l.length ≤ 4 ∧ ∀ i, i < l.length → goodAt l n i := by
  unfold mayB at h; rw [decide_eq_true_eq] at h; exact h
theorem may_twice {l : List Rg} {n : Int} (h : mayB l n = true) (hl : 0 < l.length) : mayB (l ++ [l.getD 0 Rg.zero]) n = false := by
  obtain ⟨h1, h2, h4, hg⟩ := may_parts h
  unfold mayB
  rw [decide_eq_false]
  rintro ⟨_, _, _, hx⟩
  have hf := (hg 0 hl).1
  have := (hx l.length (by simp)).2 0 hl
  rw [show (l ++ [l.getD 0 Rg.zero]).getD l.length Rg.zero = l.getD 0 Rg.zero by simp [List.getD], show (l ++ [l.getD 0 Rg.zero]).getD 0 Rg.zero = l.getD 0 Rg.zero by rw [List.getD, List.getElem?_append_left hl, ← List.getD]] at this
  generalize l.getD 0 Rg.zero = r at *
  simp [fitsB] at hf
  simp [meetB] at this
  omega
theorem may_drop {l : List Rg} {n : Int} (h : mayB l n = true) : mayB (l.drop 1) n = true := by
  obtain ⟨h1, h2, h4, hg⟩ := may_parts h
  unfold mayB
  rw [decide_eq_true_eq]
  refine ⟨h1, h2, by simp; omega, fun i hi => ?_⟩
  have hi' : i + 1 < l.length := by simp at hi; omega
  have he : ∀ k, (l.drop 1).getD k Rg.zero = l.getD (k + 1) Rg.zero := by intro k; simp [List.getD]
  refine ⟨by rw [he]; exact (hg (i + 1) hi').1, fun j hj => ?_⟩
  rw [he, he]
  exact (hg (i + 1) hi').2 (j + 1) (by omega)
theorem may_nil {l : List Rg} {n : Int} (h : mayB l n = true) : mayB [] n = true := by
  obtain ⟨h1, h2, h4, hg⟩ := may_parts h
  unfold mayB
  rw [decide_eq_true_eq]
  exact ⟨h1, h2, by simp, fun i hi => by simp at hi⟩

theorem SeesR.dropped {w : World} {b off cap : Nat} {l : List Rg} (h : SeesR w (.slice (some ⟨b, off, none⟩) l.length cap) l) (n : Nat) (hn : n ≤ l.length) (hc : l.length ≤ cap) :
    SeesR w (.slice (if cap = n then some ⟨b, off, none⟩ else some ⟨b, off + n * 3, none⟩) (l.length - n) (cap - n)) (l.drop n) := by
  rcases h with ⟨hv, _⟩ | ⟨x, cap', hv, h1, h2, hcell⟩
  · simp at hv
  · simp only [Value.slice.injEq, Option.some.injEq] at hv
    obtain ⟨rfl, _, rfl⟩ := hv
    have := SeesC.dropped (w := w) (c := 3) (b := b) (off := off) (cap := cap) (es := l.map Rg.cells) n (by simpa using hn) h1 h2 (fun i hi j hj => by rw [← add_none]; exact hcell i hi j hj)
    rw [List.length_map, ← List.map_drop] at this
    exact this

set_option maxRecDepth 100000 in
set_option maxHeartbeats 3200000 in
theorem walk_MemTwice (w : World) (v1 : Value) (l : List Rg) (s1 : SeesR w v1 l) (f1 : ∀ r ∈ l, r.fit) (k : Int) (hk : (Lit.int .i64 k).wf = true) :
    Calls Try.prog 8 #[v1, .int .i64 k] w fun e w' => e = .returned (.bool true) ∧ Below w.heap.size w w' := by
  obtain ⟨i0, hi, hz0, hz1, hz2⟩ := info_parts Try.infoR
  obtain ⟨al, cl, rfl, hl1, hl2, hlc⟩ := s1.form
  unfold maxLen at hl2
  have HC := hid hlc
  have HF := hid f1
  have H1 := hid s1
  clear f1 s1 hlc hk
  go_enter Try.func8, Try.ntmps8
  go_wp2_with fail
  refine (mawake_any _).mono ?_
  rintro e w1 ⟨rfl, hb⟩
  by_cases hlen : 20 < l.length
  · go_wp2
    go_ret
    exact ⟨rfl, hb⟩
  go_wp2_with fail
  refine (may_any _ l k _ (H1.out.below hb) HF.out).mono ?_
  rintro e w2 ⟨rfl, hb2⟩
  replace hb := hb.trans (hb2.mono hb.size)
  clear hb2
  by_cases hmay : mayB l k = true
  · by_cases hl0 : l.length = 0
    · have hlb : ((l.length : Int) == 0) = true := by simp [hl0]
      have HL := hid hl0
      clear hl0
      go_wp2
      go_ret
      exact ⟨rfl, hb⟩
    · have hlb : ((l.length : Int) == 0) = false := by rw [beq_eq_false_iff_ne]; omega
      obtain ⟨b, off, rfl, hbw, hcell⟩ := HC.out (by omega)
      obtain ⟨c0, c1, c2⟩ := hcell 0 (by omega)
      rw [Nat.zero_mul, Nat.add_zero] at c0 c1 c2
      have HA := hid (may_twice hmay (by omega))
      have HD := hid (may_drop hmay)
      have HN := hid (may_nil hmay)
      have HF2 := hid (show ∀ r ∈ l ++ [l.getD 0 Rg.zero], r.fit by
        intro r hr
        rcases List.mem_append.1 hr with h | h
        · exact HF.out r h
        · simp only [List.mem_singleton] at h; subst h; exact fit_at HF.out 0 (by omega))
      have HF3 := hid (show ∀ r ∈ l.drop 1, r.fit from fun r hr => HF.out r (List.mem_of_mem_drop hr))
      have H1' := hid (H1.out.below hb)
      have H2' := hid ((H1.out.below hb).dropped 1 (by omega) hl1)
      have hs1 := rg_snoc l (l.getD 0 Rg.zero)
      have HS := hid hs1
      clear hcell HC H1 HF hs1
      generalize l.getD 0 Rg.zero = r at *
      obtain ⟨f, n, q⟩ := r
      simp only at c0 c1 c2 HS
      have hm0 : ∀ w', Below w2.heap.size w2 w' → Below w2.heap.size w2 w' ∧ w'.cell? ⟨b, off, none⟩ = some (.int .i64 f) ∧ w'.cell? ⟨b, off + 1, none⟩ = some (.int .i64 n) ∧ w'.cell? ⟨b, off + 2, none⟩ = some (.bool q) :=
        fun w' hb' => ⟨hb', ((hb'.cell (by have := hb.size; simp; omega)).trans (hb.cell (by exact hbw))).trans c0, ((hb'.cell (by have := hb.size; simp; omega)).trans (hb.cell (by exact hbw))).trans c1, ((hb'.cell (by have := hb.size; simp; omega)).trans (hb.cell (by exact hbw))).trans c2⟩
      have MK := hid hm0
      clear hm0 c0 c1 c2
      have HRF := hid (rg_flat l)
      have HLN := hid (show (l ++ [(⟨f, n, q⟩ : Rg)]).length = l.length + 1 by simp)
      generalize l.length = N at *
      have hi1 : (0 : Int) < (N : Int) := by omega
      have hi0 : 0 < N := by omega
      have hi2 : (1 : Int) ≤ (N : Int) := by omega
      have hi3 : (N : Int) ≤ (cl : Int) := by omega
      clear hl0
      rcases Decidable.em (cl = 1) with rfl | hcl
      · obtain rfl : N = 1 := by omega
        clear hi0 hi1 hi2 hi3 hlb
        go_wp2_with fail
        go_region_held3 (fun w' => Below w2.heap.size w2 w' ∧ w'.cell? ⟨b, off, none⟩ = some (.int .i64 f) ∧ w'.cell? ⟨b, off + 1, none⟩ = some (.int .i64 n) ∧ w'.cell? ⟨b, off + 2, none⟩ = some (.bool q))
          ((go_split_ands; refine MK.out _ ?_; first
            | exact (Below.refl _ _).drew
            | exact Below.alloc (by assumption) (Below.size (by assumption)) _
            | exact Below.grown (by assumption) hgrow (Below.size (by assumption)) (by intro k hk; simp [Value.ownBlock] at hk)
            | exact Below.grown (by assumption) hgrow2 (Below.size (by assumption)) (fun k hk => (hown1.lt k hk).1)
            | exact Below.trans (by assumption) (Below.mono hb7 (Below.size (by assumption)))))
          ((go_split_ands; first
            | (go_at_call 16
               refine (may_any _ (l ++ [⟨f, n, q⟩]) k _ (SeesR.of_owns (base := w2.heap.size) (e := 35) (n := 2) HLN.out.symm (by rw [HS.out]; simpa using hown2)) HF2.out).mono ?_
               rintro e w7 ⟨rfl, hb7⟩
               rw [HA.out])
            | (go_at_call 16
               refine (may_any _ (l.drop 1) k _ (by have h := H2'.out.below (by assumption); simpa using h) HF3.out).mono ?_
               rintro e w7 ⟨rfl, hb7⟩
               rw [HD.out])
            | (go_at_call 16
               refine (may_any _ [] k _ (SeesR.nil _) (by simp)).mono ?_
               rintro e w7 ⟨rfl, hb7⟩
               rw [HN.out])
            | (refine step_append_lies _ (by rfl) _ _ _ (by rfl) w2.heap.size 35 i0 _ 3 24 Try.underlying23 hi hz0 hz1 hz2 rfl (by omega) (.slice none 0 0) 0 [] (by rfl) (World.ownsRow_nil _ _ _ _)
                ⟨b, off, none⟩ 1 1 (l.map Rg.cells).flatten (by rfl) HRF.out (SeesR.news (H1'.out.below (by assumption))) (rg_one l) (by omega) (by unfold maxLen; omega) (by omega) (Below.size (by assumption)) _ rfl ?_
               intro gg cap w5 hown1 hgrow hat hlt
               simp only [Nat.zero_add, List.nil_append] at hown1 ⊢)
            | (refine step_append_lies _ (by rfl) _ _ _ (by rfl) w2.heap.size 35 i0 _ 3 24 Try.underlying23 hi hz0 hz1 hz2 rfl (by omega) (.slice (some ⟨gg, 0, none⟩) 1 cap) 1 _ (by rfl) (by first | exact hown1 | exact hown1.alloc _)
                ⟨_, 0, none⟩ 1 1 [.int .i64 f, .int .i64 n, .bool q] (by rfl) (by rfl)
                (by first
                  | exact World.news_of_block (cs := #[.int .i64 f, .int .i64 n, .bool q]) (t := 35) (fr := (0, 0)) (heap_alloc_new _ _)
                  | exact World.news_of_block (cs := #[.int .i64 f, .int .i64 n, .bool q]) (t := 35) (fr := (0, 0)) ((hgrow.block _ (by simp) (by simp [Value.ownBlock])).trans (heap_alloc_new _ _)))
                (by simp [Value.oneCell']) (by omega) (by unfold maxLen; omega) (by omega) (Below.size (by assumption)) _ rfl ?_
               intro g2 cap2 w6 hown2 hgrow2 hat2 hlt2)))
        all_goals
          go_split_ands
          rename_i hbk _ _ _
          have hbz := hb.trans (Below.mono hbk hb.size)
          have HZ := hid hbz
          go_wp2
          go_ret
          exact ⟨rfl, HZ.out⟩
      · go_wp2_with fail
        go_region_held3 (fun w' => Below w2.heap.size w2 w' ∧ w'.cell? ⟨b, off, none⟩ = some (.int .i64 f) ∧ w'.cell? ⟨b, off + 1, none⟩ = some (.int .i64 n) ∧ w'.cell? ⟨b, off + 2, none⟩ = some (.bool q))
          ((go_split_ands; refine MK.out _ ?_; first
            | exact (Below.refl _ _).drew
            | exact Below.alloc (by assumption) (Below.size (by assumption)) _
            | exact Below.grown (by assumption) hgrow (Below.size (by assumption)) (by intro k hk; simp [Value.ownBlock] at hk)
            | exact Below.grown (by assumption) hgrow2 (Below.size (by assumption)) (fun k hk => (hown1.lt k hk).1)
            | exact Below.trans (by assumption) (Below.mono hb7 (Below.size (by assumption)))))
          ((go_split_ands; first
            | (go_at_call 16
               refine (may_any _ (l ++ [⟨f, n, q⟩]) k _ (SeesR.of_owns (base := w2.heap.size) (e := 35) (n := N + 1) HLN.out.symm (by rw [HS.out]; simpa using hown2)) HF2.out).mono ?_
               rintro e w7 ⟨rfl, hb7⟩
               rw [HA.out])
            | (go_at_call 16
               refine (may_any _ (l.drop 1) k _ (by have h := H2'.out.below (by assumption); simpa [hcl] using h) HF3.out).mono ?_
               rintro e w7 ⟨rfl, hb7⟩
               rw [HD.out])
            | (go_at_call 16
               refine (may_any _ [] k _ (SeesR.nil _) (by simp)).mono ?_
               rintro e w7 ⟨rfl, hb7⟩
               rw [HN.out])
            | (refine step_append_lies _ (by rfl) _ _ _ (by rfl) w2.heap.size 35 i0 _ 3 24 Try.underlying23 hi hz0 hz1 hz2 rfl (by omega) (.slice none 0 0) 0 [] (by rfl) (World.ownsRow_nil _ _ _ _)
                ⟨b, off, none⟩ N cl (l.map Rg.cells).flatten (by rfl) HRF.out (SeesR.news (H1'.out.below (by assumption))) (rg_one l) (by omega) (by unfold maxLen; omega) (by omega) (Below.size (by assumption)) _ rfl ?_
               intro gg cap w5 hown1 hgrow hat hlt
               simp only [Nat.zero_add, List.nil_append] at hown1 ⊢)
            | (refine step_append_lies _ (by rfl) _ _ _ (by rfl) w2.heap.size 35 i0 _ 3 24 Try.underlying23 hi hz0 hz1 hz2 rfl (by omega) (.slice (some ⟨gg, 0, none⟩) N cap) N _ (by rfl) (by first | exact hown1 | exact hown1.alloc _)
                ⟨_, 0, none⟩ 1 1 [.int .i64 f, .int .i64 n, .bool q] (by rfl) (by rfl)
                (by first
                  | exact World.news_of_block (cs := #[.int .i64 f, .int .i64 n, .bool q]) (t := 35) (fr := (0, 0)) (heap_alloc_new _ _)
                  | exact World.news_of_block (cs := #[.int .i64 f, .int .i64 n, .bool q]) (t := 35) (fr := (0, 0)) ((hgrow.block _ (by simp) (by simp [Value.ownBlock])).trans (heap_alloc_new _ _)))
                (by simp [Value.oneCell']) (by omega) (by unfold maxLen; omega) (by omega) (Below.size (by assumption)) _ rfl ?_
               intro g2 cap2 w6 hown2 hgrow2 hat2 hlt2)))
        all_goals
          go_split_ands
          rename_i hbk _ _ _
          have hbz := hb.trans (Below.mono hbk hb.size)
          have HZ := hid hbz
          go_wp2
          go_ret
          exact ⟨rfl, HZ.out⟩
  · have hmay' : mayB l k = false := by simpa using hmay
    go_wp2
    go_ret
    exact ⟨rfl, hb⟩
end Go.Proofs.Ytkkpghhomekgmaa
