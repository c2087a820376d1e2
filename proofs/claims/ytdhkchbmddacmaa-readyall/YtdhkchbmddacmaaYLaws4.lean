/-
  ReadyAll: the walk.
-/
import Derived.Test.YtdhkchbmddacmaaYLaws3
namespace Go.Proofs.Ytdhkchbmddacmaa
open Go.RowKit
set_option linter.unusedVariables false

theorem all_mem (l : List Px) (i : Nat) (hi : i < l.length) : decide (i ∈ orderS l 2) = canAt l i := by
  rw [Bool.eq_iff_iff, decide_eq_true_iff, mem_order]
  unfold modeN
  rw [if_neg (by decide), if_pos rfl]
  constructor
  · exact fun h => h.2
  · exact fun h => ⟨hi, h⟩

set_option maxRecDepth 100000 in
set_option maxHeartbeats 1600000 in
theorem walk_ReadyAll (w : World) (v : Value) (l : List Px) (hv : SeesPx w v l) (hf : ∀ r ∈ l, r.fit) :
    Calls Try.prog 7 #[v] w fun e w' => e = .returned (.bool true) ∧ Below w.heap.size w w' := by
  clear hf
  have HV := hid hv
  obtain ⟨al, cl, rfl, hl1, hl2, hlc⟩ := hv.form
  have hl3 : cl ≤ 9223372036854775807 := hl2
  have HC := hid hlc
  clear hv hl2 hlc
  go_enter Try.func7, Try.ntmps7
  go_wp2_with fail
  refine (yawake_any _).mono ?_
  rintro e w1 ⟨rfl, hb1⟩
  have HB1 := hid hb1
  clear hb1
  by_cases h40 : 40 < l.length
  · have h40' : (40 : Int) < l.length := by omega
    go_wp2
    go_ret
    exact ⟨rfl, HB1.out⟩
  have hl : l.length ≤ 900000 := by omega
  have h40' : ¬ (40 : Int) < l.length := by omega
  have HO := hid (fun W (hW : Below w.heap.size w W) => order_any _ l 2 W (HV.out.below hW) hl)
  have HM := hid (fun i hi => all_mem l i hi)
  have HL := hid (fun i hi => order_lt l 2 i hi)
  have HND := hid (order_nodup l 2)
  have HI := hid (show orderI l 2 = (orderS l 2).map (fun i : Nat => (i : Int)) from rfl)
  obtain ⟨T, hT⟩ : ∃ T, T = orderS l 2 := ⟨_, rfl⟩
  have hTl : T.length ≤ 40 := by rw [hT]; have := order_le l 2; omega
  rw [← hT] at HM HL HND HI
  generalize orderI l 2 = B at *
  clear HV hT
  go_wp2_with fail
  refine (HO.out _ HB1.out).mono ?_
  rintro e w2 ⟨u2, rfl, ho2, hb2⟩
  have HB2 := hid (HB1.out.trans (hb2.mono HB1.out.size))
  obtain ⟨po, co, hvo, hs1, hs2, hsc⟩ := ho2.sees.form
  subst hvo
  unfold maxLen at hs2
  have hBl : B.length = T.length := by rw [HI.out, List.length_map]
  have hBg : ∀ i, i < T.length → B.getD i 0 = ((T.getD i 0 : Nat) : Int) := fun i hi => by rw [HI.out]; simp [List.getD, List.getElem?_eq_getElem hi]
  rw [hBl] at hs1 hsc ⊢
  have HOC := hid (fun (h : 0 < T.length) => by
    obtain ⟨b, off, h1, h2, h3⟩ := hsc h
    exact (⟨b, off, h1, h2, fun i hi => by rw [h3 i hi, hBg i hi]⟩ : ∃ b off, po = some ⟨b, off, none⟩ ∧ b < w2.heap.size ∧ ∀ i, i < T.length → w2.cell? ⟨b, off + i, none⟩ = some (.int .i64 ((T.getD i 0 : Nat) : Int))))
  clear hsc ho2 hb2 HO HI hBg hBl
  obtain ⟨n, hn⟩ : ∃ n, n = l.length := ⟨_, rfl⟩
  have HN := hid hn
  rw [← hn] at hl hl1 h40 h40' HM
  have HLn := hid (fun i (hi : i ∈ T) => show i < n by rw [hn]; exact HL.out i hi)
  have HCn := hid (show 0 < n → ∃ b off, al = some ⟨b, off, none⟩ ∧ b < w.heap.size ∧ ∀ i, i < n → PxAt w b (off + i * 18) (l.getD i Px.zero) by
    rw [hn]; intro h; obtain ⟨b, off, h1, h2, h3⟩ := HC.out h; exact ⟨b, off, h1, h2, h3⟩)
  rw [← hn]
  clear hn HL HC
  obtain ⟨i0, hi, hz0, hz1, hz2⟩ := info_parts Try.infoOB
  go_wp2_with (at_make; refine wpList_make_room _ rfl _ _ 36 rfl w2.heap.size 4 i0 (.bool false) Try.underlying36 hi hz0 hz1 rfl .i64 .i64 _ _ n n rfl rfl ?c1 ?c2 ?c3 ?c4 ?c5 ?c6 ?_)
  case c1 => rfl
  case c2 => rfl
  case c3 => exact Nat.le_refl _
  case c4 => rw [hz2]; omega
  case c5 => unfold maxLen; omega
  case c6 => exact Nat.le_refl _
  intro w3 ho hg
  have HT0 := hid (show OT w3 w2.heap.size n [] by unfold OT; rw [told_none]; exact ho)
  have HB3 := hid ((Below.refl w2.heap.size w2).grown hg (Nat.le_refl _) (fun k hk => by cases hk))
  clear ho hg hi hz0 hz1 hz2
  go_wp2
  go_loopw [6] (fun t wc => ∃ i : Nat, i ≤ T.length ∧ t = .int .i64 i ∧ OT wc w2.heap.size n (T.take i) ∧ Below w2.heap.size w2 wc) (fun t _ => T.length - (intOf t).toNat)
  case atStart => exact ⟨0, Nat.zero_le _, rfl, HT0.out, HB3.out⟩
  case round =>
    obtain ⟨i, hi, rfl, ht, hbel⟩ := hrel
    have HT1 := hid ht
    have HBE := hid hbel
    have HB4 := hid (HB2.out.trans (hbel.mono HB2.out.size))
    clear HT0 HB3
    by_cases hlt : i < T.length
    · obtain ⟨b, off, rfl, hbw, hc⟩ := HOC.out (by omega)
      have c0 := (hbel.cell (by exact hbw)).trans (hc i hlt)
      have hmem : T.getD i 0 ∈ T := by simp [List.getD, List.getElem?_eq_getElem hlt]
      have hmn := HLn.out _ hmem
      have hnot : T.getD i 0 ∉ T.take i := by
        have := nodup_at HND.out hlt
        simpa [List.getD, List.getElem?_eq_getElem hlt] using this
      have hsuc : T.take i ++ [T.getD i 0] = T.take (i + 1) := by rw [List.take_succ_eq_append_getElem hlt]; simp [List.getD, List.getElem?_eq_getElem hlt]
      have c1 := ht.cell _ hmn
      rw [decide_eq_false hnot] at c1
      have f1 := ht.free (T.getD i 0)
      have HT2 := hid (ht.set (T.getD i 0))
      rw [hsuc] at HT2
      have HBS := hid (hbel.setCell (show w2.heap.size ≤ (⟨w2.heap.size, T.getD i 0, none⟩ : Addr).block from Nat.le_refl _) (.bool true))
      have hz4 := ht.lt
      have hne4 : b ≠ w2.heap.size := by omega
      clear hc ht hbel hnot hsuc hmem HOC HT1 HLn HND HM
      generalize T.getD i 0 = m at *
      have hm1 : ¬ ((m : Int) < 0) := by omega
      have hm2 : (m : Int) < n := by omega
      have hm3 : ¬ ((n : Int) ≤ m) := by omega
      have hi1 : i + 1 ≤ T.length := hlt
      go_wp2
      go_roundw
      case rel => exact ⟨i + 1, hi1, by go_num, HT2.out, HBS.out⟩
      case measure => simp [intOf]; omega
    · have hie : i = T.length := by omega
      subst hie
      rw [List.take_length] at ht
      have HT5 := hid ht
      clear HT1 HOC HND HLn ht
      rename World => w4
      have hz4 : w2.heap.size < w4.heap.size := HT5.out.lt
      go_wp2
      go_loopw [7] (fun t wc => ∃ j : Nat, j ≤ n ∧ t = .int .i64 j ∧ Below w4.heap.size w4 wc) (fun t _ => n - (intOf t).toNat)
      case atStart => exact ⟨0, Nat.zero_le _, rfl, Below.refl _ _⟩
      case round =>
        obtain ⟨j, hj, rfl, hbel2⟩ := hrel
        have HB5 := hid hbel2
        have HB6 := hid (HB4.out.trans (hbel2.mono HB4.out.size))
        by_cases hjt : j < n
        · obtain ⟨b, off, rfl, hbw, hc⟩ := HCn.out (by omega)
          have hp : PxAt wr b (off + j * 18) (l.getD j Px.zero) := (hc j hjt).below HB6.out hbw
          have c0 := hp.st
          have c2 := hp.su
          have c1 := (hbel2.cell (by exact hz4)).trans (HT5.out.cell j hjt)
          rw [HM.out j hjt] at c1
          unfold canAt canP at c1
          clear hc hp hbel2 HCn HT5 HM HN
          generalize (l.getD j Px.zero).st = st at *
          generalize (l.getD j Px.zero).su = su at *
          by_cases hs : st = 1
          · subst hs
            cases su
            · have c1' : wr.cell? ⟨w2.heap.size, j, none⟩ = some (.bool true) := by rw [c1]; rfl
              clear c1
              go_wp2
              go_quiet (fail)
              go_wp2
              go_roundw
              case rel => exact ⟨j + 1, hjt, by go_num, below_drewN9 HB5.out _⟩
              case measure => simp [intOf]; omega
            · have c1' : wr.cell? ⟨w2.heap.size, j, none⟩ = some (.bool false) := by rw [c1]; rfl
              clear c1
              go_wp2
              go_quiet (fail)
              go_wp2
              go_roundw
              case rel => exact ⟨j + 1, hjt, by go_num, below_drewN9 HB5.out _⟩
              case measure => simp [intOf]; omega
          · have hsb : (st == 1) = false := by simpa using hs
            have c1' : wr.cell? ⟨w2.heap.size, j, none⟩ = some (.bool false) := by rw [c1]; simp [hs]
            clear c1 hs
            go_wp2
            go_quiet (fail)
            go_wp2
            go_roundw
            case rel => exact ⟨j + 1, hjt, by go_num, below_drewN9 HB5.out _⟩
            case measure => simp [intOf]; omega
        · clear HCn HT5 HM HN HB5 hbel2
          go_wp2
          go_ret
          exact ⟨rfl, HB6.out⟩
end Go.Proofs.Ytdhkchbmddacmaa
