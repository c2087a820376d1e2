/-
  What the document's Order and Pick return; nothing that was there is written.
-/
import Derived.Test.YtdhkchbmddacmaaYOrder
import Derived.Test.YtdhkchbmddacmaaYRef
import Derived.OwnWalk
namespace Go.Proofs.Ytdhkchbmddacmaa
open Go.RowKit
set_option linter.unusedVariables false

def candN (l : List Px) (mode : Int) (T : List Nat) (c : Nat) : Prop := couldB l c mode = true ∧ c ∉ T
/-- The best of the first n: none, or one that goes ahead of all others. -/
def BestN (l : List Px) (mode : Int) (T : List Nat) (n : Nat) (b : Int) : Prop :=
  (b = -1 ∧ ∀ c, c < n → ¬ candN l mode T c) ∨ ∃ m : Nat, b = (m : Int) ∧ m < n ∧ candN l mode T m ∧ ∀ c, c < n → candN l mode T c → c ≠ m → aheadN l m c = true

theorem best_zero (l : List Px) (mode : Int) (T : List Nat) : BestN l mode T 0 (-1) := .inl ⟨rfl, fun c hc => absurd hc (Nat.not_lt_zero _)⟩
theorem best_skip {l : List Px} {mode : Int} {T : List Nat} {n : Nat} {b : Int} (h : BestN l mode T n b) (hn : ¬ candN l mode T n) : BestN l mode T (n + 1) b := by
  rcases h with ⟨h1, h2⟩ | ⟨m, h1, h2, h3, h4⟩
  · refine .inl ⟨h1, fun c hc => ?_⟩
    by_cases e : c = n
    · rw [e]; exact hn
    · exact h2 c (by omega)
  · refine .inr ⟨m, h1, by omega, h3, fun c hc h => ?_⟩
    by_cases e : c = n
    · rw [e] at h; exact absurd h hn
    · exact h4 c (by omega) h
theorem best_first {l : List Px} {mode : Int} {T : List Nat} {n : Nat} {b : Int} (h : BestN l mode T n b) (hb : b < 0) (hn : candN l mode T n) : BestN l mode T (n + 1) (n : Int) := by
  rcases h with ⟨h1, h2⟩ | ⟨m, h1, _⟩
  · refine .inr ⟨n, rfl, by omega, hn, fun c hc h hne => absurd h (h2 c (by omega))⟩
  · omega
theorem best_new {l : List Px} {mode : Int} {T : List Nat} {n m : Nat} (h : BestN l mode T n (m : Int)) (hn : candN l mode T n) (ha : aheadN l n m = true) : BestN l mode T (n + 1) (n : Int) := by
  rcases h with ⟨h1, _⟩ | ⟨m', h1, h2, h3, h4⟩
  · omega
  · obtain rfl : m = m' := by omega
    refine .inr ⟨n, rfl, by omega, hn, fun c hc h hne => ?_⟩
    by_cases e : c = m
    · rw [e]; exact ha
    · exact ahead_trans l _ _ _ ha (h4 c (by omega) h e)
theorem best_keep {l : List Px} {mode : Int} {T : List Nat} {n m : Nat} (h : BestN l mode T n (m : Int)) (hn : candN l mode T n) (ha : aheadN l n m = false) : BestN l mode T (n + 1) (m : Int) := by
  rcases h with ⟨h1, _⟩ | ⟨m', h1, h2, h3, h4⟩
  · omega
  · obtain rfl : m = m' := by omega
    refine .inr ⟨m, rfl, by omega, h3, fun c hc h hne => ?_⟩
    by_cases e : c = n
    · rw [e]; exact (ahead_total l n m (by omega)).resolve_left (by rw [ha]; simp)
    · exact h4 c (by omega) h hne

theorem mem_orderC (l : List Px) (mode : Int) (c : Nat) : c ∈ orderS l mode ↔ c < l.length ∧ couldB l c mode = true := by
  constructor
  · intro h
    have hl := order_lt l mode c h
    exact ⟨hl, (could_mode l c mode hl).2 ((mem_order l mode c).1 h)⟩
  · rintro ⟨hl, h⟩
    exact (mem_order l mode c).2 ((could_mode l c mode hl).1 h)

theorem nodup_at {S : List Nat} (h : S.Nodup) {k : Nat} (hk : k < S.length) : S[k] ∉ S.take k := by
  intro hm
  obtain ⟨j, hj, he⟩ := List.mem_iff_getElem.1 hm
  simp only [List.length_take] at hj
  rw [List.getElem_take] at he
  have := (List.getElem_inj h).1 he
  omega

theorem best_none (l : List Px) (mode : Int) (k : Nat) (hk : k ≤ (orderS l mode).length) (b : Int) (hb : b < 0) (h : BestN l mode ((orderS l mode).take k) l.length b) : (orderS l mode).take k = orderS l mode := by
  rcases h with ⟨_, h2⟩ | ⟨m, h1, _⟩
  · rw [List.take_of_length_le]
    rcases Nat.lt_or_ge k (orderS l mode).length with hlt | hge
    · exfalso
      have hm := (mem_orderC l mode _).1 (List.getElem_mem hlt)
      exact h2 _ hm.1 ⟨hm.2, nodup_at (order_nodup l mode) hlt⟩
    · exact hge
  · omega

theorem best_some (l : List Px) (mode : Int) (k m : Nat) (hk : k ≤ (orderS l mode).length) (h : BestN l mode ((orderS l mode).take k) l.length (m : Int)) :
    k < (orderS l mode).length ∧ m < l.length ∧ m ∉ (orderS l mode).take k ∧ (orderS l mode).take (k + 1) = (orderS l mode).take k ++ [m] := by
  rcases h with ⟨h1, _⟩ | ⟨m', h1, h2, h3, h4⟩
  · omega
  · obtain rfl : m = m' := by omega
    have hmS : m ∈ orderS l mode := (mem_orderC l mode m).2 ⟨h2, h3.1⟩
    have hlt : k < (orderS l mode).length := by
      rcases Nat.lt_or_ge k (orderS l mode).length with h | h
      · exact h
      · rw [List.take_of_length_le h] at h3; exact absurd hmS h3.2
    have hE : (orderS l mode)[k] = m := by
      by_cases e : (orderS l mode)[k] = m
      · exact e
      exfalso
      have hc := (mem_orderC l mode _).1 (List.getElem_mem hlt)
      have ha := h4 _ hc.1 ⟨hc.2, nodup_at (order_nodup l mode) hlt⟩ e
      obtain ⟨j, hj, hje⟩ := List.mem_iff_getElem.1 hmS
      have hkj : k < j := by
        rcases Nat.lt_trichotomy k j with h | h | h
        · exact h
        · subst h; exact absurd hje e
        · exfalso; apply h3.2
          rw [← hje]
          exact List.mem_take_iff_getElem.2 ⟨j, by omega, rfl⟩
      have hs := (List.pairwise_iff_getElem.1 (order_sorted l mode)) k j hlt hj hkj
      rw [hje] at hs
      rw [ahead_asymm l _ _ ha] at hs
      cases hs
    exact ⟨hlt, h2, h3.2, by rw [List.take_succ_eq_append_getElem hlt, hE]⟩

/-- What was told already, as bools. -/
def toldL (n : Nat) (T : List Nat) : List Bool := (List.range n).map (fun i => decide (i ∈ T))
theorem told_len (n : Nat) (T : List Nat) : (toldL n T).length = n := by unfold toldL; simp
theorem told_get (n : Nat) (T : List Nat) (i : Nat) (hi : i < n) : ((toldL n T).map Value.bool)[i]? = some (.bool (decide (i ∈ T))) := by
  unfold toldL; simp [hi]
theorem told_none (n : Nat) : (toldL n []).map Value.bool = List.replicate n (.bool false) := by
  apply List.ext_getElem
  · simp [told_len]
  · intro i h1 h2
    simp [toldL]
theorem told_set (n : Nat) (T : List Nat) (m : Nat) : ((toldL n T).map Value.bool).set m (.bool true) = (toldL n (T ++ [m])).map Value.bool := by
  apply List.ext_getElem
  · simp [told_len]
  · intro i h1 h2
    rw [List.getElem_set]
    by_cases e : m = i
    · subst e; simp [toldL]
    · rw [if_neg e]
      simp [toldL]
      intro h; exact absurd h.symm e

theorem Try.infoOB : (Try.prog.info? 4).map (fun i => (i.zero, i.size, i.bytes)) = some (some (.bool false), 1, 1) := by kernel_rfl

/-- The row of bools. -/
def OT (w : World) (g n : Nat) (T : List Nat) : Prop := w.ownsRow g 4 1 (.slice (some ⟨g, 0, none⟩) n n) n ((toldL n T).map Value.bool)
theorem OT.below {w w' : World} {g n : Nat} {T : List Nat} (h : OT w g n T) (hb : Below w.heap.size w w') : OT w' g n T := owns_below h hb
theorem OT.cell {w : World} {g n : Nat} {T : List Nat} (h : OT w g n T) (i : Nat) (hi : i < n) : w.cell? ⟨g, i, none⟩ = some (.bool (decide (i ∈ T))) := by
  rw [h.cellAt i (by omega), told_get n T i hi]
theorem OT.lt {w : World} {g n : Nat} {T : List Nat} (h : OT w g n T) : g < w.heap.size := (World.ownsRow.lt h g rfl).2
theorem OT.free {w : World} {g n : Nat} {T : List Nat} (h : OT w g n T) (i : Nat) : w.frozen? ⟨g, i, none⟩ = false := h.frozenAt i
theorem OT.set {w : World} {g n : Nat} {T : List Nat} (h : OT w g n T) (m : Nat) : OT (w.setCell ⟨g, m, none⟩ (.bool true)) g n (T ++ [m]) := by
  have := (h.stored m (.bool true)).1
  rw [told_set] at this
  exact this

def slLen : Value → Nat | .slice _ n _ => n | _ => 0
theorem OI.len {w : World} {base : Nat} {v : Value} {L : List Int} (h : OI w base v L) : slLen v = L.length := by
  rcases h.2 with ⟨rfl, h0⟩ | ⟨g, cap, cur, rfl, _⟩
  · rw [h0]; rfl
  · rfl

/-- The first k of the order, as numbers of a machine. -/
def takeI (S : List Nat) (k : Nat) : List Int := (S.take k).map (fun i : Nat => (i : Int))
theorem takeI_len (S : List Nat) (k : Nat) (hk : k ≤ S.length) : (takeI S k).length = k := by unfold takeI; simp; omega

set_option maxRecDepth 100000 in
set_option maxHeartbeats 3200000 in
theorem rorder_any (vl : Value) (l : List Px) (mode : Int) (w : World) (hv : SeesPx w vl l) (hl : l.length ≤ 900000) :
    Calls Try.prog 12 #[vl, .int .i64 mode] w fun e w' => ∃ u, e = .returned u ∧ OI w' w.heap.size u (orderI l mode) ∧ Below w.heap.size w w' := by
  have hCo := (fun W (hW : Below w.heap.size w W) i hi => rcould_any vl l i mode W (hv.below hW) hi)
  have hAh := (fun W (hW : Below w.heap.size w W) i j hi hj => rahead_any vl l i j W (hv.below hW) hi hj)
  obtain ⟨al, cl, hvl, hl1, hl2, hlc⟩ := hv.form
  subst hvl
  clear hlc hv
  have hl3 : cl ≤ 9223372036854775807 := hl2
  clear hl2
  obtain ⟨n, hn⟩ : ∃ n, n = l.length := ⟨_, rfl⟩
  have HN := hid hn
  rw [← hn] at hl hl1
  simp only [← hn] at hCo hAh
  have HCo := hid hCo
  have HAh := hid hAh
  clear hn hCo hAh
  rw [← HN.out]
  have hSl : (orderS l mode).length ≤ 900000 := Nat.le_trans (order_le l mode) (by rw [← HN.out]; exact hl)
  obtain ⟨S, hS⟩ : ∃ S, S = orderS l mode := ⟨_, rfl⟩
  obtain ⟨M, hM⟩ : ∃ M, M = S.length := ⟨_, rfl⟩
  have HM := hid hM
  have HSd := hid hS
  rw [← hS, ← hM] at hSl
  clear hS hM
  obtain ⟨i0, hi, hz0, hz1, hz2⟩ := info_parts Try.infoOB
  go_enter Try.func12, Try.ntmps12
  go_wp2_with (at_make; refine wpList_make_room _ rfl _ _ 36 rfl w.heap.size 4 i0 (.bool false) Try.underlying36 hi hz0 hz1 rfl .i64 .i64 _ _ n n rfl rfl ?c1 ?c2 ?c3 ?c4 ?c5 ?c6 ?_)
  case c1 => rfl
  case c2 => rfl
  case c3 => exact Nat.le_refl _
  case c4 => rw [hz2]; omega
  case c5 => unfold maxLen; omega
  case c6 => exact Nat.le_refl _
  intro w0 ho hg
  have HT0 := hid (show OT w0 w.heap.size n [] by unfold OT; rw [told_none]; exact ho)
  have HB0 := hid ((Below.refl w.heap.size w).grown hg (Nat.le_refl _) (fun k hk => by cases hk))
  clear ho hg hi hz0 hz1 hz2
  go_wp2
  go_loopw [5] (fun s wc => ∃ k : Nat, k ≤ M ∧ OI wc (w.heap.size + 1) s (takeI S k) ∧ OT wc w.heap.size n (S.take k) ∧ Below w.heap.size w wc) (fun s _ => M - slLen s)
  case atStart => exact ⟨0, Nat.zero_le _, ⟨rfl, .inl ⟨rfl, rfl⟩⟩, HT0.out, HB0.out⟩
  case round =>
    obtain ⟨k, hk, hown, ht, hbel⟩ := hrel
    have HK := hid hk
    have HO1 := hid hown
    have HT1 := hid ht
    have HB1 := hid hbel
    have hlen := hown.len
    rw [takeI_len S k (by rw [← HM.out]; exact hk)] at hlen
    have HLen := hid hlen
    have hg1 := ht.lt
    obtain ⟨T, hT⟩ : ∃ T, T = S.take k := ⟨_, rfl⟩
    have HTE := hid hT
    rw [← hT] at ht HT1
    have HTC := hid (fun wc (h : Below wr.heap.size wr wc) j hj => (HT1.out.below h).cell j hj)
    clear hk hown ht hbel hlen hT HT0 HB0
    go_wp2
    go_loopw [7, 8] (fun bst i wc => ∃ (j : Nat) (b : Int), j ≤ n ∧ i = .int .i64 j ∧ bst = .int .i64 b ∧ BestN l mode T j b ∧ Below wr.heap.size wr wc) (fun _ i _ => n - (intOf i).toNat)
    case atStart => exact ⟨0, -1, Nat.zero_le _, rfl, rfl, best_zero _ _ _, Below.refl _ _⟩
    case round =>
      obtain ⟨j, b, hj, rfl, rfl, hbest, hbel2⟩ := hrel
      rename World => w2
      have HBe := hid hbest
      have HB2 := hid hbel2
      have HB3 := hid (HB1.out.trans (hbel2.mono HB1.out.size))
      clear hbest
      by_cases hlt : j < n
      · have c0 := HTC.out w2 hbel2 j hlt
        have HC1 := hid (HCo.out w2 HB3.out j hlt)
        have hj1 : j + 1 ≤ n := hlt
        clear hbel2
        obtain ⟨cb, hcb⟩ : ∃ cb, cb = couldB l j mode := ⟨_, rfl⟩
        obtain ⟨tb, htb⟩ : ∃ tb, tb = decide (j ∈ T) := ⟨_, rfl⟩
        have HCand := hid (show (cb = true ∧ tb = false) ↔ candN l mode T j from by rw [hcb, htb, decide_eq_false_iff_not]; rfl)
        rw [← hcb] at HC1
        rw [← htb] at c0
        clear hcb htb
        go_wp2_with fail
        refine HC1.out.mono ?_
        rintro e w3 ⟨rfl, rfl⟩
        cases tb
        · cases cb
          · have HE := hid (best_skip HBe.out (fun h => by have := HCand.out.2 h; simp at this))
            clear HC1 HCand HBe
            go_wp2
            go_roundw
            case rel => exact ⟨j + 1, b, hj1, by go_num, rfl, HE.out, HB2.out⟩
            case measure => simp [intOf]; omega
          · have HCd := hid (HCand.out.1 ⟨rfl, rfl⟩)
            clear HC1 HCand
            by_cases hb : b < 0
            · have HE := hid (best_first HBe.out hb HCd.out)
              clear HBe HCd
              go_wp2
              go_roundw
              case rel => exact ⟨j + 1, (j : Int), hj1, by go_num, rfl, HE.out, HB2.out⟩
              case measure => simp [intOf]; omega
            · obtain ⟨m, hm, hmj⟩ : ∃ m : Nat, b = (m : Int) ∧ m < j := by
                rcases HBe.out with ⟨h, _⟩ | ⟨m, h, h2, _⟩
                · omega
                · exact ⟨m, h, h2⟩
              subst hm
              have HA1 := hid (HAh.out w3 HB3.out j m hlt (by omega))
              have HEn := hid (best_new HBe.out HCd.out)
              have HEk := hid (best_keep HBe.out HCd.out)
              clear HBe HCd
              generalize aheadN l j m = ab at *
              go_wp2_with fail
              refine HA1.out.mono ?_
              rintro e w4 ⟨rfl, hb4⟩
              have HB4 := hid (HB2.out.trans (hb4.mono HB2.out.size))
              clear hb4 HA1 HB2 HB3
              cases ab
              · have HE := hid (HEk.out rfl)
                clear HEn HEk
                go_wp2
                go_roundw
                case rel => exact ⟨j + 1, (m : Int), hj1, by go_num, rfl, HE.out, HB4.out⟩
                case measure => simp [intOf]; omega
              · have HE := hid (HEn.out rfl)
                clear HEn HEk
                go_wp2
                go_roundw
                case rel => exact ⟨j + 1, (j : Int), hj1, by go_num, rfl, HE.out, HB4.out⟩
                case measure => simp [intOf]; omega
        · have HE := hid (best_skip HBe.out (fun h => by have := HCand.out.2 h; simp at this))
          clear HC1 HCand HBe
          go_wp2
          go_roundw
          case rel => exact ⟨j + 1, b, hj1, by go_num, rfl, HE.out, HB2.out⟩
          case measure => simp [intOf]; omega
      · have hje : j = n := by omega
        subst hje
        clear hbel2 hlt HCo HAh HTC
        have HO2 := hid (HO1.out.below HB2.out)
        have HT2 := hid (HT1.out.below HB2.out)
        by_cases hb : b < 0
        · have HE := hid (show takeI S k = orderI l mode by
            have h := HBe.out
            rw [HTE.out, HN.out, HSd.out] at h
            unfold takeI orderI
            rw [HSd.out, best_none l mode k (by rw [← HSd.out, ← HM.out]; exact HK.out) b hb h])
          have HOE := hid (show OI w2 w.heap.size _ (orderI l mode) by have h := HO2.out.mono (show w.heap.size ≤ w.heap.size + 1 by omega); rw [HE.out] at h; exact h)
          clear HBe HT2 HO2 HE HTE
          go_wp2
          go_ret
          exact ⟨_, rfl, HOE.out, HB3.out⟩
        · obtain ⟨m, hm, hmj⟩ : ∃ m : Nat, b = (m : Int) ∧ m < j := by
            rcases HBe.out with ⟨h, _⟩ | ⟨m, h, h2, _⟩
            · omega
            · exact ⟨m, h, h2⟩
          subst hm
          have hS := best_some l mode k m (by rw [← HSd.out, ← HM.out]; exact HK.out) (by have h := HBe.out; rw [HTE.out, HN.out, HSd.out] at h; exact h)
          rw [← HSd.out, ← HM.out] at hS
          have HS := hid hS
          have hk1 := hS.1
          have cf := HT2.out.free m
          have cc := HT2.out.cell m hmj
          have HT3 := hid (HT2.out.set m)
          have hz2 : w.heap.size < w2.heap.size := HT2.out.lt
          have hbs : Below w.heap.size w2 (w2.setCell ⟨w.heap.size, m, none⟩ (.bool true)) := (Below.refl w.heap.size w2).setCell (show w.heap.size ≤ (⟨w.heap.size, m, none⟩ : Addr).block from Nat.le_refl _) _
          have hbi : Below (w.heap.size + 1) w2 (w2.setCell ⟨w.heap.size, m, none⟩ (.bool true)) → True := fun _ => trivial
          have HB4 := hid (HB3.out.trans hbs)
          have HO3 := hid (show OI (w2.setCell ⟨w.heap.size, m, none⟩ (.bool true)) (w.heap.size + 1) u5 (takeI S k) from by
            have hg := (HT2.out.stored m (.bool true)).2
            refine World.ownsRow.kept (row := some w.heap.size) HO2.out hg ?_
            cases hv : u5.ownBlock with
            | none => simp
            | some q => have := (HO2.out.lt q hv).1; simp; omega)
          have hzs : (w2.setCell ⟨w.heap.size, m, none⟩ (.bool true)).heap.size = w2.heap.size := by simp
          obtain ⟨W, hW⟩ : ∃ W, W = w2.setCell ⟨w.heap.size, m, none⟩ (.bool true) := ⟨_, rfl⟩
          have HW := hid hW
          have HT4 := hid (show OT W w.heap.size j (T ++ [m]) by rw [hW]; exact HT3.out)
          rw [← hW] at HO3 HB4 hzs
          have hz3 : w2.heap.size = W.heap.size := hzs.symm
          have hba := (Below.refl W.heap.size W).alloc (Nat.le_refl _) (.cells #[.int .i64 m] 3)
          have HO5 := hid (HO3.out.below hba)
          have HT5 := hid (HT4.out.below hba)
          have HB5 := hid (HB4.out.trans (hba.mono HB4.out.size))
          have HSe := hid (show Sees (W.alloc (.cells #[.int .i64 m] 3)) .i64 (.slice (some ⟨w2.heap.size, 0, none⟩) 1 1) [(m : Int)] from by
            rw [hz3]; exact Sees.box (ys := [(m : Int)]) (BoxAt.new W 3 #[.int .i64 m]) (by simp))
          have HLn := hid (show (takeI S k).length + [(m : Int)].length ≤ 1000000 by rw [takeI_len S k (by rw [← HM.out]; exact HK.out)]; simp only [List.length_cons, List.length_nil]; omega)
          have hsw : w.heap.size + 1 ≤ (W.alloc (.cells #[.int .i64 m] 3)).heap.size := by simp; omega
          have HSW := hid hsw
          have HTk := hid (show takeI S k ++ [(m : Int)] = takeI S (k + 1) by unfold takeI; rw [hS.2.2.2]; simp)
          have HTn := hid (show T ++ [m] = S.take (k + 1) by rw [hS.2.2.2, HTE.out])
          have hmj2 : (m : Int) < j := by omega
          clear hS hbs hbi HBe HO1 HT1 HB1 HT2 HO2 hba hsw hzs hz3 HB4 HT3 HO3 HT4 HB2 HB3
          go_wp2_with (at_builtin
                       rw [← HW.out]
                       refine app_ints rfl _ _ rfl (w.heap.size + 1) _ (takeI S k) rfl HO5.out _ [(m : Int)] rfl HSe.out HLn.out HSW.out ?_
                       intro v' w6 ho hg hb
                       have HO6 := hid ho
                       have HT6 := hid (show OT w6 w.heap.size j (T ++ [m]) from World.ownsRow.kept HT5.out hg (.inr (by
                         intro e
                         have := (HO5.out.lt w.heap.size e.symm).1
                         omega)))
                       have HB6 := hid (HB5.out.trans (hb.mono (by omega)))
                       clear ho hg hb HO5 HT5 HB5 HSe)
          rw [HTk.out] at HO6
          rw [HTn.out] at HT6
          go_roundw
          case rel => exact ⟨k + 1, by omega, HO6.out, HT6.out, HB6.out⟩
          case measure =>
            have h1 := HO6.out.len
            rw [takeI_len S (k + 1) (by rw [← HM.out]; omega)] at h1
            have h2 := HLen.out
            simp [h1, h2]
            omega

theorem rpick_head (l : List Px) (mode : Int) : pickS l mode = match orderI l mode with | [] => -1 | x :: _ => x := pick_head l mode

set_option maxRecDepth 100000 in
set_option maxHeartbeats 1600000 in
theorem rpick_any (vl : Value) (l : List Px) (mode : Int) (w : World) (hv : SeesPx w vl l) (hl : l.length ≤ 900000) :
    Calls Try.prog 14 #[vl, .int .i64 mode] w fun e w' => e = .returned (.int .i64 (pickS l mode)) ∧ Below w.heap.size w w' := by
  have HO := hid (rorder_any vl l mode w hv hl)
  rw [pick_head]
  generalize orderI l mode = M at *
  obtain ⟨al, cl, rfl, _⟩ := hv.form
  clear hv
  go_enter Try.func14, Try.ntmps14
  go_wp2_with fail
  refine HO.out.mono ?_
  rintro e w1 ⟨u, rfl, ho, hb1⟩
  have HB := hid hb1
  clear HO hb1
  obtain ⟨pu, cu, rfl, h1, h2, h3⟩ := ho.sees.form
  clear ho
  cases M with
  | nil =>
    clear h3
    go_wp2
    go_ret
    exact ⟨rfl, HB.out⟩
  | cons x M =>
    obtain ⟨b, off, rfl, hbw, hc⟩ := h3 (by simp)
    have c0 : w1.cell? ⟨b, off, none⟩ = some (.int .i64 x) := hc 0 (by simp)
    have hne : ((((x :: M).length : Nat) : Int) == 0) = false := by first | (simp; done) | (simp; omega)
    have hlt : (0 : Int) < (((x :: M).length : Nat) : Int) := by first | (simp; done) | (simp; omega)
    have hlt2 : 0 < (x :: M).length := by simp
    generalize (x :: M).length = L at *
    clear hc
    go_wp2
    go_ret
    exact ⟨rfl, HB.out⟩
end Go.Proofs.Ytdhkchbmddacmaa
