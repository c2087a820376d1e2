/-
  What the test of the windows' order returns, whatever windows that may be it is given, and that nothing that was there is written.
-/
import Derived.Test.YtfdoejdnhogepaaTSpan
import Derived.Test.YtfdoejdnhogepaaTPlanB
namespace Go.Proofs.Ytfdoejdnhogepaa
open Go.RowKit
set_option linter.unusedVariables false

/-- From 'free' on, does none begin ahead of the end of the one ahead of it? -/
def orderF : Int → List Wn → Bool
  | _, [] => true
  | free, v :: l => if v.st < free then false else orderF (v.st + v.ln) l

set_option maxRecDepth 100000 in
set_option maxHeartbeats 800000 in
theorem inOrder_any (v : Value) (l : List Wn) (w : World) (hv : SeesWn w v l) (hf : ∀ x ∈ l, 0 ≤ x.st ∧ x.st + x.ln ≤ 9223372036854775807 ∧ 1 ≤ x.ln) :
    Calls Try.prog 49 #[v] w fun e w' => e = .returned (.bool (orderF 0 l)) ∧ Below w.heap.size w w' := by
  obtain ⟨al, cl, rfl, hl1, hl2, hlc⟩ := hv.form
  unfold maxLen at hl2
  have HC := hid hlc
  have HF := hid hf
  clear hlc hv hf
  obtain ⟨R, hR⟩ : ∃ r, orderF 0 l = r := ⟨_, rfl⟩
  rw [hR]
  have HR := hid hR
  clear hR
  go_enter Try.func49, Try.ntmps49
  go_wp2
  go_loopw [3, 8] (fun s t wc => ∃ (i : Nat) (f : Int), i ≤ l.length ∧ t = .int .i64 i ∧ s = .int .i64 f ∧ orderF f (l.drop i) = R ∧ Below w.heap.size w wc) (fun _ t _ => l.length - (intOf t).toNat)
  case atStart => exact ⟨0, 0, by omega, rfl, rfl, by simpa using HR.out, Below.refl _ _⟩
  case round =>
    obtain ⟨i, f, hi, rfl, rfl, ho, hbel⟩ := hrel
    have HO := hid ho
    clear ho HR
    by_cases hlt : i < l.length
    · obtain ⟨b, off, rfl, hbw, hcell⟩ := HC.out (by omega)
      have c0 := (hbel.cell (by exact hbw)).trans (hcell i hlt 0 (by decide))
      have c1 := (hbel.cell (by exact hbw)).trans (hcell i hlt 1 (by decide))
      have c2 := (hbel.cell (by exact hbw)).trans (hcell i hlt 2 (by decide))
      have hmem : l.getD i Wn.zero ∈ l := by simp [List.getD, List.getElem?_eq_getElem hlt]
      obtain ⟨f0, f1, f2⟩ := HF.out _ hmem
      have hdrop : l.drop i = l.getD i Wn.zero :: l.drop (i + 1) := by
        rw [List.drop_eq_getElem_cons hlt]; simp [List.getD, List.getElem?_eq_getElem hlt]
      rw [hdrop, orderF] at HO
      clear hcell HC HF hmem hdrop
      generalize l.getD i Wn.zero = r at *
      obtain ⟨x0, x1, x2⟩ := r
      simp only [Wn.cells, List.getD_cons_zero, List.getD_cons_succ, Nat.add_zero] at c0 c1 c2 f0 f1 f2 HO
      by_cases hs : x1 < f
      · have HN := hid (show false = R by have := HO.out; rw [if_pos hs] at this; exact this)
        clear HO
        go_wp2
        go_ret
        exact ⟨by rw [← HN.out]; rfl, hbel.alloc hbel.size _⟩
      · have HN := hid (show orderF (x1 + x2) (l.drop (i + 1)) = R by have := HO.out; rw [if_neg hs] at this; exact this)
        clear HO
        go_wp2
        go_roundw
        case rel => exact ⟨i + 1, x1 + x2, by omega, by go_num, by go_num, HN.out, hbel.alloc hbel.size _⟩
        case measure => simp [intOf]; omega
    · have HE := hid (show true = R by have := HO.out; rw [List.drop_of_length_le (by omega)] at this; exact this)
      clear HO
      go_wp2
      go_ret
      exact ⟨by rw [← HE.out]; rfl, hbel⟩

def endsL : List Ch → List En
  | [] => []
  | c :: l => fromE c :: toE c :: endsL l
theorem endsL_length (l : List Ch) : (endsL l).length = 2 * l.length := by
  induction l with
  | nil => rfl
  | cons c l ih => simp [endsL, ih]; omega
theorem endsL_append (l m : List Ch) : endsL (l ++ m) = endsL l ++ endsL m := by
  induction l with
  | nil => rfl
  | cons c l ih => simp [endsL, ih]

def apartF : List En → List Ch → Bool
  | _, [] => true
  | tk, c :: l => if memE tk (fromE c) = true then false else if memE tk (toE c) = true then false else apartF (tk ++ [fromE c, toE c]) l

set_option maxRecDepth 100000 in
set_option maxHeartbeats 3200000 in
theorem apart_any (v : Value) (l : List Ch) (w : World) (hv : SeesCh w v l) (hlen : l.length ≤ 100000) :
    Calls Try.prog 52 #[v] w fun x w' => x = .returned (.bool (apartF [] l)) ∧ Below w.heap.size w w' := by
  obtain ⟨i0, hi, hz0, hz1, hz2⟩ := info_parts Try.infoEn2
  obtain ⟨al, cl, rfl, hl1, hl2, hlc⟩ := hv.form
  unfold maxLen at hl2
  have HC := hid hlc
  clear hlc hv
  obtain ⟨R, hR⟩ : ∃ r, apartF [] l = r := ⟨_, rfl⟩
  rw [hR]
  have HR := hid hR
  clear hR
  go_enter Try.func52, Try.ntmps52
  go_wp2
  go_loopw [3, 10] (fun s t wc => ∃ i : Nat, i ≤ l.length ∧ t = .int .i64 i ∧ wc.ownsRow w.heap.size 120 3 s (2 * i) ((endsL (l.take i)).map En.cells).flatten ∧ apartF (endsL (l.take i)) (l.drop i) = R ∧ Below w.heap.size w wc) (fun _ t _ => l.length - (intOf t).toNat)
  case atStart => exact ⟨0, by omega, rfl, by simpa [endsL] using World.ownsRow_nil w _ _ 3, by simpa [endsL] using HR.out, Below.refl _ _⟩
  case round =>
    obtain ⟨i, hile, rfl, hown, ho, hbel⟩ := hrel
    have HO := hid ho
    have HW := hid hown
    clear ho hown HR
    by_cases hlt : i < l.length
    · obtain ⟨b, off, rfl, hbw, hcell⟩ := HC.out (by omega)
      have c0 := (hbel.cell (by exact hbw)).trans (hcell i hlt 0 (by decide))
      have c1 := (hbel.cell (by exact hbw)).trans (hcell i hlt 1 (by decide))
      have c2 := (hbel.cell (by exact hbw)).trans (hcell i hlt 2 (by decide))
      have c3 := (hbel.cell (by exact hbw)).trans (hcell i hlt 3 (by decide))
      have c4 := (hbel.cell (by exact hbw)).trans (hcell i hlt 4 (by decide))
      have hdrop : l.drop i = l.getD i Ch.zero :: l.drop (i + 1) := by
        rw [List.drop_eq_getElem_cons hlt]; simp [List.getD, List.getElem?_eq_getElem hlt]
      have htake : endsL (l.take (i + 1)) = endsL (l.take i) ++ [fromE (l.getD i Ch.zero), toE (l.getD i Ch.zero)] := by
        rw [List.take_succ_eq_append_getElem hlt, endsL_append]
        simp [List.getD, List.getElem?_eq_getElem hlt, endsL]
      have HT := hid htake
      rw [hdrop, apartF] at HO
      have hel : (endsL (l.take i)).length = 2 * i := by rw [endsL_length, List.length_take]; omega
      have HEL := hid hel
      clear hcell HC hdrop htake hel
      generalize l.getD i Ch.zero = r at *
      generalize endsL (l.take i) = tk at *
      obtain ⟨x0, x1, x2, x3, x4⟩ := r
      simp only [Ch.cells, List.getD_cons_zero, List.getD_cons_succ, Nat.add_zero] at c0 c1 c2 c3 c4
      go_wp2_with fail
      refine (ends_any ⟨x0, x1, x2, x3, x4⟩ _).mono ?_
      rintro e w1 ⟨rfl, hb⟩
      have hB : Below wr.heap.size wr w1 := ((Below.refl _ _).alloc (Nat.le_refl _) _).trans (hb.mono (by simp))
      clear hb c0 c1 c2 c3 c4
      have HT2 := hid (show endsL (l.take (i + 1)) = tk ++ [⟨x0, x1, x2⟩, ⟨x0, x3, x4⟩] from HT.out)
      have HOa := hid (show (if memE tk ⟨x0, x1, x2⟩ = true then false else if memE tk ⟨x0, x3, x4⟩ = true then false else apartF (tk ++ [⟨x0, x1, x2⟩, ⟨x0, x3, x4⟩]) (l.drop (i + 1))) = R from HO.out)
      clear HT HO
      simp only [fromE, toE, En.val]
      go_wp2_with fail
      have hB2 := (hB.alloc hB.size (.cells #[.bool x0, .int .i64 x1, .int .i64 x2] 120)).alloc (by have := hB.size; simp; omega) (.cells #[.bool x0, .int .i64 x3, .int .i64 x4] 120)
      refine (contains_any _ tk ⟨x0, x1, x2⟩ _ (SeesEn.owned HEL.out.symm (owns_below HW.out hB2))).mono ?_
      rintro e w2 ⟨rfl, hb⟩
      have D0 : BoxAt w2 w1.heap.size 120 #[.bool x0, .int .i64 x1, .int .i64 x2] := ((BoxAt.new w1 _ _).alloc _).belowAll hb
      have D1 : BoxAt w2 (w1.heap.size + 1) 120 #[.bool x0, .int .i64 x3, .int .i64 x4] := (BoxAt.new1 w1 _ _ _).belowAll hb
      replace hB2 := hB2.trans (hb.mono hB2.size)
      have D0 := hid D0
      have D1 := hid D1
      clear hb hB
      rcases h1 : memE tk ⟨x0, x1, x2⟩
      · have HO1 := hid (show (if memE tk ⟨x0, x3, x4⟩ = true then false else apartF (tk ++ [⟨x0, x1, x2⟩, ⟨x0, x3, x4⟩]) (l.drop (i + 1))) = R by
          have := HOa.out; rw [if_neg (by simp [h1])] at this; exact this)
        clear HOa
        have d0 := (D1.out.cell 0).trans rfl
        have d1 := (D1.out.cell 1).trans rfl
        have d2 := (D1.out.cell 2).trans rfl
        go_wp2_with fail
        refine (contains_any _ tk ⟨x0, x3, x4⟩ _ (SeesEn.owned HEL.out.symm (owns_below HW.out hB2))).mono ?_
        rintro e w3 ⟨rfl, hb⟩
        replace D0 := hid (D0.out.belowAll hb)
        replace D1 := hid (D1.out.belowAll hb)
        replace hB2 := hB2.trans (hb.mono hB2.size)
        clear hb d0 d1 d2
        rcases h2 : memE tk ⟨x0, x3, x4⟩
        · have HO2 := hid (show apartF (tk ++ [⟨x0, x1, x2⟩, ⟨x0, x3, x4⟩]) (l.drop (i + 1)) = R by
            have := HO1.out; rw [if_neg (by simp [h2])] at this; exact this)
          clear HO1
          have d0 := (D1.out.cell 0).trans rfl
          have d1 := (D1.out.cell 1).trans rfl
          have d2 := (D1.out.cell 2).trans rfl
          have e0 := (D0.out.cell 0).trans rfl
          have e1 := (D0.out.cell 1).trans rfl
          have e2 := (D0.out.cell 2).trans rfl
          have hown : (w3.alloc (.cells #[.bool x0, .int .i64 x1, .int .i64 x2, .bool x0, .int .i64 x3, .int .i64 x4] 120)).ownsRow w.heap.size 120 3 _ _ _ := (owns_below HW.out hB2).alloc _
          have hsz := hB2.size
          have hsz0 := hbel.size
          go_wp2_with (at_builtin; refine wpList_append_own _ rfl _ _ 124 rfl w.heap.size 120 i0 (.agg #[.bool false, .int .i64 0, .int .i64 0]) 3 24 Try.underlying124 hi hz0 hz1 hz2 rfl (by decide) _ _ _ rfl hown ⟨w3.heap.size, 0, none⟩ 2 2 [.bool x0, .int .i64 x1, .int .i64 x2, .bool x0, .int .i64 x3, .int .i64 x4] rfl rfl ?k1 ?k2 ?k3 ?k4 ?k5 ?_)
          case k1 =>
            intro j u hj
            rw [add_none, Nat.zero_add, (BoxAt.new w3 _ _).cell j]
            simpa using hj
          case k2 => intro u hu; simp at hu; rcases hu with rfl | rfl | rfl | rfl | rfl | rfl <;> rfl
          case k3 => unfold maxLen; omega
          case k4 => omega
          case k5 => simp; omega
          intro v' w4 ho4 hg4 _
          have hbel4 : Below w.heap.size w w4 := ((hbel.trans (hB2.mono hbel.size)).alloc (by have := hbel.size; omega) _).grown hg4 (by simp; omega) (fun k hk => (HW.out.lt k hk).1)
          have HO4 := hid ho4
          clear ho4 hg4 hown d0 d1 d2 e0 e1 e2 D0 D1
          go_wp2
          go_roundw
          case rel =>
            refine ⟨i + 1, by omega, by go_num, ?_, ?_, hbel4⟩
            · rw [HT2.out, List.map_append, List.flatten_append]
              exact HO4.out
            · rw [HT2.out]; exact HO2.out
          case measure => simp [intOf]; omega
        · have HE := hid (show false = R by have := HO1.out; rw [if_pos h2] at this; exact this)
          clear HO1 HW D0 D1
          go_wp2
          go_ret
          exact ⟨by rw [← HE.out]; rfl, hbel.trans (hB2.mono hbel.size)⟩
      · have HE := hid (show false = R by have := HOa.out; rw [if_pos h1] at this; exact this)
        clear HOa HW D0 D1
        go_wp2
        go_ret
        exact ⟨by rw [← HE.out]; rfl, hbel.trans (hB2.mono hbel.size)⟩
    · have HE := hid (show true = R by have := HO.out; rw [List.drop_of_length_le (by omega)] at this; exact this)
      clear HO HW HC
      go_wp2
      go_ret
      exact ⟨by rw [← HE.out]; rfl, hbel⟩
end Go.Proofs.Ytfdoejdnhogepaa
