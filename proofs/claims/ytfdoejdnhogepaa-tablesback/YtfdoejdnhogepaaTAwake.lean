/-
  The chapter's example is encoded, and decoded as it was: what 'awake' returns.
-/
import Derived.Test.YtfdoejdnhogepaaTFlat
import Derived.Test.YtfdoejdnhogepaaTDec
namespace Go.Proofs.Ytfdoejdnhogepaa
open Go.RowKit
set_option linter.unusedVariables false

theorem SeesC.one {w : World} {g : Nat} {t : TypeId} {cs : List Value} (h : BoxAt w g t cs.toArray) : SeesC w cs.length (.slice (some ⟨g, 0, none⟩) 1 1) [cs] := by
  refine .inr ⟨⟨g, 0, none⟩, 1, rfl, Nat.le_refl _, by decide, fun i hi j hj => ?_⟩
  obtain rfl : i = 0 := by simp at hi; omega
  rw [add_none, show 0 + (0 * cs.length + j) = j by omega, h.cell j]
  simp [List.getD, List.getElem?_eq_getElem hj]

def smallC : Cf := ⟨10, 0, [], [⟨1, [], [⟨0, 0, 0, 0, false⟩], 0, [], [], 0, [], [], 0, [0, 0, 0, 0, 0, 0, 0]⟩], [⟨0, 0, 10⟩], []⟩
def smallB : List Int := [10, 0, 0, 1, 1, 0, 1, 0, 0, 0, 0, 0, 0, 0, 0, 0, 0, 0, 0, 7, 0, 0, 0, 0, 0, 0, 0, 1, 0, 0, 10, 0]
theorem small_may : mayC smallC = true := by kernel_rfl
theorem small_encB : encB smallC = smallB := by kernel_rfl
theorem small_encE : encE smallC = 0 := by kernel_rfl
theorem small_dec : decT smallB = (smallC, 0) := by kernel_rfl

set_option maxRecDepth 100000 in
set_option maxHeartbeats 800000 in
theorem small_any (w : World) :
    Calls Try.prog 29 #[] w fun e w' => ∃ q : Cv, e = .returned q.val ∧ CfAt w' q smallC ∧ Below w.heap.size w w' := by
  obtain ⟨i0, hi, hz0, hz1, hz2⟩ := info_parts Try.infoI7
  go_enter Try.func29, Try.ntmps29
  go_wp2_with (at_make; refine wpList_make_room _ rfl _ _ 22 rfl (w.heap.size + 2) 3 i0 (.int .i64 0) Try.underlying22 hi hz0 hz1 rfl .i64 .i64 _ _ 7 7 rfl rfl ?c1 ?c2 ?c3 ?c4 ?c5 ?c6 ?_)
  case c1 => rfl
  case c2 => rfl
  case c3 => omega
  case c4 => rw [hz2]; omega
  case c5 => unfold maxLen; omega
  case c6 => simp
  intro w1 ho1 hg1
  have hsz := hg1.size
  simp at hsz
  have hB1 : Below w.heap.size w w1 := (((Below.refl _ _).alloc (Nat.le_refl _) _).alloc (by simp) _).grown hg1 (by simp; omega) (by simp)
  have B0 : BoxAt w1 w.heap.size 27 #[.int .i64 0, .int .i64 0, .slice none 0 0, .slice none 0 0, .slice none 0 0, .slice none 0 0] := ((BoxAt.new w _ _).alloc _).grown hg1 (by simp)
  have B1 : BoxAt w1 (w.heap.size + 1) 90 #[.int .i64 0, .int .i64 0, .int .i64 0, .int .i64 0, .bool false] := (BoxAt.new1 w _ _ _).grown hg1 (by simp)
  have HB0 := hid B0
  have HB1 := hid B1
  have HO := hid ho1
  have f0 : ∀ o o' o'' j, (((w1.alloc o).alloc o').alloc o'').frozen? ⟨w.heap.size, j, none⟩ = false := fun o o' o'' j => (((B0.alloc o).alloc o').alloc o'').free j
  have c0 : ∀ o o' o'', (((w1.alloc o).alloc o').alloc o'').cell? ⟨w.heap.size, 0, none⟩ = some (.int .i64 0) := fun o o' o'' => ((((B0.alloc o).alloc o').alloc o'').cell 0).trans rfl
  have c1 : ∀ o o' o'', (((w1.alloc o).alloc o').alloc o'').cell? ⟨w.heap.size, 1, none⟩ = some (.int .i64 0) := fun o o' o'' => ((((B0.alloc o).alloc o').alloc o'').cell 1).trans rfl
  have c2 : ∀ o o' o'', (((w1.alloc o).alloc o').alloc o'').cell? ⟨w.heap.size, 2, none⟩ = some (.slice none 0 0) := fun o o' o'' => ((((B0.alloc o).alloc o').alloc o'').cell 2).trans rfl
  have c3 : ∀ o o' o'', (((w1.alloc o).alloc o').alloc o'').cell? ⟨w.heap.size, 3, none⟩ = some (.slice none 0 0) := fun o o' o'' => ((((B0.alloc o).alloc o').alloc o'').cell 3).trans rfl
  have c4 : ∀ o o' o'', (((w1.alloc o).alloc o').alloc o'').cell? ⟨w.heap.size, 4, none⟩ = some (.slice none 0 0) := fun o o' o'' => ((((B0.alloc o).alloc o').alloc o'').cell 4).trans rfl
  have c5 : ∀ o o' o'', (((w1.alloc o).alloc o').alloc o'').cell? ⟨w.heap.size, 5, none⟩ = some (.slice none 0 0) := fun o o' o'' => ((((B0.alloc o).alloc o').alloc o'').cell 5).trans rfl
  clear ho1 hg1 B0 B1
  go_wp2
  obtain ⟨W, hW⟩ : ∃ W, (((w1.alloc (.cells #[.int .i64 1, .slice none 0 0, .slice (some ⟨w.heap.size + 1, 0, none⟩) 1 1, .int .i64 0, .slice none 0 0, .slice none 0 0, .int .i64 0, .slice none 0 0, .slice none 0 0, .int .i64 0, .slice (some ⟨w.heap.size + 1 + 1, 0, none⟩) 7 7] 49)).alloc (.cells #[.int .i64 1, .slice none 0 0, .slice (some ⟨w.heap.size + 1, 0, none⟩) 1 1, .int .i64 0, .slice none 0 0, .slice none 0 0, .int .i64 0, .slice none 0 0, .slice none 0 0, .int .i64 0, .slice (some ⟨w.heap.size + 1 + 1, 0, none⟩) 7 7] 49)).alloc (.cells #[.int .i64 0, .int .i64 0, .int .i64 10] 39)) = W := ⟨_, rfl⟩
  have hbW : Below w1.heap.size w1 W := by rw [← hW]; exact (((Below.refl _ _).alloc (Nat.le_refl _) _).alloc (by simp) _).alloc (by simp; omega) _
  have hszW : W.heap.size = w1.heap.size + 3 := by rw [← hW]; simp
  have b0 := HB0.out.belowAll hbW
  have b1 := HB1.out.belowAll hbW
  have ho := owns_below HO.out hbW
  have p1 : BoxAt W (w1.heap.size + 1) 49 #[.int .i64 1, .slice none 0 0, .slice (some ⟨w.heap.size + 1, 0, none⟩) 1 1, .int .i64 0, .slice none 0 0, .slice none 0 0, .int .i64 0, .slice none 0 0, .slice none 0 0, .int .i64 0, .slice (some ⟨w.heap.size + 1 + 1, 0, none⟩) 7 7] := by rw [← hW]; exact (BoxAt.new1 w1 _ _ _).alloc _
  have p2 : BoxAt W (w1.heap.size + 1 + 1) 39 #[.int .i64 0, .int .i64 0, .int .i64 10] := by rw [← hW]; exact BoxAt.new2 w1 _ _ _ _
  rw [hW]
  have hnil : ∀ S : Nat → Prop, Blk S (.slice none 0 0) := fun S x n c hv => by simp at hv
  have hone : ∀ (S : Nat → Prop) (g n c : Nat), S g → Blk S (.slice (some ⟨g, 0, none⟩) n c) := fun S g n c hg x n' c' hv hn => by
    simp only [Value.slice.injEq, Option.some.injEq] at hv
    obtain ⟨rfl, _, _⟩ := hv
    exact hg
  have hpt : PtAt W ⟨1, ⟨none, 0, 0⟩, ⟨some ⟨w.heap.size + 1, 0, none⟩, 1, 1⟩, 0, ⟨none, 0, 0⟩, ⟨none, 0, 0⟩, 0, ⟨none, 0, 0⟩, ⟨none, 0, 0⟩, 0, ⟨some ⟨w.heap.size + 1 + 1, 0, none⟩, 7, 7⟩⟩ ⟨1, [], [⟨0, 0, 0, 0, false⟩], 0, [], [], 0, [], [], 0, [0, 0, 0, 0, 0, 0, 0]⟩ :=
    ⟨rfl, SeesC.nil _ _, SeesC.one (cs := Pc.cells ⟨0, 0, 0, 0, false⟩) b1, rfl, SeesC.nil _ _, SeesC.nil _ _, rfl, Sees.nil _ _, Sees.nil _ _, rfl, Sees.of_owns (xs := [0, 0, 0, 0, 0, 0, 0]) ho⟩
  have hcf : CfB (fun b => w.heap.size < b) W ⟨10, 0, ⟨none, 0, 0⟩, ⟨some ⟨w1.heap.size + 1, 0, none⟩, 1, 1⟩, ⟨some ⟨w1.heap.size + 1 + 1, 0, none⟩, 1, 1⟩, ⟨none, 0, 0⟩⟩ smallC :=
    ⟨rfl, rfl, Sees.nil _ _, hnil _, ⟨[⟨1, ⟨none, 0, 0⟩, ⟨some ⟨w.heap.size + 1, 0, none⟩, 1, 1⟩, 0, ⟨none, 0, 0⟩, ⟨none, 0, 0⟩, 0, ⟨none, 0, 0⟩, ⟨none, 0, 0⟩, 0, ⟨some ⟨w.heap.size + 1 + 1, 0, none⟩, 7, 7⟩⟩], SeesC.one (cs := Pv.cells ⟨1, ⟨none, 0, 0⟩, ⟨some ⟨w.heap.size + 1, 0, none⟩, 1, 1⟩, 0, ⟨none, 0, 0⟩, ⟨none, 0, 0⟩, 0, ⟨none, 0, 0⟩, ⟨none, 0, 0⟩, 0, ⟨some ⟨w.heap.size + 1 + 1, 0, none⟩, 7, 7⟩⟩) p1, hone _ _ _ _ (by omega), rfl, fun i hi => by
        obtain rfl : i = 0 := by simp [smallC] at hi; omega
        exact ⟨hpt, hnil _, hone _ _ _ _ (by omega), hnil _, hnil _, hnil _, hnil _, hone _ _ _ _ (by omega)⟩⟩,
      SeesC.one (cs := Wn.cells ⟨0, 0, 10⟩) p2, hone _ _ _ _ (by omega), SeesC.nil _ _, hnil _⟩
  refine bodyPost_ret (results_cell_row rfl _ _ w.heap.size 27 _ (0, 0) _ rfl (BoxAt.sets6 b0 (.int .i64 10) (.int .i64 0) (.slice none 0 0) (.slice (some ⟨w1.heap.size + 1, 0, none⟩) 1 1) (.slice (some ⟨w1.heap.size + 1 + 1, 0, none⟩) 1 1) (.slice none 0 0)) Try.underlying27 rfl Try.infoCf7) rfl ?_
  exact ⟨⟨10, 0, ⟨none, 0, 0⟩, ⟨some ⟨w1.heap.size + 1, 0, none⟩, 1, 1⟩, ⟨some ⟨w1.heap.size + 1 + 1, 0, none⟩, 1, 1⟩, ⟨none, 0, 0⟩⟩, rfl, (sets6_turn hcf (fun b hb => by omega) (.int .i64 10) (.int .i64 0) (.slice none 0 0) (.slice (some ⟨w1.heap.size + 1, 0, none⟩) 1 1) (.slice (some ⟨w1.heap.size + 1 + 1, 0, none⟩) 1 1) (.slice none 0 0)).at_, sets6_below (hB1.trans (hbW.mono hB1.size)) (Nat.le_refl _) (.int .i64 10) (.int .i64 0) (.slice none 0 0) (.slice (some ⟨w1.heap.size + 1, 0, none⟩) 1 1) (.slice (some ⟨w1.heap.size + 1 + 1, 0, none⟩) 1 1) (.slice none 0 0)⟩

set_option maxRecDepth 100000 in
set_option maxHeartbeats 1600000 in
theorem awake_any (w : World) :
    Calls Try.prog 15 #[] w fun e w' => e = .returned (.bool true) ∧ Below w.heap.size w w' := by
  go_enter Try.func15, Try.ntmps15
  go_wp2_with fail
  refine (small_any w).mono ?_
  rintro e w1 ⟨q, rfl, hc1, hb1⟩
  obtain ⟨fr, sw, ⟨a1, n1, k1⟩, ⟨a2, n2, k2⟩, ⟨a3, n3, k3⟩, ⟨a4, n4, k4⟩⟩ := q
  have HC := hid hc1
  clear hc1
  go_wp2_with fail
  refine (enc_any _ smallC w1 HC.out (by constructor <;> simp [smallC])).mono ?_
  rintro e w2 ⟨u, rfl, ho2, hb2⟩
  rw [small_encB] at ho2
  rw [small_encE]
  have hB2 := hb1.trans (hb2.mono hb1.size)
  have hsee := Sees.of_owns ho2
  obtain ⟨ub, ucap, rfl, hu1, hu2, hucell⟩ := hsee.form
  have HSe := hid hsee
  obtain ⟨b, off, rfl, hbw, hcell⟩ := hucell (by decide)
  have u0 := hcell 0 (by decide)
  have u3 := hcell 3 (by decide)
  have HU := hid (And.intro u0 u3)
  unfold maxLen at hu2
  clear hb1 hb2 ho2 hsee hucell hcell u0 u3 HC
  go_wp2_with fail
  refine (dec_any _ smallB w2 HSe.out (by decide) (by decide)).mono ?_
  rintro e w3 ⟨q3, rfl, hc3, hb3⟩
  rw [small_dec] at hc3 ⊢
  simp only at hc3 ⊢
  obtain ⟨fr, sw, ⟨a1, n1, k1⟩, ⟨a2, n2, k2⟩, ⟨a3, n3, k3⟩, ⟨a4, n4, k4⟩⟩ := q3
  obtain rfl : fr = 10 := hc3.fr
  obtain ⟨qs, hqs, hql, _⟩ := hc3.pa
  obtain ⟨_, _, hqv, _, _, _⟩ := hqs.form
  simp only [Sl.val, Value.slice.injEq] at hqv
  obtain rfl : n2 = 1 := by rw [hqv.2.1, hql]; rfl
  have u0 : w3.cell? ⟨b, off, none⟩ = some (.int .u8 10) := (hb3.cell (by exact hbw)).trans HU.out.1
  have u3 : w3.cell? ⟨b, off + 3, none⟩ = some (.int .u8 1) := (hb3.cell (by exact hbw)).trans HU.out.2
  have v0 : ∀ o, (w3.alloc o).cell? ⟨b, off, none⟩ = some (.int .u8 10) := cellA u0
  have v3 : ∀ o, (w3.alloc o).cell? ⟨b, off + 3, none⟩ = some (.int .u8 1) := cellA u3
  have hB3 := hB2.trans (hb3.mono hB2.size)
  have hl32 : smallB.length = 32 := rfl
  rw [hl32] at hu1 ⊢
  simp only [Cv.val]
  have HC := hid hc3
  clear hc3 hqs hql hqv hb3 hB2 HSe HU u0 u3
  go_wp2_with fail
  refine (tmay_any ⟨10, sw, ⟨a1, n1, k1⟩, ⟨a2, 1, k2⟩, ⟨a3, n3, k3⟩, ⟨a4, n4, k4⟩⟩ smallC _ (HC.out.below ((Below.refl _ _).alloc (Nat.le_refl _) _)) (by constructor <;> simp [smallC])).mono ?_
  rintro e w4 ⟨rfl, hb4⟩
  rw [small_may]
  have hB4 := (hB3.alloc hB3.size _).trans (hb4.mono (by have := hB3.size; simp; omega))
  clear hb4 v0 v3 HC
  go_wp2
  go_ret
  exact ⟨rfl, hB4⟩
end Go.Proofs.Ytfdoejdnhogepaa
