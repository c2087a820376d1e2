/-
  What waiters.All and waiters.Has return, whatever list they are given.
-/
import Derived.Test.YtgnjnhfimagbpaaVLib
namespace Go.Proofs.Ytgnjnhfimagbpaa
open Go.RowKit
set_option linter.unusedVariables false

theorem Try.infoOWk : (Try.prog.info? 42).map (fun i => (i.zero, i.size, i.bytes)) = some (some (.agg Wk.zero.cells.toArray), 3, 24) := by kernel_rfl
theorem made_zero (n : Nat) : (madeCells (Value.agg Wk.zero.cells.toArray).cells (n * 3)).toList = ((List.replicate n Wk.zero).map Wk.cells).flatten := by
  have h1 : ((List.replicate n Wk.zero).map Wk.cells).flatten = List.replicate (n * 3) (.int .i64 0) := by
    rw [List.map_replicate]
    induction n with
    | zero => rfl
    | succ n ih => rw [List.replicate_succ, List.flatten_cons, ih, Nat.succ_mul, Nat.add_comm (n * 3) 3, ← List.replicate_append_replicate]; rfl
  rw [h1]
  apply List.ext_getElem
  · simp [madeCells]
  · intro i h1 h2
    have h3 : i % 3 = 0 ∨ i % 3 = 1 ∨ i % 3 = 2 := by omega
    simp only [madeCells, Wk.zero, Wk.cells, Value.cells]
    rcases h3 with h3 | h3 | h3 <;> simp [h3]
theorem wpList_make_Wk (w : World) {ops : Array Oper} {rest : List Oper} {o : Oper} {a : Act} {Q : Exit → Act → World → Prop}
    (hg : o.guard = none) (l c : Operand) (hop : o.op = Op.makeSlice 28 l c) (base : Nat) (n : Nat) (hl : a.eval l = .int .i64 (n : Int)) (hc : a.eval c = .int .i64 (n : Int)) (hn : n ≤ 900000) (b4 : base ≤ w.heap.size)
    (hK : ∀ w', OWk w' base (.slice (some ⟨w.heap.size, 0, none⟩) n n) (List.replicate n Wk.zero) → w.grownBy w' none → wpList Try.prog ops Q rest (a.put o.dst (.slice (some ⟨w.heap.size, 0, none⟩) n n)) w') :
    wpList Try.prog ops Q (o :: rest) a w := by
  refine wpList_plain hg fun K hK' => ?_
  obtain ⟨i0, hi, hz0, hz1, hz2⟩ := info_parts Try.infoOWk
  have hr := run_make (P := Try.prog) w 28 42 i0 _ Try.underlying28 hi hz0 .i64 .i64 n n (by omega) (by omega) (by rw [hz2]; omega) (by omega)
  simp only [Int.toNat_natCast, hz1] at hr
  unfold Oper.wp
  simp only [execOp, hop, hl, hc, hr, Sem.run_bind, Sem.run_pure, Result.andThen_ok]
  refine hK' _ _ (hK _ ?_ (World.grownBy_alloc w _ none))
  have hlen : (List.replicate n Wk.zero).length = n := by simp
  unfold OWk
  rw [hlen]
  refine ⟨by rw [flatWk, hlen], .inr ⟨w.heap.size, n, madeCells (Value.agg Wk.zero.cells.toArray).cells (n * 3), rfl, b4, heap_alloc_new w _, Nat.le_refl _, by unfold maxLen; omega, by simp [size_madeCells], ?_⟩⟩
  rw [made_zero, List.take_of_length_le (by rw [flatWk, hlen]; exact Nat.le_refl _)]

theorem flat_set3 (c : Nat) (es : List (List Value)) (hl : ∀ e ∈ es, e.length = c) (i j : Nat) (u : Value) (hi : i < es.length) (hj : j < c) : es.flatten.set (i * c + j) u = (es.set i ((es.getD i []).set j u)).flatten := by
  induction es generalizing i with
  | nil => simp at hi
  | cons e es ih =>
    have he : e.length = c := hl e (by simp)
    rw [List.flatten_cons]
    cases i with
    | zero =>
      rw [Nat.zero_mul, Nat.zero_add, List.set_append_left _ _ (by omega)]
      simp [List.getD]
    | succ i =>
      rw [List.set_append_right _ _ (by rw [he, Nat.succ_mul]; omega)]
      rw [show (i + 1) * c + j - e.length = i * c + j by rw [he, Nat.succ_mul]; omega]
      rw [ih (fun e h => hl e (by simp [h])) i (by simpa using hi)]
      simp [List.getD]
theorem OWk.at {w : World} {base g cap : Nat} {L : List Wk} (h : OWk w base (.slice (some ⟨g, 0, none⟩) L.length cap) L) (i j : Nat) (hi : i < L.length) (hj : j < 3) : w.cell? ⟨g, i * 3 + j, none⟩ = some ((L.getD i Wk.zero).cells.getD j .nilIface) := by
  rw [World.ownsRow.cellAt h (i * 3 + j) (by omega), flat_get 3 _ (lensWk L) i j (by simpa using hi) hj, cells_getDWk L i hi]
theorem OWk.free {w : World} {base g cap : Nat} {L : List Wk} (h : OWk w base (.slice (some ⟨g, 0, none⟩) L.length cap) L) (j : Nat) : w.frozen? ⟨g, j, none⟩ = false := World.ownsRow.frozenAt h j
theorem OWk.set1 {w : World} {base g cap : Nat} {L : List Wk} (h : OWk w base (.slice (some ⟨g, 0, none⟩) L.length cap) L) (i k : Nat) (hi : i < L.length) (hk : k < 3) (r : Wk) (u : Value) (hr : r.cells = (L.getD i Wk.zero).cells.set k u) :
    OWk (w.setCell ⟨g, i * 3 + k, none⟩ u) base (.slice (some ⟨g, 0, none⟩) L.length cap) (L.set i r) := by
  have h1 := (World.ownsRow.stored h (i * 3 + k) u).1
  rw [flat_set3 3 _ (lensWk L) i k u (by simpa using hi) hk, cells_getDWk L i hi, ← hr, ← List.map_set] at h1
  unfold OWk
  rw [List.length_set]
  exact h1
theorem OWk.set {w : World} {base g cap : Nat} {L : List Wk} (h : OWk w base (.slice (some ⟨g, 0, none⟩) L.length cap) L) (i : Nat) (hi : i < L.length) (r : Wk) :
    OWk (((w.setCell ⟨g, i * 3, none⟩ (.int .i64 r.p)).setCell ⟨g, i * 3 + 1, none⟩ (.int .i64 r.c)).setCell ⟨g, i * 3 + 2, none⟩ (.int .i64 r.v)) base (.slice (some ⟨g, 0, none⟩) L.length cap) (L.set i r) := by
  obtain ⟨x, hx⟩ : ∃ x, L.getD i Wk.zero = x := ⟨_, rfl⟩
  have h1 := h.set1 i 0 hi (by decide) ⟨r.p, x.c, x.v⟩ (.int .i64 r.p) (by rw [hx]; rfl)
  have g1 : (L.set i (⟨r.p, x.c, x.v⟩ : Wk)).getD i Wk.zero = ⟨r.p, x.c, x.v⟩ := by simp [List.getD, List.getElem?_set_self hi]
  rw [show L.length = (L.set i (⟨r.p, x.c, x.v⟩ : Wk)).length by simp] at h1
  have h2 := h1.set1 i 1 (by simpa using hi) (by decide) ⟨r.p, r.c, x.v⟩ (.int .i64 r.c) (by rw [g1]; rfl)
  rw [List.set_set] at h2
  rw [show (L.set i (⟨r.p, x.c, x.v⟩ : Wk)).length = (L.set i (⟨r.p, r.c, x.v⟩ : Wk)).length by simp] at h2
  have g2 : (L.set i (⟨r.p, r.c, x.v⟩ : Wk)).getD i Wk.zero = ⟨r.p, r.c, x.v⟩ := by simp [List.getD, List.getElem?_set_self hi]
  have h3 := h2.set1 i 2 (by simpa using hi) (by decide) r (.int .i64 r.v) (by rw [g2]; rfl)
  rw [List.set_set] at h3
  simpa using h3

/-- All are woken, with a code and a value. -/
def wakeW (c v : Int) (x : Wt) : Wk := ⟨x.p, c, v⟩
def allP (l : List Wt) (c v : Int) : List Wk := l.map (wakeW c v)
def allK (l : List Wt) (c v : Int) (k : Nat) : List Wk := allP (l.take k) c v ++ List.replicate (l.length - k) Wk.zero
theorem allK_len (l : List Wt) (c v : Int) (k : Nat) (hk : k ≤ l.length) : (allK l c v k).length = l.length := by simp [allK, allP]; omega
theorem allK_zero (l : List Wt) (c v : Int) : allK l c v 0 = List.replicate l.length Wk.zero := by simp [allK, allP]
theorem allK_all (l : List Wt) (c v : Int) : allK l c v l.length = allP l c v := by simp [allK, allP]
theorem allK_next (l : List Wt) (c v : Int) (k : Nat) (hk : k < l.length) : (allK l c v k).set k (wakeW c v (l.getD k Wt.zero)) = allK l c v (k + 1) := by
  have h1 : (allP (l.take k) c v).length = k := by simp [allP]; omega
  unfold allK
  rw [List.set_append_right _ _ (by omega), h1, Nat.sub_self, show l.length - k = (l.length - (k + 1)) + 1 by omega, List.replicate_succ, List.set_cons_zero]
  have h2 : l.take (k + 1) = l.take k ++ [l.getD k Wt.zero] := by rw [List.take_add_one, List.getElem?_eq_getElem hk]; simp [List.getD, List.getElem?_eq_getElem hk]
  rw [h2]
  simp only [allP, List.map_append, List.map_cons, List.map_nil, List.append_assoc, List.cons_append, List.nil_append]

set_option maxRecDepth 100000 in
set_option maxHeartbeats 1600000 in
theorem all_any (c v : Int) {vl : Value} {l : List Wt} {w : World} (hv : SeesWt w vl l) (hlen : l.length ≤ 800000) :
    Calls Try.prog 20 #[vl, .int .i64 c, .int .i64 v] w fun e w' => ∃ u, e = .returned u ∧ OWk w' w.heap.size u (allP l c v) ∧ Below w.heap.size w w' := by
  obtain ⟨al, cl, rfl, hl1, hl2, hlc⟩ := hv.form
  unfold maxLen at hl2
  have HC := hid hlc
  clear hlc hv
  go_enter Try.func20, Try.ntmps20
  go_wp2_with (at_make; refine wpList_make_Wk _ rfl _ _ rfl w.heap.size l.length rfl rfl ?c1 ?c2 ?_)
  case c1 => omega
  case c2 => exact Nat.le_refl _
  intro w1 ho1 hg1
  have hb1 : Below w.heap.size w w1 := (Below.refl _ _).grown hg1 (Nat.le_refl _) (by simp)
  rw [← allK_zero l c v] at ho1
  have HO := hid ho1
  have HB := hid hb1
  clear hg1 ho1 hb1
  go_wp2
  go_loopw [15] (fun t wc => ∃ i : Nat, i ≤ l.length ∧ t = .int .i64 i ∧ OWk wc w.heap.size (.slice (some ⟨w.heap.size, 0, none⟩) l.length l.length) (allK l c v i) ∧ Below w.heap.size w wc) (fun t _ => l.length - (intOf t).toNat)
  case atStart => exact ⟨0, by omega, rfl, HO.out, HB.out⟩
  case round =>
    obtain ⟨i, hi, rfl, hown, hbel⟩ := hrel
    clear HO HB
    by_cases hlt : i < l.length
    · obtain ⟨b, off, rfl, hbw, hcell⟩ := HC.out (by omega)
      have c0 := (hbel.cell (by exact hbw)).trans (hcell i hlt 0 (by decide))
      have c1 := (hbel.cell (by exact hbw)).trans (hcell i hlt 1 (by decide))
      have c2 := (hbel.cell (by exact hbw)).trans (hcell i hlt 2 (by decide))
      have hLn := allK_len l c v i hi
      have HN := hid (allK_next l c v i hlt)
      have HLN := hid (allK_len l c v (i + 1) hlt)
      clear hcell HC
      obtain ⟨r, hr⟩ : ∃ r, l.getD i Wt.zero = r := ⟨_, rfl⟩
      rw [hr] at c0 c1 c2 HN
      clear hr
      obtain ⟨x0, x1, x2⟩ := r
      simp only [Wt.cells, List.getD_cons_zero, List.getD_cons_succ, Nat.add_zero] at c0 c1 c2
      obtain ⟨M, hM⟩ : ∃ M, allK l c v i = M := ⟨_, rfl⟩
      rw [hM] at hown hLn HN
      clear hM
      have hown' : ∀ o, OWk (wr.alloc o) w.heap.size (.slice (some ⟨w.heap.size, 0, none⟩) M.length l.length) M := fun o => by rw [hLn]; exact hown.below ((Below.refl _ _).alloc (Nat.le_refl _) _)
      have d0 : ∀ o, (wr.alloc o).cell? ⟨w.heap.size, i * 3, none⟩ = _ := fun o => (hown' o).at i 0 (by omega) (by decide)
      have d1 : ∀ o, (wr.alloc o).cell? ⟨w.heap.size, i * 3 + 1, none⟩ = _ := fun o => (hown' o).at i 1 (by omega) (by decide)
      have d2 : ∀ o, (wr.alloc o).cell? ⟨w.heap.size, i * 3 + 2, none⟩ = _ := fun o => (hown' o).at i 2 (by omega) (by decide)
      have f0 : ∀ o j, (wr.alloc o).frozen? ⟨w.heap.size, j, none⟩ = false := fun o j => (hown' o).free j
      have HOS := hid (fun o => (hown' o).set i (show i < M.length by omega) (wakeW c v ⟨x0, x1, x2⟩))
      rw [hLn] at HOS
      have HBA : ∀ o, Hid (Below w.heap.size w (wr.alloc o)) := fun o => hid (hbel.alloc hbel.size _)
      have hMl : i < M.length := by omega
      clear hown hown' hbel
      go_wp2
      go_roundw
      case rel => exact ⟨i + 1, by omega, by go_num, by rw [← HN.out]; exact HOS.out _, (((HBA _).out.setCell (Nat.le_refl _) _).setCell (Nat.le_refl _) _).setCell (Nat.le_refl _) _⟩
      case measure => simp [intOf]; omega
    · have hk3 : i = l.length := by omega
      subst hk3
      have HOE := hid (show OWk wr w.heap.size (.slice (some ⟨w.heap.size, 0, none⟩) l.length l.length) (allP l c v) from by rw [← allK_all]; exact hown)
      clear hown
      go_wp2
      go_ret
      exact ⟨_, rfl, HOE.out, hbel⟩

/-- Does a process wait? -/
def hasP (l : List Wt) (p : Int) : Bool := l.any (fun y => y.p == p)

end Go.Proofs.Ytgnjnhfimagbpaa
