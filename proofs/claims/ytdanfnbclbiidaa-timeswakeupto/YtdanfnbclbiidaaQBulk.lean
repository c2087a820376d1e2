/-
  What a bound on how much the arguments hold gives: that a partition has no more objects than that.
-/
import Derived.Test.YtdanfnbclbiidaaRows
import Derived.Test.YtdanfnbclbiidaaQOpen
namespace Go.Proofs.Ytdanfnbclbiidaa
open Go.RowKit Go.Deep Go.ChangeShapes Go.WideShapes
set_option linter.unusedVariables false

theorem bulk_pos {H : Type} (d : DataW H) : 1 ≤ Rows.uptoBulk d := by
  cases d with
  | lit l => cases l <;> simp [Rows.uptoBulk]
  | nil => simp [Rows.uptoBulk]
  | ptr d => simp [Rows.uptoBulk]
  | slice a b => simp [Rows.uptoBulk]
  | agg a => simp [Rows.uptoBulk]
  | iface t d => simp [Rows.uptoBulk]
  | map a => simp [Rows.uptoBulk]
  | held h => simp [Rows.uptoBulk]
theorem bulk_each {H : Type} (k : Nat) (l : List (DataW H)) (h : ∀ d ∈ l, k ≤ Rows.uptoBulk d) : k * l.length ≤ Rows.uptoBulkAll l := by
  induction l with
  | nil => simp
  | cons x r ih =>
    have h1 := h x (by simp)
    have h2 := ih (fun d hd => h d (by simp [hd]))
    simp only [Rows.uptoBulkAll, List.length_cons, Nat.mul_succ]
    omega
theorem bulk_mem {H : Type} {d : DataW H} {l : List (DataW H)} (h : d ∈ l) : Rows.uptoBulk d ≤ Rows.uptoBulkAll l := by
  induction l with
  | nil => cases h
  | cons x r ih =>
    simp only [Rows.uptoBulkAll]
    rcases List.mem_cons.1 h with rfl | h
    · omega
    · have := ih h; omega

section
variable {H : Type} {enc : TypeId × Value → H} {w : World} {base : Nat} {spare : Nat → Bool} {held : Bool} {fuel : Nat} {cs : List Value} {x : DataW H × List MemPlace}

theorem bulk_rows {t e : TypeId} {fs : Array Field} (ht : Try.prog.underlying t = some (.slice e)) (he : Try.prog.underlying e = some (.struct fs)) (hfs : 1 ≤ fs.size) (h : DataW.trod enc Try.prog w base spare held fuel t cs = some x) (s : Sl) (hcs : cs = [.slice s.a s.n s.c]) : 2 * s.n ≤ Rows.uptoBulk x.1 := by
  rcases open_slice ht h with ⟨h0, _⟩ | ⟨ad, len, cap, m, k, D, Pl, h0, _, hl, _, hmm, hx0, hx⟩
  · rw [h0] at hcs
    simp at hcs
    omega
  · rw [h0] at hcs
    simp at hcs
    obtain ⟨_, rfl, _⟩ := hcs
    subst hx0
    have hlm : s.n ≤ m := by rw [hmm]; split <;> omega
    have hb := bulk_each 2 ((List.range s.n).map D) (fun d hd => by
      obtain ⟨i, hi, rfl⟩ := List.mem_map.1 hd
      have hi' : i < s.n := by simpa using hi
      obtain ⟨cs', _, h2⟩ := hx i (by omega)
      obtain ⟨xs, n, _, hxs, _, hlen, _⟩ := DataW.trod_struct he h2
      have hD : D i = .agg (xs.map (·.1)) := congrArg Prod.fst hxs
      rw [hD]
      have h3 := bulk_each 1 (xs.map (·.1)) (fun d _ => bulk_pos d)
      simp only [Rows.uptoBulk, List.length_map] at h3 ⊢
      omega)
    simp only [List.length_map, List.length_range] at hb
    simp only [Rows.uptoBulk]
    omega

set_option maxRecDepth 100000 in
theorem bulk_part {q : PaV} (h : DataW.trod enc Try.prog w base spare held fuel 39 q.cells = some x) : 2 * (q.bo.n + q.bu.n + q.se.n + q.ev.n) ≤ Rows.uptoBulk x.1 := by
  obtain ⟨xs, n, _, rfl, hl, hlen, hf⟩ := DataW.trod_struct Try.underlying39 h
  have t1 : Try.prog.cellsOf 30 = 1 := by kernel_rfl
  have t2 : Try.prog.cellsOf 31 = 1 := by kernel_rfl
  have t3 : Try.prog.cellsOf 32 = 1 := by kernel_rfl
  have t4 : Try.prog.cellsOf 33 = 1 := by kernel_rfl
  match xs, hlen with
  | [y0, y1, y2, y3, y4, y5, y6, y7, y8, y9, y10, y11, y12], _ =>
    have h5 := hf 5 _ rfl
    have h6 := hf 6 _ rfl
    have h7 := hf 7 _ rfl
    have h8 := hf 8 _ rfl
    simp [t1] at h5
    simp [t2] at h6
    simp [t3] at h7
    simp [t4] at h8
    have b5 := bulk_rows Try.underlying30 Try.underlying67 (by decide) h5 q.bo rfl
    have b6 := bulk_rows Try.underlying31 Try.underlying69 (by decide) h6 q.bu rfl
    have b7 := bulk_rows Try.underlying32 Try.underlying71 (by decide) h7 q.se rfl
    have b8 := bulk_rows Try.underlying33 Try.underlying73 (by decide) h8 q.ev rfl
    simp only [List.map_cons, List.map_nil, Rows.uptoBulk, Rows.uptoBulkAll]
    omega
end

theorem nlen_Bd {w : World} {s : Sl} {l : List Bd} (h : LBd w s.val l) : s.n = l.length := by
  obtain ⟨rs, a, b, _⟩ := h
  obtain ⟨_, _, hv, _⟩ := a.form
  unfold Sl.val at hv
  simp only [Value.slice.injEq] at hv
  omega
theorem nlen_Bf {w : World} {s : Sl} {l : List Bf} (h : LBf w s.val l) : s.n = l.length := by
  obtain ⟨rs, a, b, _⟩ := h
  obtain ⟨_, _, hv, _⟩ := a.form
  unfold Sl.val at hv
  simp only [Value.slice.injEq] at hv
  omega
theorem nlen_Se {w : World} {s : Sl} {l : List Se} (h : LSe w s.val l) : s.n = l.length := by
  obtain ⟨rs, a, b, _⟩ := h
  obtain ⟨_, _, hv, _⟩ := a.form
  unfold Sl.val at hv
  simp only [Value.slice.injEq] at hv
  omega
theorem nlen_Ev {w : World} {s : Sl} {l : List Ev} (h : LEv w s.val l) : s.n = l.length := by
  obtain ⟨rs, a, b, _⟩ := h
  obtain ⟨_, _, hv, _⟩ := a.form
  unfold Sl.val at hv
  simp only [Value.slice.injEq] at hv
  omega

/-- A partition that came in has no more objects than its reading holds. -/
theorem bulk_PaX {H : Type} {enc : TypeId × Value → H} {w : World} {d : DataW H} {p : List MemPlace} (r : PaX) (hf : r.fit w)
    (h : DataW.Trod enc Try.prog w 0 (fun _ => true) true 39 r.val d p) : 2 * (r.c.bo.length + r.c.bu.length + r.c.se.length + r.c.ev.length) ≤ Rows.uptoBulk d := by
  obtain ⟨fuel, hf'⟩ := h
  have h1 := bulk_part (q := r.q) (show DataW.trod enc Try.prog w 0 (fun _ => true) true fuel 39 r.q.cells = some (d, p) from hf')
  have e1 := nlen_Bd hf.1.bo
  have e2 := nlen_Bf hf.1.bu
  have e3 := nlen_Se hf.1.se
  have e4 := nlen_Ev hf.1.ev
  simp only at h1
  omega
end Go.Proofs.Ytdanfnbclbiidaa
