/-
  What the test of a channel returns, whatever it is given, and that nothing that was there is written; a configuration as it lies in a world.
-/
import Derived.Test.YtfdoejdnhogepaaTPlanD
import Derived.Test.YtfdoejdnhogepaaTPart
namespace Go.Proofs.Ytfdoejdnhogepaa
open Go.RowKit
set_option linter.unusedVariables false

def chanB (qs : List Pv) (c : Ch) : Bool := decide (c.f ≠ c.t) && hasEndB qs (fromE c) && hasEndB qs (toE c)

set_option maxRecDepth 100000 in
set_option maxHeartbeats 3200000 in
theorem channelMay_any (q : Cv) (qs : List Pv) (w : World) (hv : SeesPv w q.p.val qs) (hm : ∀ x ∈ qs, x.v7.n ≤ 9223372036854775807 ∧ x.v8.n ≤ 9223372036854775807) (c : Ch) :
    Calls Try.prog 51 #[q.val, c.val] w fun x w' => x = .returned (.bool (chanB qs c)) ∧ Below w.heap.size w w' := by
  obtain ⟨fr, sw, ⟨a1, n1, k1⟩, ⟨a2, n2, k2⟩, ⟨a3, n3, k3⟩, ⟨a4, n4, k4⟩⟩ := q
  obtain ⟨qu, f, a, t, b⟩ := c
  have HV := hid hv
  have HM := hid hm
  clear hv hm
  unfold Cv.val Ch.val
  go_enter Try.func51, Try.ntmps51
  go_wp2_with fail
  refine (ends_any ⟨qu, f, a, t, b⟩ _).mono ?_
  rintro e w1 ⟨rfl, hb⟩
  have B0 : BoxAt w1 w.heap.size 77 #[.int .i64 fr, .int .i64 sw, .slice a1 n1 k1, .slice a2 n2 k2, .slice a3 n3 k3, .slice a4 n4 k4] := ((BoxAt.new w _ _).alloc _).belowAll hb
  have B1 : BoxAt w1 (w.heap.size + 1) 41 #[.bool qu, .int .i64 f, .int .i64 a, .int .i64 t, .int .i64 b] := (BoxAt.new1 w _ _ _).belowAll hb
  have hB : Below w.heap.size w w1 := (((Below.refl _ _).alloc (Nat.le_refl _) _).alloc (by simp) _).trans (hb.mono (by simp; omega))
  replace B0 := hid B0
  replace B1 := hid B1
  clear hb
  simp only [fromE, toE, En.val]
  have hsz := B1.out.lt
  have MK0 : ∀ o o', ((w1.alloc o).alloc o').cell? ⟨w.heap.size + 1, 1, none⟩ = some (.int .i64 f) := fun o o' => (((B1.out.alloc o).alloc o').cell 1).trans rfl
  have MK1 : ∀ o o', ((w1.alloc o).alloc o').cell? ⟨w.heap.size + 1, 3, none⟩ = some (.int .i64 t) := fun o o' => (((B1.out.alloc o).alloc o').cell 3).trans rfl
  have K0 : ∀ o o', ((w1.alloc o).alloc o').cell? ⟨w.heap.size, 0, none⟩ = some (.int .i64 fr) := fun o o' => (((B0.out.alloc o).alloc o').cell 0).trans rfl
  have K1 : ∀ o o', ((w1.alloc o).alloc o').cell? ⟨w.heap.size, 1, none⟩ = some (.int .i64 sw) := fun o o' => (((B0.out.alloc o).alloc o').cell 1).trans rfl
  have K2 : ∀ o o', ((w1.alloc o).alloc o').cell? ⟨w.heap.size, 2, none⟩ = some (.slice a1 n1 k1) := fun o o' => (((B0.out.alloc o).alloc o').cell 2).trans rfl
  have K3 : ∀ o o', ((w1.alloc o).alloc o').cell? ⟨w.heap.size, 3, none⟩ = some (.slice a2 n2 k2) := fun o o' => (((B0.out.alloc o).alloc o').cell 3).trans rfl
  have K4 : ∀ o o', ((w1.alloc o).alloc o').cell? ⟨w.heap.size, 4, none⟩ = some (.slice a3 n3 k3) := fun o o' => (((B0.out.alloc o).alloc o').cell 4).trans rfl
  have K5 : ∀ o o', ((w1.alloc o).alloc o').cell? ⟨w.heap.size, 5, none⟩ = some (.slice a4 n4 k4) := fun o o' => (((B0.out.alloc o).alloc o').cell 5).trans rfl
  by_cases hft : f = t
  · have hne : (f != t) = false := by simp [hft]
    have HE := hid (show chanB qs ⟨qu, f, a, t, b⟩ = false by simp [chanB, hft])
    clear hft
    go_wp2
    go_ret
    exact ⟨by rw [HE.out]; rfl, (hB.alloc hB.size _).alloc (by have := hB.size; simp; omega) _⟩
  have hne : (f != t) = true := by simpa using hft
  have HE := hid hft
  clear hft
  go_wp2_with fail
  have hB2 := (hB.alloc hB.size (.cells #[.bool qu, .int .i64 f, .int .i64 a] 120)).alloc (by have := hB.size; simp; omega) (.cells #[.bool qu, .int .i64 t, .int .i64 b] 120)
  refine (hasEnd_any ⟨fr, sw, ⟨a1, n1, k1⟩, ⟨a2, n2, k2⟩, ⟨a3, n3, k3⟩, ⟨a4, n4, k4⟩⟩ qs _ (HV.out.below hB2) HM.out ⟨qu, f, a⟩).mono ?_
  rintro e w2 ⟨rfl, hb⟩
  have D1 : BoxAt w2 (w1.heap.size + 1) 120 #[.bool qu, .int .i64 t, .int .i64 b] := (BoxAt.new1 w1 _ _ _).belowAll hb
  have C0 := ((B0.out.alloc _).alloc _).belowAll hb
  replace hB2 := hB2.trans (hb.mono hB2.size)
  clear hb hB K0 K1 K2 K3 K4 K5 MK0 MK1 B0 B1
  have C0 := hid C0
  have D1 := hid D1
  rcases h1 : hasEndB qs ⟨qu, f, a⟩
  · clear HV HM C0 D1
    go_wp2
    go_ret
    exact ⟨by simp only [chanB, fromE, h1]; simp, hB2⟩
  have c0 := (C0.out.cell 0).trans rfl
  have c1 := (C0.out.cell 1).trans rfl
  have c2 := (C0.out.cell 2).trans rfl
  have c3 := (C0.out.cell 3).trans rfl
  have c4 := (C0.out.cell 4).trans rfl
  have c5 := (C0.out.cell 5).trans rfl
  have d0 := (D1.out.cell 0).trans rfl
  have d1 := (D1.out.cell 1).trans rfl
  have d2 := (D1.out.cell 2).trans rfl
  go_wp2_with fail
  refine (hasEnd_any ⟨fr, sw, ⟨a1, n1, k1⟩, ⟨a2, n2, k2⟩, ⟨a3, n3, k3⟩, ⟨a4, n4, k4⟩⟩ qs _ (HV.out.below hB2) HM.out ⟨qu, t, b⟩).mono ?_
  rintro e w3 ⟨rfl, hb⟩
  replace hB2 := hB2.trans (hb.mono hB2.size)
  clear hb c0 c1 c2 c3 c4 c5 d0 d1 d2 C0 D1 HV HM
  go_wp2
  go_ret
  exact ⟨by simp only [chanB, fromE, toE, h1]; simp [HE.out], hB2⟩

/-- A configuration. -/
structure Cf where
  fr : Int
  sw : Int
  li : List Int
  pa : List Pt
  wi : List Wn
  ch : List Ch

/-- A slice of partitions that reads, in w, as l. -/
def SeesPs (w : World) (v : Value) (l : List Pt) : Prop := ∃ qs : List Pv, SeesPv w v qs ∧ qs.length = l.length ∧ ∀ i, i < l.length → PtAt w (qs.getD i Pv.zero) (l.getD i Pt.zero)
theorem SeesPs.below {w w' : World} {v : Value} {l : List Pt} (h : SeesPs w v l) (hb : Below w.heap.size w w') : SeesPs w' v l := by
  obtain ⟨qs, h1, h2, h3⟩ := h
  exact ⟨qs, h1.below hb, h2, fun i hi => (h3 i hi).below hb⟩
theorem SeesPs.nil (w : World) : SeesPs w (.slice none 0 0) [] := ⟨[], SeesPv.nil w, rfl, fun i hi => by simp at hi⟩

/-- A configuration's value that reads, in w, as c. -/
structure CfAt (w : World) (q : Cv) (c : Cf) : Prop where
  fr : q.fr = c.fr
  sw : q.sw = c.sw
  li : Sees w .i64 q.l.val c.li
  pa : SeesPs w q.p.val c.pa
  wi : SeesWn w q.w.val c.wi
  ch : SeesCh w q.c.val c.ch
theorem CfAt.below {w w' : World} {q : Cv} {c : Cf} (h : CfAt w q c) (hb : Below w.heap.size w w') : CfAt w' q c :=
  ⟨h.fr, h.sw, h.li.below hb, h.pa.below hb, h.wi.below hb, h.ch.below hb⟩

/-- Its numbers are those of a machine, as far as they are reckoned with. -/
def Cf.fit (c : Cf) : Prop := c.fr ≤ 9223372036854775807 ∧ ∀ p ∈ c.pa, ∀ r ∈ p.rg, r.fit

def portsC (l : List Pt) (e : En) : Nat := if e.qu then (l.getD e.p.toNat Pt.zero).qu.length else (l.getD e.p.toNat Pt.zero).sa.length
def hasEndC (l : List Pt) (e : En) : Bool := inB 0 ((l.length : Int) - 1) e.p && inB 0 ((portsC l e : Int) - 1) e.o
def chanC (l : List Pt) (c : Ch) : Bool := decide (c.f ≠ c.t) && hasEndC l (fromE c) && hasEndC l (toE c)

theorem Sees.n_eq {w : World} {k : IntKind} {s : Sl} {l : List Int} (h : Sees w k s.val l) : s.n = l.length ∧ s.n ≤ 9223372036854775807 := by
  obtain ⟨a, cap, hv, h1, h2, _⟩ := h.form
  unfold Sl.val at hv
  simp only [Value.slice.injEq] at hv
  unfold maxLen at h2
  omega

theorem hasEnd_same {w : World} {qs : List Pv} {l : List Pt} (hl : qs.length = l.length) (h : ∀ i, i < l.length → PtAt w (qs.getD i Pv.zero) (l.getD i Pt.zero)) (e : En) : hasEndB qs e = hasEndC l e := by
  unfold hasEndB hasEndC
  rw [hl]
  rcases h1 : inB 0 ((l.length : Int) - 1) e.p
  · rfl
  · have hp : e.p.toNat < l.length := by simp [inB] at h1; omega
    have := h _ hp
    rw [show portsV qs e = portsC l e by unfold portsV portsC; rw [this.sa.n_eq.1, this.qu.n_eq.1]]
theorem chan_same {w : World} {qs : List Pv} {l : List Pt} (hl : qs.length = l.length) (h : ∀ i, i < l.length → PtAt w (qs.getD i Pv.zero) (l.getD i Pt.zero)) (c : Ch) : chanB qs c = chanC l c := by
  unfold chanB chanC
  rw [hasEnd_same hl h, hasEnd_same hl h]

theorem mem_getD {α : Type} {l : List α} {x d : α} (h : x ∈ l) : ∃ i, i < l.length ∧ l.getD i d = x := by
  obtain ⟨i, hi, rfl⟩ := List.mem_iff_getElem.1 h
  exact ⟨i, hi, by simp [List.getD, List.getElem?_eq_getElem hi]⟩
theorem getD_mem {α : Type} {l : List α} {i : Nat} {d : α} (h : i < l.length) : l.getD i d ∈ l := by
  simp [List.getD, List.getElem?_eq_getElem h]
end Go.Proofs.Ytfdoejdnhogepaa
