/-
  A partition, a process that goes on, as arguments.
-/
import Derived.Test.YtdanfnbclbiidaaRows
import Derived.Test.YtdanfnbclbiidaaQReg
import Derived.Test.YtdanfnbclbiidaaTOpenG
import Derived.Test.YtdanfnbclbiidaaPOpen
namespace Go.Proofs.Ytdanfnbclbiidaa
open Go.RowKit Go.Deep Go.ChangeShapes Go.WideShapes
set_option linter.unusedVariables false

def Wt.wide (x : Wt) : Prop := wide1 x.p ∧ wide1 x.r ∧ wide1 x.v
def Sp.wide (x : Sp) : Prop := wide1 x.v ∧ wide1 x.t
def Bd.wide (x : Bd) : Prop := wide1 x.v ∧ ∀ y ∈ x.l, y.wide
def Bf.wide (x : Bf) : Prop := wide1 x.d ∧ (∀ y ∈ x.vs, wide1 y) ∧ ∀ y ∈ x.l, y.wide
def Se.wide (x : Se) : Prop := wide1 x.c ∧ wide1 x.m ∧ ∀ y ∈ x.l, y.wide
def Ev.wide (x : Ev) : Prop := ∀ y ∈ x.l, y.wide
def Qu.wide (x : Qu) : Prop := wide1 x.d ∧ (∀ y ∈ x.vs, wide1 y) ∧ wide1 x.x
structure Pa.wide (c : Pa) : Prop where
  md : wide1 c.md
  bg : wide1 c.bg
  nx : wide1 c.nx
  me : ∀ y ∈ c.me, wide1 y
  pr : ∀ y ∈ c.pr, y.fit
  bo : ∀ y ∈ c.bo, y.wide
  bu : ∀ y ∈ c.bu, y.wide
  se : ∀ y ∈ c.se, y.wide
  ev : ∀ y ∈ c.ev, y.wide
  sa : ∀ y ∈ c.sa, y.wide
  qu : ∀ y ∈ c.qu, y.wide
  ld : wide1 c.ld
  ll : ∀ y ∈ c.ll, wide1 y
  lx : wide1 c.lx
  gi : ∀ y ∈ c.gi, wide1 y

/-- A process that goes on, with what its call returns. -/
structure Wk where
  p : Int
  c : Int
  v : Int
def Wk.val (r : Wk) : Value := .agg #[.int .i64 r.p, .int .i64 r.c, .int .i64 r.v]
def Wk.fit (r : Wk) : Prop := wide1 r.p ∧ wide1 r.c ∧ wide1 r.v

section
variable {H : Type} {enc : TypeId × Value → H} {w : World} {base : Nat} {spare : Nat → Bool} {held : Bool} {fuel : Nat} {cs : List Value} {x : DataW H × List MemPlace}

theorem trod_structN4 {P : Program} {H : Type} {enc : TypeId × Value → H} {w : World} {base : Nat} {spare : Nat → Bool} {held : Bool} {t : TypeId} {f0 f1 f2 f3 : Field} {fuel : Nat} {cs : List Value} {x : DataW H × List MemPlace} (ht : P.underlying t = some (.struct #[f0, f1, f2, f3])) (h : DataW.trod enc P w base spare held fuel t cs = some x) :
    ∃ y0 y1 y2 y3 n, cs.length = P.cellsOf t ∧ DataW.trod enc P w base spare held n f0.type ((cs.drop f0.offset).take (P.cellsOf f0.type)) = some y0 ∧ DataW.trod enc P w base spare held n f1.type ((cs.drop f1.offset).take (P.cellsOf f1.type)) = some y1 ∧ DataW.trod enc P w base spare held n f2.type ((cs.drop f2.offset).take (P.cellsOf f2.type)) = some y2 ∧ DataW.trod enc P w base spare held n f3.type ((cs.drop f3.offset).take (P.cellsOf f3.type)) = some y3 := by
  obtain ⟨xs, n, _, rfl, hl, hlen, hf⟩ := DataW.trod_struct ht h
  match xs, hlen with
  | [y0, y1, y2, y3], _ => exact ⟨y0, y1, y2, y3, n, hl, by simpa using hf 0 f0 rfl, by simpa using hf 1 f1 rfl, by simpa using hf 2 f2 rfl, by simpa using hf 3 f3 rfl⟩

set_option maxRecDepth 100000 in
theorem open_cells_Wt (h : DataW.trod enc Try.prog w base spare held fuel 104 cs = some x) : ∃ r : Wt, cs = r.cells ∧ r.wide := by
  obtain ⟨y0, y1, y2, n, hl, h0, h1, h2⟩ := trod_structN3 Try.underlying104 h
  have hc : Try.prog.cellsOf 104 = 3 := by kernel_rfl
  have hi : Try.prog.cellsOf 3 = 1 := by kernel_rfl
  have hb : Try.prog.cellsOf 4 = 1 := by kernel_rfl
  rw [hc] at hl
  match cs, hl with
  | [c0, c1, c2], _ =>
    simp [hi] at h0
    obtain ⟨a0, e0, w0⟩ := popen_int h0
    simp [hi] at h1
    obtain ⟨a1, e1, w1⟩ := popen_int h1
    simp [hi] at h2
    obtain ⟨a2, e2, w2⟩ := popen_int h2
    simp at e0 e1 e2
    subst e0 e1 e2
    exact ⟨⟨a0, a1, a2⟩, rfl, w0, w1, w2⟩

set_option maxRecDepth 100000 in
theorem open_cells_Sp (h : DataW.trod enc Try.prog w base spare held fuel 78 cs = some x) : ∃ r : Sp, cs = r.cells ∧ r.wide := by
  obtain ⟨y0, y1, y2, n, hl, h0, h1, h2⟩ := trod_structN3 Try.underlying78 h
  have hc : Try.prog.cellsOf 78 = 3 := by kernel_rfl
  have hi : Try.prog.cellsOf 3 = 1 := by kernel_rfl
  have hb : Try.prog.cellsOf 4 = 1 := by kernel_rfl
  rw [hc] at hl
  match cs, hl with
  | [c0, c1, c2], _ =>
    simp [hb] at h0
    obtain ⟨a0, e0⟩ := popen_bool h0
    simp [hi] at h1
    obtain ⟨a1, e1, w1⟩ := popen_int h1
    simp [hi] at h2
    obtain ⟨a2, e2, w2⟩ := popen_int h2
    simp at e0 e1 e2
    subst e0 e1 e2
    exact ⟨⟨a0, a1, a2⟩, rfl, w1, w2⟩

set_option maxRecDepth 100000 in
theorem open_cells_Bd (h : DataW.trod enc Try.prog w base spare held fuel 67 cs = some x) : ∃ r : BdV × Bd, cs = r.1.cells ∧ BdAt w r.1 r.2 ∧ r.2.wide := by
  obtain ⟨y0, y1, y2, n, hl, h0, h1, h2⟩ := trod_structN3 Try.underlying67 h
  have hc : Try.prog.cellsOf 67 = 3 := by kernel_rfl
  have hi : Try.prog.cellsOf 3 = 1 := by kernel_rfl
  have hb : Try.prog.cellsOf 4 = 1 := by kernel_rfl
  have hn : Try.prog.cellsOf 26 = 1 := by kernel_rfl
  have hw : Try.prog.cellsOf 65 = 1 := by kernel_rfl
  rw [hc] at hl
  match cs, hl with
  | [c0, c1, c2], _ =>
    simp [hb] at h0
    obtain ⟨a0, e0⟩ := popen_bool h0
    simp [hi] at h1
    obtain ⟨a1, e1, w1⟩ := popen_int h1
    simp [hw] at h2
    obtain ⟨s2, l2, e2, g2, k2⟩ := rows_gen Wt.zero Wt.cells 3 (fun r => r.wide) (fun r => rfl) Try.underlying65 (by kernel_rfl) (fun _ _ _ h => open_cells_Wt h) h2
    simp at e0 e1 e2
    subst e0 e1 e2
    exact ⟨(⟨a0, a1, s2⟩, ⟨a0, a1, l2⟩), rfl, ⟨rfl, rfl, g2⟩, w1, k2⟩

set_option maxRecDepth 100000 in
theorem open_cells_Bf (h : DataW.trod enc Try.prog w base spare held fuel 69 cs = some x) : ∃ r : BfV × Bf, cs = r.1.cells ∧ BfAt w r.1 r.2 ∧ r.2.wide := by
  obtain ⟨y0, y1, y2, y3, n, hl, h0, h1, h2, h3⟩ := trod_structN4 Try.underlying69 h
  have hc : Try.prog.cellsOf 69 = 4 := by kernel_rfl
  have hi : Try.prog.cellsOf 3 = 1 := by kernel_rfl
  have hb : Try.prog.cellsOf 4 = 1 := by kernel_rfl
  have hn : Try.prog.cellsOf 26 = 1 := by kernel_rfl
  have hw : Try.prog.cellsOf 65 = 1 := by kernel_rfl
  rw [hc] at hl
  match cs, hl with
  | [c0, c1, c2, c3], _ =>
    simp [hi] at h0
    obtain ⟨a0, e0, w0⟩ := popen_int h0
    simp [hb] at h1
    obtain ⟨a1, e1⟩ := popen_bool h1
    simp [hn] at h2
    obtain ⟨s2, l2, e2, g2, k2⟩ := ints_genW h2
    simp [hw] at h3
    obtain ⟨s3, l3, e3, g3, k3⟩ := rows_gen Wt.zero Wt.cells 3 (fun r => r.wide) (fun r => rfl) Try.underlying65 (by kernel_rfl) (fun _ _ _ h => open_cells_Wt h) h3
    simp at e0 e1 e2 e3
    subst e0 e1 e2 e3
    exact ⟨(⟨a0, a1, s2, s3⟩, ⟨a0, a1, l2, l3⟩), rfl, ⟨rfl, rfl, g2, g3⟩, w0, k2, k3⟩

set_option maxRecDepth 100000 in
theorem open_cells_Se (h : DataW.trod enc Try.prog w base spare held fuel 71 cs = some x) : ∃ r : SeV × Se, cs = r.1.cells ∧ SeAt w r.1 r.2 ∧ r.2.wide := by
  obtain ⟨y0, y1, y2, y3, n, hl, h0, h1, h2, h3⟩ := trod_structN4 Try.underlying71 h
  have hc : Try.prog.cellsOf 71 = 4 := by kernel_rfl
  have hi : Try.prog.cellsOf 3 = 1 := by kernel_rfl
  have hb : Try.prog.cellsOf 4 = 1 := by kernel_rfl
  have hn : Try.prog.cellsOf 26 = 1 := by kernel_rfl
  have hw : Try.prog.cellsOf 65 = 1 := by kernel_rfl
  rw [hc] at hl
  match cs, hl with
  | [c0, c1, c2, c3], _ =>
    simp [hi] at h0
    obtain ⟨a0, e0, w0⟩ := popen_int h0
    simp [hi] at h1
    obtain ⟨a1, e1, w1⟩ := popen_int h1
    simp [hb] at h2
    obtain ⟨a2, e2⟩ := popen_bool h2
    simp [hw] at h3
    obtain ⟨s3, l3, e3, g3, k3⟩ := rows_gen Wt.zero Wt.cells 3 (fun r => r.wide) (fun r => rfl) Try.underlying65 (by kernel_rfl) (fun _ _ _ h => open_cells_Wt h) h3
    simp at e0 e1 e2 e3
    subst e0 e1 e2 e3
    exact ⟨(⟨a0, a1, a2, s3⟩, ⟨a0, a1, a2, l3⟩), rfl, ⟨rfl, rfl, rfl, g3⟩, w0, w1, k3⟩

set_option maxRecDepth 100000 in
theorem open_cells_Ev (h : DataW.trod enc Try.prog w base spare held fuel 73 cs = some x) : ∃ r : EvV × Ev, cs = r.1.cells ∧ EvAt w r.1 r.2 ∧ r.2.wide := by
  obtain ⟨y0, y1, n, hl, h0, h1⟩ := trod_structN2 Try.underlying73 h
  have hc : Try.prog.cellsOf 73 = 2 := by kernel_rfl
  have hi : Try.prog.cellsOf 3 = 1 := by kernel_rfl
  have hb : Try.prog.cellsOf 4 = 1 := by kernel_rfl
  have hn : Try.prog.cellsOf 26 = 1 := by kernel_rfl
  have hw : Try.prog.cellsOf 65 = 1 := by kernel_rfl
  rw [hc] at hl
  match cs, hl with
  | [c0, c1], _ =>
    simp [hb] at h0
    obtain ⟨a0, e0⟩ := popen_bool h0
    simp [hw] at h1
    obtain ⟨s1, l1, e1, g1, k1⟩ := rows_gen Wt.zero Wt.cells 3 (fun r => r.wide) (fun r => rfl) Try.underlying65 (by kernel_rfl) (fun _ _ _ h => open_cells_Wt h) h1
    simp at e0 e1
    subst e0 e1
    exact ⟨(⟨a0, s1⟩, ⟨a0, l1⟩), rfl, ⟨rfl, g1⟩, k1⟩

set_option maxRecDepth 100000 in
theorem open_cells_Qu (h : DataW.trod enc Try.prog w base spare held fuel 75 cs = some x) : ∃ r : QuV × Qu, cs = r.1.cells ∧ QuAt w r.1 r.2 ∧ r.2.wide := by
  obtain ⟨y0, y1, y2, n, hl, h0, h1, h2⟩ := trod_structN3 Try.underlying75 h
  have hc : Try.prog.cellsOf 75 = 3 := by kernel_rfl
  have hi : Try.prog.cellsOf 3 = 1 := by kernel_rfl
  have hb : Try.prog.cellsOf 4 = 1 := by kernel_rfl
  have hn : Try.prog.cellsOf 26 = 1 := by kernel_rfl
  have hw : Try.prog.cellsOf 65 = 1 := by kernel_rfl
  rw [hc] at hl
  match cs, hl with
  | [c0, c1, c2], _ =>
    simp [hi] at h0
    obtain ⟨a0, e0, w0⟩ := popen_int h0
    simp [hn] at h1
    obtain ⟨s1, l1, e1, g1, k1⟩ := ints_genW h1
    simp [hi] at h2
    obtain ⟨a2, e2, w2⟩ := popen_int h2
    simp at e0 e1 e2
    subst e0 e1 e2
    exact ⟨(⟨a0, s1, a2⟩, ⟨a0, l1, a2⟩), rfl, ⟨rfl, g1, rfl⟩, w0, k1, w2⟩

theorem open_list_Bd (h : DataW.trod enc Try.prog w base spare held fuel 30 cs = some x) : ∃ (s : Sl) (l : List Bd), cs = [.slice s.a s.n s.c] ∧ LBd w s.val l ∧ ∀ r ∈ l, r.wide := by
  obtain ⟨s, l, e, g, k⟩ := rows_gen (X := BdV × Bd) (BdV.zero, Bd.zero) (fun r => r.1.cells) 3 (fun r => BdAt w r.1 r.2 ∧ r.2.wide) (fun r => rfl) Try.underlying30 (by kernel_rfl) (fun _ _ _ h => open_cells_Bd h) h
  refine ⟨s, l.map (·.2), e, ⟨l.map (·.1), by unfold SeesBdV; rw [List.map_map]; exact g, by simp, fun i hi => ?_⟩, fun r hr => ?_⟩
  · have hi' : i < l.length := by simpa using hi
    have h1 : (l.map (·.1)).getD i BdV.zero = (l.getD i (BdV.zero, Bd.zero)).1 := by simp [List.getD, List.getElem?_eq_getElem hi']
    have h2 : (l.map (·.2)).getD i Bd.zero = (l.getD i (BdV.zero, Bd.zero)).2 := by simp [List.getD, List.getElem?_eq_getElem hi']
    rw [h1, h2]
    exact (k _ (getD_memG hi')).1
  · obtain ⟨y, hy, rfl⟩ := List.mem_map.1 hr
    exact (k y hy).2

theorem open_list_Bf (h : DataW.trod enc Try.prog w base spare held fuel 31 cs = some x) : ∃ (s : Sl) (l : List Bf), cs = [.slice s.a s.n s.c] ∧ LBf w s.val l ∧ ∀ r ∈ l, r.wide := by
  obtain ⟨s, l, e, g, k⟩ := rows_gen (X := BfV × Bf) (BfV.zero, Bf.zero) (fun r => r.1.cells) 4 (fun r => BfAt w r.1 r.2 ∧ r.2.wide) (fun r => rfl) Try.underlying31 (by kernel_rfl) (fun _ _ _ h => open_cells_Bf h) h
  refine ⟨s, l.map (·.2), e, ⟨l.map (·.1), by unfold SeesBfV; rw [List.map_map]; exact g, by simp, fun i hi => ?_⟩, fun r hr => ?_⟩
  · have hi' : i < l.length := by simpa using hi
    have h1 : (l.map (·.1)).getD i BfV.zero = (l.getD i (BfV.zero, Bf.zero)).1 := by simp [List.getD, List.getElem?_eq_getElem hi']
    have h2 : (l.map (·.2)).getD i Bf.zero = (l.getD i (BfV.zero, Bf.zero)).2 := by simp [List.getD, List.getElem?_eq_getElem hi']
    rw [h1, h2]
    exact (k _ (getD_memG hi')).1
  · obtain ⟨y, hy, rfl⟩ := List.mem_map.1 hr
    exact (k y hy).2

theorem open_list_Se (h : DataW.trod enc Try.prog w base spare held fuel 32 cs = some x) : ∃ (s : Sl) (l : List Se), cs = [.slice s.a s.n s.c] ∧ LSe w s.val l ∧ ∀ r ∈ l, r.wide := by
  obtain ⟨s, l, e, g, k⟩ := rows_gen (X := SeV × Se) (SeV.zero, Se.zero) (fun r => r.1.cells) 4 (fun r => SeAt w r.1 r.2 ∧ r.2.wide) (fun r => rfl) Try.underlying32 (by kernel_rfl) (fun _ _ _ h => open_cells_Se h) h
  refine ⟨s, l.map (·.2), e, ⟨l.map (·.1), by unfold SeesSeV; rw [List.map_map]; exact g, by simp, fun i hi => ?_⟩, fun r hr => ?_⟩
  · have hi' : i < l.length := by simpa using hi
    have h1 : (l.map (·.1)).getD i SeV.zero = (l.getD i (SeV.zero, Se.zero)).1 := by simp [List.getD, List.getElem?_eq_getElem hi']
    have h2 : (l.map (·.2)).getD i Se.zero = (l.getD i (SeV.zero, Se.zero)).2 := by simp [List.getD, List.getElem?_eq_getElem hi']
    rw [h1, h2]
    exact (k _ (getD_memG hi')).1
  · obtain ⟨y, hy, rfl⟩ := List.mem_map.1 hr
    exact (k y hy).2

theorem open_list_Ev (h : DataW.trod enc Try.prog w base spare held fuel 33 cs = some x) : ∃ (s : Sl) (l : List Ev), cs = [.slice s.a s.n s.c] ∧ LEv w s.val l ∧ ∀ r ∈ l, r.wide := by
  obtain ⟨s, l, e, g, k⟩ := rows_gen (X := EvV × Ev) (EvV.zero, Ev.zero) (fun r => r.1.cells) 2 (fun r => EvAt w r.1 r.2 ∧ r.2.wide) (fun r => rfl) Try.underlying33 (by kernel_rfl) (fun _ _ _ h => open_cells_Ev h) h
  refine ⟨s, l.map (·.2), e, ⟨l.map (·.1), by unfold SeesEvV; rw [List.map_map]; exact g, by simp, fun i hi => ?_⟩, fun r hr => ?_⟩
  · have hi' : i < l.length := by simpa using hi
    have h1 : (l.map (·.1)).getD i EvV.zero = (l.getD i (EvV.zero, Ev.zero)).1 := by simp [List.getD, List.getElem?_eq_getElem hi']
    have h2 : (l.map (·.2)).getD i Ev.zero = (l.getD i (EvV.zero, Ev.zero)).2 := by simp [List.getD, List.getElem?_eq_getElem hi']
    rw [h1, h2]
    exact (k _ (getD_memG hi')).1
  · obtain ⟨y, hy, rfl⟩ := List.mem_map.1 hr
    exact (k y hy).2

theorem open_list_Qu (h : DataW.trod enc Try.prog w base spare held fuel 35 cs = some x) : ∃ (s : Sl) (l : List Qu), cs = [.slice s.a s.n s.c] ∧ LQu w s.val l ∧ ∀ r ∈ l, r.wide := by
  obtain ⟨s, l, e, g, k⟩ := rows_gen (X := QuV × Qu) (QuV.zero, Qu.zero) (fun r => r.1.cells) 3 (fun r => QuAt w r.1 r.2 ∧ r.2.wide) (fun r => rfl) Try.underlying35 (by kernel_rfl) (fun _ _ _ h => open_cells_Qu h) h
  refine ⟨s, l.map (·.2), e, ⟨l.map (·.1), by unfold SeesQuV; rw [List.map_map]; exact g, by simp, fun i hi => ?_⟩, fun r hr => ?_⟩
  · have hi' : i < l.length := by simpa using hi
    have h1 : (l.map (·.1)).getD i QuV.zero = (l.getD i (QuV.zero, Qu.zero)).1 := by simp [List.getD, List.getElem?_eq_getElem hi']
    have h2 : (l.map (·.2)).getD i Qu.zero = (l.getD i (QuV.zero, Qu.zero)).2 := by simp [List.getD, List.getElem?_eq_getElem hi']
    rw [h1, h2]
    exact (k _ (getD_memG hi')).1
  · obtain ⟨y, hy, rfl⟩ := List.mem_map.1 hr
    exact (k y hy).2

theorem open_list_Px (h : DataW.trod enc Try.prog w base spare held fuel 29 cs = some x) : ∃ (s : Sl) (l : List Px), cs = [.slice s.a s.n s.c] ∧ SeesPx w s.val l ∧ ∀ r ∈ l, r.fit :=
  rows_gen Px.zero Px.cells 18 (fun r => r.fit) (fun r => rfl) Try.underlying29 (by kernel_rfl) (fun _ _ _ h => open_cells_Px h) h
theorem open_list_Sp (h : DataW.trod enc Try.prog w base spare held fuel 34 cs = some x) : ∃ (s : Sl) (l : List Sp), cs = [.slice s.a s.n s.c] ∧ SeesSp w s.val l ∧ ∀ r ∈ l, r.wide :=
  rows_gen Sp.zero Sp.cells 3 (fun r => r.wide) (fun r => rfl) Try.underlying34 (by kernel_rfl) (fun _ _ _ h => open_cells_Sp h) h

set_option maxRecDepth 100000 in
theorem open_cells_Latch (h : DataW.trod enc Try.prog w base spare held fuel 37 cs = some x) : ∃ (d : Int) (s : Sl) (l : List Int) (y : Int), cs = [.int .i64 d, .slice s.a s.n s.c, .int .i64 y] ∧ Sees w .i64 s.val l ∧ wide1 d ∧ (∀ n ∈ l, wide1 n) ∧ wide1 y := by
  obtain ⟨y0, y1, y2, n, hl, h0, h1, h2⟩ := trod_structN3 Try.underlying37 h
  have hc : Try.prog.cellsOf 37 = 3 := by kernel_rfl
  have hi : Try.prog.cellsOf 3 = 1 := by kernel_rfl
  have hn : Try.prog.cellsOf 26 = 1 := by kernel_rfl
  rw [hc] at hl
  match cs, hl with
  | [c0, c1, c2], _ =>
    simp [hi] at h0
    obtain ⟨a0, e0, w0⟩ := popen_int h0
    simp [hn] at h1
    obtain ⟨s1, l1, e1, g1, k1⟩ := ints_genW h1
    simp [hi] at h2
    obtain ⟨a2, e2, w2⟩ := popen_int h2
    simp at e0 e1 e2
    subst e0 e1 e2
    exact ⟨a0, s1, l1, a2, rfl, g1, w0, k1, w2⟩

set_option maxRecDepth 100000 in
set_option maxHeartbeats 1600000 in
theorem open_cells_Pa (h : DataW.trod enc Try.prog w base spare held fuel 39 cs = some x) : ∃ r : PaV × Pa, cs = r.1.cells ∧ PaAt w r.1 r.2 ∧ r.2.wide := by
  obtain ⟨xs, n, _, rfl, hl, hlen, hf⟩ := DataW.trod_struct Try.underlying39 h
  have hc : Try.prog.cellsOf 39 = 15 := by kernel_rfl
  have hi : Try.prog.cellsOf 3 = 1 := by kernel_rfl
  have hn : Try.prog.cellsOf 26 = 1 := by kernel_rfl
  have hk : Try.prog.cellsOf 37 = 3 := by kernel_rfl
  have tPx : Try.prog.cellsOf 29 = 1 := by kernel_rfl
  have tBd : Try.prog.cellsOf 30 = 1 := by kernel_rfl
  have tBf : Try.prog.cellsOf 31 = 1 := by kernel_rfl
  have tSe : Try.prog.cellsOf 32 = 1 := by kernel_rfl
  have tEv : Try.prog.cellsOf 33 = 1 := by kernel_rfl
  have tSp : Try.prog.cellsOf 34 = 1 := by kernel_rfl
  have tQu : Try.prog.cellsOf 35 = 1 := by kernel_rfl
  rw [hc] at hl
  match xs, hlen with
  | [y0, y1, y2, y3, y4, y5, y6, y7, y8, y9, y10, y11, y12], _ =>
    have h0 := hf 0 _ rfl
    have h1 := hf 1 _ rfl
    have h2 := hf 2 _ rfl
    have h3 := hf 3 _ rfl
    have h4 := hf 4 _ rfl
    have h5 := hf 5 _ rfl
    have h6 := hf 6 _ rfl
    have h7 := hf 7 _ rfl
    have h8 := hf 8 _ rfl
    have h9 := hf 9 _ rfl
    have h10 := hf 10 _ rfl
    have h11 := hf 11 _ rfl
    have h12 := hf 12 _ rfl
    clear hf
    match cs, hl with
    | [c0, c1, c2, c3, c4, c5, c6, c7, c8, c9, c10, c11, c12, c13, c14], _ =>
      simp [hi] at h0
      obtain ⟨a0, e0, w0⟩ := popen_int h0
      simp [hi] at h1
      obtain ⟨a1, e1, w1⟩ := popen_int h1
      simp [hi] at h2
      obtain ⟨a2, e2, w2⟩ := popen_int h2
      simp [hn] at h3
      obtain ⟨s3, l3, e3, g3, k3⟩ := ints_genW h3
      simp [tPx] at h4
      obtain ⟨s4, l4, e4, g4, k4⟩ := open_list_Px h4
      simp [tBd] at h5
      obtain ⟨s5, l5, e5, g5, k5⟩ := open_list_Bd h5
      simp [tBf] at h6
      obtain ⟨s6, l6, e6, g6, k6⟩ := open_list_Bf h6
      simp [tSe] at h7
      obtain ⟨s7, l7, e7, g7, k7⟩ := open_list_Se h7
      simp [tEv] at h8
      obtain ⟨s8, l8, e8, g8, k8⟩ := open_list_Ev h8
      simp [tSp] at h9
      obtain ⟨s9, l9, e9, g9, k9⟩ := open_list_Sp h9
      simp [tQu] at h10
      obtain ⟨s10, l10, e10, g10, k10⟩ := open_list_Qu h10
      simp [hk] at h11
      obtain ⟨b0, s11, l11, b2, e11, g11, u0, k11, u2⟩ := open_cells_Latch h11
      simp [hn] at h12
      obtain ⟨s12, l12, e12, g12, k12⟩ := ints_genW h12
      simp at e0 e1 e2 e3 e4 e5 e6 e7 e8 e9 e10 e11 e12
      obtain ⟨q0, q1, q2⟩ := e11
      subst e0 e1 e2 e3 e4 e5 e6 e7 e8 e9 e10 e12 q0 q1 q2
      exact ⟨(⟨a0, a1, a2, s3, s4, s5, s6, s7, s8, s9, s10, b0, s11, b2, s12⟩, ⟨a0, a1, a2, l3, l4, l5, l6, l7, l8, l9, l10, b0, l11, b2, l12⟩), rfl, ⟨rfl, rfl, rfl, g3, g4, g5, g6, g7, g8, g9, g10, rfl, g11, rfl, g12⟩, ⟨w0, w1, w2, k3, k4, k5, k6, k7, k8, k9, k10, u0, k11, u2, k12⟩⟩

set_option maxRecDepth 100000 in
theorem open_cells_Wk (h : DataW.trod enc Try.prog w base spare held fuel 92 cs = some x) : ∃ r : Wk, cs = [.int .i64 r.p, .int .i64 r.c, .int .i64 r.v] ∧ r.fit := by
  obtain ⟨y0, y1, y2, n, hl, h0, h1, h2⟩ := trod_structN3 Try.underlying92 h
  have hc : Try.prog.cellsOf 92 = 3 := by kernel_rfl
  have hi : Try.prog.cellsOf 3 = 1 := by kernel_rfl
  rw [hc] at hl
  match cs, hl with
  | [c0, c1, c2], _ =>
    simp [hi] at h0
    obtain ⟨a0, e0, w0⟩ := popen_int h0
    simp [hi] at h1
    obtain ⟨a1, e1, w1⟩ := popen_int h1
    simp [hi] at h2
    obtain ⟨a2, e2, w2⟩ := popen_int h2
    simp at e0 e1 e2
    subst e0 e1 e2
    exact ⟨⟨a0, a1, a2⟩, rfl, w0, w1, w2⟩
end

/-- A partition that came in: its value, and what it reads as. -/
structure PaX where
  q : PaV
  c : Pa
def PaX.val (r : PaX) : Value := r.q.val
def PaX.fit (r : PaX) (w : World) : Prop := PaAt w r.q r.c ∧ r.c.wide

/-- A partition's table that came in. -/
structure PtX where
  q : Pv
  c : Pt
def PtX.val (r : PtX) : Value := r.q.val
def PtX.fit (r : PtX) (w : World) : Prop := PtAt w r.q r.c ∧ (∀ g ∈ r.c.rg, g.fit) ∧ ∀ g ∈ r.c.pc, g.wide

set_option maxRecDepth 100000 in
theorem open_one_PaX {H : Type} {enc : TypeId × Value → H} {w : World} {v : Value} {d : DataW H} {p : List MemPlace} (hv : Value.okWide Try.prog w .any 0 39 v)
    (h : DataW.Trod enc Try.prog w 0 (fun _ => true) true 39 v d p) : ∃ r : PaX, v = r.val ∧ r.fit w := by
  obtain ⟨cs, rfl, _⟩ := okWide_struct Try.underlying39 hv
  obtain ⟨fuel, hf⟩ := h
  obtain ⟨⟨q, c⟩, hr, hfit⟩ := open_cells_Pa hf
  refine ⟨⟨q, c⟩, ?_, hfit⟩
  simp [Value.cells] at hr
  unfold PaX.val PaV.val
  congr 1
  apply Array.toList_inj.1
  exact hr

set_option maxRecDepth 100000 in
theorem open_one_PtX {H : Type} {enc : TypeId × Value → H} {w : World} {v : Value} {d : DataW H} {p : List MemPlace} (hv : Value.okWide Try.prog w .any 0 28 v)
    (h : DataW.Trod enc Try.prog w 0 (fun _ => true) true 28 v d p) : ∃ r : PtX, v = r.val ∧ r.fit w := by
  obtain ⟨cs, rfl, _⟩ := okWide_struct Try.underlying28 hv
  obtain ⟨fuel, hf⟩ := h
  obtain ⟨⟨q, c⟩, hr, hfit⟩ := open_cells_PtW hf
  refine ⟨⟨q, c⟩, ?_, hfit⟩
  simp [Value.cells] at hr
  unfold PtX.val Pv.val
  congr 1
  apply Array.toList_inj.1
  exact hr

set_option maxRecDepth 100000 in
theorem open_one_Wk {H : Type} {enc : TypeId × Value → H} {w : World} {v : Value} {d : DataW H} {p : List MemPlace} (hv : Value.okWide Try.prog w .any 0 92 v)
    (h : DataW.Trod enc Try.prog w 0 (fun _ => true) true 92 v d p) : ∃ r : Wk, v = r.val ∧ r.fit := by
  obtain ⟨cs, rfl, _⟩ := okWide_struct Try.underlying92 hv
  obtain ⟨fuel, hf⟩ := h
  obtain ⟨r, hr, hfit⟩ := open_cells_Wk hf
  refine ⟨r, ?_, hfit⟩
  simp [Value.cells] at hr
  unfold Wk.val
  congr 1
  apply Array.toList_inj.1
  exact hr
end Go.Proofs.Ytdanfnbclbiidaa
