/-
  What was encoded is decoded as it was; without its last number it is too short, with one more it is too long.
-/
import Derived.Test.YtfdoejdnhogepaaTDec
namespace Go.Proofs.Ytfdoejdnhogepaa
set_option linter.unusedVariables false

abbrev St := List Int × Int

/-- T takes just F, wants more where F is cut short, and does nothing behind an error. -/
structure Sh (F : List Int) (T : St → St) : Prop where
  fwd : ∀ rest, T (F ++ rest, 0) = (rest, 0)
  short : ∀ pre suf, F = pre ++ suf → suf ≠ [] → T (pre, 0) = ([], 3)
  stuck : ∀ s : St, s.2 ≠ 0 → T s = s

theorem Sh.nil : Sh [] (fun s => s) := ⟨fun _ => rfl, fun pre suf h hs => by
  have := List.append_eq_nil_iff.1 h.symm; exact absurd this.2 hs, fun _ _ => rfl⟩
theorem Sh.comp {F G : List Int} {T U : St → St} (h : Sh F T) (k : Sh G U) : Sh (F ++ G) (fun s => U (T s)) := by
  refine ⟨fun rest => ?_, fun pre suf he hs => ?_, fun s hs => ?_⟩
  · rw [List.append_assoc, h.fwd, k.fwd]
  · rcases List.append_eq_append_iff.1 he with ⟨a, h1, h2⟩ | ⟨a, h1, h2⟩
    · rw [h1, h.fwd, k.short a suf h2 hs]
    · rcases a with _ | ⟨x, a⟩
      · simp at h1 h2
        have := h.fwd []
        rw [List.append_nil, h1] at this
        rw [this, k.short [] suf (by rw [h2]; rfl) hs]
      · rw [h.short pre _ h1 (by simp), k.stuck _ (by simp)]
  · rw [h.stuck s hs, k.stuck s hs]

theorem isT_le {n : Int} (h : isT n = true) : n ≤ 1099511627776 := by simp [isT] at h; omega
theorem sh_num (z : Int) {n : Int} (h : isT n = true) : Sh [n] (fun s => (numW takeN z s).2) := by
  have hn := isT_le h
  refine ⟨fun rest => ?_, fun pre suf he hs => ?_, fun s hs => ?_⟩
  · simp only [numW, takeN, List.cons_append, List.nil_append]
    rw [if_neg (by simp), if_neg (by omega)]
  · have : pre = [] := by
      rcases pre with _ | ⟨x, pre⟩
      · rfl
      · simp at he; exact absurd he.2.2 hs
    subst this
    simp [numW, takeN]
  · simp only [numW, takeN]; rw [if_pos hs]
theorem v_num (z : Int) {n : Int} (h : isT n = true) (rest : List Int) : numW takeN z (n :: rest, 0) = (n, (rest, 0)) := by
  have hn := isT_le h
  simp only [numW, takeN]
  rw [if_neg (by simp), if_neg (by omega)]
theorem bit_le (b : Bool) : ¬ 1 < bitI b := by cases b <;> decide
theorem sh_flag (z b : Bool) : Sh [bitI b] (fun s => (flagW takeN z s).2) := by
  refine ⟨fun rest => ?_, fun pre suf he hs => ?_, fun s hs => ?_⟩
  · simp only [flagW, takeN, List.cons_append, List.nil_append]
    rw [if_neg (by simp), if_neg (bit_le b)]
  · have : pre = [] := by
      rcases pre with _ | ⟨x, pre⟩
      · rfl
      · simp at he; exact absurd he.2.2 hs
    subst this
    simp [flagW, takeN]
  · simp only [flagW, takeN]; rw [if_pos hs]
theorem v_flag (z b : Bool) (rest : List Int) : flagW takeN z (bitI b :: rest, 0) = (b, (rest, 0)) := by
  simp only [flagW, takeN]
  rw [if_neg (by simp), if_neg (bit_le b)]
  cases b <;> rfl

theorem sh_map {α : Type} {f : α → List Int} {one : α → St → α × St} (l : List α) (h : ∀ x ∈ l, ∀ z, Sh (f x) (fun s => (one z s).2)) : ∀ olds : List α, olds.length = l.length → Sh (l.flatMap f) (fun s => (mapW one olds s).2) := by
  induction l with
  | nil => intro olds ho; rcases olds with _ | ⟨o, olds⟩
           · exact Sh.nil
           · simp at ho
  | cons x l ih =>
    intro olds ho
    rcases olds with _ | ⟨o, olds⟩
    · simp at ho
    · rw [List.flatMap_cons]
      exact (h x (by simp) o).comp (ih (fun y hy => h y (by simp [hy])) olds (by simpa using ho))
theorem v_map {α : Type} {f : α → List Int} {one : α → St → α × St} (l : List α) (h : ∀ x ∈ l, ∀ z rest, one z (f x ++ rest, 0) = (x, (rest, 0))) : ∀ olds : List α, olds.length = l.length → ∀ rest, mapW one olds (l.flatMap f ++ rest, 0) = (l, (rest, 0)) := by
  induction l with
  | nil => intro olds ho rest; rcases olds with _ | ⟨o, olds⟩
           · rfl
           · simp at ho
  | cons x l ih =>
    intro olds ho rest
    rcases olds with _ | ⟨o, olds⟩
    · simp at ho
    · rw [List.flatMap_cons, List.append_assoc]
      simp only [mapW]
      rw [h x (by simp) o]
      simp only
      rw [ih (fun y hy => h y (by simp [hy])) olds (by simpa using ho)]
theorem take_count (z : Nat) (n : Nat) (hn : n ≤ 64) (rest : List Int) : takeN z 64 ((n : Int) :: rest, 0) = ((n : Int), (rest, 0)) := by
  simp only [takeN]
  rw [if_neg (by simp), if_neg (by omega)]
theorem sh_list {α : Type} {f : α → List Int} {one : α → St → α × St} (zz : α) (old : List α) (l : List α) (hl : l.length ≤ 64) (h : ∀ x ∈ l, ∀ z, Sh (f x) (fun s => (one z s).2)) : Sh (cntF f l) (fun s => (listW takeN one zz old s).2) := by
  refine ⟨fun rest => ?_, fun pre suf he hs => ?_, fun s hs => ?_⟩
  · simp only [listW, cntF, List.cons_append]
    rw [take_count _ _ hl]
    simp only [Int.toNat_natCast]
    exact (sh_map l h _ (pad_length _ _ _)).fwd rest
  · rcases pre with _ | ⟨x, pre⟩
    · simp [listW, takeN, pad, mapW]
    · simp only [cntF, List.cons_append, List.cons.injEq] at he
      obtain ⟨rfl, he⟩ := he
      simp only [listW]
      rw [take_count _ _ hl]
      simp only [Int.toNat_natCast]
      exact (sh_map l h _ (pad_length _ _ _)).short pre suf he hs
  · simp only [listW, takeN]
    rw [if_pos hs]
    simp [pad, mapW]
theorem v_list {α : Type} {f : α → List Int} {one : α → St → α × St} (zz : α) (old : List α) (l : List α) (hl : l.length ≤ 64) (h : ∀ x ∈ l, ∀ z rest, one z (f x ++ rest, 0) = (x, (rest, 0))) (rest : List Int) : listW takeN one zz old (cntF f l ++ rest, 0) = (l, (rest, 0)) := by
  simp only [listW, cntF, List.cons_append]
  rw [take_count _ _ hl]
  simp only [Int.toNat_natCast]
  exact v_map l h _ (pad_length _ _ _) rest

theorem allT_cons (n : Int) (l : List Int) : allT (n :: l) = (isT n && allT l) := rfl
theorem allT_flat {α : Type} {f : α → List Int} {l : List α} (h : allT (cntF f l) = true) : ∀ x ∈ l, allT (f x) = true := by
  unfold cntF at h
  rw [allT_cons, Bool.and_eq_true] at h
  intro x hx
  have := h.2
  rw [allT, List.all_eq_true] at this ⊢
  exact fun n hn => this n (List.mem_flatMap.2 ⟨x, hx, hn⟩)

theorem sh_rg (x z : Rg) (h : allT (flRg x) = true) : Sh (flRg x) (fun s => (wRg takeN z s).2) := by
  simp only [flRg, allT_cons, Bool.and_eq_true] at h
  exact ((sh_num z.f h.1).comp (sh_num z.n h.2.1)).comp (sh_flag z.wr x.wr)
theorem v_rg (x z : Rg) (h : allT (flRg x) = true) (rest : List Int) : wRg takeN z (flRg x ++ rest, 0) = (x, (rest, 0)) := by
  simp only [flRg, allT_cons, Bool.and_eq_true] at h
  simp only [wRg, flRg, List.cons_append, List.nil_append, v_num _ h.1, v_num _ h.2.1, v_flag]
theorem sh_pc (x z : Pc) (h : allT (flPc x) = true) : Sh (flPc x) (fun s => (wPc takeN z s).2) := by
  simp only [flPc, allT_cons, Bool.and_eq_true] at h
  exact ((((sh_num z.pr h.1).comp (sh_num z.pe h.2.1)).comp (sh_num z.li h.2.2.1)).comp (sh_num z.en h.2.2.2.1)).comp (sh_flag z.au x.au)
theorem v_pc (x z : Pc) (h : allT (flPc x) = true) (rest : List Int) : wPc takeN z (flPc x ++ rest, 0) = (x, (rest, 0)) := by
  simp only [flPc, allT_cons, Bool.and_eq_true] at h
  simp only [wPc, flPc, List.cons_append, List.nil_append, v_num _ h.1, v_num _ h.2.1, v_num _ h.2.2.1, v_num _ h.2.2.2.1, v_flag]
theorem sh_bc (x z : Bc) (h : allT (flBc x) = true) : Sh (flBc x) (fun s => (wBc takeN z s).2) := by
  simp only [flBc, allT_cons, Bool.and_eq_true] at h
  exact (sh_num z.d h.1).comp (sh_flag z.ra x.ra)
theorem v_bc (x z : Bc) (h : allT (flBc x) = true) (rest : List Int) : wBc takeN z (flBc x ++ rest, 0) = (x, (rest, 0)) := by
  simp only [flBc, allT_cons, Bool.and_eq_true] at h
  simp only [wBc, flBc, List.cons_append, List.nil_append, v_num _ h.1, v_flag]
theorem sh_sc (x z : Sc) (h : allT (flSc x) = true) : Sh (flSc x) (fun s => (wSc takeN z s).2) := by
  simp only [flSc, allT_cons, Bool.and_eq_true] at h
  exact ((sh_num z.co h.1).comp (sh_num z.mo h.2.1)).comp (sh_flag z.ra x.ra)
theorem v_sc (x z : Sc) (h : allT (flSc x) = true) (rest : List Int) : wSc takeN z (flSc x ++ rest, 0) = (x, (rest, 0)) := by
  simp only [flSc, allT_cons, Bool.and_eq_true] at h
  simp only [wSc, flSc, List.cons_append, List.nil_append, v_num _ h.1, v_num _ h.2.1, v_flag]
theorem sh_wn (x z : Wn) (h : allT (flWn x) = true) : Sh (flWn x) (fun s => (wWn takeN z s).2) := by
  simp only [flWn, allT_cons, Bool.and_eq_true] at h
  exact ((sh_num z.p h.1).comp (sh_num z.st h.2.1)).comp (sh_num z.ln h.2.2.1)
theorem v_wn (x z : Wn) (h : allT (flWn x) = true) (rest : List Int) : wWn takeN z (flWn x ++ rest, 0) = (x, (rest, 0)) := by
  simp only [flWn, allT_cons, Bool.and_eq_true] at h
  simp only [wWn, flWn, List.cons_append, List.nil_append, v_num _ h.1, v_num _ h.2.1, v_num _ h.2.2.1]
theorem sh_ch (x z : Ch) (h : allT (flCh x) = true) : Sh (flCh x) (fun s => (wCh takeN z s).2) := by
  simp only [flCh, allT_cons, Bool.and_eq_true] at h
  exact ((((sh_flag z.qu x.qu).comp (sh_num z.f h.2.1)).comp (sh_num z.a h.2.2.1)).comp (sh_num z.t h.2.2.2.1)).comp (sh_num z.b h.2.2.2.2.1)
theorem v_ch (x z : Ch) (h : allT (flCh x) = true) (rest : List Int) : wCh takeN z (flCh x ++ rest, 0) = (x, (rest, 0)) := by
  simp only [flCh, allT_cons, Bool.and_eq_true] at h
  simp only [wCh, flCh, List.cons_append, List.nil_append, v_num _ h.2.1, v_num _ h.2.2.1, v_num _ h.2.2.2.1, v_num _ h.2.2.2.2.1, v_flag]
theorem sh_one (x z : Int) (h : allT (one1 x) = true) : Sh (one1 x) (fun s => (numW takeN z s).2) := sh_num z (by simpa [one1, allT] using h)
theorem v_one (x z : Int) (h : allT (one1 x) = true) (rest : List Int) : numW takeN z (one1 x ++ rest, 0) = (x, (rest, 0)) := v_num z (by simpa [one1, allT] using h) rest

def Pt.l64 (p : Pt) : Prop := p.rg.length ≤ 64 ∧ p.pc.length ≤ 64 ∧ p.bc.length ≤ 64 ∧ p.sc.length ≤ 64 ∧ p.sa.length ≤ 64 ∧ p.qu.length ≤ 64 ∧ p.tb.length ≤ 64
theorem allT_one (n : Int) : allT [n] = isT n := by simp [allT]
set_option maxHeartbeats 1000000 in
theorem sh_pt (x z : Pt) (h : allT (flPt x) = true) (hl : x.l64) : Sh (flPt x) (fun s => (wPt takeN z s).2) := by
  simp only [flPt, allT_append, Bool.and_eq_true, allT_one] at h
  obtain ⟨⟨⟨⟨⟨⟨⟨⟨⟨⟨h0, h1⟩, h2⟩, h3⟩, h4⟩, h5⟩, h6⟩, h7⟩, h8⟩, h9⟩, h10⟩ := h
  obtain ⟨l1, l2, l4, l5, l7, l8, l10⟩ := hl
  unfold flPt
  dsimp only [wPt]
  have t0 := sh_num z.wo h0
  have t1 := sh_list (f := flRg) (one := wRg takeN) Rg.zero z.rg x.rg l1 (fun y hy o => sh_rg y o (allT_flat h1 y hy))
  have t2 := sh_list (f := flPc) (one := wPc takeN) Pc.zero z.pc x.pc l2 (fun y hy o => sh_pc y o (allT_flat h2 y hy))
  have t3 := sh_num z.bo h3
  have t4 := sh_list (f := flBc) (one := wBc takeN) Bc.zero z.bc x.bc l4 (fun y hy o => sh_bc y o (allT_flat h4 y hy))
  have t5 := sh_list (f := flSc) (one := wSc takeN) Sc.zero z.sc x.sc l5 (fun y hy o => sh_sc y o (allT_flat h5 y hy))
  have t6 := sh_num z.ev h6
  have t7 := sh_list (f := one1) (one := numW takeN) 0 z.sa x.sa l7 (fun y hy o => sh_one y o (allT_flat h7 y hy))
  have t8 := sh_list (f := one1) (one := numW takeN) 0 z.qu x.qu l8 (fun y hy o => sh_one y o (allT_flat h8 y hy))
  have t9 := sh_num z.la h9
  have t10 := sh_list (f := one1) (one := numW takeN) 0 z.tb x.tb l10 (fun y hy o => sh_one y o (allT_flat h10 y hy))
  have t := (((((((((t0.comp t1).comp t2).comp t3).comp t4).comp t5).comp t6).comp t7).comp t8).comp t9).comp t10
  exact t
theorem v_pt (x z : Pt) (h : allT (flPt x) = true) (hl : x.l64) (rest : List Int) : wPt takeN z (flPt x ++ rest, 0) = (x, (rest, 0)) := by
  simp only [flPt, allT_append, Bool.and_eq_true, allT_one] at h
  obtain ⟨⟨⟨⟨⟨⟨⟨⟨⟨⟨h0, h1⟩, h2⟩, h3⟩, h4⟩, h5⟩, h6⟩, h7⟩, h8⟩, h9⟩, h10⟩ := h
  obtain ⟨l1, l2, l4, l5, l7, l8, l10⟩ := hl
  have e1 := fun r => v_list Rg.zero z.rg x.rg l1 (fun y hy o s => v_rg y o (allT_flat h1 y hy) s) r
  have e2 := fun r => v_list Pc.zero z.pc x.pc l2 (fun y hy o s => v_pc y o (allT_flat h2 y hy) s) r
  have e4 := fun r => v_list Bc.zero z.bc x.bc l4 (fun y hy o s => v_bc y o (allT_flat h4 y hy) s) r
  have e5 := fun r => v_list Sc.zero z.sc x.sc l5 (fun y hy o s => v_sc y o (allT_flat h5 y hy) s) r
  have e7 := fun r => v_list 0 z.sa x.sa l7 (fun y hy o s => v_one y o (allT_flat h7 y hy) s) r
  have e8 := fun r => v_list 0 z.qu x.qu l8 (fun y hy o s => v_one y o (allT_flat h8 y hy) s) r
  have e10 := fun r => v_list 0 z.tb x.tb l10 (fun y hy o s => v_one y o (allT_flat h10 y hy) s) r
  simp only [wPt, flPt, List.append_assoc, List.cons_append, List.nil_append, v_num _ h0, v_num _ h3, v_num _ h6, v_num _ h9, e1, e2, e4, e5, e7, e8, e10]

def Cf.l64 (c : Cf) : Prop := c.li.length ≤ 64 ∧ c.pa.length ≤ 64 ∧ c.wi.length ≤ 64 ∧ c.ch.length ≤ 64 ∧ ∀ p ∈ c.pa, p.l64
theorem sh_cf (x z : Cf) (h : allT (flCf x) = true) (hl : x.l64) : Sh (flCf x) (fun s => (wCf takeN z s).2) := by
  have hh : flCf x = [x.fr] ++ [x.sw] ++ cntF one1 x.li ++ cntF flPt x.pa ++ cntF flWn x.wi ++ cntF flCh x.ch := rfl
  rw [hh] at h ⊢
  simp only [allT_append, Bool.and_eq_true, allT_one] at h
  obtain ⟨⟨⟨⟨⟨h0, h1⟩, h2⟩, h3⟩, h4⟩, h5⟩ := h
  obtain ⟨l2, l3, l4, l5, lp⟩ := hl
  have t0 := sh_num z.fr h0
  have t1 := sh_num z.sw h1
  have t2 := sh_list (f := one1) (one := numW takeN) 0 z.li x.li l2 (fun y hy o => sh_one y o (allT_flat h2 y hy))
  have t3 := sh_list (f := flPt) (one := wPt takeN) Pt.zero z.pa x.pa l3 (fun y hy o => sh_pt y o (allT_flat h3 y hy) (lp y hy))
  have t4 := sh_list (f := flWn) (one := wWn takeN) Wn.zero z.wi x.wi l4 (fun y hy o => sh_wn y o (allT_flat h4 y hy))
  have t5 := sh_list (f := flCh) (one := wCh takeN) Ch.zero z.ch x.ch l5 (fun y hy o => sh_ch y o (allT_flat h5 y hy))
  have t := ((((t0.comp t1).comp t2).comp t3).comp t4).comp t5
  dsimp only [wCf]
  exact t
theorem v_cf (x z : Cf) (h : allT (flCf x) = true) (hl : x.l64) (rest : List Int) : wCf takeN z (flCf x ++ rest, 0) = (x, (rest, 0)) := by
  have hh : flCf x = [x.fr] ++ [x.sw] ++ cntF one1 x.li ++ cntF flPt x.pa ++ cntF flWn x.wi ++ cntF flCh x.ch := rfl
  rw [hh] at h ⊢
  simp only [allT_append, Bool.and_eq_true, allT_one] at h
  obtain ⟨⟨⟨⟨⟨h0, h1⟩, h2⟩, h3⟩, h4⟩, h5⟩ := h
  obtain ⟨l2, l3, l4, l5, lp⟩ := hl
  have e2 := fun r => v_list 0 z.li x.li l2 (fun y hy o s => v_one y o (allT_flat h2 y hy) s) r
  have e3 := fun r => v_list Pt.zero z.pa x.pa l3 (fun y hy o s => v_pt y o (allT_flat h3 y hy) (lp y hy) s) r
  have e4 := fun r => v_list Wn.zero z.wi x.wi l4 (fun y hy o s => v_wn y o (allT_flat h4 y hy) s) r
  have e5 := fun r => v_list Ch.zero z.ch x.ch l5 (fun y hy o s => v_ch y o (allT_flat h5 y hy) s) r
  simp only [wCf, List.append_assoc, List.cons_append, List.nil_append, v_num _ h0, v_num _ h1, e2, e3, e4, e5]

/-- The numbers of a configuration that may be are numbers of a machine. -/
theorem allT_cnt {α : Type} {f : α → List Int} {l : List α} (hl : l.length ≤ 64) (h : ∀ x ∈ l, allT (f x) = true) : allT (cntF f l) = true := by
  unfold cntF
  rw [allT_cons, Bool.and_eq_true]
  refine ⟨by simp [isT]; omega, ?_⟩
  rw [allT, List.all_eq_true]
  intro n hn
  obtain ⟨x, hx, hm⟩ := List.mem_flatMap.1 hn
  have := h x hx
  rw [allT, List.all_eq_true] at this
  exact this n hm
theorem isT_bit (b : Bool) : isT (bitI b) = true := by cases b <;> rfl
theorem isT_of {n : Int} (h : 0 ≤ n) (h2 : n ≤ 1099511627776) : isT n = true := by simp [isT]; omega
theorem part_T {p : Pt} (h : partB p = true) : allT (flPt p) = true ∧ p.l64 := by
  unfold partB at h
  simp only [Bool.and_eq_true, inB, decide_eq_true_eq] at h
  obtain ⟨⟨⟨⟨⟨⟨⟨⟨⟨⟨hm, hpc⟩, hbo⟩, hbc⟩, hsc⟩, hev⟩, hsa⟩, hqu⟩, hla⟩, htb⟩, _⟩ := h
  unfold mayB at hm
  simp only [decide_eq_true_eq] at hm
  obtain ⟨m1, m2, m3, m4⟩ := hm
  have hl : p.l64 := ⟨by omega, by omega, by omega, by omega, by omega, by omega, by omega⟩
  refine ⟨?_, hl⟩
  obtain ⟨l1, l2, l4, l5, l7, l8, l10⟩ := hl
  have hone : ∀ {n : Int}, isT n = true → allT (one1 n) = true := fun {n} h => by simpa [one1, allT] using h
  simp only [flPt, allT_append, Bool.and_eq_true, allT_one]
  refine ⟨⟨⟨⟨⟨⟨⟨⟨⟨⟨isT_of (by omega) (by omega), allT_cnt l1 fun x hx => ?_⟩, allT_cnt l2 fun x hx => ?_⟩, isT_of (by omega) (by omega)⟩, allT_cnt l4 fun x hx => ?_⟩, allT_cnt l5 fun x hx => ?_⟩, isT_of (by omega) (by omega)⟩, allT_cnt l7 fun x hx => ?_⟩, allT_cnt l8 fun x hx => ?_⟩, isT_of (by omega) (by omega)⟩, allT_cnt l10 fun x hx => ?_⟩
  · obtain ⟨i, hi, rfl⟩ := mem_getD (d := Rg.zero) hx
    have := (m4 i hi).1
    simp only [fitsB, decide_eq_true_eq] at this
    simp only [flRg, allT_cons, Bool.and_eq_true]
    exact ⟨isT_of (by omega) (by omega), isT_of (by omega) (by omega), isT_bit _, rfl⟩
  · obtain ⟨i, hi, rfl⟩ := mem_getD (d := Pc.zero) hx
    have := (allN_iff _ _).1 hpc.2 i hi
    simp only [procB, inB, Bool.and_eq_true, decide_eq_true_eq] at this
    simp only [flPc, allT_cons, Bool.and_eq_true]
    exact ⟨isT_of (by omega) (by omega), isT_of (by omega) (by omega), isT_of (by omega) (by omega), isT_of (by omega) (by omega), isT_bit _, rfl⟩
  · obtain ⟨i, hi, rfl⟩ := mem_getD (d := Bc.zero) hx
    have := (allN_iff _ _).1 hbc.2 i hi
    simp only [bufB, inB, decide_eq_true_eq] at this
    simp only [flBc, allT_cons, Bool.and_eq_true]
    exact ⟨isT_of (by omega) (by omega), isT_bit _, rfl⟩
  · obtain ⟨i, hi, rfl⟩ := mem_getD (d := Sc.zero) hx
    have := (allN_iff _ _).1 hsc.2 i hi
    simp only [semB, inB, Bool.and_eq_true, decide_eq_true_eq] at this
    simp only [flSc, allT_cons, Bool.and_eq_true]
    exact ⟨isT_of (by omega) (by omega), isT_of (by omega) (by omega), isT_bit _, rfl⟩
  · obtain ⟨i, hi, rfl⟩ := mem_getD (d := (0 : Int)) hx
    have := (allN_iff _ _).1 hsa.2 i hi
    simp only [decide_eq_true_eq] at this
    exact hone (isT_of (by omega) (by omega))
  · obtain ⟨i, hi, rfl⟩ := mem_getD (d := (0 : Int)) hx
    have := (allN_iff _ _).1 hqu.2 i hi
    simp only [decide_eq_true_eq] at this
    exact hone (isT_of (by omega) (by omega))
  · obtain ⟨i, hi, rfl⟩ := mem_getD (d := (0 : Int)) hx
    have := (allN_iff _ _).1 htb.2 i hi
    simp only [decide_eq_true_eq] at this
    exact hone (isT_of (by omega) (by omega))
theorem ports_le {pa : List Pt} (h : ∀ i, i < pa.length → partB (pa.getD i Pt.zero) = true) {e : En} (he : hasEndC pa e = true) : 0 ≤ e.p ∧ e.p < pa.length ∧ 0 ≤ e.o ∧ e.o < 4 := by
  simp only [hasEndC, inB, Bool.and_eq_true, decide_eq_true_eq] at he
  have hp := h e.p.toNat (by omega)
  unfold partB at hp
  simp only [Bool.and_eq_true, inB, decide_eq_true_eq] at hp
  have h1 := hp.1.1.1.1.2.1.2
  have h2 := hp.1.1.1.2.1.2
  have : (portsC pa e : Int) ≤ 4 := by unfold portsC; split <;> omega
  omega
theorem may_T {c : Cf} (h : mayC c = true) : allT (flCf c) = true ∧ c.l64 ∧ ∃ l x, flCf c = l ++ [x] ∧ 0 ≤ x ∧ x < 128 := by
  unfold mayC at h
  simp only [Bool.and_eq_true] at h
  obtain ⟨⟨⟨⟨⟨⟨⟨hf, hs⟩, hp⟩, hl⟩, hw⟩, _⟩, hc⟩, _⟩ := h
  simp only [inB, decide_eq_true_eq] at hf hs
  obtain ⟨hp1, hp2⟩ := hp
  obtain ⟨hl1, hl2⟩ := hl
  obtain ⟨hw1, hw2⟩ := hw
  obtain ⟨hc1, hc2⟩ := hc
  simp only [inB, decide_eq_true_eq] at hp1 hl1 hw1 hc1
  have hpart := fun i hi => (allN_iff _ _).1 hp2 i hi
  have hT : ∀ p ∈ c.pa, allT (flPt p) = true ∧ p.l64 := fun p hm => by
    obtain ⟨i, hi, rfl⟩ := mem_getD (d := Pt.zero) hm
    exact part_T (hpart i hi)
  have h64 : c.l64 := ⟨by omega, by omega, by omega, by omega, fun p hm => (hT p hm).2⟩
  have hch : ∀ x ∈ c.ch, 0 ≤ x.f ∧ x.f < c.pa.length ∧ 0 ≤ x.a ∧ x.a < 4 ∧ 0 ≤ x.t ∧ x.t < c.pa.length ∧ 0 ≤ x.b ∧ x.b < 4 := fun x hx => by
    obtain ⟨i, hi, rfl⟩ := mem_getD (d := Ch.zero) hx
    have := (allN_iff _ _).1 hc2 i hi
    simp only [chanC, Bool.and_eq_true] at this
    have a := ports_le hpart this.1.2
    have b := ports_le hpart this.2
    simp only [fromE, toE] at a b
    omega
  refine ⟨?_, h64, ?_⟩
  · have hh : flCf c = [c.fr] ++ [c.sw] ++ cntF one1 c.li ++ cntF flPt c.pa ++ cntF flWn c.wi ++ cntF flCh c.ch := rfl
    rw [hh]
    simp only [allT_append, Bool.and_eq_true, allT_one]
    refine ⟨⟨⟨⟨⟨isT_of (by omega) (by omega), isT_of (by omega) (by omega)⟩, allT_cnt (by omega) fun x hx => ?_⟩, allT_cnt (by omega) fun x hx => (hT x hx).1⟩, allT_cnt (by omega) fun x hx => ?_⟩, allT_cnt (by omega) fun x hx => ?_⟩
    · obtain ⟨i, hi, rfl⟩ := mem_getD (d := (0 : Int)) hx
      have := (allN_iff _ _).1 hl2 i hi
      simp only [inB, decide_eq_true_eq] at this
      simpa [one1, allT] using isT_of (n := c.li.getD i 0) (by omega) (by omega)
    · obtain ⟨i, hi, rfl⟩ := mem_getD (d := Wn.zero) hx
      have := (allN_iff _ _).1 hw2 i hi
      simp only [winB, inB, Bool.and_eq_true, decide_eq_true_eq] at this
      simp only [flWn, allT_cons, Bool.and_eq_true]
      exact ⟨isT_of (by omega) (by omega), isT_of (by omega) (by omega), isT_of (by omega) (by omega), rfl⟩
    · have := hch x hx
      simp only [flCh, allT_cons, Bool.and_eq_true]
      exact ⟨isT_bit _, isT_of (by omega) (by omega), isT_of (by omega) (by omega), isT_of (by omega) (by omega), isT_of (by omega) (by omega), rfl⟩
  · rcases List.eq_nil_or_concat c.ch with h0 | ⟨cs, y, h0⟩
    · refine ⟨[c.fr, c.sw] ++ cntF one1 c.li ++ cntF flPt c.pa ++ cntF flWn c.wi, 0, ?_, by omega, by omega⟩
      unfold flCf; rw [h0]; rfl
    · have hy := hch y (by rw [h0]; simp)
      refine ⟨[c.fr, c.sw] ++ cntF one1 c.li ++ cntF flPt c.pa ++ cntF flWn c.wi ++ ((c.ch.length : Int) :: cs.flatMap flCh ++ [bitI y.qu, y.f, y.a, y.t]), y.b, ?_, by omega, by omega⟩
      unfold flCf
      conv => lhs; arg 2; unfold cntF
      have : c.ch.flatMap flCh = cs.flatMap flCh ++ [bitI y.qu, y.f, y.a, y.t] ++ [y.b] := by rw [h0]; simp [flCh]
      rw [this]
      simp

theorem enc_small (x : Int) (h : 0 ≤ x) (h2 : x < 128) : enc x.toNat = [x] := by
  unfold enc
  rw [encF_last 6 x.toNat (by omega)]
  simp; omega
theorem encAll_bytes {l : List Int} (h : allT l = true) : ∀ b ∈ encAll l, 0 ≤ b ∧ b ≤ 255 := by
  intro b hb
  unfold encAll at hb
  obtain ⟨n, hn, hm⟩ := List.mem_flatMap.1 hb
  rw [allT, List.all_eq_true] at h
  have := isT_nat (h n hn)
  obtain ⟨i, hi, rfl⟩ := mem_getD (d := (0 : Int)) hm
  have hb := enc_bytes n.toNat this.2 i hi
  omega

theorem may_enc {c : Cf} (h : mayC c = true) : encB c = encAll (flCf c) ∧ encE c = 0 := by
  have hT := (may_T h).1
  simp [encB, encE, h, paB, paE, hT]
theorem dec_fwd {c : Cf} (h : mayC c = true) : decT (encB c) = (c, 0) := by
  have hT := may_T h
  unfold decT
  rw [(may_enc h).1, ga_enc _ hT.1]
  have hd : decS (flCf c) = (c, ([], 0)) := by
    have := v_cf c zeroC hT.1 hT.2.1 []
    rw [List.append_nil] at this
    exact this
  simp only [hd, ne_eq, not_true_eq_false, if_false, h, if_true]
theorem dec_less {c : Cf} (h : mayC c = true) : encB c ≠ [] ∧ decT ((encB c).take ((encB c).length - 1)) = (zeroC, 3) := by
  have hT := may_T h
  obtain ⟨l, x, hx, h1, h2⟩ := hT.2.2
  have hTl : allT l = true := by have := hT.1; rw [hx, allT_append, Bool.and_eq_true] at this; exact this.1
  have he : encB c = encAll l ++ [x] := by
    rw [(may_enc h).1, hx, encAll_append]
    have : encAll [x] = [x] := by simp [encAll, enc_small x h1 h2]
    rw [this]
  refine ⟨by rw [he]; simp, ?_⟩
  have ht : (encB c).take ((encB c).length - 1) = encAll l := by rw [he]; simp
  rw [ht]
  unfold decT
  rw [ga_enc _ hTl]
  have hd : (decS l).2 = ([], 3) := (sh_cf c zeroC hT.1 hT.2.1).short l [x] hx (by simp)
  simp only [hd]
  simp
theorem dec_long {c : Cf} (h : mayC c = true) : decT (encB c ++ [0]) = (zeroC, 2) := by
  have hT := may_T h
  have he : encB c ++ [0] = encAll (flCf c ++ [0]) := by
    rw [(may_enc h).1, encAll_append]
    have : encAll [0] = [0] := rfl
    rw [this]
  rw [he]
  unfold decT
  rw [ga_enc _ (by rw [allT_append, hT.1]; rfl)]
  have hd : decS (flCf c ++ [0]) = (c, ([0], 0)) := v_cf c zeroC hT.1 hT.2.1 [0]
  simp only [hd]
  simp
end Go.Proofs.Ytfdoejdnhogepaa
