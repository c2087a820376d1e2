/-
  What tables.Decode returns, whatever bytes it is given, and that nothing that was there is written.
-/
import Derived.Test.YtfdoejdnhogepaaTFlat
import Derived.Test.YtfdoejdnhogepaaTPut
import Derived.Test.YtfdoejdnhogepaaWGetAll
import Derived.Test.YtfdoejdnhogepaaWMath2
namespace Go.Proofs.Ytfdoejdnhogepaa
open Go.RowKit
set_option linter.unusedVariables false

def zeroC : Cf := ⟨0, 0, [], [], [], []⟩
def zeroQ : Cv := ⟨0, 0, ⟨none, 0, 0⟩, ⟨none, 0, 0⟩, ⟨none, 0, 0⟩, ⟨none, 0, 0⟩⟩
theorem CfAt.zero (w : World) : CfAt w zeroQ zeroC := ⟨rfl, rfl, Sees.nil _ _, SeesPs.nil _, SeesC.nil _ _, SeesC.nil _ _⟩
theorem zeroC_few : zeroC.few := by simp [Cf.few, zeroC]

def decS (l : List Int) : Cf × (List Int × Int) := wCf takeN zeroC (l, 0)
def decT (b : List Int) : Cf × Int :=
  if (ga b).2 ≠ 0 then (zeroC, (ga b).2) else
  if (decS (ga b).1).2.2 ≠ 0 then (zeroC, (decS (ga b).1).2.2) else
  if (decS (ga b).1).2.1 ≠ [] then (zeroC, 2) else
  if mayC (decS (ga b).1).1 then ((decS (ga b).1).1, 0) else (zeroC, 1)

def okN (n : Int) : Prop := 0 ≤ n ∧ n ≤ 1099511627776
def okS (s : List Int × Int) : Prop := ∀ x ∈ s.1, okN x
theorem take_ok (n m : Int) (s : List Int × Int) (h : okS s) : okN (takeN n m s).1 ∧ okS (takeN n m s).2 := by
  unfold takeN
  split
  · exact ⟨by simp [okN], h⟩
  · split
    · exact ⟨by simp [okN], fun x hx => by simp at hx⟩
    · rename_i x r he
      have hx : okN x := h x (by rw [he]; simp)
      have hr : ∀ y ∈ r, okN y := fun y hy => h y (by rw [he]; simp [hy])
      split
      · exact ⟨by simp [okN], fun y hy => h y (by rw [he]; exact hy)⟩
      · exact ⟨hx, hr⟩
theorem num_ok (n : Int) (s : List Int × Int) (h : okS s) : okN (numW takeN n s).1 ∧ okS (numW takeN n s).2 := take_ok _ _ _ h
theorem flag_ok (b : Bool) (s : List Int × Int) (h : okS s) : okS (flagW takeN b s).2 := (take_ok _ _ _ h).2
theorem map_ok {α : Type} {one : α → (List Int × Int) → α × (List Int × Int)} {E : α → Prop} (h1 : ∀ x s, okS s → E (one x s).1 ∧ okS (one x s).2) (l : List α) : ∀ s, okS s → (∀ y ∈ (mapW one l s).1, E y) ∧ okS (mapW one l s).2 := by
  induction l with
  | nil => intro s h; exact ⟨fun y hy => by simp [mapW] at hy, h⟩
  | cons x l ih =>
    intro s h
    have h2 := h1 x s h
    have h3 := ih _ h2.2
    refine ⟨fun y hy => ?_, h3.2⟩
    simp only [mapW, List.mem_cons] at hy
    rcases hy with rfl | hy
    · exact h2.1
    · exact h3.1 y hy
theorem list_ok {α : Type} {one : α → (List Int × Int) → α × (List Int × Int)} {E : α → Prop} (h1 : ∀ x s, okS s → E (one x s).1 ∧ okS (one x s).2) (z : α) (l : List α) (s : List Int × Int) (h : okS s) : (∀ y ∈ (listW takeN one z l s).1, E y) ∧ okS (listW takeN one z l s).2 :=
  map_ok h1 _ _ (take_ok _ _ _ h).2
theorem rg_ok (r : Rg) (s : List Int × Int) (h : okS s) : (wRg takeN r s).1.fit ∧ okS (wRg takeN r s).2 := by
  have h0 := num_ok r.f s h
  have h1 := num_ok r.n _ h0.2
  have h2 := flag_ok r.wr _ h1.2
  refine ⟨?_, h2⟩
  have a := h0.1
  have b := h1.1
  unfold okN at a b
  unfold Rg.fit wRg
  simp only
  omega
theorem pc_ok (r : Pc) (s : List Int × Int) (h : okS s) : True ∧ okS (wPc takeN r s).2 := ⟨trivial, flag_ok _ _ (num_ok _ _ (num_ok _ _ (num_ok _ _ (num_ok _ _ h).2).2).2).2⟩
theorem bc_ok (r : Bc) (s : List Int × Int) (h : okS s) : True ∧ okS (wBc takeN r s).2 := ⟨trivial, flag_ok _ _ (num_ok _ _ h).2⟩
theorem sc_ok (r : Sc) (s : List Int × Int) (h : okS s) : True ∧ okS (wSc takeN r s).2 := ⟨trivial, flag_ok _ _ (num_ok _ _ (num_ok _ _ h).2).2⟩
theorem pt_ok (p : Pt) (s : List Int × Int) (h : okS s) : (∀ r ∈ (wPt takeN p s).1.rg, r.fit) ∧ okS (wPt takeN p s).2 := by
  have h0 := num_ok p.wo s h
  have h1 := list_ok (E := Rg.fit) rg_ok Rg.zero p.rg _ h0.2
  have h2 := list_ok (E := fun _ => True) pc_ok Pc.zero p.pc _ h1.2
  have h3 := num_ok p.bo _ h2.2
  have h4 := list_ok (E := fun _ => True) bc_ok Bc.zero p.bc _ h3.2
  have h5 := list_ok (E := fun _ => True) sc_ok Sc.zero p.sc _ h4.2
  have h6 := num_ok p.ev _ h5.2
  have h7 := list_ok num_ok 0 p.sa _ h6.2
  have h8 := list_ok num_ok 0 p.qu _ h7.2
  have h9 := num_ok p.la _ h8.2
  have h10 := list_ok num_ok 0 p.tb _ h9.2
  dsimp only [wPt]
  exact ⟨h1.1, h10.2⟩
theorem cf_ok (c : Cf) (s : List Int × Int) (h : okS s) : (wCf takeN c s).1.fit := by
  have h0 := num_ok c.fr s h
  have h1 := num_ok c.sw _ h0.2
  have h2 := list_ok num_ok 0 c.li _ h1.2
  have h3 := list_ok (E := fun p => ∀ r ∈ p.rg, r.fit) pt_ok Pt.zero c.pa _ h2.2
  have hfr : (wCf takeN c s).1.fr = (numW takeN c.fr s).1 := by dsimp only [wCf]
  have hpa : (wCf takeN c s).1.pa = (listW takeN (wPt takeN) Pt.zero c.pa (listW takeN (numW takeN) 0 c.li (numW takeN c.sw (numW takeN c.fr s).2).2).2).1 := by dsimp only [wCf]
  unfold Cf.fit
  rw [hfr, hpa]
  refine ⟨?_, h3.1⟩
  have a := h0.1
  unfold okN at a
  omega

theorem results_row_tmp {P : Program} {fn : Func} {p u : Tmp} {ty : TypeId} (h : fn.results = #[.cell p ty, .tmp u]) (tmps : Array Value) (w : World) (g : Nat) (t : TypeId) (cs : Array Value) (fr : Nat × Nat) (d : TypeDesc)
    (hp : tmps.getD p undef = .pointer (some ⟨g, 0, none⟩)) (hg : w.heap[g]? = some (.cells cs t fr))
    (hu : P.underlying ty = some d) (hd : (match d with | .struct _ | .array _ _ => true | _ => false) = true) (hi : (P.info? ty).map (·.size) = some cs.size) :
    (results fn tmps).run P w = .ok (.tuple #[.agg cs, tmps.getD u undef]) w := by
  have hp' : tmps[p]?.getD undef = .pointer (some ⟨g, 0, none⟩) := by simpa using hp
  simp [results, h, hp', asAddr, run_loadVar_row w g t ty cs fr d hg hu hd hi]

theorem gaF_ok (f : Nat) : ∀ (acc r : List Int), (∀ c ∈ r, 0 ≤ c ∧ c ≤ 255) → (∀ x ∈ acc, okN x) → ∀ x ∈ (gaF f acc r).1, okN x := by
  induction f with
  | zero => intro acc r _ ha; exact ha
  | succ f ih =>
    intro acc r hr ha
    rw [gaF]
    split
    · exact ha
    · split
      · rename_i h0 he
        refine ih _ _ (fun c hc => hr c (List.mem_of_mem_drop hc)) (fun x hx => ?_)
        rcases List.mem_append.1 hx with h | h
        · exact ha x h
        · simp at h
          subst h
          obtain ⟨q, j, _, _, hq, _, hq2, _⟩ := get_inv r hr he
          rw [hq]
          unfold okN
          simp only
          omega
      · intro x hx; simp at hx

/-- A block of six zero cells below B, with which nothing is to be done but to store into it. -/
theorem sets6_below {B : Nat} {a w : World} (h : Below B a w) {g : Nat} (hg : B ≤ g) (x0 x1 x2 x3 x4 x5 : Value) : Below B a (sets w g 0 [x0, x1, x2, x3, x4, x5]) :=
  (((((h.setCell (p := ⟨g, 0, none⟩) hg x0).setCell (p := ⟨g, 1, none⟩) hg x1).setCell (p := ⟨g, 2, none⟩) hg x2).setCell (p := ⟨g, 3, none⟩) hg x3).setCell (p := ⟨g, 4, none⟩) hg x4).setCell (p := ⟨g, 5, none⟩) hg x5
theorem sets6_turn {S : Nat → Prop} {w : World} {q : Cv} {c : Cf} (h : CfB S w q c) {g : Nat} (hg : ∀ b, S b → b ≠ g) (x0 x1 x2 x3 x4 x5 : Value) : CfB S (sets w g 0 [x0, x1, x2, x3, x4, x5]) q c :=
  h.turn (fun b hb => by
    simp only [sets]
    rw [Below.heap_setCell _ _ _ _ (hg b hb), Below.heap_setCell _ _ _ _ (hg b hb), Below.heap_setCell _ _ _ _ (hg b hb), Below.heap_setCell _ _ _ _ (hg b hb), Below.heap_setCell _ _ _ _ (hg b hb), Below.heap_setCell _ _ _ _ (hg b hb)]) (fun b hb => hb)
theorem CfB.at_ {S : Nat → Prop} {w : World} {q : Cv} {c : Cf} (h : CfB S w q c) : CfAt w q c := by
  obtain ⟨qs, h1, h2, h3, h4⟩ := h.pa
  exact ⟨h.fr, h.sw, h.li, ⟨qs, h1, h3, fun i hi => (h4 i hi).1⟩, h.wi, h.ch⟩

theorem CfB.zero (S : Nat → Prop) (w : World) : CfB S w zeroQ zeroC := by
  have h : Blk S (.slice none 0 0) := fun x n c hv => by simp at hv
  exact ⟨rfl, rfl, Sees.nil _ _, h, ⟨[], SeesPv.nil _, h, rfl, fun i hi => by simp [zeroC] at hi⟩, SeesC.nil _ _, h, SeesC.nil _ _, h⟩

set_option maxRecDepth 100000 in
set_option maxHeartbeats 800000 in
theorem dec_any (v : Value) (l : List Int) (w : World) (hv : Sees w .u8 v l) (hby : ∀ c ∈ l, 0 ≤ c ∧ c ≤ 255) (hl : l.length ≤ 1000000) :
    Calls Try.prog 21 #[v] w fun e w' => ∃ q : Cv, e = .returned (.tuple #[q.val, .int .i64 (decT l).2]) ∧ CfAt w' q (decT l).1 ∧ Below w.heap.size w w' := by
  have hnot := Try.hnot
  have hmf : ∀ (fn : Fn) (first cap : Array Value) (w : World), (Instr.makeFunc fn first cap).run Try.prog w = .ok (.func fn first cap) w := fun _ _ _ _ => rfl
  have hok := gaF_ok l.length [] l hby (by simp)
  obtain ⟨T, hT⟩ : ∃ t, decT l = t := ⟨_, rfl⟩
  rw [hT]
  rw [decT] at hT
  change ∀ x ∈ (ga l).1, okN x at hok
  have HV := hid hv
  have HY := hid hby
  obtain ⟨a, cap, rfl, _, _, _⟩ := hv.form
  clear hv hby
  have HT := hid hT
  have HOK := hid hok
  clear hT hok
  go_enter Try.func21, Try.ntmps21
  go_wp2_with fail
  refine (getAll_any _ l _ (HV.out.below ((Below.refl _ _).alloc (Nat.le_refl _) _)) HY.out hl).mono ?_
  rintro e w1 ⟨u, rfl, hown, hb⟩
  obtain ⟨⟨xs, er⟩, hga⟩ : ∃ g, ga l = g := ⟨_, rfl⟩
  rw [hga] at HT HOK hown ⊢
  simp only at HT HOK hown ⊢
  have B0 : BoxAt w1 w.heap.size 27 #[.int .i64 0, .int .i64 0, .slice none 0 0, .slice none 0 0, .slice none 0 0, .slice none 0 0] := (BoxAt.new w _ _).belowAll hb
  have hB : Below w.heap.size w w1 := ((Below.refl _ _).alloc (Nat.le_refl _) _).trans (hb.mono (by simp))
  have hRow := hown
  have HO := hid hown
  clear hb hga HV HY hown
  by_cases her : er = 0
  case neg =>
    have hne : (er != 0) = true := by simpa using her
    have HE := hid (show (zeroC, er) = T by have := HT.out; rw [if_pos her] at this; exact this)
    have f0 := B0.free
    have c0 := (B0.cell 0).trans rfl
    have c1 := (B0.cell 1).trans rfl
    have c2 := (B0.cell 2).trans rfl
    have c3 := (B0.cell 3).trans rfl
    have c4 := (B0.cell 4).trans rfl
    have c5 := (B0.cell 5).trans rfl
    have HB0 := hid B0
    clear her HT HOK HO hRow B0
    go_wp2
    refine bodyPost_ret (results_row_tmp rfl _ _ w.heap.size 27 _ (0, 0) _ rfl (BoxAt.sets6 HB0.out (.int .i64 0) (.int .i64 0) (.slice none 0 0) (.slice none 0 0) (.slice none 0 0) (.slice none 0 0)) Try.underlying27 rfl Try.infoCf7) rfl ?_
    rw [← HE.out]
    exact ⟨zeroQ, rfl, CfAt.zero _, sets6_below hB (Nat.le_refl _) (.int .i64 0) (.int .i64 0) (.slice none 0 0) (.slice none 0 0) (.slice none 0 0) (.slice none 0 0)⟩
  subst her
  obtain ⟨su, rfl⟩ : ∃ s : Sl, u = .slice s.a s.n s.c := by
    rcases hRow.2 with h | ⟨g, cap, cur, hv, _⟩
    · exact ⟨⟨none, 0, 0⟩, h.1⟩
    · exact ⟨⟨some ⟨g, 0, none⟩, _, cap⟩, hv⟩
  have hub : ∀ k, (Value.slice su.a su.n su.c).ownBlock = some k → w.heap.size + 1 ≤ k ∧ k < w1.heap.size := fun k hk => by
    have := hRow.lt k hk
    simpa using this
  have hA : TakeAt w1.heap.size (w1.alloc (.cells #[.slice su.a su.n su.c, .int .i64 0] 85)) (xs, 0) :=
    ⟨_, BoxAt.new w1 _ _, (Sees.of_owns hRow).below ((Below.refl _ _).alloc (Nat.le_refl _) _), fun k hk => ⟨by have := (hub k hk).2; simp; omega, by have := (hub k hk).2; omega⟩⟩
  have hown2 : ∀ k, own w1.heap.size (w1.alloc (.cells #[.slice su.a su.n su.c, .int .i64 0] 85)) k ↔ k = w1.heap.size ∨ (Value.slice su.a su.n su.c).ownBlock = some k := fun k => TakeAt.own (BoxAt.new w1 _ _) k
  have hN1 := B0.lt
  have hlow : ∀ k, k ≤ w.heap.size → ¬ own w1.heap.size (w1.alloc (.cells #[.slice su.a su.n su.c, .int .i64 0] 85)) k := fun k hk ho => by
    rcases (hown2 k).1 ho with h | h
    · omega
    · have := (hub k h).1; omega
  have hwalk := wCf_any (takeMach w1.heap.size) zeroQ zeroC (xs, 0) _ hA (CfB.zero _ _) zeroC_few (Nat.zero_le _)
  obtain ⟨⟨c', rest, wrong⟩, hds⟩ : ∃ r, decS xs = r := ⟨_, rfl⟩
  rw [show wCf takeN zeroC (xs, 0) = (c', rest, wrong) from hds] at hwalk
  have hfit : c'.fit := by
    have := cf_ok zeroC (xs, 0) HOK.out
    rw [show wCf takeN zeroC (xs, 0) = (c', rest, wrong) from hds] at this
    exact this
  rw [if_neg (by simp), hds] at HT
  simp only at HT hwalk
  have HWk := hid hwalk
  have HF := hid hfit
  have HLow := hid hlow
  have B0 := hid B0
  clear hwalk hfit hds hA hub hown2 hlow hRow HO HOK
  unfold zeroQ Cv.val at HWk
  go_wp2_with fail
  refine HWk.out.mono ?_
  rintro e w3 ⟨⟨fr, sw, ⟨a1, n1, k1⟩, ⟨a2, n2, k2⟩, ⟨a3, n3, k3⟩, ⟨a4, n4, k4⟩⟩, rfl, hC3, ⟨vr, hbr, hsr, hkr⟩, hK3⟩
  have hB3 : Below w.heap.size w w3 := hB.trans ⟨hK3.os, hK3.tape, hK3.output, by have := hK3.size; simp at this; omega, fun k hk => by
    rw [hK3.block k (by simp; omega) (by simp; omega) (HLow.out k (by omega))]
    exact Below.heap_alloc _ _ _ (by omega)⟩
  have B3 := BoxAt.kept (B0.out.alloc (.cells #[.slice su.a su.n su.c, .int .i64 0] 85)) hK3 (by simp; omega) (HLow.out _ (Nat.le_refl _))
  have hs3 : w1.heap.size + 1 ≤ w3.heap.size := by have := hK3.size; simpa using this
  obtain ⟨ar, cr, rfl, hr1, hr2, _⟩ := hsr.form
  have HC3 := hid (hC3.turn (w' := w3.alloc (.cells #[.int .i64 fr, .int .i64 sw, .slice a1 n1 k1, .slice a2 n2 k2, .slice a3 n3 k3, .slice a4 n4 k4] 27)) (S' := fun b => w1.heap.size + 1 ≤ b ∧ b < (w3.alloc (.cells #[.int .i64 fr, .int .i64 sw, .slice a1 n1 k1, .slice a2 n2 k2, .slice a3 n3 k3, .slice a4 n4 k4] 27)).heap.size) (fun b hb => Below.heap_alloc _ _ _ hb.2) (fun b hb => by have := hb.1; have := hb.2; simp at *; omega))
  have hB4 := hB3.alloc hB3.size (.cells #[.int .i64 fr, .int .i64 sw, .slice a1 n1 k1, .slice a2 n2 k2, .slice a3 n3 k3, .slice a4 n4 k4] 27)
  have B4 := B3.alloc (.cells #[.int .i64 fr, .int .i64 sw, .slice a1 n1 k1, .slice a2 n2 k2, .slice a3 n3 k3, .slice a4 n4 k4] 27)
  have R4 := hbr.alloc (.cells #[.int .i64 fr, .int .i64 sw, .slice a1 n1 k1, .slice a2 n2 k2, .slice a3 n3 k3, .slice a4 n4 k4] 27)
  have N4 := BoxAt.new w3 27 #[.int .i64 fr, .int .i64 sw, .slice a1 n1 k1, .slice a2 n2 k2, .slice a3 n3 k3, .slice a4 n4 k4]
  simp only at hbr R4
  have HB4 := hid hB4
  clear B0 HWk HLow hK3 hB hB3 hsr hkr hC3
  have r0 := (R4.cell 0).trans rfl
  have r1 := (R4.cell 1).trans rfl
  have f0 := B4.free
  have c0 := (B4.cell 0).trans rfl
  have c1 := (B4.cell 1).trans rfl
  have c2 := (B4.cell 2).trans rfl
  have c3 := (B4.cell 3).trans rfl
  have c4 := (B4.cell 4).trans rfl
  have c5 := (B4.cell 5).trans rfl
  have HB := hid B4
  have HN := hid N4
  unfold maxLen at hr2
  clear B4 R4 N4 B3 hbr hB4
  by_cases hwr : wrong = 0
  case neg =>
    have hne : (wrong != 0) = true := by simpa using hwr
    have HE := hid (show (zeroC, wrong) = T by have := HT.out; rw [if_pos hwr] at this; exact this)
    clear hwr HT HF HC3 HN
    have hne1 : ¬ w1.heap.size = w.heap.size := by omega
    have hne2 : ¬ w.heap.size = w1.heap.size := by omega
    go_wp2
    go_region
    all_goals (try go_wp2)
    all_goals
      refine bodyPost_ret (results_row_tmp rfl _ _ w.heap.size 27 _ (0, 0) _ rfl (BoxAt.sets6 HB.out (.int .i64 0) (.int .i64 0) (.slice none 0 0) (.slice none 0 0) (.slice none 0 0) (.slice none 0 0)).drew Try.underlying27 rfl Try.infoCf7) rfl ?_
      rw [← HE.out]
      exact ⟨zeroQ, rfl, CfAt.zero _, (sets6_below HB4.out (Nat.le_refl _) (.int .i64 0) (.int .i64 0) (.slice none 0 0) (.slice none 0 0) (.slice none 0 0) (.slice none 0 0)).drew⟩
  subst hwr
  rw [if_neg (by simp)] at HT
  by_cases hre : rest = []
  case neg =>
    have hpos : 0 < rest.length := List.length_pos_iff.2 hre
    have HE := hid (show (zeroC, 2) = T by have := HT.out; rw [if_pos hre] at this; exact this)
    clear hre HT HF HC3 HN
    go_wp2
    refine bodyPost_ret (results_row_tmp rfl _ _ w.heap.size 27 _ (0, 0) _ rfl (BoxAt.sets6 HB.out (.int .i64 0) (.int .i64 0) (.slice none 0 0) (.slice none 0 0) (.slice none 0 0) (.slice none 0 0)) Try.underlying27 rfl Try.infoCf7) rfl ?_
    rw [← HE.out]
    exact ⟨zeroQ, rfl, CfAt.zero _, sets6_below HB4.out (Nat.le_refl _) (.int .i64 0) (.int .i64 0) (.slice none 0 0) (.slice none 0 0) (.slice none 0 0) (.slice none 0 0)⟩
  subst hre
  rw [if_neg (by simp)] at HT
  simp only [List.length_nil] at r0
  go_wp2_with fail
  refine (tmay_any ⟨fr, sw, ⟨a1, n1, k1⟩, ⟨a2, n2, k2⟩, ⟨a3, n3, k3⟩, ⟨a4, n4, k4⟩⟩ c' _ HC3.out.at_ HF.out).mono ?_
  rintro e w5 ⟨rfl, hb5⟩
  have hB5 := HB4.out.trans (hb5.mono HB4.out.size)
  have HB5 := hid (HB.out.belowAll hb5)
  have HC5 := hid (HC3.out.turn (w' := w5) (S' := fun b => w1.heap.size + 1 ≤ b) (fun b hb => hb5.block b hb.2) (fun b hb => hb.1))
  have HN5 := hid (HN.out.belowAll hb5)
  clear r0 r1 f0 c0 c1 c2 c3 c4 c5 HB HC3 HB4 hb5 HN
  have f0 := HB5.out.free
  have c0 := (HB5.out.cell 0).trans rfl
  have c1 := (HB5.out.cell 1).trans rfl
  have c2 := (HB5.out.cell 2).trans rfl
  have c3 := (HB5.out.cell 3).trans rfl
  have c4 := (HB5.out.cell 4).trans rfl
  have c5 := (HB5.out.cell 5).trans rfl
  have d0 := (HN5.out.cell 0).trans rfl
  have d1 := (HN5.out.cell 1).trans rfl
  have d2 := (HN5.out.cell 2).trans rfl
  have d3 := (HN5.out.cell 3).trans rfl
  have d4 := (HN5.out.cell 4).trans rfl
  have d5 := (HN5.out.cell 5).trans rfl
  rcases hm : mayC c'
  · have HE := hid (show (zeroC, 1) = T by have := HT.out; rw [hm] at this; exact this)
    clear HT HF
    go_wp2
    refine bodyPost_ret (results_row_tmp rfl _ _ w.heap.size 27 _ (0, 0) _ rfl (BoxAt.sets6 HB5.out (.int .i64 0) (.int .i64 0) (.slice none 0 0) (.slice none 0 0) (.slice none 0 0) (.slice none 0 0)) Try.underlying27 rfl Try.infoCf7) rfl ?_
    rw [← HE.out]
    exact ⟨zeroQ, rfl, CfAt.zero _, sets6_below hB5 (Nat.le_refl _) (.int .i64 0) (.int .i64 0) (.slice none 0 0) (.slice none 0 0) (.slice none 0 0) (.slice none 0 0)⟩
  · have HE := hid (show (c', 0) = T by have := HT.out; rw [hm] at this; exact this)
    clear HT HF
    go_wp2
    refine bodyPost_ret (results_row_tmp rfl _ _ w.heap.size 27 _ (0, 0) _ rfl (BoxAt.sets6 HB5.out (.int .i64 fr) (.int .i64 sw) (.slice a1 n1 k1) (.slice a2 n2 k2) (.slice a3 n3 k3) (.slice a4 n4 k4)) Try.underlying27 rfl Try.infoCf7) rfl ?_
    rw [← HE.out]
    exact ⟨⟨fr, sw, ⟨a1, n1, k1⟩, ⟨a2, n2, k2⟩, ⟨a3, n3, k3⟩, ⟨a4, n4, k4⟩⟩, rfl, (sets6_turn HC5.out (fun b hb => by omega) (.int .i64 fr) (.int .i64 sw) (.slice a1 n1 k1) (.slice a2 n2 k2) (.slice a3 n3 k3) (.slice a4 n4 k4)).at_, sets6_below hB5 (Nat.le_refl _) (.int .i64 fr) (.int .i64 sw) (.slice a1 n1 k1) (.slice a2 n2 k2) (.slice a3 n3 k3) (.slice a4 n4 k4)⟩
end Go.Proofs.Ytfdoejdnhogepaa
