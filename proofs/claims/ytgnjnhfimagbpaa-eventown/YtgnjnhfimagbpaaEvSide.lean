/-
  What tells a side of an event, as a value and in a list; what telling does; an event of which some sides are told.
-/
import Derived.Test.YtgnjnhfimagbpaaObLib
import Derived.Test.YtgnjnhfimagbpaaEvReg
namespace Go.Proofs.Ytgnjnhfimagbpaa
open Go.RowKit
set_option linter.unusedVariables false


/-- What tells a side: whether it is up (k), or who waits; P the box in which that lies. -/
structure Side where
  k : Bool
  b : Bool
  s : Sl
  P : Nat
def Side.up (b : Bool) (P : Nat) : Side := ⟨true, b, ⟨.none, 0, 0⟩, P⟩
def Side.aw (s : Sl) (P : Nat) : Side := ⟨false, false, s, P⟩
def Side.val (o : Side) : Value :=
  match o.k with
  | true => .func (.func 26) #[] #[.pointer (some ⟨o.P, 0, .none⟩)]
  | false => .func (.func 27) #[] #[.pointer (some ⟨o.P, 0, .none⟩)]
def Side.lies (w : World) (o : Side) : Prop :=
  match o.k with
  | true => BoxAt w o.P 4 #[.bool o.b]
  | false => BoxAt w o.P 22 #[.slice o.s.a o.s.n o.s.c]
def Side.tell (q : EvV) (o : Side) : EvV :=
  match o.k with
  | true => ⟨o.b, q.l⟩
  | false => ⟨q.u, o.s⟩
def Side.none : Side := .up false 0
theorem Side.lies.below {w w' : World} {o : Side} (h : o.lies w) (hb : Below w.heap.size w w') : o.lies w' := by
  obtain ⟨k, b, s, P⟩ := o
  cases k
  · exact BoxAt.belowAll h hb
  · exact BoxAt.belowAll h hb

/-- A list of these, as it lies. -/
def SidesAt (w : World) (v : Value) (os : List Side) : Prop :=
  ∃ a, v = .slice a os.length os.length ∧ (0 < os.length → ∃ B, a = some ⟨B, 0, none⟩ ∧ BoxAt w B 49 (os.map Side.val).toArray) ∧ ∀ i, i < os.length → (os.getD i Side.none).lies w
theorem SidesAt.nil (w : World) : SidesAt w (.slice none 0 0) [] := ⟨none, rfl, fun h => by simp at h, fun i h => by simp at h⟩
theorem SidesAt.one {w : World} {B : Nat} {o : Side} (h : BoxAt w B 49 #[o.val]) (h0 : o.lies w) : SidesAt w (.slice (some ⟨B, 0, none⟩) 1 1) [o] :=
  ⟨_, rfl, fun _ => ⟨B, rfl, h⟩, fun i hi => match i, hi with
    | 0, _ => h0⟩
theorem SidesAt.two {w : World} {B : Nat} {o o2 : Side} (h : BoxAt w B 49 #[o.val, o2.val]) (h0 : o.lies w) (h2 : o2.lies w) : SidesAt w (.slice (some ⟨B, 0, none⟩) 2 2) [o, o2] :=
  ⟨_, rfl, fun _ => ⟨B, rfl, h⟩, fun i hi => match i, hi with
    | 0, _ => h0
    | 1, _ => h2⟩

theorem Try.upEnters : ∀ args w, (callFunc 26 args).run Try.prog w = .ok (.enter 26 args) w := enters_of Try.func26 (by kernel_rfl) rfl
theorem Try.awEnters : ∀ args w, (callFunc 27 args).run Try.prog w = .ok (.enter 27 args) w := enters_of Try.func27 (by kernel_rfl) rfl

theorem Try.infoOSd : (Try.prog.info? 49).map (fun i => (i.zero, i.size, i.bytes)) = some (some .nilFunc, 1, 8) := by kernel_rfl
theorem run_side1 (o : Side) (w : World) : (Instr.buildSlice 55 1 #[(0, o.val)]).run Try.prog w = .ok (.slice (some ⟨w.heap.size, 0, none⟩) 1 1) (w.alloc (.cells #[o.val] 49)) := by
  obtain ⟨i0, hi, hz0, hz1, hz2⟩ := info_parts Try.infoOSd
  have hs : (sizeOf 49).run Try.prog w = .ok 1 w := by unfold sizeOf; simp [typeInfo, hi, hz1]
  have hz : (zeroValue 49).run Try.prog w = .ok .nilFunc w := by unfold zeroValue; simp [typeInfo, hi, hz0]
  have hf : Instr.fill (fun i => some (i * 1, 1)) ((Array.range (1 * 1)).map (fun j => (Value.nilFunc).cells[j % (Value.nilFunc).cells.size]!)) [(0, o.val)] = some #[o.val] := by
    obtain ⟨k, b, s, P⟩ := o
    cases k <;> kernel_rfl
  unfold Instr.buildSlice
  simp only [Sem.run_bind, run_underlying Try.underlying55, Result.andThen_ok, hs]
  rw [if_neg (by decide), if_neg (by decide)]
  simp only [Sem.run_bind, hz, Sem.run_pure, Result.andThen_ok, hf, newRow, run_newObj_alloc]
theorem run_side2 (o o2 : Side) (w : World) : (Instr.buildSlice 55 2 #[(0, o.val), (1, o2.val)]).run Try.prog w = .ok (.slice (some ⟨w.heap.size, 0, none⟩) 2 2) (w.alloc (.cells #[o.val, o2.val] 49)) := by
  obtain ⟨i0, hi, hz0, hz1, hz2⟩ := info_parts Try.infoOSd
  have hs : (sizeOf 49).run Try.prog w = .ok 1 w := by unfold sizeOf; simp [typeInfo, hi, hz1]
  have hz : (zeroValue 49).run Try.prog w = .ok .nilFunc w := by unfold zeroValue; simp [typeInfo, hi, hz0]
  have hf : Instr.fill (fun i => some (i * 1, 1)) ((Array.range (2 * 1)).map (fun j => (Value.nilFunc).cells[j % (Value.nilFunc).cells.size]!)) [(0, o.val), (1, o2.val)] = some #[o.val, o2.val] := by
    obtain ⟨k, b, s, P⟩ := o
    obtain ⟨k2, b2, s2, P2⟩ := o2
    cases k <;> cases k2 <;> kernel_rfl
  unfold Instr.buildSlice
  simp only [Sem.run_bind, run_underlying Try.underlying55, Result.andThen_ok, hs]
  rw [if_neg (by decide), if_neg (by decide)]
  simp only [Sem.run_bind, hz, Sem.run_pure, Result.andThen_ok, hf, newRow, run_newObj_alloc]

theorem step_side1 {w : World} {ops : Array Oper} {o : Oper} {a : Act} {K : Act → World → Prop} {Q : Exit → Act → World → Prop} {E : Prop} (hgd : o.guard = none) (x : Operand) (ho : o.op = .buildSlice 55 1 #[(0, x)]) (r : Side) (hx : a.eval x = r.val)
    (h : ∀ w', BoxAt w' w.heap.size 49 #[r.val] → Below w.heap.size w w' → K (a.put o.dst (.slice (some ⟨w.heap.size, 0, none⟩) 1 1)) w') :
    if Region.wanted o (yielded ops a.tmps) = true then Oper.wp Try.prog o a w K Q else E := by
  have hw : Region.wanted o (yielded ops a.tmps) = true := by simp [Region.wanted, hgd]
  rw [if_pos hw]
  unfold Oper.wp execOp
  simp only [ho, List.map_toArray, List.map_cons, List.map_nil, hx, Sem.run_bind, run_side1, Result.andThen_ok, Sem.run_pure]
  exact h _ (BoxAt.new w _ _) ((Below.refl _ w).alloc (Nat.le_refl _) _)
theorem step_side2 {w : World} {ops : Array Oper} {o : Oper} {a : Act} {K : Act → World → Prop} {Q : Exit → Act → World → Prop} {E : Prop} (hgd : o.guard = none) (x y : Operand) (ho : o.op = .buildSlice 55 2 #[(0, x), (1, y)]) (r s : Side) (hx : a.eval x = r.val) (hy : a.eval y = s.val)
    (h : ∀ w', BoxAt w' w.heap.size 49 #[r.val, s.val] → Below w.heap.size w w' → K (a.put o.dst (.slice (some ⟨w.heap.size, 0, none⟩) 2 2)) w') :
    if Region.wanted o (yielded ops a.tmps) = true then Oper.wp Try.prog o a w K Q else E := by
  have hw : Region.wanted o (yielded ops a.tmps) = true := by simp [Region.wanted, hgd]
  rw [if_pos hw]
  unfold Oper.wp execOp
  simp only [ho, List.map_toArray, List.map_cons, List.map_nil, hx, hy, Sem.run_bind, run_side2, Result.andThen_ok, Sem.run_pure]
  exact h _ (BoxAt.new w _ _) ((Below.refl _ w).alloc (Nat.le_refl _) _)

set_option maxRecDepth 100000 in
set_option maxHeartbeats 800000 in
theorem up1_any (b : Bool) (u : Bool) (x : Sl) (G P : Nat) {w : World} (hb : BoxAt w G 24 #[.bool u, .slice x.a x.n x.c]) (hp : BoxAt w P 4 #[.bool b]) :
    Calls Try.prog 26 #[.pointer (some ⟨G, 0, none⟩), .pointer (some ⟨P, 0, none⟩)] w fun e w' => e = .returned (.tuple #[]) ∧ BoxAt w' G 24 #[.bool b, .slice x.a x.n x.c] ∧ w.grownBy w' (some G) := by
  have GB := hid hb
  have kP : w.cell? ⟨P, 0, none⟩ = some (.bool b) := (hp.cell 0).trans rfl
  clear hb hp
  go_enter Try.func26, Try.ntmps26
  go_wp2_with (first
    | (refine wpList_store_box rfl 4 _ _ rfl rfl G 0 (.bool b) rfl rfl rfl rfl (by kernel_rfl) _ _ GB.out (by simp) ?_
       intro w1 b1 g1 z1
       have GB1 := hid (show BoxAt w1 G 24 #[.bool b, .slice x.a x.n x.c] from by simpa using b1)
       have HG := hid g1
       clear b1 g1 z1)
    | fail)
  refine bodyPost_end (results_none rfl _ _ _) rfl ?_
  exact ⟨rfl, GB1.out, HG.out⟩

set_option maxRecDepth 100000 in
set_option maxHeartbeats 800000 in
theorem up_any (b : Bool) (w : World) :
    Calls Try.prog 18 #[.bool b] w fun e w' => ∃ P, e = .returned (Side.up b P).val ∧ (Side.up b P).lies w' ∧ Below w.heap.size w w' := by
  have hmf : ∀ (fn : Fn) (first cap : Array Value) (w : World), (Instr.makeFunc fn first cap).run Try.prog w = .ok (.func fn first cap) w := fun _ _ _ _ => rfl
  go_enter Try.func18, Try.ntmps18
  go_wp2_with (first
    | (refine wpList_box1 rfl 4 _ rfl (.bool b) rfl rfl ?_
       intro w1 b1 h1 z1
       have GB1 := hid b1
       have HG := hid h1
       clear b1 h1 z1)
    | fail)
  go_ret
  exact ⟨w.heap.size, rfl, GB1.out, HG.out⟩

set_option maxRecDepth 100000 in
set_option maxHeartbeats 800000 in
theorem aw1_any (y : Sl) (u : Bool) (x : Sl) (G P : Nat) {w : World} (hb : BoxAt w G 24 #[.bool u, .slice x.a x.n x.c]) (hp : BoxAt w P 22 #[.slice y.a y.n y.c]) :
    Calls Try.prog 27 #[.pointer (some ⟨G, 0, none⟩), .pointer (some ⟨P, 0, none⟩)] w fun e w' => e = .returned (.tuple #[]) ∧ BoxAt w' G 24 #[.bool u, .slice y.a y.n y.c] ∧ w.grownBy w' (some G) := by
  have GB := hid hb
  have kP : w.cell? ⟨P, 0, none⟩ = some (.slice y.a y.n y.c) := (hp.cell 0).trans rfl
  clear hb hp
  go_enter Try.func27, Try.ntmps27
  go_wp2_with (first
    | (refine wpList_store_box rfl 22 _ _ rfl rfl G 1 (.slice y.a y.n y.c) rfl rfl rfl rfl (by kernel_rfl) _ _ GB.out (by simp) ?_
       intro w1 b1 g1 z1
       have GB1 := hid (show BoxAt w1 G 24 #[.bool u, .slice y.a y.n y.c] from by simpa using b1)
       have HG := hid g1
       clear b1 g1 z1)
    | fail)
  refine bodyPost_end (results_none rfl _ _ _) rfl ?_
  exact ⟨rfl, GB1.out, HG.out⟩

set_option maxRecDepth 100000 in
set_option maxHeartbeats 800000 in
theorem aw_any (y : Sl) (w : World) :
    Calls Try.prog 19 #[.slice y.a y.n y.c] w fun e w' => ∃ P, e = .returned (Side.aw y P).val ∧ (Side.aw y P).lies w' ∧ Below w.heap.size w w' := by
  have hmf : ∀ (fn : Fn) (first cap : Array Value) (w : World), (Instr.makeFunc fn first cap).run Try.prog w = .ok (.func fn first cap) w := fun _ _ _ _ => rfl
  go_enter Try.func19, Try.ntmps19
  go_wp2_with (first
    | (refine wpList_box1 rfl 22 _ rfl (.slice y.a y.n y.c) rfl rfl ?_
       intro w1 b1 h1 z1
       have GB1 := hid b1
       have HG := hid h1
       clear b1 h1 z1)
    | fail)
  go_ret
  exact ⟨w.heap.size, rfl, GB1.out, HG.out⟩

theorem foldl_step (os : List Side) (i : Nat) (hi : i < os.length) (q : EvV) : (os.take (i + 1)).foldl Side.tell q = Side.tell ((os.take i).foldl Side.tell q) (os.getD i Side.none) := by
  rw [List.take_add_one, List.foldl_append]
  simp [List.getD, List.getElem?_eq_getElem hi]

set_option maxRecDepth 100000 in
set_option maxHeartbeats 1600000 in
theorem with_any (u : Bool) {s : Sl} {l : List Wt} {vo : Value} {os : List Side} {w : World} (hs : SeesWt w s.val l) (hl : l.length ≤ 800000) (ho : SidesAt w vo os) (hn : os.length ≤ 8) :
    Calls Try.prog 17 #[EvV.val ⟨u, s⟩, vo] w fun e w' => ∃ (x : Sl), e = .returned (EvV.val (os.foldl Side.tell ⟨u, x⟩)) ∧ OWt w' w.heap.size x.val l ∧ Below w.heap.size w w' := by
  have eup := Try.upEnters
  have eaw := Try.awEnters
  obtain ⟨oa, rfl, ho1, ho2⟩ := ho
  obtain ⟨N, hN⟩ : ∃ n, os.length = n := ⟨_, rfl⟩
  have HN := hid hN
  rw [hN] at ho1 ho2 hn ⊢
  have HO1 := hid ho1
  have HO2 := hid ho2
  clear ho1 ho2 hN
  have HV := hid hs
  obtain ⟨a2, c2, hs1, hc1, hc2, -⟩ := hs.form
  obtain ⟨sa, sn, sc⟩ := s
  simp only [Sl.val, Value.slice.injEq] at hs1
  obtain ⟨rfl, rfl, rfl⟩ := hs1
  unfold maxLen at hc2
  simp only [Sl.val] at HV
  clear hs
  unfold EvV.val
  simp only
  obtain ⟨M, hM⟩ : ∃ M, l.length = M := ⟨_, rfl⟩
  have HM := hid hM
  have HL := hid hl
  rw [hM] at hl hc1 HV ⊢
  clear hM
  have HB := hid (Below.refl w.heap.size w)
  go_enter Try.func17, Try.ntmps17
  have FL1 := hid trivial
  have FL2 := hid trivial
  go_wp2_with (first
    | (have hfl := FL1.out
       refine wpList_box rfl 24 (.tmp 0) rfl #[.bool u, .slice sa M sc] rfl ?_
       intro v1 b h z
       have PB := hid (show BoxAt v1 w.heap.size 24 #[.bool u, .slice sa M sc] from b)
       have HB := hid (HB.out.trans (h.mono HB.out.size))
       have hsv1 : w.heap.size + 1 ≤ v1.heap.size := by first | exact h.size | omega
       clear b h z hfl FL1)
    | (have hfl := FL2.out
       refine wpList_new rfl 24 rfl _ Try.zeroEv ?_
       intro v2 b h z
       have RB := hid (show BoxAt v2 v1.heap.size 24 #[.bool false, .slice none 0 0] from b)
       have PB := hid (PB.out.belowAll h)
       have HB := hid (HB.out.trans (h.mono HB.out.size))
       have hsv2 : v1.heap.size + 1 ≤ v2.heap.size := by first | exact h.size | omega
       have kPB1 : v2.cell? ⟨w.heap.size, 1, none⟩ = some (.slice sa M sc) := (BoxAt.cell PB.out 1).trans rfl
       clear b h z hfl FL2
       refine Hid.out ?_)
    | fail)
  refine hid ?_
  clear kPB1
  have kPB1 : v2.cell? ⟨w.heap.size, 1, none⟩ = some (.slice sa M sc) := (BoxAt.cell PB.out 1).trans rfl
  go_wp2_with fail
  have HBsx := HB.out.size
  refine (qclone_Wt (HV.out.below HB.out) (by have := HL.out; omega)).mono ?_
  rintro e v3 ⟨ux, rfl, hu, hb⟩
  have PB := hid (PB.out.belowAll hb)
  have RB := hid (RB.out.belowAll hb)
  have HB := hid (HB.out.trans (hb.mono HB.out.size))
  have hsv3 : v2.heap.size ≤ v3.heap.size := by first | exact hb.size | omega
  obtain ⟨x, rfl, -⟩ := hu.sl
  have HC := hid (hu.mono HBsx)
  clear hu HBsx
  clear kPB1
  have kPB1 : v3.cell? ⟨w.heap.size, 1, none⟩ = some (.slice sa M sc) := (BoxAt.cell PB.out 1).trans rfl
  clear hb
  have FL3 := hid trivial
  go_wp2_with (first
    | (have hfl := FL3.out
       refine wpList_store_box rfl 22 _ _ rfl rfl (w.heap.size) 1 (.slice x.a x.n x.c) rfl rfl rfl rfl (by kernel_rfl) _ _ PB.out (by simp) ?_
       intro v4 b g z
       have hsv4 : v3.heap.size ≤ v4.heap.size := by omega
       have HC := hid (HC.out.put g PB.out (by decide))
       have PB := hid (show BoxAt v4 (w.heap.size) 24 #[.bool u, .slice x.a x.n x.c] from by simpa using b)
       have RB := hid (RB.out.grown g (fun e => by have := Option.some.inj e; omega))
       have HB := hid (HB.out.trans (grown_below g (by omega) (by omega)))
       clear kPB1
       have kPB1 : v4.cell? ⟨w.heap.size, 1, none⟩ = some (.slice x.a x.n x.c) := (BoxAt.cell PB.out 1).trans rfl
       clear b g z hfl FL3
       refine Hid.out ?_)
    | fail)
  refine hid ?_
  clear kPB1
  go_wp2_with fail
  go_loopw [13] (fun t wc => ∃ (i : Nat) (q : EvV), i ≤ N ∧ t = .int .i64 i ∧ (os.take i).foldl Side.tell ⟨u, x⟩ = q ∧ BoxAt wc (w.heap.size) 24 #[.bool q.u, .slice q.l.a q.l.n q.l.c] ∧ BoxAt wc (v1.heap.size) 24 #[.bool false, .slice none 0 0] ∧ OWt wc w.heap.size (.slice x.a x.n x.c) l ∧ Below w.heap.size w wc) (fun t _ => N - (intOf t).toNat)
  case atStart => exact ⟨0, ⟨u, x⟩, by omega, rfl, rfl, PB.out, RB.out, HC.out, HB.out⟩
  case round =>
    clear PB RB HB HC
    obtain ⟨i, q, hi, rfl, hq, hpb, hrb, hou, hbel⟩ := hrel
    have PB := hid hpb
    have RB := hid hrb
    have HC := hid hou
    have HB := hid hbel
    have HQ := hid hq
    have hsw : w.heap.size ≤ wr.heap.size := hbel.size
    have hsp : w.heap.size + 1 ≤ wr.heap.size := hpb.lt
    have hsr : v1.heap.size + 1 ≤ wr.heap.size := hrb.lt
    clear hpb hrb hou hbel hq
    obtain ⟨qu, ql⟩ := q
    simp only at PB
    by_cases hlt : i < N
    · obtain ⟨bb, rfl, hbo⟩ := HO1.out (by omega)
      have hio : i < os.length := by rw [HN.out]; exact hlt
      have c0 := (hbo.belowAll HB.out).cell i
      have hst := foldl_step os i hio ⟨u, x⟩
      rw [HQ.out] at hst
      have hli := (HO2.out i hlt).below HB.out
      have hcv : (os.map Side.val).toArray[i]? = some (os.getD i Side.none).val := by simp [hio]
      rw [hcv] at c0
      have HM9 := hid (show N - (i + 1) < N - i by omega)
      have hi8 : i ≤ 8 := by omega
      clear hbo hcv HO1 HO2 hio HQ
      obtain ⟨o, ho⟩ : ∃ o, os.getD i Side.none = o := ⟨_, rfl⟩
      rw [ho] at c0 hst hli
      clear ho
      have HST := hid hst
      clear hst
      obtain ⟨ok, tb, ty, tp⟩ := o
      rcases ok with _ | _
      · have HLI := hid hli
        clear hli
        simp only [Side.val] at c0
        go_wp2_with fail
        refine (aw1_any ty qu ql (w.heap.size) tp PB.out HLI.out).mono ?_
        rintro e v5 ⟨rfl, b, g⟩
        have hsgv5 : wr.heap.size ≤ v5.heap.size := g.size
        have hsv5 : wr.heap.size ≤ v5.heap.size := by omega
        have HC := hid (HC.out.put g PB.out (by decide))
        have PB := hid (show BoxAt v5 (w.heap.size) 24 #[.bool qu, .slice ty.a ty.n ty.c] from b)
        have RB := hid (RB.out.grown g (fun e => by have := Option.some.inj e; omega))
        have HB := hid (HB.out.trans (grown_below g (by omega) (by omega)))
        clear b g hsgv5
        go_wp2_with fail
        go_roundw
        case rel => exact ⟨i + 1, _, by omega, by go_num, HST.out, PB.out, RB.out, HC.out, HB.out⟩
        case measure => simp [intOf]; omega
      · have HLI := hid hli
        clear hli
        simp only [Side.val] at c0
        go_wp2_with fail
        refine (up1_any tb qu ql (w.heap.size) tp PB.out HLI.out).mono ?_
        rintro e v5 ⟨rfl, b, g⟩
        have hsgv5 : wr.heap.size ≤ v5.heap.size := g.size
        have hsv5 : wr.heap.size ≤ v5.heap.size := by omega
        have HC := hid (HC.out.put g PB.out (by decide))
        have PB := hid (show BoxAt v5 (w.heap.size) 24 #[.bool tb, .slice ql.a ql.n ql.c] from b)
        have RB := hid (RB.out.grown g (fun e => by have := Option.some.inj e; omega))
        have HB := hid (HB.out.trans (grown_below g (by omega) (by omega)))
        clear b g hsgv5
        go_wp2_with fail
        go_roundw
        case rel => exact ⟨i + 1, _, by omega, by go_num, HST.out, PB.out, RB.out, HC.out, HB.out⟩
        case measure => simp [intOf]; omega
    · have hin : i = N := by omega
      subst hin
      have hq := HQ.out
      rw [← HN.out, List.take_length] at hq
      have HQ := hid hq
      clear hq
      have FL4 := hid trivial
      go_wp2_with (first
        | (refine wpList_load_box rfl 24 _ rfl (w.heap.size) rfl _ _ PB.out _ Try.underlying24 Try.infoEv ?_)
        | (have hfl := FL4.out
           refine wpList_store_whole rfl 24 _ _ rfl rfl (v1.heap.size) rfl [.bool qu, .slice ql.a ql.n ql.c] rfl _ _ RB.out rfl Try.infoEv (by simp [Value.oneCell']) ?_
           intro v5 b g z
           have hsv5 : wr.heap.size ≤ v5.heap.size := by omega
           have HC := hid (HC.out.put g RB.out (by decide))
           have RB := hid (show BoxAt v5 (v1.heap.size) 24 #[.bool qu, .slice ql.a ql.n ql.c] from b)
           have PB := hid (PB.out.grown g (fun e => by have := Option.some.inj e; omega))
           have HB := hid (HB.out.trans (grown_below g (by omega) (by omega)))
           clear b g z hfl FL4)
        | fail)
      refine bodyPost_ret (results_cell_row rfl _ _ (v1.heap.size) 24 _ (0, 0) _ rfl RB.out Try.underlying24 rfl Try.infoEv) rfl ?_
      exact ⟨x, by rw [HQ.out], HC.out, HB.out⟩

end Go.Proofs.Ytgnjnhfimagbpaa
