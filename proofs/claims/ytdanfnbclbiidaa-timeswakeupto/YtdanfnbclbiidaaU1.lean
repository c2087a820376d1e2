/-
  A range over a function, its rounds told by their numbers: what a round may do with plain contracts, and what lies behind the loop.
  What a partition of the call's own reads as, where what cells there were lie as they lay.
  What times' small functions answer: whether a tick has come, who goes on, who is late, whether somebody is there.
  The processes that are told by a function, gone through one by one: what times.those hands to its rounds.
  What a partition in a box becomes by times' release and leave.
  What a partition in a box becomes when times lets a process go on.
-/
import Derived.Test.YtdanfnbclbiidaaLib
import Derived.RangeFuncNested
import Derived.RangeFuncLeaves
import Derived.RangeFuncRecord
import Derived.OrdersHeld
import Derived.OrdersIn
import Derived.TacticsIn
import Derived.Test.YtdanfnbclbiidaaQWith
import Derived.Test.YtdanfnbclbiidaaQDo
import Derived.Test.YtdanfnbclbiidaaUMath
import Derived.TacticsInMore
import Derived.OwnWalkIn
import Derived.LoopNIn
import Derived.LoopIn
import Derived.WalkKit
import Derived.Test.YtdanfnbclbiidaaQApi
import Derived.Test.YtdanfnbclbiidaaQRef2
import Derived.Deep.RegionHeld3
namespace Go.Proofs.Ytdanfnbclbiidaa
open Go.RowKit
set_option linter.unusedVariables false

/-- In a round of loop l nothing is shut out. -/
abbrev RF (l : Nat) : Fence := Fence.wide.inRound l

def noDefer (o : Oper) : Bool := match o.op with | .defer _ => false | _ => true
theorem noDefer_spec {o : Oper} (h : noDefer o = true) : ∀ c, o.op ≠ .defer c := by
  intro c e
  unfold noDefer at h
  rw [e] at h
  cases h
theorem rows_in {P : Program} {row : String} {args : Array Value} {w : World} {R : Value → World → Prop} (l : Nat) (h : Rows P row args w R) : RowsIn (RF l) 0 P row args w R :=
  fun c cs _ => let ⟨v, w', r, s⟩ := h c cs; ⟨v, w', r, stepsIn_wide.2 s⟩
theorem calls_in {P : Program} {f : FuncId} {args : Array Value} {w : World} {R : Ending → World → Prop} (l : Nat) (h : Calls P f args w R) : CallsIn (RF l) 0 P f args w R :=
  CallsIn.inRound l (callsIn_wide.2 h)

/-- One operation, in a round as everywhere. -/
theorem oper_in {P : Program} {o : Oper} {a : Act} {w : World} {K : Act → World → Prop} {Q : Exit → Act → World → Prop} (l : Nat) (hd : noDefer o = true) (h : o.wp P a w K Q) : o.wpIn (RF l) 0 P a w K Q := by
  refine ⟨fun _ _ => trivial, ?_⟩
  rw [show (RF l).round = some l from rfl, Oper.semAt_some l _ _ (noDefer_spec hd)]
  unfold Oper.wp at h
  generalize (execOp a.eval o).run P w = r at h ⊢
  cases r with
  | ok n w' =>
    cases n with
    | enter f args => exact ⟨fun hs => (by cases hs), calls_in l h⟩
    | row rw' args => exact ⟨fun hs => (by cases hs), rows_in l h⟩
    | round _ _ _ _ _ => exact h.elim
    | _ => exact h
  | halt x w' => cases x <;> exact h

/-- How a walk in a round may not end. -/
def Shut (Q : Exit → Act → World → Prop) : Prop := ¬ LetsOut Q
theorem shut_then {K : Act → World → Prop} {Q : Exit → Act → World → Prop} (h : Shut Q) : Shut (Exit.then K Q) := fun ⟨a, w, q⟩ => h ⟨a, w, q⟩
theorem shut_block {id : Nat} {Q : Exit → Act → World → Prop} (h : Shut Q) : Shut (Exit.inBlock id Q) := fun ⟨a, w, q⟩ => h ⟨a, w, q⟩
theorem shut_normal {K : Act → World → Prop} : Shut (Exit.then K (fun _ _ _ => False)) := fun ⟨_, _, q⟩ => q

theorem list_in {P : Program} {ops : Array Oper} {Q : Exit → Act → World → Prop} (l : Nat) (hQ : Shut Q) : ∀ (rest : List Oper), rest.all noDefer = true → ∀ a w, wpList P ops Q rest a w → wpListIn (RF l) 0 P ops Q rest a w
  | [], _, a, w, h => h
  | o :: rest, hd, a, w, h => by
    simp only [List.all_cons, Bool.and_eq_true] at hd
    unfold wpList at h
    unfold wpListIn
    split
    · rename_i hw
      rw [if_pos hw] at h
      rcases h with h | ⟨_, h⟩
      · exact oper_in l hd.1 (Oper.wp_mono (fun a w => list_in l hQ rest hd.2 a w) h)
      · exact absurd h hQ
    · rename_i hw
      rw [if_neg hw] at h
      exact ⟨fun _ _ => trivial, list_in l hQ rest hd.2 _ _ h⟩
/-- A region, in a round as everywhere. -/
theorem region_in {P : Program} {id : Nat} {ops : List Oper} {Q : Exit → Act → World → Prop} {a : Act} {w : World} (l : Nat) (hd : ops.all noDefer = true) (hQ : Shut Q) (h : wpList P ops.toArray Q ops a w) :
    (Code.region id ops.toArray false).wpIn (RF l) 0 P Q a w := wpIn_region_lit (list_in l hQ ops hd a w h)
theorem seq_in {P : Program} {id : Nat} {ops : List Oper} {y : Code} {Q : Exit → Act → World → Prop} {a : Act} {w : World} (l : Nat) (hd : ops.all noDefer = true) (hQ : Shut Q) (h : ∀ K : Act → World → Prop, (∀ a w, y.wpIn (RF l) 0 P Q a w → K a w) → wpList P ops.toArray (Exit.then K Q) ops a w) :
    (Code.seq (Code.region id ops.toArray false) y).wpIn (RF l) 0 P Q a w := wpIn_seq_k fun K hK => region_in l hd (shut_then hQ) (h K hK)

theorem any_in {P : Program} {md : Region.Mode} {ops : Array Oper} {Q : Exit → Act → World → Prop} (l : Nat) (hQ : Shut Q) (hd : ops.toList.all noDefer = true) : ∀ (fuel : Nat) (listed : Array Bool) (a : Act) (w : World),
    wpAny P md ops Q fuel listed a w → wpAnyIn (RF l) 0 P md ops Q fuel listed a w
  | 0, _, _, _, h => h
  | fuel + 1, listed, a, w, h => by
    refine ⟨h.1, fun i hi => ?_⟩
    have h1 := h.2 i hi
    unfold wpOp at h1
    unfold wpOpIn
    cases ho : ops[i]? with
    | none => rw [ho] at h1; exact any_in l hQ hd fuel _ _ _ h1
    | some o =>
      rw [ho] at h1
      simp only at h1 ⊢
      have hdo : noDefer o = true := List.all_eq_true.1 hd o (by
        have := Array.mem_of_getElem? ho
        simpa using this)
      split
      · rename_i hw
        rw [if_pos hw] at h1
        rcases h1 with h1 | ⟨_, h1⟩
        · exact oper_in l hdo (Oper.wp_mono (fun a w => any_in l hQ hd fuel _ a w) h1)
        · exact absurd h1 hQ
      · rename_i hw
        rw [if_neg hw] at h1
        exact ⟨fun _ _ => trivial, any_in l hQ hd fuel _ _ _ h1⟩
/-- A region that draws its order. -/
theorem drawn_in {P : Program} {id : Nat} {ops : Array Oper} {Q : Exit → Act → World → Prop} {a : Act} {w : World} {S : World → Prop} (l : Nat) (hm : P.follows .mixedOrders = true) (hd : ops.toList.all noDefer = true) (hQ : Shut Q)
    (h : wpAnyH P .any ops Q S ops.size (Array.replicate ops.size false) a { w with drawn := w.drawn + 1 }) : (Code.region id ops true).wpIn (RF l) 0 P Q a w :=
  wpIn_region_any hm (any_in l hQ hd _ _ _ _ (wpAny_of_held _ _ _ _ h))

theorem drawn_in_drew {P : Program} {id : Nat} {ops : Array Oper} {Q : Exit → Act → World → Prop} {a : Act} {w : World} {S : World → Prop} (l : Nat) (hm : P.follows .mixedOrders = true) (hd : ops.toList.all noDefer = true) (hQ : Shut Q) (hS : S w.drew)
    (h : S w.drew → wpAnyH P .any ops Q S ops.size (Array.replicate ops.size false) a w.drew) : (Code.region id ops true).wpIn (RF l) 0 P Q a w := drawn_in l hm hd hQ (h hS)

/-- What cells there were lie as they lay. -/
structure KeptC (w w' : World) : Prop where
  size : w.heap.size ≤ w'.heap.size
  cells : ∀ (k : Nat) cs t fr, w.heap[k]? = some (.cells cs t fr) → w'.heap[k]? = some (.cells cs t fr)
theorem KeptC.below {w w' : World} (h : Below w.heap.size w w') : KeptC w w' :=
  ⟨h.size, fun k cs t fr e => (h.block k (Array.getElem?_eq_some_iff.1 e).1).trans e⟩
theorem KeptC.put {w : World} {l : Nat} {o : Obj} (h : w.heap[l]? = some o) (ho : o.isCells = false) (o' : Obj) : KeptC w (w.putObj l o') :=
  ⟨by simp, fun k cs t fr e => by
    have hne : k ≠ l := fun e' => by
      subst e'
      rw [e] at h
      cases h
      cases ho
    exact (World.putObj_heap_other hne).trans e⟩
theorem owns_kept {w w' : World} {base : Nat} {e : TypeId} {size : Nat} {v : Value} {n : Nat} {xs : List Value} (h : w.ownsRow base e size v n xs) (hk : KeptC w w') : w'.ownsRow base e size v n xs := by
  refine ⟨h.1, ?_⟩
  rcases h.2 with h | ⟨g, cap, cur, hv, hg, hh, hrest⟩
  · exact .inl h
  · exact .inr ⟨g, cap, cur, hv, hg, hk.cells g _ _ _ hh, hrest⟩

/-- What is no cells, from B on, lies as it lay. -/
abbrev Others (B : Nat) (w w' : World) : Prop := KeepsFrom B w w'

/-- A RANGE OVER A FUNCTION that has up to N rounds, of which those are held that b tells: I k holds ahead of round k. -/
theorem range_law {P : Program} {g : Operand} {ps : Array Tmp} {assign body : Code} {Q : Exit → Act → World → Prop} {a : Act} {w : World} {gf : Nat} {lb : Array Value}
    (hg : a.eval g = .func (.func gf) #[] lb) (eg : ∀ args w, (callFunc gf args).run P w = .ok (.enter gf args) w)
    (N : Nat) (b : Nat → Bool) (encs : Nat → Array Value) (hps : ∀ k, (encs k).size = ps.size) (I : Nat → World → Prop)
    (hIput : ∀ k W l o o', I k W → w.heap.size ≤ l → W.heap[l]? = some o → o.isCells = false → I k (W.putObj l o'))
    (hIb : ∀ k W W', I k W → Below W.heap.size W W' → I k W') (hIs : ∀ k W, k < N → b k = false → I k W → I (k + 1) W) (h0 : I 0 w)
    (hcall : ∀ (l : Nat) (J : Nat → World → Prop) (W : World), (∀ k W, J k W → I k W) → (∀ k W W', J k W → Below W.heap.size W W' → J k W') → (∀ k W, k < N → b k = false → J k W → J (k + 1) W) →
      (∀ k W, k < N → b k = true → J k W → YieldAt Fence.wide 0 P l (encs k) W fun e W' => e = .returned (.bool true) ∧ J (k + 1) W') → J 0 W →
      CallsIn Fence.wide 0 P gf (#[.func (.yield l) #[] #[]] ++ lb) W fun e W' => (∃ v, e = .returned v) ∧ J N W')
    (hround : ∀ (l k : Nat) (W : World), w.heap.size ≤ l → k < N → b k = true → I k W → (∃ r, W.heap[l]? = some (.loop r)) →
      assign.wpIn (RF l) 0 P (Exit.then (fun a' W' => Others w.heap.size W W' ∧ ∀ o', body.wpIn (RF l) 0 P (Exit.then (fun _ W2 => I (k + 1) W2 ∧ Others w.heap.size (W'.putObj l o') W2) (fun _ _ _ => False)) a' (W'.putObj l o')) (fun _ _ _ => False))
        { tmps := (ps.zip (encs k)).foldl (fun t (p, v) => t.setIfInBounds p v) a.tmps, defers := [] } W)
    (hdone : ∀ (D : Nat) (W : World), w.heap.size ≤ D → I N W → W.heap[D]? = some (.deferred (some [])) → Q .normal { a with defers := { target := .collected D, args := #[] } :: a.defers } W) :
    (Code.rangeFunc g ps assign body).wpIn Fence.wide 0 P Q a w := by
  apply wpIn_rangeFunc
  intro fn _
  -- the record of the loop, the two blocks that the statement lays
  let rc : LoopState → Loop := fun st => { state := st, pending := none, fn, tmps := a.tmps, params := ps, assign, body, defers := w.heap.size }
  let V := (w.alloc (.deferred (some []))).alloc (.loop (rc .ready))
  have sV : V.heap.size = w.heap.size + 1 + 1 := by simp [V]
  have vL : V.heap[w.heap.size + 1]? = some (.loop (rc .ready)) := by
    have h := World.alloc_heap_new (w.alloc (.deferred (some []))) (.loop (rc .ready))
    rw [World.size_alloc] at h
    exact h
  have vD : V.heap[w.heap.size]? = some (.deferred (some [])) := (Below.heap_alloc (w.alloc (.deferred (some []))) (.loop (rc .ready)) w.heap.size (by simp)).trans (World.alloc_heap_new w _)
  have wV : Below w.heap.size w V := ((Below.refl _ w).alloc (Nat.le_refl _) _).alloc (by simp) _
  -- what holds ahead of a round, with the two blocks
  let J : Nat → World → Prop := fun k W => I k W ∧ W.heap[w.heap.size + 1]? = some (.loop (rc .ready)) ∧ W.heap[w.heap.size]? = some (.deferred (some []))
  have J0 : J 0 V := ⟨hIb 0 w V h0 wV, vL, vD⟩
  have Jb : ∀ k W W', J k W → Below W.heap.size W W' → J k W' := fun k W W' ⟨j1, j2, j3⟩ hb =>
    ⟨hIb k W W' j1 hb, (hb.block _ (Array.getElem?_eq_some_iff.1 j2).1).trans j2, (hb.block _ (Array.getElem?_eq_some_iff.1 j3).1).trans j3⟩
  have JI : ∀ k W, J k W → I k W := fun k W h => h.1
  have Js : ∀ k W, k < N → b k = false → J k W → J (k + 1) W := fun k W hk hb ⟨j1, j2, j3⟩ => ⟨hIs k W hk hb j1, j2, j3⟩
  have JY : ∀ k W, k < N → b k = true → J k W → YieldAt Fence.wide 0 P (w.heap.size + 1) (encs k) W fun e W' => e = .returned (.bool true) ∧ J (k + 1) W' := by
    intro k W hk hb ⟨j1, j2, j3⟩
    refine ⟨fn, _, assign, body, run_yield j2 (hps k), roundIn_of_wpIn trivial ?_⟩
    refine wpIn_mono (hround (w.heap.size + 1) k W (by omega) hk hb j1 ⟨_, j2⟩) ?_
    intro e a1 W1 q
    cases e <;> try exact q.elim
    obtain ⟨q2, q1⟩ := q
    have k2 := q2.same _ _ (by omega) j2 rfl
    have k3 := q2.same _ _ (Nat.le_refl _) j3 rfl
    have kl := (Array.getElem?_eq_some_iff.1 k2).1
    refine ⟨_, run_beginRound k2 rfl, ?_⟩
    refine wpIn_mono (q1 (.loop { rc .ready with state := .busy })) ?_
    intro e2 a2 W2 p
    cases e2 <;> try exact p.elim
    obtain ⟨p1, p2⟩ := p
    have m2 := p2.same _ _ (by omega) (World.putObj_heap_same (o := .loop { rc .ready with state := .busy }) kl) rfl
    have m3 := p2.same _ _ (Nat.le_refl _) ((World.putObj_heap_other (o := .loop { rc .ready with state := .busy }) (show w.heap.size ≠ w.heap.size + 1 by omega)).trans k3) rfl
    refine ⟨_, _, run_endRound none m2, rfl, hIput _ _ _ _ _ p1 (by omega) m2 rfl, World.putObj_heap_same (Array.getElem?_eq_some_iff.1 m2).1, (World.putObj_heap_other (by omega)).trans m3⟩
  refine ⟨w.heap.size + 1, [{ target := .collected w.heap.size, args := #[] }], V, { target := .fn (.func gf) lb, args := #[.func (.yield (w.heap.size + 1)) #[] #[]] }, V, gf, #[.func (.yield (w.heap.size + 1)) #[] #[]] ++ lb, V,
    run_enterLoop_outer _ _ _ _ _, by simp only [resolve, hg]; simp [go_sem], fun _ _ => trivial, by simp [invoke, go_sem, eg], fun hs => (by cases hs), ?_⟩
  refine (hcall (w.heap.size + 1) J V JI Jb Js JY J0).mono ?_
  rintro e W ⟨⟨v, rfl⟩, j1, j2, j3⟩
  exact ⟨none, _, run_endLoop j2 (fun h => (by cases h)), hdone w.heap.size _ (Nat.le_refl _) (hIput _ _ _ _ _ j1 (by omega) j2 rfl) ((World.putObj_heap_other (by omega)).trans j3)⟩

theorem BoxAt.kept {w w' : World} {g : Nat} {t : TypeId} {cs : Array Value} (h : BoxAt w g t cs) (hk : KeptC w w') : BoxAt w' g t cs := hk.cells g _ _ _ h
theorem OI.kept {w w' : World} {base : Nat} {v : Value} {l : List Int} (h : OI w base v l) (hk : KeptC w w') : OI w' base v l := owns_kept h hk
theorem OP.kept {w w' : World} {base : Nat} {v : Value} {l : List Px} (h : OP w base v l) (hk : KeptC w w') : OP w' base v l := owns_kept h hk
theorem OWt.kept {w w' : World} {base : Nat} {v : Value} {l : List Wt} (h : OWt w base v l) (hk : KeptC w w') : OWt w' base v l := owns_kept h hk
theorem OSp.kept {w w' : World} {base : Nat} {v : Value} {l : List Sp} (h : OSp w base v l) (hk : KeptC w w') : OSp w' base v l := owns_kept h hk
theorem OBd.kept {w w' : World} {base : Nat} {v : Value} {l : List Bd} (h : OBd w base v l) (hk : KeptC w w') : OBd w' base v l := by
  obtain ⟨rs, a, b, c⟩ := h
  exact ⟨rs, owns_kept a hk, b, fun i hi => ⟨(c i hi).is, (c i hi).v, (c i hi).l.kept hk⟩⟩
theorem OBf.kept {w w' : World} {base : Nat} {v : Value} {l : List Bf} (h : OBf w base v l) (hk : KeptC w w') : OBf w' base v l := by
  obtain ⟨rs, a, b, c⟩ := h
  exact ⟨rs, owns_kept a hk, b, fun i hi => ⟨(c i hi).d, (c i hi).k, (c i hi).vs.kept hk, (c i hi).l.kept hk⟩⟩
theorem OSe.kept {w w' : World} {base : Nat} {v : Value} {l : List Se} (h : OSe w base v l) (hk : KeptC w w') : OSe w' base v l := by
  obtain ⟨rs, a, b, c⟩ := h
  exact ⟨rs, owns_kept a hk, b, fun i hi => ⟨(c i hi).c, (c i hi).m, (c i hi).k, (c i hi).l.kept hk⟩⟩
theorem OEv.kept {w w' : World} {base : Nat} {v : Value} {l : List Ev} (h : OEv w base v l) (hk : KeptC w w') : OEv w' base v l := by
  obtain ⟨rs, a, b, c⟩ := h
  exact ⟨rs, owns_kept a hk, b, fun i hi => ⟨(c i hi).u, (c i hi).l.kept hk⟩⟩
theorem OQu.kept {w w' : World} {base : Nat} {v : Value} {l : List Qu} (h : OQu w base v l) (hk : KeptC w w') : OQu w' base v l := by
  obtain ⟨rs, a, b, c⟩ := h
  exact ⟨rs, owns_kept a hk, b, fun i hi => ⟨(c i hi).d, (c i hi).vs.kept hk, (c i hi).x⟩⟩
theorem PaO.kept {w w' : World} {base : Nat} {q : PaV} {c : Pa} (h : PaO w base q c) (hk : KeptC w w') : PaO w' base q c :=
  ⟨h.md, h.bg, h.nx, h.me.kept hk, h.pr.kept hk, h.bo.kept hk, h.bu.kept hk, h.se.kept hk, h.ev.kept hk, h.sa.kept hk, h.qu.kept hk, h.ld, h.ll.kept hk, h.lx, h.gi.kept hk⟩
theorem Turns.others {S : TypeId → Prop} {w w' : World} (h : Turns S w w') (B : Nat) : Others B w w' :=
  ⟨h.size, fun k o _ hk ho => (h.block k (Array.getElem?_eq_some_iff.1 hk).1 (fun t ⟨cs, fr, e⟩ => by
    rw [hk] at e
    injection e with e
    subst e
    cases ho)).trans hk⟩
theorem below_put {B : Nat} {w0 w : World} {l : Nat} {o' : Obj} (h : Below B w0 w) (hl : B ≤ l) : Below B w0 (w.putObj l o') :=
  ⟨h.os, h.tape, h.output, by simpa using h.size, fun k hk => (World.putObj_heap_other (by omega)).trans (h.block k hk)⟩

set_option maxRecDepth 100000 in
theorem came_any (t n : Int) (w : World) : Calls Try.prog 30 #[.int .i64 t, .int .i64 n] w fun e w' => e = .returned (.bool (decide (0 ≤ t ∧ t ≤ n))) ∧ w' = w := by
  go_enter Try.func30, Try.ntmps30
  by_cases h0 : 0 ≤ t
  · by_cases h1 : t ≤ n
    · rw [decide_eq_true (show 0 ≤ t ∧ t ≤ n from ⟨h0, h1⟩)]
      go_wp2
      go_ret
      exact ⟨rfl, rfl⟩
    · rw [decide_eq_false (show ¬ (0 ≤ t ∧ t ≤ n) from fun h => h1 h.2)]
      go_wp2
      go_ret
      exact ⟨rfl, rfl⟩
  · rw [decide_eq_false (show ¬ (0 ≤ t ∧ t ≤ n) from fun h => h0 h.1)]
    go_wp2
    go_ret
    exact ⟨rfl, rfl⟩

set_option maxRecDepth 100000 in
theorem uthere_Pc (a : Option Addr) (n c : Nat) (i : Int) (w : World) : Calls Try.prog 33 #[.slice a n c, .int .i64 i] w fun e w' => e = .returned (.bool (decide (0 ≤ i ∧ i < n))) ∧ w' = w := by
  go_enter Try.func33, Try.ntmps33
  by_cases h0 : 0 ≤ i
  · by_cases h1 : i < n
    · rw [decide_eq_true (show 0 ≤ i ∧ i < n from ⟨h0, h1⟩)]
      go_wp2
      go_ret
      exact ⟨rfl, rfl⟩
    · rw [decide_eq_false (show ¬ (0 ≤ i ∧ i < n) from fun h => h1 h.2)]
      go_wp2
      go_ret
      exact ⟨rfl, rfl⟩
  · rw [decide_eq_false (show ¬ (0 ≤ i ∧ i < n) from fun h => h0 h.1)]
    go_wp2
    go_ret
    exact ⟨rfl, rfl⟩

set_option maxRecDepth 100000 in
theorem uthere_Px (a : Option Addr) (n c : Nat) (i : Int) (w : World) : Calls Try.prog 40 #[.slice a n c, .int .i64 i] w fun e w' => e = .returned (.bool (decide (0 ≤ i ∧ i < n))) ∧ w' = w := by
  go_enter Try.func40, Try.ntmps40
  by_cases h0 : 0 ≤ i
  · by_cases h1 : i < n
    · rw [decide_eq_true (show 0 ≤ i ∧ i < n from ⟨h0, h1⟩)]
      go_wp2
      go_ret
      exact ⟨rfl, rfl⟩
    · rw [decide_eq_false (show ¬ (0 ≤ i ∧ i < n) from fun h => h1 h.2)]
      go_wp2
      go_ret
      exact ⟨rfl, rfl⟩
  · rw [decide_eq_false (show ¬ (0 ≤ i ∧ i < n) from fun h => h0 h.1)]
    go_wp2
    go_ret
    exact ⟨rfl, rfl⟩

set_option maxRecDepth 100000 in
set_option maxHeartbeats 1600000 in
theorem over_any (x : Px) (now : Int) (N : Nat) (w : World) (hN : BoxAt w N 3 #[.int .i64 now]) :
    Calls Try.prog 29 #[x.val, .pointer (some ⟨N, 0, none⟩)] w fun e w' => e = .returned (.bool (decide (overX now x))) ∧ Below w.heap.size w w' := by
  have NB := hid hN
  have hlt := hN.lt
  have HB := hid (Below.refl w.heap.size w)
  clear hN
  obtain ⟨B, hB⟩ : ∃ B, decide (overX now x) = B := ⟨_, rfl⟩
  rw [hB]
  go_enter Try.func29, Try.ntmps29
  by_cases hst : x.st = 2
  · have tst : (x.st == 2) = true := by simpa using hst
    have HE := hid (show decide (0 ≤ x.un ∧ x.un ≤ now) = B from by rw [← hB]; simp [overX, hst])
    clear hst hB
    go_wp2_with (first
      | (refine wpList_box rfl 57 (.tmp 0) rfl (Px.cells x).toArray rfl ?_
         intro v1 b h z
         have HB := hid (HB.out.trans (h.mono HB.out.size))
         have k0 : v1.cell? ⟨w.heap.size, 0, none⟩ = some (.int .i64 x.st) := (b.cell 0).trans rfl
         have k9 : v1.cell? ⟨w.heap.size, 9, none⟩ = some (.int .i64 x.un) := (b.cell 9).trans rfl
         have n0 : v1.cell? ⟨N, 0, none⟩ = some (.int .i64 now) := ((NB.out.belowAll h).cell 0).trans rfl
         clear b h z)
      | fail)
    refine (came_any x.un now v1).mono ?_
    rintro e v2 ⟨rfl, rfl⟩
    rw [HE.out]
    go_wp2
    go_ret
    exact ⟨rfl, HB.out⟩
  · have tst : (x.st == 2) = false := by simpa using hst
    obtain rfl : false = B := by rw [← hB]; exact (decide_eq_false (fun h => hst h.1)).symm
    clear hst hB
    go_wp2_with (first
      | (refine wpList_box rfl 57 (.tmp 0) rfl (Px.cells x).toArray rfl ?_
         intro v1 b h z
         have HB := hid (HB.out.trans (h.mono HB.out.size))
         have k0 : v1.cell? ⟨w.heap.size, 0, none⟩ = some (.int .i64 x.st) := (b.cell 0).trans rfl
         clear b h z)
      | fail)
    go_ret
    exact ⟨rfl, HB.out⟩

set_option maxRecDepth 100000 in
set_option maxHeartbeats 1600000 in
theorem late1_any (x : Px) (now : Int) (N : Nat) (w : World) (hN : BoxAt w N 3 #[.int .i64 now]) :
    Calls Try.prog 39 #[x.val, .pointer (some ⟨N, 0, none⟩)] w fun e w' => e = .returned (.bool (lateX now x)) ∧ Below w.heap.size w w' := by
  have NB := hid hN
  have hlt := hN.lt
  have HB := hid (Below.refl w.heap.size w)
  clear hN
  have HE := hid (show lateX now x = (decide (x.st ≠ 0) && (decide (x.st ≠ 2) || decide (x.ki ≠ 2)) && decide (0 ≤ x.du ∧ x.du ≤ now)) from by
    rw [Bool.eq_iff_iff, lateX_iff]
    simp only [Bool.and_eq_true, Bool.or_eq_true, decide_eq_true_eq]
    constructor
    · rintro ⟨h1, h2, h3, h4⟩
      by_cases hs : x.st = 2
      · exact ⟨⟨h1, .inr (fun hk => h2 ⟨hs, hk⟩)⟩, h3, h4⟩
      · exact ⟨⟨h1, .inl hs⟩, h3, h4⟩
    · rintro ⟨⟨h1, h2⟩, h3, h4⟩
      exact ⟨h1, fun hh => h2.elim (fun k => k hh.1) (fun k => k hh.2), h3, h4⟩)
  obtain ⟨B, hB⟩ : ∃ B, decide (0 ≤ x.du ∧ x.du ≤ now) = B := ⟨_, rfl⟩
  rw [HE.out, hB]
  have HD := hid hB
  clear HE hB
  go_enter Try.func39, Try.ntmps39
  by_cases h0 : x.st = 0
  · have t0 : (x.st != 0) = false := by simpa using h0
    have t2 : (x.st != 2) = true := by simp; omega
    rw [decide_eq_false (show ¬ x.st ≠ 0 from fun h => h h0), Bool.false_and, Bool.false_and]
    clear h0
    go_wp2_with (first
      | (refine wpList_box rfl 57 (.tmp 0) rfl (Px.cells x).toArray rfl ?_
         intro v1 b h z
         have HB := hid (HB.out.trans (h.mono HB.out.size))
         have k0 : v1.cell? ⟨w.heap.size, 0, none⟩ = some (.int .i64 x.st) := (b.cell 0).trans rfl
         clear b h z)
      | fail)
    go_ret
    exact ⟨rfl, HB.out⟩
  · have t0 : (x.st != 0) = true := by simpa using h0
    rw [decide_eq_true (show x.st ≠ 0 from h0), Bool.true_and]
    clear h0
    by_cases h2 : x.st = 2
    · have t2 : (x.st != 2) = false := by simpa using h2
      rw [decide_eq_false (show ¬ x.st ≠ 2 from fun h => h h2), Bool.false_or]
      clear h2
      by_cases h3 : x.ki = 2
      · have t3 : (x.ki != 2) = false := by simpa using h3
        rw [decide_eq_false (show ¬ x.ki ≠ 2 from fun h => h h3), Bool.false_and]
        clear h3
        go_wp2_with (first
          | (refine wpList_box rfl 57 (.tmp 0) rfl (Px.cells x).toArray rfl ?_
             intro v1 b h z
             have HB := hid (HB.out.trans (h.mono HB.out.size))
             have k0 : v1.cell? ⟨w.heap.size, 0, none⟩ = some (.int .i64 x.st) := (b.cell 0).trans rfl
             have k10 : v1.cell? ⟨w.heap.size, 10, none⟩ = some (.int .i64 x.ki) := (b.cell 10).trans rfl
             clear b h z)
          | fail)
        go_ret
        exact ⟨rfl, HB.out⟩
      · have t3 : (x.ki != 2) = true := by simpa using h3
        rw [decide_eq_true (show x.ki ≠ 2 from h3), Bool.true_and]
        clear h3
        go_wp2_with (first
          | (refine wpList_box rfl 57 (.tmp 0) rfl (Px.cells x).toArray rfl ?_
             intro v1 b h z
             have HB := hid (HB.out.trans (h.mono HB.out.size))
             have k0 : v1.cell? ⟨w.heap.size, 0, none⟩ = some (.int .i64 x.st) := (b.cell 0).trans rfl
             have k10 : v1.cell? ⟨w.heap.size, 10, none⟩ = some (.int .i64 x.ki) := (b.cell 10).trans rfl
             have k12 : v1.cell? ⟨w.heap.size, 12, none⟩ = some (.int .i64 x.du) := (b.cell 12).trans rfl
             have n0 : v1.cell? ⟨N, 0, none⟩ = some (.int .i64 now) := ((NB.out.belowAll h).cell 0).trans rfl
             clear b h z)
          | fail)
        refine (came_any x.du now v1).mono ?_
        rintro e v2 ⟨rfl, rfl⟩
        rw [HD.out]
        go_wp2
        go_ret
        exact ⟨rfl, HB.out⟩
    · have t2 : (x.st != 2) = true := by simpa using h2
      rw [decide_eq_true (show x.st ≠ 2 from h2), Bool.true_or, Bool.true_and]
      clear h2
      go_wp2_with (first
        | (refine wpList_box rfl 57 (.tmp 0) rfl (Px.cells x).toArray rfl ?_
           intro v1 b h z
           have HB := hid (HB.out.trans (h.mono HB.out.size))
           have k0 : v1.cell? ⟨w.heap.size, 0, none⟩ = some (.int .i64 x.st) := (b.cell 0).trans rfl
           have k12 : v1.cell? ⟨w.heap.size, 12, none⟩ = some (.int .i64 x.du) := (b.cell 12).trans rfl
           have n0 : v1.cell? ⟨N, 0, none⟩ = some (.int .i64 now) := ((NB.out.belowAll h).cell 0).trans rfl
           clear b h z)
        | fail)
      refine (came_any x.du now v1).mono ?_
      rintro e v2 ⟨rfl, rfl⟩
      rw [HD.out]
      go_wp2
      go_ret
      exact ⟨rfl, HB.out⟩

set_option maxRecDepth 100000 in
set_option maxHeartbeats 800000 in
theorem those_any (a : Option Addr) (n c : Nat) (f : Nat) (caps : Array Value) (w : World) :
    Calls Try.prog 31 #[.slice a n c, .func (.func f) #[] caps] w fun e w' => e = .returned (.func (.func 51) #[] #[.pointer (some ⟨w.heap.size, 0, none⟩), .pointer (some ⟨w.heap.size + 1, 0, none⟩)]) ∧
      BoxAt w' w.heap.size 29 #[.slice a n c] ∧ BoxAt w' (w.heap.size + 1) 81 #[.func (.func f) #[] caps] ∧ Below w.heap.size w w' := by
  have hmf : ∀ (fn : Fn) (first cap : Array Value) (w : World), (Instr.makeFunc fn first cap).run Try.prog w = .ok (.func fn first cap) w := fun _ _ _ _ => rfl
  go_enter Try.func31, Try.ntmps31
  go_wp2
  go_ret
  exact ⟨rfl, (BoxAt.new w _ _).alloc _, (by have h := BoxAt.new (w.alloc (.cells #[.slice a n c] 29)) 81 #[.func (.func f) #[] caps]; rw [World.size_alloc] at h; exact h), ((Below.refl _ _).alloc (Nat.le_refl _) _).alloc (by simp) _⟩

theorem oper_wide {P : Program} {o : Oper} {a : Act} {w : World} {K : Act → World → Prop} {Q : Exit → Act → World → Prop} (hd : noDefer o = true) (h : o.wp P a w K Q) : o.wpIn Fence.wide 0 P a w K Q := by
  refine ⟨fun _ _ => trivial, ?_⟩
  rw [show Oper.semAt Fence.wide.round a.eval o = execOp a.eval o from by simp [Oper.semAt]]
  unfold Oper.wp at h
  generalize (execOp a.eval o).run P w = r at h ⊢
  cases r with
  | ok n w' =>
    cases n with
    | enter f args => exact ⟨fun hs => (by cases hs), callsIn_wide.2 h⟩
    | row rw' args => exact ⟨fun hs => (by cases hs), fun c cs _ => let ⟨v, w'', r, s⟩ := h c cs; ⟨v, w'', r, stepsIn_wide.2 s⟩⟩
    | round _ _ _ _ _ => exact h.elim
    | _ => exact h
  | halt x w' => cases x <;> exact h
theorem in_plain {P : Program} {ops : Array Oper} {rest : List Oper} {o : Oper} {a : Act} {w : World} {Q : Exit → Act → World → Prop} (hg : o.guard = none) (hd : noDefer o = true)
    (h : ∀ K : Act → World → Prop, (∀ a w, wpListIn Fence.wide 0 P ops Q rest a w → K a w) → o.wp P a w K Q) : wpListIn Fence.wide 0 P ops Q (o :: rest) a w :=
  wpListIn_plain hg fun K hK => oper_wide hd (h K hK)
theorem in_yields {P : Program} {ops : Array Oper} {rest : List Oper} {o : Oper} {a : Act} {w w' : World} {Q : Exit → Act → World → Prop} {v : Value} (hw : Region.wanted o (yielded ops a.tmps) = true) (hd : noDefer o = true)
    (hy : (execOp a.eval o).run P w = .ok (.value v) w') (h : wpListIn Fence.wide 0 P ops Q rest (a.put o.dst v) w') : wpListIn Fence.wide 0 P ops Q (o :: rest) a w := by
  unfold wpListIn
  rw [if_pos hw]
  refine oper_wide hd ?_
  unfold Oper.wp
  rw [hy]
  exact h
/-- A new box of nothing. -/
theorem wp_new {P : Program} {o : Oper} {a : Act} {w : World} {K : Act → World → Prop} {Q : Exit → Act → World → Prop} (T : TypeId) (ho : o.op = .alloc T) (cs : Array Value) (hz : (P.info? T).bind (·.zero) = some (.agg cs))
    (h : ∀ w', BoxAt w' w.heap.size T cs → Below w.heap.size w w' → w'.heap.size = w.heap.size + 1 → K (a.put o.dst (.pointer (some ⟨w.heap.size, 0, none⟩))) w') : Oper.wp P o a w K Q := by
  cases hq : P.info? T with
  | none => simp [hq] at hz
  | some i =>
    have hz' : i.zero = some (.agg cs) := by simpa [hq] using hz
    have hzr : (zeroValue T).run P w = .ok (.agg cs) w := by
      unfold zeroValue
      simp [typeInfo, hq, hz']
    unfold Oper.wp execOp
    simp only [ho, Instr.alloc, hzr, Sem.run_bind, newVar, newRow, run_newObj_alloc, Sem.run_pure, Result.andThen_ok]
    exact h _ (BoxAt.new w T cs) ((Below.refl _ w).alloc (Nat.le_refl _) _) (by simp)

set_option maxRecDepth 100000 in
set_option maxHeartbeats 3200000 in
theorem iter_any (l B1 B2 n cap gw : Nat) (a : Option Addr) (caps : Array Value) (X : Nat → Px) (b : Nat → Bool) (J : Nat → World → Prop)
    (eg : ∀ args w, (callFunc gw args).run Try.prog w = .ok (.enter gw args) w) (hn : n ≤ 9223372036854775807)
    (h1 : ∀ k W, J k W → BoxAt W B1 29 #[.slice a n cap]) (h2 : ∀ k W, J k W → BoxAt W B2 81 #[.func (.func gw) #[] caps])
    (h3 : ∀ k W, k < n → J k W → ∃ g o, a = some ⟨g, o, none⟩ ∧ PxAt W g (o + k * 18) (X k))
    (hw : ∀ k W, k < n → J k W → Calls Try.prog gw (#[(X k).val] ++ caps) W fun e W' => e = .returned (.bool (b k)) ∧ Below W.heap.size W W')
    (hJb : ∀ k W W', J k W → Below W.heap.size W W' → J k W') (hJs : ∀ k W, k < n → b k = false → J k W → J (k + 1) W)
    (hY : ∀ k W, k < n → b k = true → J k W → YieldAt Fence.wide 0 Try.prog l #[.int .i64 (k : Nat), (X k).val] W fun e W' => e = .returned (.bool true) ∧ J (k + 1) W') (W : World) (h0 : J 0 W) :
    CallsIn Fence.wide 0 Try.prog 51 #[.func (.yield l) #[] #[], .pointer (some ⟨B1, 0, none⟩), .pointer (some ⟨B2, 0, none⟩)] W fun e W' => (∃ v, e = .returned v) ∧ J n W' := by
  have H1 := hid h1
  have H2 := hid h2
  have H3 := hid h3
  have HW := hid hw
  have HJb := hid hJb
  have HJs := hid hJs
  have HY := hid hY
  have c1 : W.cell? ⟨B1, 0, none⟩ = some (.slice a n cap) := ((h1 0 W h0).cell 0).trans rfl
  have HJ := hid h0
  clear h1 h2 h3 hw hJb hJs hY h0
  refine callsIn_of_wp Try.func51 rfl trivial ?_ rfl
  simp only [Try.ntmps51, List.size_toArray, List.length_cons, List.length_nil, Nat.reduceAdd, Nat.reduceSub, Array.replicate_succ, Array.replicate_zero, List.push_toArray, List.append_toArray, List.nil_append, List.cons_append]
  gi_wp2
  gi_loopw [8] (fun i wr => ∃ k : Nat, k ≤ n ∧ i = .int .i64 k ∧ Hid (J k wr)) (fun i _ => n - (intOf i).toNat)
  case atStart => exact ⟨0, Nat.zero_le _, rfl, HJ⟩
  case round =>
    clear c1 HJ
    obtain ⟨k, hk, rfl, HJ⟩ := hrel
    by_cases hlt : k < n
    · obtain ⟨g, o, ha, hx⟩ := H3.out k wr hlt HJ.out
      have HX := hid hx
      subst ha
      have HB := hid (Below.refl wr.heap.size wr)
      have HK := hid hlt
      have hgl : g < wr.heap.size := World.block_lt_of_cell? wr _ hx.st
      clear hx
      gi_wp2_with (first
        | (refine in_yields rfl rfl (px_yields _ rfl g (o + k * 18) rfl (X k) HX.out) ?_)
        | (refine in_plain rfl rfl (fun K hK => wp_new 57 rfl _ Try.zeroPx ?_)
           intro v1 b1 hb1 z1
           have OB := hid b1
           have HB := hid (HB.out.trans (hb1.mono HB.out.size))
           have hs1 : wr.heap.size + 1 ≤ v1.heap.size := by omega
           clear b1 hb1 z1
           refine hK _ _ ?_)
        | (refine in_plain rfl rfl (fun K hK => wp_store_whole 57 _ _ rfl wr.heap.size rfl (Px.cells (X k)) rfl _ _ OB.out rfl Try.infoPx (Px.one _) ?_)
           intro v2 b2 g2 z2
           have OB := hid b2
           have HB := hid (HB.out.trans (grown_below g2 (Nat.le_refl _) (by omega)))
           have hs2 : wr.heap.size + 1 ≤ v2.heap.size := by omega
           have HJ2 := hid (HJb.out k wr v2 HJ.out HB.out)
           have c2 : v2.cell? ⟨B2, 0, none⟩ = some (.func (.func gw) #[] caps) := ((H2.out k v2 HJ2.out).cell 0).trans rfl
           clear b2 g2 z2
           refine hK _ _ ?_)
        | (refine in_yields rfl rfl (box_yields 57 _ rfl wr.heap.size rfl (Px.cells (X k)) _ _ Try.underlying57 Try.infoPx OB.out) ?_)
        | fail)
      refine ⟨trivial, rfl, (callsIn_wide.2 (HW.out k v2 HK.out HJ2.out)).mono ?_⟩
      rintro e v3 ⟨rfl, hb3⟩
      have OB := hid (OB.out.belowAll hb3)
      have HJ3 := hid (HJb.out k v2 v3 HJ2.out hb3)
      clear hb3 c2 HB HX HJ2
      rcases hbk : b k
      · have HJ4 := hid (HJs.out k v3 HK.out hbk HJ3.out)
        clear HJ3 HJ hbk
        gi_wp2
        refine ⟨fun _ h => (by cases h), ?_⟩
        gi_wp2
        go_roundw
        case rel => exact ⟨k + 1, by have := HK.out; omega, by go_num, HJ4⟩
        case measure => have := HK.out; simp [intOf]; omega
      · obtain ⟨fn, tmps, assign, body, hy, hR⟩ := HY.out k v3 HK.out hbk HJ3.out
        have HR := hid hR
        have hy2 : (Instr.yield l #[.int .i64 (k : Nat), .agg (X k).cells.toArray]).run Try.prog v3 = .ok (.round l fn tmps assign body) v3 := hy
        clear HJ3 HJ hbk hR hy
        gi_wp2_with (first
          | (refine in_yields rfl rfl (box_yields 57 _ rfl wr.heap.size rfl (Px.cells (X k)) _ _ Try.underlying57 Try.infoPx OB.out) ?_)
          | fail)
        refine ⟨rfl, ?_⟩
        refine HR.out.mono ?_
        rintro e v4 ⟨rfl, hJ⟩
        have HJ5 := hid hJ
        clear hJ HR hy2 OB
        gi_wp2
        go_roundw
        case rel => exact ⟨k + 1, by have := HK.out; omega, by go_num, HJ5⟩
        case measure => have := HK.out; simp [intOf]; omega
    · obtain rfl : k = n := by omega
      gi_wp2
      go_end0
      exact ⟨⟨_, rfl⟩, HJ.out⟩

/-- A partition in a box, whose lists are the call's own, and whose processes lie in s. -/
def UP (w : World) (base P : Nat) (s : Sl) (c : Pa) : Prop := ∃ q : PaV, BoxAt w P 39 q.cells.toArray ∧ PaO w base q c ∧ q.pr = s
theorem UP.below {w w' : World} {base P : Nat} {s : Sl} {c : Pa} (h : UP w base P s c) (hb : Below w.heap.size w w') : UP w' base P s c := by
  obtain ⟨q, h1, h2, h3⟩ := h
  exact ⟨q, h1.belowAll hb, h2.below hb, h3⟩
theorem UP.kept {w w' : World} {base P : Nat} {s : Sl} {c : Pa} (h : UP w base P s c) (hk : KeptC w w') : UP w' base P s c := by
  obtain ⟨q, h1, h2, h3⟩ := h
  exact ⟨q, BoxAt.kept h1 hk, h2.kept hk, h3⟩

theorem Turns.mono {S T : TypeId → Prop} {w w' : World} (h : Turns S w w') (hs : ∀ t, S t → T t) : Turns T w w' :=
  ⟨h.os, h.tape, h.output, h.size, fun k hk ht => h.block k hk (fun t hta hst => ht t hta (hs t hst)), h.tag⟩
theorem two_box {g P : Nat} {w w' : World} {cs cs' : Array Value} (h : BoxAt w P 39 cs) (h' : BoxAt w' P 39 cs') (hg : w.grownBy w' (some P)) : TwoT g P w w' :=
  ⟨Turns.grown (S := SP) h h' (.inr rfl) hg, fun k hk _ h2 => hg.block k hk (fun e => h2 (Option.some.inj e))⟩
theorem TwoT.box {g P b : Nat} {w w' : World} {t : TypeId} {cs : Array Value} (h : TwoT g P w w') (hb : BoxAt w b t cs) (h1 : b ≠ g) (h2 : b ≠ P) : BoxAt w' b t cs := (h.b b hb.lt h1 h2).trans hb
theorem pw_two {w w' : World} {base g cap i P : Nat} {L : List Px} {r r' : Px} (h : PW w base g cap i L r) (h' : PW w' base g cap i L r') (hg : w.grownBy w' (some g)) : TwoT g P w w' := by
  obtain ⟨cs, b0, hb, hl⟩ := h.box
  obtain ⟨cs', b1, _, _⟩ := h'.box
  exact ⟨Turns.grown (S := SP) b0 b1 (.inl rfl) hg, fun k hk h1 _ => hg.block k hk (fun e => h1 (Option.some.inj e))⟩
theorem pw_turns {w w' : World} {base g cap i : Nat} {L : List Px} {r r' : Px} (h : PW w base g cap i L r) (h' : PW w' base g cap i L r') (hg : w.grownBy w' (some g)) : Turns (fun t => t = 57) w w' ∧ Below base w w' := by
  obtain ⟨cs, b0, hb, hl⟩ := h.box
  obtain ⟨cs', b1, _, _⟩ := h'.box
  exact ⟨Turns.grown (S := fun t => t = 57) b0 b1 rfl hg, grown_below hg hb (by omega)⟩

set_option maxRecDepth 100000 in
set_option maxHeartbeats 1600000 in
theorem release_any {w : World} {base g cap : Nat} {L : List Px} (P k : Nat) (f : Pc) (un now : Int) (ho : OP w base (.slice (some ⟨g, 0, none⟩) L.length cap) L) (hk : k < L.length) :
    Calls Try.prog 34 #[.pointer (some ⟨g, k * 18, none⟩), f.val, .int .i64 un, .int .i64 now] w fun e w' => e = .returned (.tuple #[]) ∧
      OP w' base (.slice (some ⟨g, 0, none⟩) L.length cap) (L.set k { L.getD k Px.zero with du := if 0 < f.li then wrap64 (now + f.li) else -1, ne := wrap64 (un + f.pe) }) ∧ TwoT g P w w' ∧ Below base w w' := by
  have HP := hid (PW.start ho hk)
  generalize L.getD k Px.zero = r at *
  have hgb : base ≤ g ∧ g < w.heap.size := by obtain ⟨_, _, h1, h2⟩ := HP.out.box; exact ⟨h1, h2⟩
  have HT := hid (TwoT.refl g P w)
  have HB := hid (Below.refl base w)
  clear ho
  obtain ⟨fp, fe, fl, fn, fa⟩ := f
  unfold Pc.val
  simp only
  by_cases hl : 0 < fl
  · rw [if_pos hl]
    go_enter Try.func34, Try.ntmps34
    have FL1 := hid trivial
    have FL2 := hid trivial
    go_wp2_with (first
      | (refine wpList_box rfl 60 (.tmp 1) rfl (Pc.cells ⟨fp, fe, fl, fn, fa⟩).toArray rfl ?_
         intro v1 b h z
         have FB := hid b
         have HP := hid (HP.out.below h)
         have HT := hid (HT.out.trans (TwoT.below h))
         have HB := hid (HB.out.trans (h.mono (by omega)))
         have hs1 : w.heap.size + 1 ≤ v1.heap.size := by omega
         clear b h z)
      | (have hfl := FL1.out
         refine wpList_store_pw rfl 3 _ _ rfl rfl HP.out 12 (by decide) (.int .i64 (-1)) rfl rfl rfl rfl (by kernel_rfl) { r with du := -1 } rfl ?_
         intro v2 hp hg hz
         obtain ⟨ht, hb⟩ := pw_turns HP.out hp hg
         have HT := hid (HT.out.trans (pw_two HP.out hp hg))
         have HB := hid (HB.out.trans hb)
         have FB := hid (FB.out.grown hg (fun e => by have := Option.some.inj e; omega))
         have k1 : v2.cell? ⟨w.heap.size, 1, none⟩ = some (.int .i64 fe) := (FB.out.cell 1).trans rfl
         have k2 : v2.cell? ⟨w.heap.size, 2, none⟩ = some (.int .i64 fl) := (FB.out.cell 2).trans rfl
         have HP := hid hp
         have hs2 : w.heap.size + 1 ≤ v2.heap.size := by omega
         clear hp hg hz ht hb hfl FL1)
      | (have hfl := FL2.out
         refine wpList_store_pw rfl 3 _ _ rfl rfl HP.out 12 (by decide) (.int .i64 (wrap64 (now + fl))) rfl rfl rfl rfl (by kernel_rfl) { r with du := wrap64 (now + fl) } rfl ?_
         intro v3 hp hg hz
         obtain ⟨ht, hb⟩ := pw_turns HP.out hp hg
         have HT := hid (HT.out.trans (pw_two HP.out hp hg))
         have HB := hid (HB.out.trans hb)
         have FB := hid (FB.out.grown hg (fun e => by have := Option.some.inj e; omega))
         clear k1 k2
         have k1 : v3.cell? ⟨w.heap.size, 1, none⟩ = some (.int .i64 fe) := (FB.out.cell 1).trans rfl
         have k2 : v3.cell? ⟨w.heap.size, 2, none⟩ = some (.int .i64 fl) := (FB.out.cell 2).trans rfl
         have HP := hid hp
         have hs3 : w.heap.size + 1 ≤ v3.heap.size := by omega
         clear hp hg hz ht hb hfl FL2)
      | (refine wpList_store_pw rfl 3 _ _ rfl rfl HP.out 13 (by decide) (.int .i64 (wrap64 (un + fe))) rfl rfl rfl rfl (by kernel_rfl) { r with du := wrap64 (now + fl), ne := wrap64 (un + fe) } rfl ?_
         intro v4 hp hg hz
         obtain ⟨ht, hb⟩ := pw_turns HP.out hp hg
         have HT := hid (HT.out.trans (pw_two HP.out hp hg))
         have HB := hid (HB.out.trans hb)
         have HP := hid hp
         clear hp hg hz ht hb)
      | fail)
    refine bodyPost_end (results_none rfl _ _ _) rfl ?_
    exact ⟨rfl, HP.out.stop, HT.out, HB.out⟩
  · rw [if_neg hl]
    go_enter Try.func34, Try.ntmps34
    have FL1 := hid trivial
    go_wp2_with (first
      | (refine wpList_box rfl 60 (.tmp 1) rfl (Pc.cells ⟨fp, fe, fl, fn, fa⟩).toArray rfl ?_
         intro v1 b h z
         have FB := hid b
         have HP := hid (HP.out.below h)
         have HT := hid (HT.out.trans (TwoT.below h))
         have HB := hid (HB.out.trans (h.mono (by omega)))
         have hs1 : w.heap.size + 1 ≤ v1.heap.size := by omega
         clear b h z)
      | (have hfl := FL1.out
         refine wpList_store_pw rfl 3 _ _ rfl rfl HP.out 12 (by decide) (.int .i64 (-1)) rfl rfl rfl rfl (by kernel_rfl) { r with du := -1 } rfl ?_
         intro v2 hp hg hz
         obtain ⟨ht, hb⟩ := pw_turns HP.out hp hg
         have HT := hid (HT.out.trans (pw_two HP.out hp hg))
         have HB := hid (HB.out.trans hb)
         have FB := hid (FB.out.grown hg (fun e => by have := Option.some.inj e; omega))
         have k1 : v2.cell? ⟨w.heap.size, 1, none⟩ = some (.int .i64 fe) := (FB.out.cell 1).trans rfl
         have k2 : v2.cell? ⟨w.heap.size, 2, none⟩ = some (.int .i64 fl) := (FB.out.cell 2).trans rfl
         have HP := hid hp
         have hs2 : w.heap.size + 1 ≤ v2.heap.size := by omega
         clear hp hg hz ht hb hfl FL1)
      | (refine wpList_store_pw rfl 3 _ _ rfl rfl HP.out 13 (by decide) (.int .i64 (wrap64 (un + fe))) rfl rfl rfl rfl (by kernel_rfl) { r with du := -1, ne := wrap64 (un + fe) } rfl ?_
         intro v4 hp hg hz
         obtain ⟨ht, hb⟩ := pw_turns HP.out hp hg
         have HT := hid (HT.out.trans (pw_two HP.out hp hg))
         have HB := hid (HB.out.trans hb)
         have HP := hid hp
         clear hp hg hz ht hb)
      | fail)
    refine bodyPost_end (results_none rfl _ _ _) rfl ?_
    exact ⟨rfl, HP.out.stop, HT.out, HB.out⟩

set_option maxRecDepth 100000 in
set_option maxHeartbeats 1600000 in
theorem uleave_any {w : World} {base P n : Nat} (g0 : Nat) {s : Sl} {c : Pa} (i : Int) (h : UP w base P s c) (hsm : c.small) (hb : base ≤ w.heap.size) (hn : n ≤ P) (hnb : n ≤ base) :
    Calls Try.prog 35 #[.pointer (some ⟨P, 0, none⟩), .int .i64 i] w fun e w' => e = .returned (.tuple #[]) ∧ UP w' base P s (leaveP c (isW i)) ∧ TwoT g0 P w w' ∧ Below n w w' := by
  obtain ⟨q, hq, ho, rfl⟩ := h
  have PB := hid hq
  have hPs : P < w.heap.size := hq.lt
  have HO := hid ho
  have HSm := hid hsm
  have HB := hid (Below.refl n w)
  have HT := hid (TwoT.refl g0 P w)
  have k4 : w.cell? ⟨P, 4, none⟩ = some (.slice q.pr.a q.pr.n q.pr.c) := (BoxAt.cell hq 4).trans rfl
  clear hq ho hsm
  go_enter Try.func35, Try.ntmps35
  have FL1 := hid trivial
  go_wp2_with (first
    | (have hfl := FL1.out
       refine wpList_store_box rfl 29 _ _ rfl rfl P 4 (.slice none 0 0) rfl rfl rfl rfl (by kernel_rfl) _ _ PB.out (by simp [PaV.cells]) ?_
       intro v1 b g z
       have ht := Turns.grown (S := fun t => t = 39) PB.out b rfl g
       have HO := hid (HO.out.turn ht)
       have HT := hid (HT.out.trans (two_box PB.out b g))
       have HB := hid (HB.out.trans (grown_below g hn (by omega)))
       have PB := hid (show BoxAt v1 P 39 (PaV.cells { q with pr := ⟨none, 0, 0⟩ }).toArray by simpa [PaV.cells] using b)
       have hs1 : w.heap.size ≤ v1.heap.size := by omega
       clear b g z ht k4 hfl FL1)
    | (refine wpList_load_box rfl 39 _ rfl P rfl _ _ PB.out _ Try.underlying39 Try.infoPa ?_)
    | fail)
  have HN := hid (show PaO v1 base { q with pr := ⟨none, 0, 0⟩ } { c with pr := [] } from ⟨HO.out.md, HO.out.bg, HO.out.nx, HO.out.me, OP.nil _ _, HO.out.bo, HO.out.bu, HO.out.se, HO.out.ev, HO.out.sa, HO.out.qu, HO.out.ld, HO.out.ll, HO.out.lx, HO.out.gi⟩)
  refine (leave_any (i := i) HN.out.sees ⟨HSm.out.me, by simp, HSm.out.bo, HSm.out.bu, HSm.out.se, HSm.out.ev, HSm.out.sa, HSm.out.qu, HSm.out.ll, HSm.out.gi, HSm.out.bol, HSm.out.bul, HSm.out.sel, HSm.out.evl, HSm.out.qul⟩).mono ?_
  rintro e v2 ⟨q2, rfl, ho2, hb2⟩
  have HO := hid (HO.out.below hb2)
  have HO2 := hid (ho2.mono (show base ≤ v1.heap.size by omega))
  have PB := hid (PB.out.belowAll hb2)
  have HB := hid (HB.out.trans (hb2.mono (by omega)))
  have HT := hid (HT.out.trans (TwoT.below hb2))
  have hs2 : w.heap.size ≤ v2.heap.size := by have := hb2.size; omega
  clear ho2 hb2 HN
  have FL2 := hid trivial
  go_wp2_with (first
    | (have hfl := FL2.out
       refine wpList_store_whole rfl 39 _ _ rfl rfl P rfl (PaV.cells q2) rfl _ _ PB.out rfl Try.infoPa (PaV.one _) ?_
       intro v3 b g z
       have ht := Turns.grown (S := fun t => t = 39) PB.out b rfl g
       have HO := hid (HO.out.turn ht)
       have HO2 := hid (HO2.out.turn ht)
       have HT := hid (HT.out.trans (two_box PB.out b g))
       have HB := hid (HB.out.trans (grown_below g hn (by omega)))
       have PB := hid (show BoxAt v3 P 39 (PaV.cells q2).toArray from b)
       have hs3 : w.heap.size ≤ v3.heap.size := by omega
       clear b g z ht hfl FL2)
    | (refine wpList_store_box rfl 29 _ _ rfl rfl P 4 (.slice q.pr.a q.pr.n q.pr.c) rfl rfl rfl rfl (by kernel_rfl) _ _ PB.out (by simp [PaV.cells]) ?_
       intro v4 b g z
       have ht := Turns.grown (S := fun t => t = 39) PB.out b rfl g
       have HO := hid (HO.out.turn ht)
       have HO2 := hid (HO2.out.turn ht)
       have HT := hid (HT.out.trans (two_box PB.out b g))
       have HB := hid (HB.out.trans (grown_below g hn (by omega)))
       have PB := hid (show BoxAt v4 P 39 (PaV.cells { q2 with pr := q.pr }).toArray by simpa [PaV.cells] using b)
       clear b g z ht)
    | fail)
  refine bodyPost_end (results_none rfl _ _ _) rfl ?_
  exact ⟨rfl, ⟨{ q2 with pr := q.pr }, PB.out, ⟨HO2.out.md, HO2.out.bg, HO2.out.nx, HO2.out.me, HO.out.pr, HO2.out.bo, HO2.out.bu, HO2.out.se, HO2.out.ev, HO2.out.sa, HO2.out.qu, HO2.out.ld, HO2.out.ll, HO2.out.lx, HO2.out.gi⟩, rfl⟩, HT.out, HB.out⟩

theorem SeesPx.one {w : World} {b o n : Nat} {r : Px} (hn : 1 ≤ n) (hm : n ≤ 9223372036854775807) (h : PxAt w b o r) : SeesPx w (.slice (some ⟨b, o, none⟩) 1 n) [r] := by
  refine .inr ⟨⟨b, o, none⟩, n, rfl, hn, hm, fun i hi j hj => ?_⟩
  have hi0 : i = 0 := by simp at hi; omega
  subst hi0
  have := h j hj
  rw [add_none]
  simpa [List.getD] using this
/-- The whole process is stored into its row. -/
theorem wp_stores_pw {o : Oper} {a : Act} {w : World} {K : Act → World → Prop} {Q : Exit → Act → World → Prop} (x y : Operand) (ho : o.op = .store 57 x y)
    {base g cap i : Nat} {L : List Px} {r : Px} (hp : PW w base g cap i L r) (hx : a.eval x = .pointer (some ⟨g, i * 18, none⟩)) (r' : Px) (hy : a.eval y = r'.val)
    (h : ∀ w', PW w' base g cap i L r' → w.grownBy w' (some g) → w'.heap.size = w.heap.size → K (a.put o.dst undef) w') : Oper.wp Try.prog o a w K Q := by
  refine wp_store_mid 57 x y ho g (i * 18) r'.cells.toArray hx hy ?_ (by rw [Try.infoPx]; rfl) (by unfold Px.cells; simp [Value.oneCell']) ?_
  · have := row_there (c := 18) i (px_lens (L.set i r)) (by simpa using hp.lt) hp.op
    exact this
  · exact h _ (hp.sets r') (grown_sets g _ _ _) (size_sets g _ _ _)
/-- One process alone goes on. -/
theorem go_alone (r : Px) (nx code : Int) : goP { Pa.zero with pr := [r], nx := nx } 0 code 0 = { Pa.zero with pr := [(goD code 0 r).out nx], nx := (goD code 0 r).nxt nx } := by
  unfold goP deedP
  rw [if_pos ⟨Int.le_refl _, by simp⟩]
  rfl
theorem cell_grown {w w' : World} {b : Nat} (h : w.grownBy w' (some b)) {p : Addr} (hb : some b ≠ some p.block) (hp : p.block < w.heap.size) : w'.cell? p = w.cell? p := by
  have e := h.block p.block hp (fun e => hb e.symm)
  unfold World.cell?
  rw [e]
theorem go_in {c : Pa} {k : Nat} (hk : k < c.pr.length) (code : Int) : goP c (k : Int) code 0 = { c with pr := c.pr.set k ((goD code 0 (c.pr.getD k Px.zero)).out c.nx), nx := (goD code 0 (c.pr.getD k Px.zero)).nxt c.nx } := by
  unfold goP
  rw [deed_in hk]

set_option maxRecDepth 100000 in
set_option maxHeartbeats 3200000 in
theorem goon_core {w : World} {base P n g cap N : Nat} {q : PaV} {L : List Px} {nx m : Int} {r y : Px} (k : Nat) (code : Int) (hq : BoxAt w P 39 q.cells.toArray) (hop : OP w base (.slice (some ⟨g, 0, none⟩) L.length cap) L)
    (hL : L.length = N) (hs : q.pr = ⟨some ⟨g, 0, none⟩, N, cap⟩) (hnx : q.nx = nx) (hr : L.getD k Px.zero = r) (hy : (goD code 0 r).out nx = y) (hm : (goD code 0 r).nxt nx = m)
    (hk : k < N) (hN9 : N ≤ 900000) (hb : base ≤ w.heap.size) (hn : n ≤ P) (hnb : n ≤ base) :
    Calls Try.prog 32 #[.pointer (some ⟨P, 0, none⟩), .int .i64 (k : Nat), .int .i64 code] w fun e w' => e = .returned (.tuple #[]) ∧
      BoxAt w' P 39 (PaV.cells { q with nx := m }).toArray ∧ OP w' base (.slice (some ⟨g, 0, none⟩) L.length cap) (L.set k y) ∧ TwoT g P w w' ∧ Below n w w' := by
  have hcap : L.length ≤ cap ∧ cap ≤ 9223372036854775807 := by
    obtain ⟨g', cap', e, _, _, h1, h2⟩ := OP.form hop (by omega)
    simp only [Value.slice.injEq] at e
    omega
  have HP := hid (PW.start hop (show k < L.length by omega))
  have HX := hid (OP.at hop k (by omega))
  rw [hr] at HP HX
  have hgb : base ≤ g ∧ g < w.heap.size := by obtain ⟨_, _, h1, h2⟩ := HP.out.box; exact ⟨h1, h2⟩
  have hPs : P < w.heap.size := hq.lt
  have hnp : P ≠ g := by
    obtain ⟨cs, b0, _, _⟩ := HP.out.box
    exact box_ne hq b0 (by decide)
  have HSl := hid hs
  have HNx := hid hnx
  have HG := hid (show goP { Pa.zero with pr := [r], nx := nx } 0 code 0 = { Pa.zero with pr := [y], nx := m } from by rw [go_alone, hy, hm])
  have k2 : w.drew.cell? ⟨P, 2, none⟩ = some (.int .i64 nx) := (BoxAt.cell hq 2).trans (by show some (Value.int .i64 q.nx) = _; rw [HNx.out])
  have k4 : w.drew.cell? ⟨P, 4, none⟩ = some (.slice (some ⟨g, 0, none⟩) N cap) := (BoxAt.cell hq 4).trans (by show some q.pr.val = _; rw [HSl.out]; rfl)
  have PB := hid hq
  have HLN := hid hL
  rw [hL] at hcap
  have HW := hid ((Below.refl w.heap.size w).drew)
  have HB := hid ((Below.refl n w).drew)
  have PB := hid (BoxAt.drew PB.out)
  have HP := hid (HP.out.below ((Below.refl w.heap.size w).drew))
  have HX := hid (HX.out.below ((Below.refl w.heap.size w).drew) hgb.2)
  have hds : w.drew.heap.size = w.heap.size := rfl
  clear hq hs hop hr hnx hy hm hL
  go_enter Try.func32, Try.ntmps32
  go_wp2_with fail
  have hwk : IntKind.i64.wrap ((k : Int) + 1) = (k : Int) + 1 := by rw [IntKind.wrap_i64]; omega
  have hwn : ((k : Int) + 1).toNat = k + 1 := by omega
  have hwp : (0 : Int) ≤ (k : Int) + 1 ∧ (k : Int) + 1 ≤ (cap : Int) := by omega
  have hwq : k ≤ k + 1 := by omega
  have hck : ¬ cap = k := by omega
  have hn1 : k + 1 - k = 1 := by omega
  have hkn : (k : Int) + 1 ≤ (N : Int) := by omega
  have hkc : (k : Int) + 1 ≤ (cap : Int) := by omega
  have hk0 : (0 : Int) ≤ (k : Int) := by omega
  refine wp_region_held_drew (S := (fun W => W.cell? ⟨P, 2, none⟩ = some (.int .i64 nx) ∧ W.cell? ⟨P, 4, none⟩ = some (.slice (some ⟨g, 0, none⟩) N cap))) (by kernel_rfl) (⟨k2, k4⟩) (fun hHeld => ?_)
  refine wpAnyH_take (i := 0) (oi := { dst := some 7, op := Op.move (Operand.tmp 0), type := 86, pos := "times.go:108", after := #[], guard := none }) (v := ?v1) rfl (by kernel_rfl) (by kernel_rfl) (by kernel_rfl) (fun _ _ _ h => h) (Or.inl ⟨by rfl, ?hy1⟩) (by assumption) ?rest1
  case hy1 => (intro w hSw; (try dsimp only at hSw); go_simp; try with_reducible rfl)
  simp only [Act.put, List.setIfInBounds_toArray, List.set_cons_zero, List.set_cons_succ]
  refine wpAnyH_take (i := 1) (oi := { dst := some 8, op := Op.nilCheck (Operand.tmp 7), type := 0, pos := "times.go:108", after := #[{ on := 0, ground := Ground.data }], guard := none }) (v := ?v2) rfl (by kernel_rfl) (by kernel_rfl) (by kernel_rfl) (fun _ _ _ h => h) (Or.inl ⟨by rfl, ?hy2⟩) (by assumption) ?rest2
  case hy2 => (intro w hSw; (try dsimp only at hSw); go_simp; try with_reducible rfl)
  simp only [Act.put, List.setIfInBounds_toArray, List.set_cons_zero, List.set_cons_succ]
  refine wpAnyH_take (i := 2) (oi := { dst := some 9, op := Op.fieldAddr 39 (Operand.tmp 8) 2, type := 0, pos := "times.go:108", after := #[{ on := 1, ground := Ground.data }], guard := none }) (v := ?v3) rfl (by kernel_rfl) (by kernel_rfl) (by kernel_rfl) (fun _ _ _ h => h) (Or.inl ⟨by rfl, ?hy3⟩) (by assumption) ?rest3
  case hy3 => (intro w hSw; (try dsimp only at hSw); go_simp; try with_reducible rfl)
  simp only [Act.put, List.setIfInBounds_toArray, List.set_cons_zero, List.set_cons_succ]
  refine wpAnyH_take (i := 3) (oi := { dst := some 10, op := Op.load 3 (Operand.tmp 9), type := 3, pos := "times.go:108", after := #[{ on := 2, ground := Ground.data }], guard := none }) (v := ?v4) rfl (by kernel_rfl) (by kernel_rfl) (by kernel_rfl) (fun _ _ _ h => h) (Or.inl ⟨by rfl, ?hy4⟩) (by assumption) ?rest4
  case hy4 => (intro W hSw; obtain ⟨s1, s2⟩ := hSw; go_simp; try with_reducible rfl)
  simp only [Act.put, List.setIfInBounds_toArray, List.set_cons_zero, List.set_cons_succ]
  refine wpAnyH_take (i := 4) (oi := { dst := some 11, op := Op.move (Operand.tmp 0), type := 86, pos := "times.go:108", after := #[], guard := none }) (v := ?v5) rfl (by kernel_rfl) (by kernel_rfl) (by kernel_rfl) (fun _ _ _ h => h) (Or.inl ⟨by rfl, ?hy5⟩) (by assumption) ?rest5
  case hy5 => (intro w hSw; (try dsimp only at hSw); go_simp; try with_reducible rfl)
  simp only [Act.put, List.setIfInBounds_toArray, List.set_cons_zero, List.set_cons_succ]
  refine wpAnyH_take (i := 5) (oi := { dst := some 12, op := Op.nilCheck (Operand.tmp 11), type := 0, pos := "times.go:108", after := #[{ on := 4, ground := Ground.data }], guard := none }) (v := ?v6) rfl (by kernel_rfl) (by kernel_rfl) (by kernel_rfl) (fun _ _ _ h => h) (Or.inl ⟨by rfl, ?hy6⟩) (by assumption) ?rest6
  case hy6 => (intro w hSw; (try dsimp only at hSw); go_simp; try with_reducible rfl)
  simp only [Act.put, List.setIfInBounds_toArray, List.set_cons_zero, List.set_cons_succ]
  refine wpAnyH_take (i := 6) (oi := { dst := some 13, op := Op.fieldAddr 39 (Operand.tmp 12) 4, type := 0, pos := "times.go:108", after := #[{ on := 5, ground := Ground.data }], guard := none }) (v := ?v7) rfl (by kernel_rfl) (by kernel_rfl) (by kernel_rfl) (fun _ _ _ h => h) (Or.inl ⟨by rfl, ?hy7⟩) (by assumption) ?rest7
  case hy7 => (intro w hSw; (try dsimp only at hSw); go_simp; try with_reducible rfl)
  simp only [Act.put, List.setIfInBounds_toArray, List.set_cons_zero, List.set_cons_succ]
  refine wpAnyH_take (i := 7) (oi := { dst := some 14, op := Op.load 29 (Operand.tmp 13), type := 29, pos := "times.go:108", after := #[{ on := 6, ground := Ground.data }], guard := none }) (v := ?v8) rfl (by kernel_rfl) (by kernel_rfl) (by kernel_rfl) (fun _ _ _ h => h) (Or.inl ⟨by rfl, ?hy8⟩) (by assumption) ?rest8
  case hy8 => (intro W hSw; obtain ⟨s1, s2⟩ := hSw; go_simp; try with_reducible rfl)
  simp only [Act.put, List.setIfInBounds_toArray, List.set_cons_zero, List.set_cons_succ]
  refine wpAnyH_take (i := 8) (oi := { dst := some 15, op := Op.move (Operand.tmp 1), type := 3, pos := "times.go:108", after := #[], guard := none }) (v := ?v9) rfl (by kernel_rfl) (by kernel_rfl) (by kernel_rfl) (fun _ _ _ h => h) (Or.inl ⟨by rfl, ?hy9⟩) (by assumption) ?rest9
  case hy9 => (intro w hSw; (try dsimp only at hSw); go_simp; try with_reducible rfl)
  simp only [Act.put, List.setIfInBounds_toArray, List.set_cons_zero, List.set_cons_succ]
  refine wpAnyH_take (i := 9) (oi := { dst := some 16, op := Op.move (Operand.tmp 1), type := 3, pos := "times.go:108", after := #[], guard := none }) (v := ?v10) rfl (by kernel_rfl) (by kernel_rfl) (by kernel_rfl) (fun _ _ _ h => h) (Or.inl ⟨by rfl, ?hy10⟩) (by assumption) ?rest10
  case hy10 => (intro w hSw; (try dsimp only at hSw); go_simp; try with_reducible rfl)
  simp only [Act.put, List.setIfInBounds_toArray, List.set_cons_zero, List.set_cons_succ]
  refine wpAnyH_take (i := 10) (oi := { dst := some 17, op := Op.binOp BinOp.add 3 (Operand.tmp 16) (Operand.const (Value.int IntKind.i64 1)) 3, type := 3, pos := "times.go:108", after := #[{ on := 9, ground := Ground.data }], guard := none }) (v := ?v11) rfl (by kernel_rfl) (by kernel_rfl) (by kernel_rfl) (fun _ _ _ h => h) (Or.inl ⟨by rfl, ?hy11⟩) (by assumption) ?rest11
  case hy11 => (intro w hSw; (try dsimp only at hSw); go_simp; try with_reducible rfl)
  simp only [Act.put, List.setIfInBounds_toArray, List.set_cons_zero, List.set_cons_succ]
  refine wpAnyH_take (i := 11) (oi := { dst := some 18, op := Op.slice 29 (Operand.tmp 14) (some (Operand.tmp 15)) (some (Operand.tmp 17)) none, type := 29, pos := "times.go:108", after := #[{ on := 7, ground := Ground.data }, { on := 8, ground := Ground.data }, { on := 10, ground := Ground.data }], guard := none }) (v := ?v12) rfl (by kernel_rfl) (by kernel_rfl) (by kernel_rfl) (fun _ _ _ h => h) (Or.inl ⟨by rfl, ?hy12⟩) (by assumption) ?rest12
  case hy12 => (intro w hSw; (try dsimp only at hSw); go_simp; try with_reducible rfl)
  simp only [Act.put, List.setIfInBounds_toArray, List.set_cons_zero, List.set_cons_succ]
  refine wpAnyH_take (i := 12) (oi := { dst := some 19, op := Op.build 39 #[(2, Operand.tmp 10), (4, Operand.tmp 18)], type := 39, pos := "times.go:108", after := #[{ on := 3, ground := Ground.data }, { on := 11, ground := Ground.data }], guard := none }) (v := ?v13) rfl (by kernel_rfl) (by kernel_rfl) (by kernel_rfl) (fun _ _ _ h => h) (Or.inl ⟨by rfl, ?hy13⟩) (by assumption) ?rest13
  case hy13 => (intro w hSw; (try dsimp only at hSw); go_simp; try with_reducible rfl)
  simp only [Act.put, List.setIfInBounds_toArray, List.set_cons_zero, List.set_cons_succ]
  refine wpAnyH_ready (rs := [13]) (by kernel_rfl) (by simp) (AllReadyH.cons (o := { dst := some 6, op := Op.alloc 39, type := 0, pos := "times.go:108", after := #[], guard := none }) rfl (fun K14 hK14 => ?_) AllReadyH.nil)
  refine wp_new 39 rfl _ Try.zeroPa ?_
  intro v1 b hb1 z
  have AB := hid (show BoxAt v1 w.drew.heap.size 39 (PaV.cells PaV.zero).toArray from b)
  have PB := hid (PB.out.belowAll hb1)
  have HP := hid (HP.out.below hb1)
  have HX := hid (HX.out.below hb1 hgb.2)
  have HW := hid (HW.out.trans hb1)
  have HB := hid (HB.out.trans (hb1.mono (by omega)))
  have hs1 : w.heap.size + 1 ≤ v1.heap.size := by omega
  clear b hb1 z
  refine hK14.out _ _ (⟨(BoxAt.cell PB.out 2).trans (by show some (Value.int .i64 q.nx) = _; rw [HNx.out]), (BoxAt.cell PB.out 4).trans (by show some q.pr.val = _; rw [HSl.out]; rfl)⟩) (fun hHeld14 => ?_)
  clear hK14 K14
  try simp only [Act.put, List.setIfInBounds_toArray, List.set_cons_zero, List.set_cons_succ]
  refine wpAnyH_ready (rs := [14]) (by kernel_rfl) (by simp) (AllReadyH.cons (o := { dst := none, op := Op.store 39 (Operand.tmp 6) (Operand.tmp 19), type := 0, pos := "times.go:108", after := #[{ on := 13, ground := Ground.data }, { on := 12, ground := Ground.data }, { on := 0, ground := Ground.phase }, { on := 1, ground := Ground.phase }, { on := 2, ground := Ground.phase }, { on := 3, ground := Ground.phase }, { on := 4, ground := Ground.phase }, { on := 5, ground := Ground.phase }, { on := 6, ground := Ground.phase }, { on := 7, ground := Ground.phase }, { on := 8, ground := Ground.phase }, { on := 9, ground := Ground.phase }, { on := 10, ground := Ground.phase }, { on := 11, ground := Ground.phase }, { on := 12, ground := Ground.phase }, { on := 13, ground := Ground.phase }], guard := none }) rfl (fun K15 hK15 => ?_) AllReadyH.nil)
  obtain ⟨qa, hqa⟩ : ∃ qa : PaV, { PaV.zero with nx := nx, pr := ⟨some ⟨g, k * 18, none⟩, 1, cap - k⟩ } = qa := ⟨_, rfl⟩
  have HQa := hid hqa
  clear hqa
  refine wp_store_whole 39 _ _ rfl w.drew.heap.size rfl (PaV.cells qa) (by rw [← HQa.out]; rfl) _ _ AB.out rfl Try.infoPa (PaV.one _) ?_
  intro v2 b g2 z
  have hb2 : Below w.heap.size v1 v2 := grown_below g2 (Nat.le_refl _) (by omega)
  have HW := hid (HW.out.trans hb2)
  have HB := hid (HB.out.trans (hb2.mono (by omega)))
  have HP := hid (HP.out.grown g2 (by omega))
  have HX := hid (HX.out.below hb2 hgb.2)
  have PB := hid (PB.out.grown g2 (fun e => by have := Option.some.inj e; omega))
  have AB := hid (show BoxAt v2 w.drew.heap.size 39 (PaV.cells qa).toArray from b)
  have hs2 : w.heap.size + 1 ≤ v2.heap.size := by omega
  clear b g2 z hb2
  refine hK15.out _ _ (⟨(BoxAt.cell PB.out 2).trans (by show some (Value.int .i64 q.nx) = _; rw [HNx.out]), (BoxAt.cell PB.out 4).trans (by show some q.pr.val = _; rw [HSl.out]; rfl)⟩) (fun hHeld15 => ?_)
  clear hK15 K15
  try simp only [Act.put]
  refine wpAnyH_done (by kernel_rfl) ?_ _
  clear hHeld hHeld14 hHeld15
  clear hds k2 k4 hwk hwn hwp hwq hck hn1 hkn hkc hk0
  have AB := hid (show BoxAt v2 w.heap.size 39 (PaV.cells qa).toArray from AB.out)
  go_wp2_with (first
    | (refine wpList_load_box rfl 39 _ rfl w.heap.size rfl _ _ AB.out _ Try.underlying39 Try.infoPa ?_)
    | fail)
  have HPa := hid (show PaAt v2 qa { Pa.zero with pr := [r], nx := nx } from by
    rw [← HQa.out]
    exact ⟨rfl, rfl, rfl, Sees.nil _ _, SeesPx.one (show 1 ≤ cap - k by omega) (show cap - k ≤ 9223372036854775807 by omega) HX.out, LBd.nil _, LBf.nil _, LSe.nil _, LEv.nil _, SeesSp.nil _, LQu.nil _, rfl, Sees.nil _ _, rfl, Sees.nil _ _⟩)
  refine (go_api (k := ⟨0, code, 0⟩) HPa.out ⟨by simp [Pa.zero], by simp, by simp [Pa.zero], by simp [Pa.zero], by simp [Pa.zero], by simp [Pa.zero], by simp [Pa.zero], by simp [Pa.zero], by simp [Pa.zero], by simp [Pa.zero], fun x hx => by simp [Pa.zero] at hx, fun x hx => by simp [Pa.zero] at hx, fun x hx => by simp [Pa.zero] at hx, fun x hx => by simp [Pa.zero] at hx, fun x hx => by simp [Pa.zero] at hx⟩).mono ?_
  rintro e v3 ⟨q2, rfl, ho, hb⟩
  rw [HG.out] at ho
  obtain ⟨g2, cap2, hv2, hg2, hg3, hc1, hc2⟩ := OP.form ho.pr (by simp)
  have hop2 := ho.pr
  rw [hv2] at hop2
  have HY2 := hid (OP.at (show OP v3 v2.heap.size (.slice (some ⟨g2, 0, none⟩) [y].length cap2) [y] from hop2) 0 (by simp))
  have HM2 := hid ho.nx
  have HV2 := hid hv2
  have HW := hid (HW.out.trans (hb.mono (by omega)))
  have HB := hid (HB.out.trans (hb.mono (by omega)))
  have HP := hid (HP.out.below hb)
  have PB := hid (PB.out.belowAll hb)
  have AB := hid (AB.out.belowAll hb)
  have hs3 : v2.heap.size ≤ v3.heap.size := hb.size
  clear ho hv2 hop2 hb HPa HX HG HQa
  have hag : w.heap.size ≠ g := by omega
  have hap : w.heap.size ≠ P := by omega
  have hg2w : w.heap.size < g2 := by omega
  have hg2g : g2 ≠ g := by omega
  have hg2p : g2 ≠ P := by omega
  have hag2 : w.heap.size ≠ g2 := by omega
  go_wp2_with (first
    | (refine wpList_store_whole rfl 39 _ _ rfl rfl w.heap.size rfl (PaV.cells q2) rfl _ _ AB.out rfl Try.infoPa (PaV.one _) ?_
       intro v4 b gr z
       have hb4 : Below n v3 v4 := grown_below gr (by omega) (by omega)
       have HW := hid (HW.out.trans (grown_below gr (Nat.le_refl _) (by omega)))
       have HB := hid (HB.out.trans hb4)
       have HP := hid (HP.out.grown gr hag)
       have PB := hid (PB.out.grown gr (fun e => hap (Option.some.inj e).symm))
       have HY2 := hid (show PxAt v4 g2 0 y from fun j hj => (cell_grown gr (fun e => hag2 (Option.some.inj e)) (p := ⟨g2, 0 + j, none⟩) hg3).trans (HY2.out j hj))
       have AB := hid (show BoxAt v4 w.heap.size 39 (PaV.cells q2).toArray from b)
       have hs4 : v3.heap.size ≤ v4.heap.size := by omega
       clear b gr z hb4)
    | fail)
  have k4 : v4.drew.cell? ⟨P, 4, none⟩ = some (.slice (some ⟨g, 0, none⟩) N cap) := (BoxAt.cell PB.out 4).trans (by show some q.pr.val = _; rw [HSl.out]; rfl)
  have a4 : v4.drew.cell? ⟨w.heap.size, 4, none⟩ = some (.slice (some ⟨g2, 0, none⟩) 1 cap2) := (BoxAt.cell AB.out 4).trans (by show some q2.pr.val = _; rw [HV2.out]; rfl)
  have a2 : v4.drew.cell? ⟨w.heap.size, 2, none⟩ = some (.int .i64 m) := (BoxAt.cell AB.out 2).trans (by show some (Value.int .i64 q2.nx) = _; rw [HM2.out])
  have a9 : PxAt v4.drew g2 0 y := HY2.out.below ((Below.refl v4.heap.size v4).drew) (by omega)
  have HT := hid (TwoT.below (g := g) (P := P) HW.out.drew)
  have HB := hid HB.out.drew
  have HP := hid (HP.out.below ((Below.refl v4.heap.size v4).drew))
  have PB := hid (BoxAt.drew PB.out)
  have AB := hid (BoxAt.drew AB.out)
  have HY2 := hid a9
  have hg4 : g2 < v4.drew.heap.size := by show g2 < v4.heap.size; omega
  have hkn : (k : Int) < (N : Int) := by omega
  have hc0 : (0 : Int) < (1 : Int) := by omega
  refine wp_region_held_drew (S := (fun W => W.cell? ⟨P, 4, none⟩ = some (.slice (some ⟨g, 0, none⟩) N cap) ∧ W.cell? ⟨w.heap.size, 4, none⟩ = some (.slice (some ⟨g2, 0, none⟩) 1 cap2) ∧ W.cell? ⟨w.heap.size, 2, none⟩ = some (.int .i64 m) ∧ PxAt W g2 0 y)) (by kernel_rfl) (⟨k4, a4, a2, a9⟩) (fun hHeld => ?_)
  refine wpAnyH_take (i := 0) (oi := { dst := some 24, op := Op.move (Operand.tmp 0), type := 86, pos := "times.go:110", after := #[], guard := none }) (v := ?v101) rfl (by kernel_rfl) (by kernel_rfl) (by kernel_rfl) (fun _ _ _ h => h) (Or.inl ⟨by rfl, ?hy101⟩) (by assumption) ?rest101
  case hy101 => (intro w hSw; (try dsimp only at hSw); go_simp; try with_reducible rfl)
  simp only [Act.put, List.setIfInBounds_toArray, List.set_cons_zero, List.set_cons_succ]
  refine wpAnyH_take (i := 1) (oi := { dst := some 25, op := Op.nilCheck (Operand.tmp 24), type := 0, pos := "times.go:110", after := #[{ on := 0, ground := Ground.data }], guard := none }) (v := ?v102) rfl (by kernel_rfl) (by kernel_rfl) (by kernel_rfl) (fun _ _ _ h => h) (Or.inl ⟨by rfl, ?hy102⟩) (by assumption) ?rest102
  case hy102 => (intro w hSw; (try dsimp only at hSw); go_simp; try with_reducible rfl)
  simp only [Act.put, List.setIfInBounds_toArray, List.set_cons_zero, List.set_cons_succ]
  refine wpAnyH_take (i := 2) (oi := { dst := some 26, op := Op.fieldAddr 39 (Operand.tmp 25) 4, type := 0, pos := "times.go:110", after := #[{ on := 1, ground := Ground.data }], guard := none }) (v := ?v103) rfl (by kernel_rfl) (by kernel_rfl) (by kernel_rfl) (fun _ _ _ h => h) (Or.inl ⟨by rfl, ?hy103⟩) (by assumption) ?rest103
  case hy103 => (intro w hSw; (try dsimp only at hSw); go_simp; try with_reducible rfl)
  simp only [Act.put, List.setIfInBounds_toArray, List.set_cons_zero, List.set_cons_succ]
  refine wpAnyH_take (i := 3) (oi := { dst := some 27, op := Op.load 29 (Operand.tmp 26), type := 29, pos := "times.go:110", after := #[{ on := 2, ground := Ground.data }], guard := none }) (v := ?v104) rfl (by kernel_rfl) (by kernel_rfl) (by kernel_rfl) (fun _ _ _ h => h) (Or.inl ⟨by rfl, ?hy104⟩) (by assumption) ?rest104
  case hy104 => (intro w hSw; obtain ⟨s1, s2, s3, s4⟩ := hSw; go_simp; try with_reducible rfl)
  simp only [Act.put, List.setIfInBounds_toArray, List.set_cons_zero, List.set_cons_succ]
  refine wpAnyH_take (i := 4) (oi := { dst := some 28, op := Op.move (Operand.tmp 1), type := 3, pos := "times.go:110", after := #[], guard := none }) (v := ?v105) rfl (by kernel_rfl) (by kernel_rfl) (by kernel_rfl) (fun _ _ _ h => h) (Or.inl ⟨by rfl, ?hy105⟩) (by assumption) ?rest105
  case hy105 => (intro w hSw; (try dsimp only at hSw); go_simp; try with_reducible rfl)
  simp only [Act.put, List.setIfInBounds_toArray, List.set_cons_zero, List.set_cons_succ]
  refine wpAnyH_take (i := 5) (oi := { dst := some 29, op := Op.move (Operand.tmp 0), type := 86, pos := "times.go:110", after := #[{ on := 13, ground := Ground.gcOnly Departure.lateStores }], guard := none }) (v := ?v106) rfl (by kernel_rfl) (by kernel_rfl) (by kernel_rfl) (fun _ _ _ h => h) (Or.inl ⟨by rfl, ?hy106⟩) (by assumption) ?rest106
  case hy106 => (intro w hSw; (try dsimp only at hSw); go_simp; try with_reducible rfl)
  simp only [Act.put, List.setIfInBounds_toArray, List.set_cons_zero, List.set_cons_succ]
  refine wpAnyH_take (i := 6) (oi := { dst := some 30, op := Op.fieldAddr 39 (Operand.tmp 6) 4, type := 0, pos := "times.go:110", after := #[], guard := none }) (v := ?v107) rfl (by kernel_rfl) (by kernel_rfl) (by kernel_rfl) (fun _ _ _ h => h) (Or.inl ⟨by rfl, ?hy107⟩) (by assumption) ?rest107
  case hy107 => (intro w hSw; (try dsimp only at hSw); go_simp; try with_reducible rfl)
  simp only [Act.put, List.setIfInBounds_toArray, List.set_cons_zero, List.set_cons_succ]
  refine wpAnyH_take (i := 7) (oi := { dst := some 31, op := Op.load 29 (Operand.tmp 30), type := 29, pos := "times.go:110", after := #[{ on := 6, ground := Ground.data }], guard := none }) (v := ?v108) rfl (by kernel_rfl) (by kernel_rfl) (by kernel_rfl) (fun _ _ _ h => h) (Or.inl ⟨by rfl, ?hy108⟩) (by assumption) ?rest108
  case hy108 => (intro w hSw; obtain ⟨s1, s2, s3, s4⟩ := hSw; go_simp; try with_reducible rfl)
  simp only [Act.put, List.setIfInBounds_toArray, List.set_cons_zero, List.set_cons_succ]
  refine wpAnyH_take (i := 8) (oi := { dst := some 32, op := Op.indexAddr 29 (Operand.tmp 31) (Operand.const (Value.int IntKind.i64 0)), type := 0, pos := "times.go:110", after := #[{ on := 7, ground := Ground.data }], guard := none }) (v := ?v109) rfl (by kernel_rfl) (by kernel_rfl) (by kernel_rfl) (fun _ _ _ h => h) (Or.inl ⟨by rfl, ?hy109⟩) (by assumption) ?rest109
  case hy109 => (intro w hSw; (try dsimp only at hSw); go_simp; try with_reducible rfl)
  simp only [Act.put, List.setIfInBounds_toArray, List.set_cons_zero, List.set_cons_succ]
  refine wpAnyH_take (i := 9) (oi := { dst := some 33, op := Op.load 57 (Operand.tmp 32), type := 57, pos := "times.go:110", after := #[{ on := 8, ground := Ground.data }], guard := none }) (v := ?v110) rfl (by kernel_rfl) (by kernel_rfl) (by kernel_rfl) (fun _ _ _ h => h) (Or.inl ⟨by rfl, ?hy110⟩) (by assumption) ?rest110
  case hy110 => (intro w hSw; refine px_yields (.tmp 32) ?_ g2 0 ?_ y hSw.2.2.2 <;> rfl)
  simp only [Act.put, List.setIfInBounds_toArray, List.set_cons_zero, List.set_cons_succ]
  refine wpAnyH_take (i := 10) (oi := { dst := some 34, op := Op.fieldAddr 39 (Operand.tmp 6) 2, type := 0, pos := "times.go:110", after := #[{ on := 13, ground := Ground.gcOnly Departure.lateStores }], guard := none }) (v := ?v111) rfl (by kernel_rfl) (by kernel_rfl) (by kernel_rfl) (fun _ _ _ h => h) (Or.inl ⟨by rfl, ?hy111⟩) (by assumption) ?rest111
  case hy111 => (intro w hSw; (try dsimp only at hSw); go_simp; try with_reducible rfl)
  simp only [Act.put, List.setIfInBounds_toArray, List.set_cons_zero, List.set_cons_succ]
  refine wpAnyH_take (i := 11) (oi := { dst := some 35, op := Op.load 3 (Operand.tmp 34), type := 3, pos := "times.go:110", after := #[{ on := 10, ground := Ground.data }, { on := 13, ground := Ground.gcOnly Departure.lateStores }], guard := none }) (v := ?v112) rfl (by kernel_rfl) (by kernel_rfl) (by kernel_rfl) (fun _ _ _ h => h) (Or.inl ⟨by rfl, ?hy112⟩) (by assumption) ?rest112
  case hy112 => (intro w hSw; obtain ⟨s1, s2, s3, s4⟩ := hSw; go_simp; try with_reducible rfl)
  simp only [Act.put, List.setIfInBounds_toArray, List.set_cons_zero, List.set_cons_succ]
  refine wpAnyH_take (i := 12) (oi := { dst := some 36, op := Op.indexAddr 29 (Operand.tmp 27) (Operand.tmp 28), type := 0, pos := "times.go:110", after := #[{ on := 3, ground := Ground.data }, { on := 4, ground := Ground.data }, { on := 0, ground := Ground.phase }, { on := 1, ground := Ground.phase }, { on := 2, ground := Ground.phase }, { on := 3, ground := Ground.phase }, { on := 4, ground := Ground.phase }, { on := 5, ground := Ground.textOnly Departure.lateStores }, { on := 6, ground := Ground.phase }, { on := 7, ground := Ground.phase }, { on := 8, ground := Ground.phase }, { on := 9, ground := Ground.phase }, { on := 10, ground := Ground.textOnly Departure.lateStores }, { on := 11, ground := Ground.textOnly Departure.lateStores }], guard := none }) (v := ?v113) rfl (by kernel_rfl) (by kernel_rfl) (by kernel_rfl) (fun _ _ _ h => h) (Or.inl ⟨by rfl, ?hy113⟩) (by assumption) ?rest113
  case hy113 => (intro w hSw; (try dsimp only at hSw); go_simp; try with_reducible rfl)
  simp only [Act.put, List.setIfInBounds_toArray, List.set_cons_zero, List.set_cons_succ]
  refine wpAnyH_ready (rs := [13]) (by kernel_rfl) (by simp) (AllReadyH.cons (o := { dst := none, op := Op.store 57 (Operand.tmp 36) (Operand.tmp 33), type := 0, pos := "times.go:110", after := #[{ on := 12, ground := Ground.data }, { on := 9, ground := Ground.data }, { on := 0, ground := Ground.phase }, { on := 1, ground := Ground.phase }, { on := 2, ground := Ground.phase }, { on := 3, ground := Ground.phase }, { on := 4, ground := Ground.phase }, { on := 5, ground := Ground.textOnly Departure.lateStores }, { on := 6, ground := Ground.phase }, { on := 7, ground := Ground.phase }, { on := 8, ground := Ground.phase }, { on := 9, ground := Ground.phase }, { on := 10, ground := Ground.textOnly Departure.lateStores }, { on := 11, ground := Ground.textOnly Departure.lateStores }], guard := none }) rfl (fun K114 hK114 => ?_) AllReadyH.nil)
  refine wp_stores_pw _ _ rfl HP.out rfl y rfl ?_
  intro v5 hp gr z
  have HT := hid (HT.out.trans (pw_two HP.out hp gr))
  have HB := hid (HB.out.trans (grown_below gr (by omega) (by show n ≤ v4.heap.size; omega)))
  have PB := hid (PB.out.grown gr (fun e => hnp (Option.some.inj e)))
  have AB := hid (AB.out.grown gr (fun e => hag (Option.some.inj e)))
  have HY2 := hid (show PxAt v5 g2 0 y from fun j hj => (cell_grown gr (fun e => hg2g (Option.some.inj e).symm) (p := ⟨g2, 0 + j, none⟩) hg4).trans (HY2.out j hj))
  have HP := hid hp
  have hs5 : v4.heap.size ≤ v5.heap.size := by show v4.drew.heap.size ≤ _; omega
  clear hp gr z
  refine hK114.out _ _ (⟨(BoxAt.cell PB.out 4).trans (by show some q.pr.val = _; rw [HSl.out]; rfl), (BoxAt.cell AB.out 4).trans (by show some q2.pr.val = _; rw [HV2.out]; rfl), (BoxAt.cell AB.out 2).trans (by show some (Value.int .i64 q2.nx) = _; rw [HM2.out]), HY2.out⟩) (fun hHeld114 => ?_)
  clear hK114 K114
  try simp only [Act.put]
  refine wpAnyH_take (i := 14) (oi := { dst := some 37, op := Op.nilCheck (Operand.tmp 29), type := 0, pos := "times.go:110", after := #[{ on := 5, ground := Ground.data }, { on := 0, ground := Ground.phase }, { on := 1, ground := Ground.phase }, { on := 2, ground := Ground.phase }, { on := 3, ground := Ground.phase }, { on := 4, ground := Ground.phase }, { on := 5, ground := Ground.phase }, { on := 6, ground := Ground.phase }, { on := 7, ground := Ground.phase }, { on := 8, ground := Ground.phase }, { on := 9, ground := Ground.phase }, { on := 10, ground := Ground.phase }, { on := 11, ground := Ground.phase }, { on := 12, ground := Ground.phase }, { on := 13, ground := Ground.phase }], guard := none }) (v := ?v115) rfl (by kernel_rfl) (by kernel_rfl) (by kernel_rfl) (fun _ _ _ h => h) (Or.inl ⟨by rfl, ?hy115⟩) (by assumption) ?rest115
  case hy115 => (intro w hSw; (try dsimp only at hSw); go_simp; try with_reducible rfl)
  simp only [Act.put, List.setIfInBounds_toArray, List.set_cons_zero, List.set_cons_succ]
  refine wpAnyH_take (i := 15) (oi := { dst := some 38, op := Op.fieldAddr 39 (Operand.tmp 37) 2, type := 0, pos := "times.go:110", after := #[{ on := 14, ground := Ground.data }, { on := 0, ground := Ground.phase }, { on := 1, ground := Ground.phase }, { on := 2, ground := Ground.phase }, { on := 3, ground := Ground.phase }, { on := 4, ground := Ground.phase }, { on := 5, ground := Ground.phase }, { on := 6, ground := Ground.phase }, { on := 7, ground := Ground.phase }, { on := 8, ground := Ground.phase }, { on := 9, ground := Ground.phase }, { on := 10, ground := Ground.phase }, { on := 11, ground := Ground.phase }, { on := 12, ground := Ground.phase }, { on := 13, ground := Ground.phase }], guard := none }) (v := ?v116) rfl (by kernel_rfl) (by kernel_rfl) (by kernel_rfl) (fun _ _ _ h => h) (Or.inl ⟨by rfl, ?hy116⟩) (by assumption) ?rest116
  case hy116 => (intro w hSw; (try dsimp only at hSw); go_simp; try with_reducible rfl)
  simp only [Act.put, List.setIfInBounds_toArray, List.set_cons_zero, List.set_cons_succ]
  refine wpAnyH_ready (rs := [16]) (by kernel_rfl) (by simp) (AllReadyH.cons (o := { dst := none, op := Op.store 3 (Operand.tmp 38) (Operand.tmp 35), type := 0, pos := "times.go:110", after := #[{ on := 15, ground := Ground.data }, { on := 11, ground := Ground.data }, { on := 13, ground := Ground.chain }, { on := 0, ground := Ground.phase }, { on := 1, ground := Ground.phase }, { on := 2, ground := Ground.phase }, { on := 3, ground := Ground.phase }, { on := 4, ground := Ground.phase }, { on := 5, ground := Ground.phase }, { on := 6, ground := Ground.phase }, { on := 7, ground := Ground.phase }, { on := 8, ground := Ground.phase }, { on := 9, ground := Ground.phase }, { on := 10, ground := Ground.phase }, { on := 11, ground := Ground.phase }, { on := 12, ground := Ground.phase }, { on := 13, ground := Ground.phase }], guard := none }) rfl (fun K117 hK117 => ?_) AllReadyH.nil)
  refine wp_store_box 3 _ _ rfl P 2 (.int .i64 m) rfl rfl rfl rfl (by kernel_rfl) _ _ PB.out (by simp [PaV.cells]) ?_
  intro v6 b gr z
  have HT := hid (HT.out.trans (two_box PB.out b gr))
  have HB := hid (HB.out.trans (grown_below gr hn (by omega)))
  have PB := hid (show BoxAt v6 P 39 (PaV.cells { q with nx := m }).toArray by simpa [PaV.cells] using b)
  have AB := hid (AB.out.grown gr (fun e => hap (Option.some.inj e)))
  have HY2 := hid (show PxAt v6 g2 0 y from fun j hj => (cell_grown gr (fun e => hg2p (Option.some.inj e).symm) (p := ⟨g2, 0 + j, none⟩) (show g2 < v5.heap.size by have e4 : v4.drew.heap.size = v4.heap.size := rfl; omega)).trans (HY2.out j hj))
  have HP := hid (HP.out.grown gr hnp)
  clear b gr z
  refine hK117.out _ _ (⟨(BoxAt.cell PB.out 4).trans (by show some q.pr.val = _; rw [HSl.out]; rfl), (BoxAt.cell AB.out 4).trans (by show some q2.pr.val = _; rw [HV2.out]; rfl), (BoxAt.cell AB.out 2).trans (by show some (Value.int .i64 q2.nx) = _; rw [HM2.out]), HY2.out⟩) (fun hHeld117 => ?_)
  clear hK117 K117
  try simp only [Act.put]
  refine wpAnyH_done (by kernel_rfl) ?_ _
  clear hHeld hHeld114 hHeld117
  go_wp2_with fail
  refine bodyPost_end (results_none rfl _ _ _) rfl ?_
  exact ⟨rfl, PB.out, HP.out.stop, HT.out, HB.out⟩

theorem goon_any {w : World} {base P n g cap : Nat} {c : Pa} (k : Nat) (code : Int) (h : UP w base P ⟨some ⟨g, 0, none⟩, c.pr.length, cap⟩ c) (hk : k < c.pr.length) (hsm : c.small) (hb : base ≤ w.heap.size) (hn : n ≤ P) (hnb : n ≤ base) :
    Calls Try.prog 32 #[.pointer (some ⟨P, 0, none⟩), .int .i64 (k : Nat), .int .i64 code] w fun e w' => e = .returned (.tuple #[]) ∧
      UP w' base P ⟨some ⟨g, 0, none⟩, c.pr.length, cap⟩ (goP c (k : Int) code 0) ∧ TwoT g P w w' ∧ Below n w w' := by
  obtain ⟨q, hq, ho, hs⟩ := h
  have hop := ho.pr
  rw [hs] at hop
  refine (goon_core (N := c.pr.length) k code hq hop rfl hs ho.nx rfl rfl rfl hk hsm.pr hb hn hnb).mono ?_
  rintro e w' ⟨rfl, h1, h2, h3, h4⟩
  refine ⟨rfl, ⟨_, h1, ?_, hs⟩, h3, h4⟩
  rw [go_in hk]
  have := ho.procs (S := SP) (by unfold SP; decide) (by unfold SP; decide) (by unfold SP; decide) (by unfold SP; decide) (by unfold SP; decide) (by unfold SP; decide) (by unfold SP; decide) (by unfold SP; decide) h3.t _ ((goD code 0 (c.pr.getD k Px.zero)).nxt c.nx) (by rw [hs]; exact h2)
  exact this
end Go.Proofs.Ytdanfnbclbiidaa
