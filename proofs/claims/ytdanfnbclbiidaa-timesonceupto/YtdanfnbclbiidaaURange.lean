/-
  A range over a function, its rounds told by their numbers: what a round may do with plain contracts, and what lies behind the loop.
-/
import Derived.Test.YtdanfnbclbiidaaLib
import Derived.RangeFuncNested
import Derived.RangeFuncLeaves
import Derived.RangeFuncRecord
import Derived.OrdersHeld
import Derived.OrdersIn
import Derived.TacticsIn
namespace Go.Proofs.Ytdanfnbclbiidaa
open Go.RowKit
set_option linter.unusedVariables false

/-- In a round of loop l nothing is shut out. -/
abbrev RF (l : Nat) : Fence := Fence.wide.inRound l

def noDefer (o : Oper) : Bool := match o.op with | .defer _ => false | _ => true
theorem noDefer_spec {o : Oper} (h : noDefer o = true) : ∀ c, o.op ≠ .defer c := by
  intro c e
  unfold noDefer at h
  rw [e] at h
  cases h
theorem rows_in {P : Program} {row : String} {args : Array Value} {w : World} {R : Value → World → Prop} (l : Nat) (h : Rows P row args w R) : RowsIn (RF l) 0 P row args w R :=
  fun c cs _ => let ⟨v, w', r, s⟩ := h c cs; ⟨v, w', r, stepsIn_wide.2 s⟩
theorem calls_in {P : Program} {f : FuncId} {args : Array Value} {w : World} {R : Ending → World → Prop} (l : Nat) (h : Calls P f args w R) : CallsIn (RF l) 0 P f args w R :=
  CallsIn.inRound l (callsIn_wide.2 h)

/-- One operation, in a round as everywhere. -/
theorem oper_in {P : Program} {o : Oper} {a : Act} {w : World} {K : Act → World → Prop} {Q : Exit → Act → World → Prop} (l : Nat) (hd : noDefer o = true) (h : o.wp P a w K Q) : o.wpIn (RF l) 0 P a w K Q := by
  refine ⟨fun _ _ => trivial, ?_⟩
  rw [show (RF l).round = some l from rfl, Oper.semAt_some l _ _ (noDefer_spec hd)]
  unfold Oper.wp at h
  generalize (execOp a.eval o).run P w = r at h ⊢
  cases r with
  | ok n w' =>
    cases n with
    | enter f args => exact ⟨fun hs => (by cases hs), calls_in l h⟩
    | row rw' args => exact ⟨fun hs => (by cases hs), rows_in l h⟩
    | round _ _ _ _ _ => exact h.elim
    | _ => exact h
  | halt x w' => cases x <;> exact h

/-- How a walk in a round may not end. -/
def Shut (Q : Exit → Act → World → Prop) : Prop := ¬ LetsOut Q
theorem shut_then {K : Act → World → Prop} {Q : Exit → Act → World → Prop} (h : Shut Q) : Shut (Exit.then K Q) := fun ⟨a, w, q⟩ => h ⟨a, w, q⟩
theorem shut_block {id : Nat} {Q : Exit → Act → World → Prop} (h : Shut Q) : Shut (Exit.inBlock id Q) := fun ⟨a, w, q⟩ => h ⟨a, w, q⟩
theorem shut_normal {K : Act → World → Prop} : Shut (Exit.then K (fun _ _ _ => False)) := fun ⟨_, _, q⟩ => q

theorem list_in {P : Program} {ops : Array Oper} {Q : Exit → Act → World → Prop} (l : Nat) (hQ : Shut Q) : ∀ (rest : List Oper), rest.all noDefer = true → ∀ a w, wpList P ops Q rest a w → wpListIn (RF l) 0 P ops Q rest a w
  | [], _, a, w, h => h
  | o :: rest, hd, a, w, h => by
    simp only [List.all_cons, Bool.and_eq_true] at hd
    unfold wpList at h
    unfold wpListIn
    split
    · rename_i hw
      rw [if_pos hw] at h
      rcases h with h | ⟨_, h⟩
      · exact oper_in l hd.1 (Oper.wp_mono (fun a w => list_in l hQ rest hd.2 a w) h)
      · exact absurd h hQ
    · rename_i hw
      rw [if_neg hw] at h
      exact ⟨fun _ _ => trivial, list_in l hQ rest hd.2 _ _ h⟩
/-- A region, in a round as everywhere. -/
theorem region_in {P : Program} {id : Nat} {ops : List Oper} {Q : Exit → Act → World → Prop} {a : Act} {w : World} (l : Nat) (hd : ops.all noDefer = true) (hQ : Shut Q) (h : wpList P ops.toArray Q ops a w) :
    (Code.region id ops.toArray false).wpIn (RF l) 0 P Q a w := wpIn_region_lit (list_in l hQ ops hd a w h)
theorem seq_in {P : Program} {id : Nat} {ops : List Oper} {y : Code} {Q : Exit → Act → World → Prop} {a : Act} {w : World} (l : Nat) (hd : ops.all noDefer = true) (hQ : Shut Q) (h : ∀ K : Act → World → Prop, (∀ a w, y.wpIn (RF l) 0 P Q a w → K a w) → wpList P ops.toArray (Exit.then K Q) ops a w) :
    (Code.seq (Code.region id ops.toArray false) y).wpIn (RF l) 0 P Q a w := wpIn_seq_k fun K hK => region_in l hd (shut_then hQ) (h K hK)

theorem any_in {P : Program} {md : Region.Mode} {ops : Array Oper} {Q : Exit → Act → World → Prop} (l : Nat) (hQ : Shut Q) (hd : ops.toList.all noDefer = true) : ∀ (fuel : Nat) (listed : Array Bool) (a : Act) (w : World),
    wpAny P md ops Q fuel listed a w → wpAnyIn (RF l) 0 P md ops Q fuel listed a w
  | 0, _, _, _, h => h
  | fuel + 1, listed, a, w, h => by
    refine ⟨h.1, fun i hi => ?_⟩
    have h1 := h.2 i hi
    unfold wpOp at h1
    unfold wpOpIn
    cases ho : ops[i]? with
    | none => rw [ho] at h1; exact any_in l hQ hd fuel _ _ _ h1
    | some o =>
      rw [ho] at h1
      simp only at h1 ⊢
      have hdo : noDefer o = true := List.all_eq_true.1 hd o (by
        have := Array.mem_of_getElem? ho
        simpa using this)
      split
      · rename_i hw
        rw [if_pos hw] at h1
        rcases h1 with h1 | ⟨_, h1⟩
        · exact oper_in l hdo (Oper.wp_mono (fun a w => any_in l hQ hd fuel _ a w) h1)
        · exact absurd h1 hQ
      · rename_i hw
        rw [if_neg hw] at h1
        exact ⟨fun _ _ => trivial, any_in l hQ hd fuel _ _ _ h1⟩
/-- A region that draws its order. -/
theorem drawn_in {P : Program} {id : Nat} {ops : Array Oper} {Q : Exit → Act → World → Prop} {a : Act} {w : World} {S : World → Prop} (l : Nat) (hm : P.follows .mixedOrders = true) (hd : ops.toList.all noDefer = true) (hQ : Shut Q)
    (h : wpAnyH P .any ops Q S ops.size (Array.replicate ops.size false) a { w with drawn := w.drawn + 1 }) : (Code.region id ops true).wpIn (RF l) 0 P Q a w :=
  wpIn_region_any hm (any_in l hQ hd _ _ _ _ (wpAny_of_held _ _ _ _ h))

theorem drawn_in_drew {P : Program} {id : Nat} {ops : Array Oper} {Q : Exit → Act → World → Prop} {a : Act} {w : World} {S : World → Prop} (l : Nat) (hm : P.follows .mixedOrders = true) (hd : ops.toList.all noDefer = true) (hQ : Shut Q) (hS : S w.drew)
    (h : S w.drew → wpAnyH P .any ops Q S ops.size (Array.replicate ops.size false) a w.drew) : (Code.region id ops true).wpIn (RF l) 0 P Q a w := drawn_in l hm hd hQ (h hS)

/-- What cells there were lie as they lay. -/
structure KeptC (w w' : World) : Prop where
  size : w.heap.size ≤ w'.heap.size
  cells : ∀ (k : Nat) cs t fr, w.heap[k]? = some (.cells cs t fr) → w'.heap[k]? = some (.cells cs t fr)
theorem KeptC.below {w w' : World} (h : Below w.heap.size w w') : KeptC w w' :=
  ⟨h.size, fun k cs t fr e => (h.block k (Array.getElem?_eq_some_iff.1 e).1).trans e⟩
theorem KeptC.put {w : World} {l : Nat} {o : Obj} (h : w.heap[l]? = some o) (ho : o.isCells = false) (o' : Obj) : KeptC w (w.putObj l o') :=
  ⟨by simp, fun k cs t fr e => by
    have hne : k ≠ l := fun e' => by
      subst e'
      rw [e] at h
      cases h
      cases ho
    exact (World.putObj_heap_other hne).trans e⟩
theorem owns_kept {w w' : World} {base : Nat} {e : TypeId} {size : Nat} {v : Value} {n : Nat} {xs : List Value} (h : w.ownsRow base e size v n xs) (hk : KeptC w w') : w'.ownsRow base e size v n xs := by
  refine ⟨h.1, ?_⟩
  rcases h.2 with h | ⟨g, cap, cur, hv, hg, hh, hrest⟩
  · exact .inl h
  · exact .inr ⟨g, cap, cur, hv, hg, hk.cells g _ _ _ hh, hrest⟩

/-- What is no cells, from B on, lies as it lay. -/
abbrev Others (B : Nat) (w w' : World) : Prop := KeepsFrom B w w'

/-- A RANGE OVER A FUNCTION that has up to N rounds, of which those are held that b tells: I k holds ahead of round k. -/
theorem range_law {P : Program} {g : Operand} {ps : Array Tmp} {assign body : Code} {Q : Exit → Act → World → Prop} {a : Act} {w : World} {gf : Nat} {lb : Array Value}
    (hg : a.eval g = .func (.func gf) #[] lb) (eg : ∀ args w, (callFunc gf args).run P w = .ok (.enter gf args) w)
    (N : Nat) (b : Nat → Bool) (encs : Nat → Array Value) (hps : ∀ k, (encs k).size = ps.size) (I : Nat → World → Prop)
    (hIput : ∀ k W l o o', I k W → w.heap.size ≤ l → W.heap[l]? = some o → o.isCells = false → I k (W.putObj l o'))
    (hIb : ∀ k W W', I k W → Below W.heap.size W W' → I k W') (hIs : ∀ k W, k < N → b k = false → I k W → I (k + 1) W) (h0 : I 0 w)
    (hcall : ∀ (l : Nat) (J : Nat → World → Prop) (W : World), (∀ k W, J k W → I k W) → (∀ k W W', J k W → Below W.heap.size W W' → J k W') → (∀ k W, k < N → b k = false → J k W → J (k + 1) W) →
      (∀ k W, k < N → b k = true → J k W → YieldAt Fence.wide 0 P l (encs k) W fun e W' => e = .returned (.bool true) ∧ J (k + 1) W') → J 0 W →
      CallsIn Fence.wide 0 P gf (#[.func (.yield l) #[] #[]] ++ lb) W fun e W' => (∃ v, e = .returned v) ∧ J N W')
    (hround : ∀ (l k : Nat) (W : World), w.heap.size ≤ l → k < N → b k = true → I k W → (∃ r, W.heap[l]? = some (.loop r)) →
      assign.wpIn (RF l) 0 P (Exit.then (fun a' W' => Others w.heap.size W W' ∧ ∀ o', body.wpIn (RF l) 0 P (Exit.then (fun _ W2 => I (k + 1) W2 ∧ Others w.heap.size (W'.putObj l o') W2) (fun _ _ _ => False)) a' (W'.putObj l o')) (fun _ _ _ => False))
        { tmps := (ps.zip (encs k)).foldl (fun t (p, v) => t.setIfInBounds p v) a.tmps, defers := [] } W)
    (hdone : ∀ (D : Nat) (W : World), w.heap.size ≤ D → I N W → W.heap[D]? = some (.deferred (some [])) → Q .normal { a with defers := { target := .collected D, args := #[] } :: a.defers } W) :
    (Code.rangeFunc g ps assign body).wpIn Fence.wide 0 P Q a w := by
  apply wpIn_rangeFunc
  intro fn _
  -- the record of the loop, the two blocks that the statement lays
  let rc : LoopState → Loop := fun st => { state := st, pending := none, fn, tmps := a.tmps, params := ps, assign, body, defers := w.heap.size }
  let V := (w.alloc (.deferred (some []))).alloc (.loop (rc .ready))
  have sV : V.heap.size = w.heap.size + 1 + 1 := by simp [V]
  have vL : V.heap[w.heap.size + 1]? = some (.loop (rc .ready)) := by
    have h := World.alloc_heap_new (w.alloc (.deferred (some []))) (.loop (rc .ready))
    rw [World.size_alloc] at h
    exact h
  have vD : V.heap[w.heap.size]? = some (.deferred (some [])) := (Below.heap_alloc (w.alloc (.deferred (some []))) (.loop (rc .ready)) w.heap.size (by simp)).trans (World.alloc_heap_new w _)
  have wV : Below w.heap.size w V := ((Below.refl _ w).alloc (Nat.le_refl _) _).alloc (by simp) _
  -- what holds ahead of a round, with the two blocks
  let J : Nat → World → Prop := fun k W => I k W ∧ W.heap[w.heap.size + 1]? = some (.loop (rc .ready)) ∧ W.heap[w.heap.size]? = some (.deferred (some []))
  have J0 : J 0 V := ⟨hIb 0 w V h0 wV, vL, vD⟩
  have Jb : ∀ k W W', J k W → Below W.heap.size W W' → J k W' := fun k W W' ⟨j1, j2, j3⟩ hb =>
    ⟨hIb k W W' j1 hb, (hb.block _ (Array.getElem?_eq_some_iff.1 j2).1).trans j2, (hb.block _ (Array.getElem?_eq_some_iff.1 j3).1).trans j3⟩
  have JI : ∀ k W, J k W → I k W := fun k W h => h.1
  have Js : ∀ k W, k < N → b k = false → J k W → J (k + 1) W := fun k W hk hb ⟨j1, j2, j3⟩ => ⟨hIs k W hk hb j1, j2, j3⟩
  have JY : ∀ k W, k < N → b k = true → J k W → YieldAt Fence.wide 0 P (w.heap.size + 1) (encs k) W fun e W' => e = .returned (.bool true) ∧ J (k + 1) W' := by
    intro k W hk hb ⟨j1, j2, j3⟩
    refine ⟨fn, _, assign, body, run_yield j2 (hps k), roundIn_of_wpIn trivial ?_⟩
    refine wpIn_mono (hround (w.heap.size + 1) k W (by omega) hk hb j1 ⟨_, j2⟩) ?_
    intro e a1 W1 q
    cases e <;> try exact q.elim
    obtain ⟨q2, q1⟩ := q
    have k2 := q2.same _ _ (by omega) j2 rfl
    have k3 := q2.same _ _ (Nat.le_refl _) j3 rfl
    have kl := (Array.getElem?_eq_some_iff.1 k2).1
    refine ⟨_, run_beginRound k2 rfl, ?_⟩
    refine wpIn_mono (q1 (.loop { rc .ready with state := .busy })) ?_
    intro e2 a2 W2 p
    cases e2 <;> try exact p.elim
    obtain ⟨p1, p2⟩ := p
    have m2 := p2.same _ _ (by omega) (World.putObj_heap_same (o := .loop { rc .ready with state := .busy }) kl) rfl
    have m3 := p2.same _ _ (Nat.le_refl _) ((World.putObj_heap_other (o := .loop { rc .ready with state := .busy }) (show w.heap.size ≠ w.heap.size + 1 by omega)).trans k3) rfl
    refine ⟨_, _, run_endRound none m2, rfl, hIput _ _ _ _ _ p1 (by omega) m2 rfl, World.putObj_heap_same (Array.getElem?_eq_some_iff.1 m2).1, (World.putObj_heap_other (by omega)).trans m3⟩
  refine ⟨w.heap.size + 1, [{ target := .collected w.heap.size, args := #[] }], V, { target := .fn (.func gf) lb, args := #[.func (.yield (w.heap.size + 1)) #[] #[]] }, V, gf, #[.func (.yield (w.heap.size + 1)) #[] #[]] ++ lb, V,
    run_enterLoop_outer _ _ _ _ _, by simp only [resolve, hg]; simp [go_sem], fun _ _ => trivial, by simp [invoke, go_sem, eg], fun hs => (by cases hs), ?_⟩
  refine (hcall (w.heap.size + 1) J V JI Jb Js JY J0).mono ?_
  rintro e W ⟨⟨v, rfl⟩, j1, j2, j3⟩
  exact ⟨none, _, run_endLoop j2 (fun h => (by cases h)), hdone w.heap.size _ (Nat.le_refl _) (hIput _ _ _ _ _ j1 (by omega) j2 rfl) ((World.putObj_heap_other (by omega)).trans j3)⟩
end Go.Proofs.Ytdanfnbclbiidaa
