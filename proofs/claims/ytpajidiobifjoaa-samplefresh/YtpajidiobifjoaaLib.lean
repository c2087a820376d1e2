/-
  Small laws of worlds and of slices of integers that are read, whatever the program.
-/
import Derived.WalkKit
import Derived.WalkSpells
import Derived.WalkLawsBesides
import Derived.Laws.BytesArg
import Derived.OpenShut
import Derived.Laws.AppendOwnNone
namespace Go.Proofs.Ytpajidiobifjoaa
open Go.RowKit
set_option linter.unusedVariables false

/-- A fact kept from the walk, as it is spelt. -/
theorem hid {p : Prop} (h : p) : Hid p := h

/-- A slice of integers of kind k that reads, in w, as the numbers xs. -/
def Sees (w : World) (k : IntKind) (v : Value) (xs : List Int) : Prop :=
  (v = .slice none 0 0 ∧ xs = []) ∨
  ∃ x cap, v = .slice (some x) xs.length cap ∧ xs.length ≤ cap ∧ cap ≤ maxLen ∧ ∀ i, i < xs.length → w.cell? (x.add i) = some (.int k (xs.getD i 0))

theorem add_none (b off j : Nat) : (⟨b, off, none⟩ : Addr).add j = ⟨b, off + j, none⟩ := by unfold Addr.add; split <;> simp_all

theorem Sees.nil (w : World) (k : IntKind) : Sees w k (.slice none 0 0) [] := .inl ⟨rfl, rfl⟩

theorem Sees.le {w : World} {k : IntKind} {v : Value} {xs : List Int} (h : Sees w k v xs) : xs.length ≤ maxLen := by
  rcases h with ⟨_, rfl⟩ | ⟨x, cap, _, h1, h2, _⟩
  · simp
  · omega

/-- Its form: where there is an element, it has an address without a spot, and the cells lie there. -/
theorem Sees.form {w : World} {k : IntKind} {v : Value} {xs : List Int} (h : Sees w k v xs) : ∃ a cap, v = .slice a xs.length cap ∧ xs.length ≤ cap ∧ cap ≤ maxLen ∧
    (0 < xs.length → ∃ b off, a = some ⟨b, off, none⟩ ∧ b < w.heap.size ∧ ∀ i, i < xs.length → w.cell? ⟨b, off + i, none⟩ = some (.int k (xs.getD i 0))) := by
  rcases h with ⟨rfl, rfl⟩ | ⟨x, cap, rfl, h1, h2, hc⟩
  · exact ⟨none, 0, rfl, by simp, by simp, by simp⟩
  · refine ⟨some x, cap, rfl, h1, h2, fun hp => ?_⟩
    obtain ⟨b, off, spot⟩ := x
    have h0 := hc 0 hp
    have hspot : spot = none := by simpa [Addr.add] using World.cell?_spot h0
    subst hspot
    refine ⟨b, off, rfl, ?_, fun i hi => by rw [← add_none]; exact hc i hi⟩
    have := World.block_lt_of_cell? w _ h0
    rw [add_none] at this
    exact this

theorem Sees.below {w w' : World} {k : IntKind} {v : Value} {xs : List Int} (h : Sees w k v xs) (hb : Below w.heap.size w w') : Sees w' k v xs := by
  rcases h with h | ⟨x, cap, hv, h1, h2, hc⟩
  · exact .inl h
  · refine .inr ⟨x, cap, hv, h1, h2, fun i hi => ?_⟩
    have := hc i hi
    rw [hb.cell (by exact World.block_lt_of_cell? w _ this)]
    exact this

theorem Sees.of_owns {w : World} {base : Nat} {e : TypeId} {k : IntKind} {v : Value} {n : Nat} {xs : List Int} (h : w.ownsRow base e 1 v n (xs.map (Value.int k))) : Sees w k v xs := by
  obtain ⟨hl, h⟩ := h
  have hn : n = xs.length := by simp at hl; omega
  subst hn
  rcases h with ⟨hv, h0⟩ | ⟨g, cap, cur, hv, hg, hh, hc, hm, hs, ht⟩
  · exact .inl ⟨hv, List.eq_nil_of_length_eq_zero h0⟩
  · refine .inr ⟨⟨g, 0, none⟩, cap, hv, hc, hm, fun i hi => ?_⟩
    have hcs : i < cur.size := by omega
    have h2 : cur.toList[i]? = some (Value.int k (xs.getD i 0)) := by
      have : (cur.toList.take (xs.length * 1))[i]? = (xs.map (Value.int k))[i]? := by rw [ht]
      rw [List.getElem?_take_of_lt (by omega)] at this
      rw [this]; simp [List.getElem?_map, List.getD, List.getElem?_eq_getElem hi]
    rw [add_none]
    simp [World.cell?, hh]
    simpa using h2

/-- Of a slice that came in: what the frame's reading gives. -/
theorem Sees.of_row {w : World} {k : IntKind} {x : Addr} {len cap : Nat} {zs : List Int} (hl : len ≤ cap) (hm : cap ≤ maxLen) (hz : zs.length = cap)
    (hc : ∀ i, i < zs.length → w.cell? (x.add i) = some (.int k (zs.getD i 0))) : Sees w k (.slice (some x) len cap) (zs.take len) := by
  have hlen : (zs.take len).length = len := by simp; omega
  refine .inr ⟨x, cap, by rw [hlen], by omega, hm, fun i hi => ?_⟩
  rw [hc i (by omega)]
  simp [List.getD, List.getElem?_take_of_lt (show i < len by omega)]

/-- What is left of a slice behind its first n elements. -/
theorem Sees.dropped {w : World} {k : IntKind} {b off cap : Nat} {xs : List Int} (n : Nat) (hn : n ≤ xs.length) (h1 : xs.length ≤ cap) (h2 : cap ≤ maxLen)
    (hc : ∀ i, i < xs.length → w.cell? ⟨b, off + i, none⟩ = some (.int k (xs.getD i 0))) :
    Sees w k (.slice (if cap = n then some ⟨b, off, none⟩ else some ⟨b, off + n, none⟩) (xs.length - n) (cap - n)) (xs.drop n) := by
  by_cases h : cap = n
  · rw [if_pos h]
    refine .inr ⟨_, cap - n, by rw [List.length_drop], by rw [List.length_drop]; omega, by omega, fun i hi => ?_⟩
    rw [List.length_drop] at hi
    omega
  · rw [if_neg h]
    refine .inr ⟨_, cap - n, by rw [List.length_drop], by rw [List.length_drop]; omega, by omega, fun i hi => ?_⟩
    rw [List.length_drop] at hi
    rw [add_none, Nat.add_assoc, hc (n + i) (by omega)]
    simp [List.getD]

/-- The first n elements of a slice. -/
theorem Sees.taken {w : World} {k : IntKind} {b off cap : Nat} {xs : List Int} (n : Nat) (hn : n ≤ xs.length) (h1 : xs.length ≤ cap) (h2 : cap ≤ maxLen)
    (hc : ∀ i, i < xs.length → w.cell? ⟨b, off + i, none⟩ = some (.int k (xs.getD i 0))) :
    Sees w k (.slice (some ⟨b, off, none⟩) n cap) (xs.take n) := by
  have hl : (xs.take n).length = n := by simp; omega
  refine .inr ⟨_, cap, by rw [hl], by omega, h2, fun i hi => ?_⟩
  rw [add_none, hc i (by omega)]
  simp [List.getD, List.getElem?_take_of_lt (show i < n by omega)]

/-- What is owned stays owned where nothing below the heap's end has turned. -/
theorem owns_below {w w' : World} {base : Nat} {e : TypeId} {size : Nat} {v : Value} {n : Nat} {xs : List Value} (h : w.ownsRow base e size v n xs) (hb : Below w.heap.size w w') : w'.ownsRow base e size v n xs :=
  h.kept (row := none) ⟨hb.os, hb.tape, hb.output, hb.size, fun k hk _ => hb.block k hk⟩ (by cases h' : v.ownBlock <;> simp)

/-- One new cell, at the head of a new block. -/
theorem one_new (w : World) (x : Value) (t : TypeId) : ∀ (j : Nat) (u : Value), [x][j]? = some u → (w.alloc (.cells #[x] t)).cell? ((⟨w.heap.size, 0, none⟩ : Addr).add j) = some u := by
  intro j u hj
  match j, hj with
  | 0, hj => simp at hj; subst hj; simp [Addr.add]
  | j + 1, hj => simp at hj
theorem one_cell (k : IntKind) (n : Int) : ∀ u ∈ [Value.int k n], u.oneCell' = true := by
  intro u hu; simp at hu; subst hu; rfl

theorem Sees.str {P : Program} {w : World} {v : Value} {xs : List Int} (h : Sees w .u8 v xs) (src e dst : TypeId) (hs : P.underlying src = some (.slice e)) (he : P.underlying e = some (.int .u8)) (hd : P.underlying dst = some .string) :
    (convert src dst v).run P w = .ok (.string (strOfNums xs)) w := by
  rcases h with ⟨rfl, rfl⟩ | ⟨x, cap, rfl, h1, h2, hc⟩
  · exact run_convert_bytes_nil w src e hs he 0 0 dst hd
  · have hl : (loadCells x xs.length).run P w = .ok (xs.map (Value.int .u8)).toArray w := by
      have := run_loadCells_list (P := P) w x (xs.map (Value.int .u8)) (fun j v hj => by
        have hjl : j < xs.length := by
          rcases Nat.lt_or_ge j xs.length with h | h
          · exact h
          · simp [List.getElem?_eq_none (show (xs.map (Value.int .u8)).length ≤ j by simpa using h)] at hj
        rw [hc j hjl]
        simp [List.getElem?_eq_getElem hjl] at hj
        subst hj
        simp [List.getD, List.getElem?_eq_getElem hjl])
      simpa using this
    rw [run_convert_bytes_string w src dst e _ _ cap hs he hd, run_bytesToString w _ _ cap xs hl, foldl_push_bytes]
    simp [strOfNums, ByteArray.empty, ByteArray.emptyWithCapacity]
    rfl

/-- 'append(s, x...)' where s is the call's own and x is any slice of integers that is read. -/
theorem wpList_append_sees {P : Program} {w : World} {ops : Array Oper} {rest : List Oper} {o : Oper} {a : Act} {Q : Exit → Act → World → Prop} (hgd : o.guard = none) (s x : Operand) (t : TypeId)
    (ho : o.op = .call { callee := .builtin .append, args := #[s, x], argTypes := #[t, t] })
    (base : Nat) (e : TypeId) (i : TypeInfo) (z : Value) (bytes : Nat) (ht : P.underlying t = some (.slice e)) (hi : P.info? e = some i) (hz : i.zero = some z)
    (hsize : i.size = 1) (hby : i.bytes = bytes) (hzs : z.cells.size = 1) (k : IntKind)
    (v : Value) (n : Nat) (xs : List Value) (hs : a.eval s = v) (hown : w.ownsRow base e 1 v n xs)
    (y : Value) (ys : List Int) (hx : a.eval x = y) (hsee : Sees w k y ys)
    (h63 : n + ys.length ≤ maxLen) (hbytes : (n + ys.length) * bytes ≤ 140737488355328) (hbase : base ≤ w.heap.size)
    (h : ∀ v' w', w'.ownsRow base e 1 v' (n + ys.length) (xs ++ ys.map (Value.int k)) → w.grownBy w' v.ownBlock → wpList P ops Q rest (a.put o.dst v') w') : wpList P ops Q (o :: rest) a w := by
  rcases hsee with ⟨rfl, rfl⟩ | ⟨ad, cap, rfl, h1, h2, hc⟩
  · refine wpList_append_own_none hgd s x t ho base e i 1 ht hi v n xs hs hown hx ?_
    exact h v w (by simpa using hown) (World.grownBy.refl _ _)
  · refine wpList_append_own w hgd s x t ho base e i z 1 bytes ht hi hz hsize hby hzs (by decide) v n xs hs hown ad _ _ (ys.map (Value.int k)) hx (by simp) ?_ (ints_oneCell _ _) h63 hbytes hbase (fun v' w' a b _ => h v' w' a b)
    intro j u hj
    rcases Nat.lt_or_ge j ys.length with hj' | hj'
    · simp [List.getElem?_map, List.getElem?_eq_getElem hj'] at hj
      subst hj
      rw [hc j hj']; simp [List.getD, List.getElem?_eq_getElem hj']
    · simp [List.getElem?_eq_none (show (ys.map (Value.int k)).length ≤ j by simpa using hj')] at hj

/-- Bytes that are the same as a string are the same. -/
theorem str_eq {xs ys : List Int} (hx : ∀ n ∈ xs, 0 ≤ n ∧ n < 256) (hy : ∀ n ∈ ys, 0 ≤ n ∧ n < 256) : ((strOfNums xs).toList == (strOfNums ys).toList) = decide (xs = ys) := by
  by_cases h : xs = ys
  · subst h; simp
  · rw [decide_eq_false h]
    rw [beq_eq_false_iff_ne]
    intro e
    apply h
    rw [ByteArray.toList_eq, ByteArray.toList_eq, strOfNums_data, strOfNums_data] at e
    clear h
    induction xs generalizing ys with
    | nil => cases ys <;> simp_all
    | cons a xs ih =>
      cases ys with
      | nil => simp at e
      | cons b ys =>
        simp only [List.map_cons, List.cons.injEq] at e
        have ha := hx a (by simp)
        have hb := hy b (by simp)
        have : a = b := by
          have := congrArg UInt8.toNat e.1
          simp at this
          omega
        subst this
        rw [ih (fun n hn => hx n (by simp [hn])) (fun n hn => hy n (by simp [hn])) e.2]

theorem str_toList (xs : List Int) : (strOfNums xs).toList = xs.map fun n => UInt8.ofNat n.toNat := by
  rw [ByteArray.toList_eq, strOfNums_data]
end Go.Proofs.Ytpajidiobifjoaa
