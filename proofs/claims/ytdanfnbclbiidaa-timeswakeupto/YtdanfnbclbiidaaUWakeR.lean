/-
  What reads as a partition in every world that keeps from n on; the document's Leave and Go over that.
  The document's Go, over what reads as a partition in every world that keeps from n on.
  What the document's Late returns.
  What the document's Wake returns.
-/
import Derived.Test.YtdanfnbclbiidaaQLeaM
import Derived.Test.YtdanfnbclbiidaaURef0
import Derived.Test.YtdanfnbclbiidaaUMath
import Derived.Deep.RegionHeld3
import Derived.Test.YtdanfnbclbiidaaU2
namespace Go.Proofs.Ytdanfnbclbiidaa
open Go.RowKit
set_option linter.unusedVariables false

theorem mem_getDz {α : Type} {l : List α} {k : Nat} (z : α) (h : k < l.length) : l.getD k z ∈ l := by
  rw [List.getD_eq_getElem?_getD, List.getElem?_eq_getElem h]
  exact List.getElem_mem _

/-- The world W keeps of w what is from n on, but for blocks of partitions and of wakes. -/
abbrev SK (t : TypeId) : Prop := t = 39 ∨ t = 92
def Keep (n : Nat) (w W : World) : Prop := Below n w W ∧ Turns SK w W
theorem Keep.refl (n : Nat) (w : World) : Keep n w w := ⟨Below.refl n w, Turns.refl _ w⟩
theorem Keep.trans {n : Nat} {w w' W : World} (h : Keep n w w') (k : Keep n w' W) : Keep n w W := ⟨h.1.trans k.1, h.2.trans k.2⟩
theorem Keep.below {n : Nat} {w w' : World} (hn : n ≤ w.heap.size) (hb : Below w.heap.size w w') : Keep n w w' := ⟨hb.mono hn, Turns.below hb⟩
theorem Keep.put {n g : Nat} {w w' : World} {cs cs' : Array Value} (hn : n ≤ g) (hs : n ≤ w.heap.size) (hg : w.grownBy w' (some g)) (h1 : BoxAt w g 39 cs) (h2 : BoxAt w' g 39 cs') : Keep n w w' :=
  ⟨grown_below hg hn hs, Turns.grown (S := SK) h1 h2 (.inl rfl) hg⟩
theorem Keep.putw {n g : Nat} {w w' : World} {cs cs' : Array Value} (hn : n ≤ g) (hs : n ≤ w.heap.size) (hg : w.grownBy w' (some g)) (h1 : BoxAt w g 92 cs) (h2 : BoxAt w' g 92 cs') : Keep n w w' :=
  ⟨grown_below hg hn hs, Turns.grown (S := SK) h1 h2 (.inr rfl) hg⟩
/-- What reads as a partition in every world that keeps from n on: its buffers' rows are the same in all of them. -/
def PaZ (n : Nat) (w : World) (q : PaV) (c : Pa) : Prop := (∀ W, Keep n w W → PaAt W q c) ∧ ∃ rs : List BfV, rs.length = c.bu.length ∧ ∀ W, Keep n w W → SeesBfV W q.bu.val rs ∧ ∀ j, j < rs.length → BfAt W (rs.getD j BfV.zero) (c.bu.getD j Bf.zero)
theorem PaZ.from {w : World} {q : PaV} {c : Pa} (h : PaAt w q c) : PaZ w.heap.size w q c := by
  refine ⟨fun W hW => h.below hW.1, ?_⟩
  obtain ⟨rs, a, b, d⟩ := h.bu
  exact ⟨rs, b, fun W hW => ⟨a.below hW.1, fun j hj => (d j hj).below hW.1⟩⟩
theorem PaZ.at {n : Nat} {w : World} {q : PaV} {c : Pa} (h : PaZ n w q c) : PaAt w q c := h.1 w (Keep.refl n w)
theorem PaZ.pas {n : Nat} {w : World} {q : PaV} {c : Pa} (h : PaZ n w q c) : PaS n w q c := fun W hW hT => h.1 W ⟨hW, hT.os, hT.tape, hT.output, hT.size, fun k hk ht => hT.block k hk (fun t hta hst => ht t hta (.inl hst)), hT.tag⟩
theorem PaZ.go {n : Nat} {w w' : World} {q : PaV} {c : Pa} (h : PaZ n w q c) (k : Keep n w w') : PaZ n w' q c := by
  refine ⟨fun W hW => h.1 W (k.trans hW), ?_⟩
  obtain ⟨rs, a, b⟩ := h.2
  exact ⟨rs, a, fun W hW => b W (k.trans hW)⟩
theorem PaZ.below {n : Nat} {w w' : World} {q : PaV} {c : Pa} (h : PaZ n w q c) (hn : n ≤ w.heap.size) (hb : Below w.heap.size w w') : PaZ n w' q c := h.go (Keep.below hn hb)
theorem PaZ.put {n g : Nat} {w w' : World} {q : PaV} {c : Pa} {cs cs' : Array Value} (h : PaZ n w q c) (hn : n ≤ g) (hs : n ≤ w.heap.size) (hg : w.grownBy w' (some g)) (h1 : BoxAt w g 39 cs) (h2 : BoxAt w' g 39 cs') : PaZ n w' q c := h.go (Keep.put hn hs hg h1 h2)
theorem PaZ.putw {n g : Nat} {w w' : World} {q : PaV} {c : Pa} {cs cs' : Array Value} (h : PaZ n w q c) (hn : n ≤ g) (hs : n ≤ w.heap.size) (hg : w.grownBy w' (some g)) (h1 : BoxAt w g 92 cs) (h2 : BoxAt w' g 92 cs') : PaZ n w' q c := h.go (Keep.putw hn hs hg h1 h2)
theorem PaZ.pr {n base : Nat} {w w' : World} {q : PaV} {c : Pa} {s : Sl} {l : List Px} (h : PaZ n w q c) (hn : n ≤ w.heap.size) (hb : Below w.heap.size w w') (ho : OP w' base s.val l) : PaZ n w' { q with pr := s } { c with pr := l } :=
  ⟨fun W hW => by
    have h1 := (h.below hn hb).1 W hW
    exact ⟨h1.md, h1.bg, h1.nx, h1.me, (ho.turn (S := SK) (by decide) hW.2).sees, h1.bo, h1.bu, h1.se, h1.ev, h1.sa, h1.qu, h1.ld, h1.ll, h1.lx, h1.gi⟩, (h.below hn hb).2⟩
theorem PaZ.nx {n : Nat} {w : World} {q : PaV} {c : Pa} (x : Int) (h : PaZ n w q c) : PaZ n w { q with nx := x } { c with nx := x } :=
  ⟨fun W hW => by
    have h1 := h.1 W hW
    exact ⟨h1.md, h1.bg, rfl, h1.me, h1.pr, h1.bo, h1.bu, h1.se, h1.ev, h1.sa, h1.qu, h1.ld, h1.ll, h1.lx, h1.gi⟩, h.2⟩
theorem rwith_z {n : Nat} {q : PaV} {c : Pa} {w : World} (k : Nat) (r : Px) (hs : PaZ n w q c) (hn : n ≤ w.heap.size) (hlen : c.pr.length ≤ 900000) (hk : k < c.pr.length) :
    Calls Try.prog 57 #[q.val, .int .i64 k, r.val] w fun e w' => ∃ q', e = .returned (PaV.val q') ∧ PaZ n w' q' { c with pr := c.pr.set k r } ∧ Below w.heap.size w w' := by
  refine (rwith_own k r hs.at hlen hk).mono ?_
  rintro e w' ⟨s, rfl, ho, hb⟩
  exact ⟨_, rfl, hs.pr hn hb ho, hb⟩
theorem rwith11_z {n : Nat} {q : PaV} {c : Pa} {w : World} (k : Nat) (r : Px) (hs : PaZ n w q c) (hn : n ≤ w.heap.size) (hlen : c.pr.length ≤ 900000) (hk : k < c.pr.length) :
    Calls Try.prog 38 #[q.val, .int .i64 k, r.val] w fun e w' => ∃ q', e = .returned (PaV.val q') ∧ PaZ n w' q' { c with pr := c.pr.set k r } ∧ Below w.heap.size w w' := by
  refine (rwith11_own k r hs.at hlen hk).mono ?_
  rintro e w' ⟨s, rfl, ho, hb⟩
  exact ⟨_, rfl, hs.pr hn hb ho, hb⟩
theorem FBd.see {w0 w : World} {base : Nat} {v : Value} {l : List Bd} (h : FBd w0 w base v l) : LBd w v l := by
  obtain ⟨rs, a, b, c⟩ := h
  exact ⟨rs, a.sees, b, fun j hj => ⟨(c j hj).is, (c j hj).v, (c j hj).l.sees⟩⟩
theorem FSe.see {w0 w : World} {base : Nat} {v : Value} {l : List Se} (h : FSe w0 w base v l) : LSe w v l := by
  obtain ⟨rs, a, b, c⟩ := h
  exact ⟨rs, a.sees, b, fun j hj => ⟨(c j hj).c, (c j hj).m, (c j hj).k, (c j hj).l.sees⟩⟩
theorem FEv.see {w0 w : World} {base : Nat} {v : Value} {l : List Ev} (h : FEv w0 w base v l) : LEv w v l := by
  obtain ⟨rs, a, b, c⟩ := h
  exact ⟨rs, a.sees, b, fun j hj => ⟨(c j hj).u, (c j hj).l.sees⟩⟩

/-- One of these: its list is the call's own, the rest reads so in all of Z. -/
structure BfZ (Z : World → Prop) (w : World) (base : Nat) (q : BfV) (x : Bf) : Prop where
  d : q.d = x.d
  k : q.k = x.k
  vs : ∀ W, Z W → Sees W .i64 q.vs.val x.vs
  l : OWt w base q.l.val x.l
theorem BfZ.below {Z : World → Prop} {w w' : World} {base : Nat} {q : BfV} {x : Bf} (h : BfZ Z w base q x) (hb : Below w.heap.size w w') : BfZ Z w' base q x := ⟨h.d, h.k, h.vs, h.l.below hb⟩
theorem BfZ.turn {Z : World → Prop} {w w' : World} {base : Nat} {q : BfV} {x : Bf} (h : BfZ Z w base q x) {S : TypeId → Prop} (hw : ¬ S 104) (ht : Turns S w w') : BfZ Z w' base q x := ⟨h.d, h.k, h.vs, h.l.turn hw ht⟩
theorem BfZ.at {Z : World → Prop} {w : World} {base : Nat} {q : BfV} {x : Bf} (h : BfZ Z w base q x) (h0 : Z w) : BfAt w q x := ⟨h.d, h.k, h.vs _ h0, h.l.sees⟩
def FBfZ (Z : World → Prop) (w : World) (base : Nat) (v : Value) (l : List Bf) : Prop := ∃ rs : List BfV, OBfV w base v rs ∧ rs.length = l.length ∧ ∀ j, j < rs.length → BfZ Z w base (rs.getD j BfV.zero) (l.getD j Bf.zero)
theorem FBfZ.below {Z : World → Prop} {w w' : World} {base : Nat} {v : Value} {l : List Bf} (h : FBfZ Z w base v l) (hb : Below w.heap.size w w') : FBfZ Z w' base v l := by
  obtain ⟨rs, a, b, c⟩ := h
  exact ⟨rs, a.below hb, b, fun j hj => (c j hj).below hb⟩
theorem FBfZ.turn {Z : World → Prop} {w w' : World} {base : Nat} {v : Value} {l : List Bf} (h : FBfZ Z w base v l) {S : TypeId → Prop} (hs : ¬ S 69) (hw : ¬ S 104) (ht : Turns S w w') : FBfZ Z w' base v l := by
  obtain ⟨rs, a, b, c⟩ := h
  exact ⟨rs, a.turn hs ht, b, fun j hj => (c j hj).turn hw ht⟩
theorem FBfZ.at {Z : World → Prop} {w : World} {base : Nat} {v : Value} {l : List Bf} (h : FBfZ Z w base v l) (h0 : Z w) : LBf w v l := by
  obtain ⟨rs, a, b, c⟩ := h
  exact ⟨rs, a.sees, b, fun j hj => (c j hj).at h0⟩
/-- The first k are left. -/
def MBfZ (Z : World → Prop) (w : World) (base : Nat) (i : Int) (k : Nat) (v : Value) (l : List Bf) : Prop := ∃ rs : List BfV, OBfV w base v rs ∧ rs.length = l.length ∧ (∀ j, j < rs.length → j < k → BfZ Z w base (rs.getD j BfV.zero) (outBf i (l.getD j Bf.zero))) ∧ (∀ j, j < rs.length → k ≤ j → (∀ W, Z W → BfAt W (rs.getD j BfV.zero) (l.getD j Bf.zero)))
theorem MBfZ.start {Z : World → Prop} {w : World} {base : Nat} {v : Value} {l : List Bf} {rs : List BfV} (i : Int) (h : OBfV w base v rs) (hl : rs.length = l.length) (ha : ∀ j, j < rs.length → (∀ W, Z W → BfAt W (rs.getD j BfV.zero) (l.getD j Bf.zero))) : MBfZ Z w base i 0 v l :=
  ⟨rs, h, hl, fun j _ hj => absurd hj (Nat.not_lt_zero _), fun j hj _ => ha j hj⟩
theorem MBfZ.below {Z : World → Prop} {w w' : World} {base k : Nat} {i : Int} {v : Value} {l : List Bf} (h : MBfZ Z w base i k v l) (hb : Below w.heap.size w w') : MBfZ Z w' base i k v l := by
  obtain ⟨rs, a, b, c, d⟩ := h
  exact ⟨rs, a.below hb, b, fun j hj hk => (c j hj hk).below hb, d⟩
theorem MBfZ.turn {Z : World → Prop} {w w' : World} {base k : Nat} {i : Int} {v : Value} {l : List Bf} (h : MBfZ Z w base i k v l) {S : TypeId → Prop} (hs : ¬ S 69) (hw : ¬ S 104) (ht : Turns S w w') : MBfZ Z w' base i k v l := by
  obtain ⟨rs, a, b, c, d⟩ := h
  exact ⟨rs, a.turn hs ht, b, fun j hj hk => (c j hj hk).turn hw ht, d⟩
theorem MBfZ.done {Z : World → Prop} {w : World} {base : Nat} {i : Int} {v : Value} {l : List Bf} (h : MBfZ Z w base i l.length v l) : FBfZ Z w base v (l.map (outBf i)) := by
  obtain ⟨rs, a, b, c, d⟩ := h
  refine ⟨rs, a, by rw [b, List.length_map], fun j hj => ?_⟩
  have h1 := c j hj (by omega)
  have hj' : j < l.length := by omega
  have e : (l.map (outBf i)).getD j Bf.zero = outBf i (l.getD j Bf.zero) := by simp [List.getD, hj']
  rw [e]
  exact h1
theorem MBfZ.free {Z : World → Prop} {w : World} {base k g n cap : Nat} {i : Int} {l : List Bf} (h : MBfZ Z w base i k (.slice (some ⟨g, 0, none⟩) n cap) l) (hn : n = l.length) (j : Nat) : w.frozen? ⟨g, j, none⟩ = false := by
  obtain ⟨rs, a, b, _⟩ := h
  subst hn
  rw [← b] at a
  exact World.ownsRow.frozenAt a j
theorem MBfZ.get {Z : World → Prop} {w : World} {base k g n cap : Nat} {i : Int} {l : List Bf} (h : MBfZ Z w base i k (.slice (some ⟨g, 0, none⟩) n cap) l) {w1 : World} (hz : Z w1) (hn : n = l.length) (hk : k < l.length) : ∃ s : Sl, w.cell? ⟨g, k * 4 + 3, none⟩ = some (.slice s.a s.n s.c) ∧ SeesWt w1 (.slice s.a s.n s.c) (l.getD k Bf.zero).l := by
  obtain ⟨rs, a, b, _, d⟩ := h
  subst hn
  rw [← b] at a
  refine ⟨(rs.getD k BfV.zero).l, ?_, (d k (by omega) (Nat.le_refl _) w1 hz).l⟩
  rw [World.ownsRow.cellAt a (k * 4 + 3) (by omega), flat_get 4 _ (lensBfV rs) k 3 (by simp; omega) (by decide), cells_getDBfV rs k (by omega)]
  rfl
theorem MBfZ.turns {Z : World → Prop} {w : World} {base k g n cap j : Nat} {i : Int} {l : List Bf} (h : MBfZ Z w base i k (.slice (some ⟨g, 0, none⟩) n cap) l) (hn : n = l.length) (u : Value) : Turns (fun t => t = 69) w (w.setCell ⟨g, j, none⟩ u) := by
  obtain ⟨rs, a, b, _⟩ := h
  subst hn
  rw [← b] at a
  exact Turns.boxed (S := fun t => t = 69) a rfl u
theorem MBfZ.put {Z : World → Prop} {w : World} {base k g n cap : Nat} {i : Int} {l : List Bf} (h : MBfZ Z w base i k (.slice (some ⟨g, 0, none⟩) n cap) l) {w1 : World} (hz : Z w1) (hn : n = l.length) (hk : k < l.length) (s : Sl) (ho : OWt w base (.slice s.a s.n s.c) ((l.getD k Bf.zero).l.filter fun x => !isW i x)) :
    MBfZ Z (w.setCell ⟨g, k * 4 + 3, none⟩ (.slice s.a s.n s.c)) base i (k + 1) (.slice (some ⟨g, 0, none⟩) n cap) l := by
  have ht := h.turns (j := k * 4 + 3) hn (.slice s.a s.n s.c)
  obtain ⟨rs, a, b, c, d⟩ := h
  subst hn
  rw [← b] at a
  have hkr : k < rs.length := by omega
  have h1 := (World.ownsRow.stored a (k * 4 + 3) (.slice s.a s.n s.c)).1
  rw [flat_set 4 _ (lensBfV rs) k 3 _ (by simpa using hkr) (by decide), cells_getDBfV rs k hkr, show ((rs.getD k BfV.zero).cells.set 3 (.slice s.a s.n s.c)) = BfV.cells { rs.getD k BfV.zero with l := s } from rfl, ← List.map_set] at h1
  rw [← b]
  refine ⟨rs.set k { rs.getD k BfV.zero with l := s }, by unfold OBfV; rw [List.length_set]; exact h1, by rw [List.length_set]; exact b, fun j hj hj1 => ?_, fun j hj hj1 => ?_⟩
  · rw [List.length_set] at hj
    by_cases e : j = k
    · subst e
      have hd := d j hkr (Nat.le_refl _)
      have e1 : (rs.set j { rs.getD j BfV.zero with l := s }).getD j BfV.zero = { rs.getD j BfV.zero with l := s } := by simp [List.getD, hkr]
      rw [e1]
      exact ⟨(hd w1 hz).d, (hd w1 hz).k, fun W hW => (hd W hW).vs, OWt.turn (S := fun t => t = 69) ho (by decide) ht⟩
    · have e1 : (rs.set k { rs.getD k BfV.zero with l := s }).getD j BfV.zero = rs.getD j BfV.zero := by simp [List.getD, List.getElem?_set_ne (Ne.symm e)]
      rw [e1]
      exact (c j hj (by omega)).turn (S := fun t => t = 69) (by decide) ht
  · rw [List.length_set] at hj
    have e1 : (rs.set k { rs.getD k BfV.zero with l := s }).getD j BfV.zero = rs.getD j BfV.zero := by simp [List.getD, List.getElem?_set_ne (show k ≠ j by omega)]
    rw [e1]
    exact d j hj (by omega)

set_option maxRecDepth 100000 in
set_option maxHeartbeats 6400000 in
theorem rleave_z {n : Nat} {q : PaV} {c : Pa} {w : World} {i : Int} (hz : PaZ n w q c) (hn : n ≤ w.heap.size) (hsm : c.small) :
    Calls Try.prog 36 #[q.val, .int .i64 i] w fun e w' => ∃ q', e = .returned (PaV.val q') ∧ PaZ n w' q' (leaveP c (isW i)) ∧ Below w.heap.size w w' := by
  have ha := hz.at
  have HZ0 := hid hz.1
  have HN := hid hn
  have H0 := hid (Below.refl w.heap.size w)
  have h0s : w.heap.size ≤ w.heap.size := Nat.le_refl _
  have HSm := hid hsm
  have HB := hid (Below.refl w.heap.size w)
  have HKw := hid (Keep.refl n w)
  obtain ⟨rBd, hsBd, hlBd, haBd⟩ := ha.bo
  have HSBd := hid hsBd
  have HLBd := hid hlBd
  have HABd := hid haBd
  clear hsBd hlBd haBd
  obtain ⟨rBf, hlBf, hkBf⟩ := hz.2
  have HSBf := hid (hkBf w (Keep.refl n w)).1
  have HLBf := hid hlBf
  have HABf := hid (show ∀ j, j < rBf.length → ∀ W, Keep n w W → BfAt W (rBf.getD j BfV.zero) (c.bu.getD j Bf.zero) from fun j hj W hW => (hkBf W hW).2 j hj)
  clear hlBf hkBf hz hn
  obtain ⟨rSe, hsSe, hlSe, haSe⟩ := ha.se
  have HSSe := hid hsSe
  have HLSe := hid hlSe
  have HASe := hid haSe
  clear hsSe hlSe haSe
  obtain ⟨rEv, hsEv, hlEv, haEv⟩ := ha.ev
  have HSEv := hid hsEv
  have HLEv := hid hlEv
  have HAEv := hid haEv
  clear hsEv hlEv haEv
  clear ha hsm
  go_enter Try.func36, Try.ntmps36
  go_wp2_with (first
    | (refine wpList_box rfl 39 (.tmp 0) rfl (PaV.cells q).toArray rfl ?_
       intro v1 b h z
       have PB := hid (show BoxAt v1 w.heap.size 39 (PaV.cells q).toArray from b)
       have HB := hid (HB.out.trans (h.mono HB.out.size))
       have hsv1 : w.heap.size + 1 ≤ v1.heap.size := by omega
       clear b h z)
    | (refine wpList_new rfl 39 rfl _ Try.zeroPa ?_
       intro v2 b h z
       have RB := hid (show BoxAt v2 v1.heap.size 39 (PaV.cells PaV.zero).toArray from b)
       have PB := hid (PB.out.belowAll h)
       have HB := hid (HB.out.trans (h.mono HB.out.size))
       have hsv2 : v1.heap.size + 1 ≤ v2.heap.size := by omega
       have kA : v2.cell? ⟨w.heap.size, 5, none⟩ = some (.slice q.bo.a q.bo.n q.bo.c) := (BoxAt.cell PB.out 5).trans rfl
       clear b h z)
    | (at_builtin
       refine app_row 67 30 3 40 _ Try.underlying30 Try.infoOBdV rfl (by decide) (by decide) rfl _ _ rfl v2.heap.size _ 0 [] rfl (OBdV.nil _ _) _ (rBd.map BdV.cells) rfl (HSBd.out.below (H0.out.trans (HB.out.mono h0s))) (lensBdV _) (oneBdV _) (by have h1 := HSm.out.bo; have h2 := HLBd.out; simp only [List.length_map]; omega) (Nat.le_refl _) ?_
       intro u uBd ho hg hb
       have ho : OBdV uBd v2.heap.size u rBd := by simpa [OBdV] using ho
       obtain ⟨aBd, cBd, hu, hx1, hx2, hx3⟩ := row_form (show uBd.ownsRow v2.heap.size 67 3 u c.bo.length (rBd.map BdV.cells).flatten from by rw [← HLBd.out]; exact ho)
       subst hu
       have HM := hid (MBd.start (w0 := w) i ho HLBd.out HABd.out)
       have HGBd := hid hx3
       have hclBd : c.bo.length ≤ cBd := hx1
       have hcmBd : cBd ≤ 9223372036854775807 := hx2
       have PB := hid (PB.out.belowAll hb)
       have RB := hid (RB.out.belowAll hb)
       have HB := hid (HB.out.trans (hb.mono HB.out.size))
       have hsuBd : v2.heap.size ≤ uBd.heap.size := hb.size
       clear ho hg hb hx1 hx2 hx3 kA)
    | (refine wpList_store_box rfl 30 _ _ rfl rfl w.heap.size 5 (.slice aBd c.bo.length cBd) rfl rfl rfl rfl (by kernel_rfl) _ _ PB.out (by simp [PaV.cells]) ?_
       intro sBd b g z
       have HT := hid (Turns.grown (S := fun t => t = 39) PB.out b rfl g)
       have HM := hid (HM.out.turn (S := fun t => t = 39) (by decide) (by decide) HT.out)
       have hssBd : uBd.heap.size ≤ sBd.heap.size := by omega
       have PB := hid (show BoxAt sBd w.heap.size 39 (PaV.cells { q with bo := ⟨aBd, c.bo.length, cBd⟩ }).toArray by simpa [PaV.cells] using b)
       have RB := hid (RB.out.grown g (fun e => by have := Option.some.inj e; omega))
       have HB := hid (HB.out.trans (grown_below g (Nat.le_refl _) (by omega)))
       have kP : sBd.cell? ⟨w.heap.size, 5, none⟩ = some (.slice aBd c.bo.length cBd) := (BoxAt.cell PB.out 5).trans rfl
       clear b g z HT)
    | fail)
  go_loopw [5] (fun t wr => ∃ k : Nat, k ≤ c.bo.length ∧ t = .int .i64 k ∧ Hid (MBd w wr v2.heap.size i k (.slice aBd c.bo.length cBd) c.bo) ∧ Hid (BoxAt wr w.heap.size 39 (PaV.cells { q with bo := ⟨aBd, c.bo.length, cBd⟩ }).toArray) ∧ Hid (BoxAt wr v1.heap.size 39 (PaV.cells PaV.zero).toArray) ∧ Hid (Below w.heap.size w wr) ∧ sBd.heap.size ≤ wr.heap.size) (fun t _ => c.bo.length - (intOf t).toNat)
  case atStart => exact ⟨0, by omega, rfl, HM, PB, RB, HB, Nat.le_refl _⟩
  case round =>
    clear kP HM PB RB HB
    obtain ⟨k, hk, rfl, HM, PB, RB, HB, hsr⟩ := hrel
    have kP : wr.cell? ⟨w.heap.size, 5, none⟩ = some (.slice aBd c.bo.length cBd) := (BoxAt.cell PB.out 5).trans rfl
    by_cases hlt : k < c.bo.length
    · obtain ⟨g, rfl, hg1, hg2⟩ := HGBd.out (by omega)
      have HLt := hid hlt
      go_wp2_with fail
      have HM := hid (HM.out.below ((Below.refl _ _).drew))
      have PB := hid (BoxAt.drew PB.out)
      have RB := hid (BoxAt.drew RB.out)
      have HB := hid HB.out.drew
      have hsr : sBd.heap.size ≤ wr.drew.heap.size := hsr
      have kP : wr.drew.cell? ⟨w.heap.size, 5, none⟩ = some (.slice (some ⟨g, 0, none⟩) c.bo.length cBd) := (BoxAt.cell PB.out 5).trans rfl
      obtain ⟨sl, hsl1, hsl2⟩ := HM.out.get rfl hlt
      have HSl := hid hsl2
      clear hsl2
      refine wp_region_held_drew (S := (fun W => W.cell? ⟨w.heap.size, 5, none⟩ = some (.slice (some ⟨g, 0, none⟩) c.bo.length cBd))) (by kernel_rfl) (kP) (fun hHeld => ?_)
      refine wpAnyH_take (i := 0) (oi := { dst := some 20, op := Op.fieldAddr 39 (Operand.tmp 2) 5, type := 0, pos := "ref.go:53", after := #[], guard := none }) (v := ?v1) rfl (by kernel_rfl) (by kernel_rfl) (by kernel_rfl) (fun _ _ _ h => h) (Or.inl ⟨by rfl, ?hy1⟩) (by assumption) ?rest1
      case hy1 => (intro w hSw; (try dsimp only at hSw); go_simp; try with_reducible rfl)
      simp only [Act.put, List.setIfInBounds_toArray, List.set_cons_zero, List.set_cons_succ]
      refine wpAnyH_take (i := 1) (oi := { dst := some 21, op := Op.load 30 (Operand.tmp 20), type := 30, pos := "ref.go:53", after := #[{ on := 0, ground := Ground.data }], guard := none }) (v := ?v2) rfl (by kernel_rfl) (by kernel_rfl) (by kernel_rfl) (fun _ _ _ h => h) (Or.inl ⟨by rfl, ?hy2⟩) (by assumption) ?rest2
      case hy2 => (intro w hSw; (try dsimp only at hSw); go_simp; try with_reducible rfl)
      simp only [Act.put, List.setIfInBounds_toArray, List.set_cons_zero, List.set_cons_succ]
      refine wpAnyH_take (i := 2) (oi := { dst := some 22, op := Op.move (Operand.tmp 5), type := 3, pos := "ref.go:53", after := #[], guard := none }) (v := ?v3) rfl (by kernel_rfl) (by kernel_rfl) (by kernel_rfl) (fun _ _ _ h => h) (Or.inl ⟨by rfl, ?hy3⟩) (by assumption) ?rest3
      case hy3 => (intro w hSw; (try dsimp only at hSw); go_simp; try with_reducible rfl)
      simp only [Act.put, List.setIfInBounds_toArray, List.set_cons_zero, List.set_cons_succ]
      refine wpAnyH_take (i := 3) (oi := { dst := some 23, op := Op.fieldAddr 39 (Operand.tmp 2) 5, type := 0, pos := "ref.go:53", after := #[], guard := none }) (v := ?v4) rfl (by kernel_rfl) (by kernel_rfl) (by kernel_rfl) (fun _ _ _ h => h) (Or.inl ⟨by rfl, ?hy4⟩) (by assumption) ?rest4
      case hy4 => (intro w hSw; (try dsimp only at hSw); go_simp; try with_reducible rfl)
      simp only [Act.put, List.setIfInBounds_toArray, List.set_cons_zero, List.set_cons_succ]
      refine wpAnyH_take (i := 4) (oi := { dst := some 24, op := Op.load 30 (Operand.tmp 23), type := 30, pos := "ref.go:53", after := #[{ on := 3, ground := Ground.data }], guard := none }) (v := ?v5) rfl (by kernel_rfl) (by kernel_rfl) (by kernel_rfl) (fun _ _ _ h => h) (Or.inl ⟨by rfl, ?hy5⟩) (by assumption) ?rest5
      case hy5 => (intro w hSw; (try dsimp only at hSw); go_simp; try with_reducible rfl)
      simp only [Act.put, List.setIfInBounds_toArray, List.set_cons_zero, List.set_cons_succ]
      refine wpAnyH_take (i := 5) (oi := { dst := some 25, op := Op.move (Operand.tmp 5), type := 3, pos := "ref.go:53", after := #[], guard := none }) (v := ?v6) rfl (by kernel_rfl) (by kernel_rfl) (by kernel_rfl) (fun _ _ _ h => h) (Or.inl ⟨by rfl, ?hy6⟩) (by assumption) ?rest6
      case hy6 => (intro w hSw; (try dsimp only at hSw); go_simp; try with_reducible rfl)
      simp only [Act.put, List.setIfInBounds_toArray, List.set_cons_zero, List.set_cons_succ]
      refine wpAnyH_take (i := 6) (oi := { dst := some 26, op := Op.indexAddr 30 (Operand.tmp 24) (Operand.tmp 25), type := 0, pos := "ref.go:53", after := #[{ on := 4, ground := Ground.data }, { on := 5, ground := Ground.data }], guard := none }) (v := ?v7) rfl (by kernel_rfl) (by kernel_rfl) (by kernel_rfl) (fun _ _ _ h => h) (Or.inl ⟨by rfl, ?hy7⟩) (by assumption) ?rest7
      case hy7 => (intro w hSw; (try dsimp only at hSw); go_simp; try with_reducible rfl)
      simp only [Act.put, List.setIfInBounds_toArray, List.set_cons_zero, List.set_cons_succ]
      refine wpAnyH_take (i := 7) (oi := { dst := some 27, op := Op.fieldAddr 67 (Operand.tmp 26) 2, type := 0, pos := "ref.go:53", after := #[{ on := 6, ground := Ground.data }], guard := none }) (v := ?v8) rfl (by kernel_rfl) (by kernel_rfl) (by kernel_rfl) (fun _ _ _ h => h) (Or.inl ⟨by rfl, ?hy8⟩) (by assumption) ?rest8
      case hy8 => (intro w hSw; (try dsimp only at hSw); go_simp; try with_reducible rfl)
      simp only [Act.put, List.setIfInBounds_toArray, List.set_cons_zero, List.set_cons_succ]
      refine wpAnyH_take (i := 9) (oi := { dst := some 29, op := Op.move (Operand.tmp 1), type := 3, pos := "ref.go:53", after := #[], guard := none }) (v := ?v9) rfl (by kernel_rfl) (by kernel_rfl) (by kernel_rfl) (fun _ _ _ h => h) (Or.inl ⟨by rfl, ?hy9⟩) (by assumption) ?rest9
      case hy9 => (intro w hSw; (try dsimp only at hSw); go_simp; try with_reducible rfl)
      simp only [Act.put, List.setIfInBounds_toArray, List.set_cons_zero, List.set_cons_succ]
      refine wpAnyH_ready (rs := [8]) (by kernel_rfl) (by simp) (AllReadyH.cons (o := { dst := some 28, op := Op.load 65 (Operand.tmp 27), type := 65, pos := "ref.go:53", after := #[{ on := 7, ground := Ground.data }], guard := none }) rfl (fun K10 hK10 => ?_) AllReadyH.nil)
      go_simp
      refine hK10.out _ _ (hHeld) (fun hHeld10 => ?_)
      clear hK10 K10
      try simp only [Act.put, List.setIfInBounds_toArray, List.set_cons_zero, List.set_cons_succ]
      refine wpAnyH_ready (rs := [10]) (by kernel_rfl) (by simp) (AllReadyH.cons (o := { dst := some 30, op := Op.call { callee := Callee.value (Operand.func 54), args := #[Operand.tmp 28, Operand.tmp 29], argTypes := #[65, 3] }, type := 65, pos := "ref.go:53", after := #[{ on := 8, ground := Ground.data }, { on := 9, ground := Ground.data }], guard := none }) rfl (fun K11 hK11 => ?_) AllReadyH.nil)
      go_simp
      refine (rwithout_any i (HSl.out.below (H0.out.trans (HB.out.mono h0s))) (HSm.out.bol _ (mem_getDz Bd.zero HLt.out))).mono ?_
      rintro e vc ⟨u, rfl, ho, hb⟩
      obtain ⟨s, rfl⟩ := OWt.sl ho
      have HO := hid (OWt.mono ho (show v2.heap.size ≤ wr.drew.heap.size by omega))
      have HM := hid (HM.out.below hb)
      have PB := hid (PB.out.belowAll hb)
      have RB := hid (RB.out.belowAll hb)
      have HB := hid (HB.out.trans (hb.mono HB.out.size))
      have hsc : wr.drew.heap.size ≤ vc.heap.size := hb.size
      obtain ⟨_, hsl3, _⟩ := HM.out.get rfl HLt.out
      have HC3 := hid hsl3
      clear ho hb hsl1 hsl3 kP
      refine hK11.out _ _ ((BoxAt.cell PB.out 5).trans rfl) (fun hHeld11 => ?_)
      clear hK11 K11
      try simp only [Act.put, List.setIfInBounds_toArray, List.set_cons_zero, List.set_cons_succ]
      refine wpAnyH_take (i := 11) (oi := { dst := some 31, op := Op.indexAddr 30 (Operand.tmp 21) (Operand.tmp 22), type := 0, pos := "ref.go:53", after := #[{ on := 1, ground := Ground.data }, { on := 2, ground := Ground.data }, { on := 0, ground := Ground.phase }, { on := 1, ground := Ground.phase }, { on := 2, ground := Ground.phase }, { on := 3, ground := Ground.phase }, { on := 4, ground := Ground.phase }, { on := 5, ground := Ground.phase }, { on := 6, ground := Ground.phase }, { on := 7, ground := Ground.phase }, { on := 8, ground := Ground.phase }, { on := 9, ground := Ground.phase }, { on := 10, ground := Ground.phase }], guard := none }) (v := ?v12) rfl (by kernel_rfl) (by kernel_rfl) (by kernel_rfl) (fun _ _ _ h => h) (Or.inl ⟨by rfl, ?hy12⟩) (by assumption) ?rest12
      case hy12 => (intro w hSw; (try dsimp only at hSw); go_simp; try with_reducible rfl)
      simp only [Act.put, List.setIfInBounds_toArray, List.set_cons_zero, List.set_cons_succ]
      refine wpAnyH_take (i := 12) (oi := { dst := some 32, op := Op.fieldAddr 67 (Operand.tmp 31) 2, type := 0, pos := "ref.go:53", after := #[{ on := 11, ground := Ground.data }, { on := 0, ground := Ground.phase }, { on := 1, ground := Ground.phase }, { on := 2, ground := Ground.phase }, { on := 3, ground := Ground.phase }, { on := 4, ground := Ground.phase }, { on := 5, ground := Ground.phase }, { on := 6, ground := Ground.phase }, { on := 7, ground := Ground.phase }, { on := 8, ground := Ground.phase }, { on := 9, ground := Ground.phase }, { on := 10, ground := Ground.phase }], guard := none }) (v := ?v13) rfl (by kernel_rfl) (by kernel_rfl) (by kernel_rfl) (fun _ _ _ h => h) (Or.inl ⟨by rfl, ?hy13⟩) (by assumption) ?rest13
      case hy13 => (intro w hSw; (try dsimp only at hSw); go_simp; try with_reducible rfl)
      simp only [Act.put, List.setIfInBounds_toArray, List.set_cons_zero, List.set_cons_succ]
      refine wpAnyH_ready (rs := [13]) (by kernel_rfl) (by simp) (AllReadyH.cons (o := { dst := none, op := Op.store 65 (Operand.tmp 32) (Operand.tmp 30), type := 0, pos := "ref.go:53", after := #[{ on := 12, ground := Ground.data }, { on := 10, ground := Ground.data }, { on := 10, ground := Ground.chain }, { on := 0, ground := Ground.phase }, { on := 1, ground := Ground.phase }, { on := 2, ground := Ground.phase }, { on := 3, ground := Ground.phase }, { on := 4, ground := Ground.phase }, { on := 5, ground := Ground.phase }, { on := 6, ground := Ground.phase }, { on := 7, ground := Ground.phase }, { on := 8, ground := Ground.phase }, { on := 9, ground := Ground.phase }, { on := 10, ground := Ground.phase }], guard := none }) rfl (fun K14 hK14 => ?_) AllReadyH.nil)
      refine wp_store_at 65 _ _ rfl g (k * 3 + 2) (.slice s.a s.n s.c) rfl rfl rfl rfl (by kernel_rfl) _ HC3.out (HM.out.free rfl _) ?_
      have HT := hid (HM.out.turns (j := k * 3 + 2) rfl (.slice s.a s.n s.c))
      have HM := hid (HM.out.put rfl HLt.out s HO.out)
      have PB := hid (PB.out.grown (grown_set vc g (k * 3 + 2) (.slice s.a s.n s.c)) (fun e => by have := Option.some.inj e; omega))
      have RB := hid (RB.out.grown (grown_set vc g (k * 3 + 2) (.slice s.a s.n s.c)) (fun e => by have := Option.some.inj e; omega))
      have HB := hid (HB.out.setCell (p := ⟨g, k * 3 + 2, none⟩) (show w.heap.size ≤ g by omega) (.slice s.a s.n s.c))
      have hsw : sBd.heap.size ≤ (vc.setCell ⟨g, k * 3 + 2, none⟩ (.slice s.a s.n s.c)).heap.size := by simp; omega
      obtain ⟨vs, hvs⟩ : ∃ W, vc.setCell ⟨g, k * 3 + 2, none⟩ (.slice s.a s.n s.c) = W := ⟨_, rfl⟩
      rw [hvs] at HM PB RB HB hsw ⊢
      clear hvs HT HC3
      refine hK14.out _ _ ((BoxAt.cell PB.out 5).trans rfl) (fun hHeld14 => ?_)
      clear hK14 K14
      try simp only [Act.put]
      refine wpAnyH_done (by kernel_rfl) ?_ _
      clear hHeld hHeld10 hHeld11 hHeld14
      go_wp2_with fail
      go_roundw
      case rel => exact ⟨k + 1, by have := HLt.out; omega, by go_num, HM, PB, RB, HB, by omega⟩
      case measure => have := HLt.out; simp [intOf]; omega
    · obtain rfl : k = c.bo.length := by omega
      have HFBd := hid HM.out.done
      clear HM
      have hsrBd := hsr
      clear hsr hk hlt
      obtain ⟨xBd, hxBd⟩ : ∃ W, W = wr := ⟨_, rfl⟩
      subst hxBd
      have kA : xBd.cell? ⟨w.heap.size, 6, none⟩ = some (.slice q.bu.a q.bu.n q.bu.c) := (BoxAt.cell PB.out 6).trans rfl
      go_wp2_with (first
        | (at_builtin
           refine app_row 69 31 4 64 _ Try.underlying31 Try.infoOBfV rfl (by decide) (by decide) rfl _ _ rfl xBd.heap.size _ 0 [] rfl (OBfV.nil _ _) _ (rBf.map BfV.cells) rfl (HSBf.out.below (H0.out.trans (HB.out.mono h0s))) (lensBfV _) (oneBfV _) (by have h1 := HSm.out.bu; have h2 := HLBf.out; simp only [List.length_map]; omega) (Nat.le_refl _) ?_
           intro u uBf ho hg hb
           have ho : OBfV uBf xBd.heap.size u rBf := by simpa [OBfV] using ho
           obtain ⟨aBf, cBf, hu, hx1, hx2, hx3⟩ := row_form (show uBf.ownsRow xBd.heap.size 69 4 u c.bu.length (rBf.map BfV.cells).flatten from by rw [← HLBf.out]; exact ho)
           subst hu
           have HM := hid (MBfZ.start (Z := Keep n w) i ho HLBf.out HABf.out)
           have HGBf := hid hx3
           have hclBf : c.bu.length ≤ cBf := hx1
           have hcmBf : cBf ≤ 9223372036854775807 := hx2
           have HFBd := hid (HFBd.out.below hb)
           have PB := hid (PB.out.belowAll hb)
           have RB := hid (RB.out.belowAll hb)
           have HB := hid (HB.out.trans (hb.mono HB.out.size))
           have hsuBf : xBd.heap.size ≤ uBf.heap.size := hb.size
           clear ho hg hb hx1 hx2 hx3 kA)
        | (refine wpList_store_box rfl 31 _ _ rfl rfl w.heap.size 6 (.slice aBf c.bu.length cBf) rfl rfl rfl rfl (by kernel_rfl) _ _ PB.out (by simp [PaV.cells]) ?_
           intro sBf b g z
           have HT := hid (Turns.grown (S := fun t => t = 39) PB.out b rfl g)
           have HM := hid (HM.out.turn (S := fun t => t = 39) (by decide) (by decide) HT.out)
           have HFBd := hid (HFBd.out.turn (S := fun t => t = 39) (by decide) (by decide) HT.out)
           have hssBf : uBf.heap.size ≤ sBf.heap.size := by omega
           have PB := hid (show BoxAt sBf w.heap.size 39 (PaV.cells { { q with bo := ⟨aBd, c.bo.length, cBd⟩ } with bu := ⟨aBf, c.bu.length, cBf⟩ }).toArray by simpa [PaV.cells] using b)
           have RB := hid (RB.out.grown g (fun e => by have := Option.some.inj e; omega))
           have HB := hid (HB.out.trans (grown_below g (Nat.le_refl _) (by omega)))
           have kP : sBf.cell? ⟨w.heap.size, 6, none⟩ = some (.slice aBf c.bu.length cBf) := (BoxAt.cell PB.out 6).trans rfl
           clear b g z HT)
        | fail)
      go_loopw [6] (fun t wr => ∃ k : Nat, k ≤ c.bu.length ∧ t = .int .i64 k ∧ Hid (MBfZ (Keep n w) wr xBd.heap.size i k (.slice aBf c.bu.length cBf) c.bu) ∧ Hid (BoxAt wr w.heap.size 39 (PaV.cells { { q with bo := ⟨aBd, c.bo.length, cBd⟩ } with bu := ⟨aBf, c.bu.length, cBf⟩ }).toArray) ∧ Hid (BoxAt wr v1.heap.size 39 (PaV.cells PaV.zero).toArray) ∧ Hid (FBd w wr v2.heap.size (.slice aBd c.bo.length cBd) (c.bo.map (outBd i))) ∧ Hid (Below w.heap.size w wr) ∧ sBf.heap.size ≤ wr.heap.size) (fun t _ => c.bu.length - (intOf t).toNat)
      case atStart => exact ⟨0, by omega, rfl, HM, PB, RB, HFBd, HB, Nat.le_refl _⟩
      case round =>
        clear kP HM PB RB HFBd HB
        obtain ⟨k, hk, rfl, HM, PB, RB, HFBd, HB, hsr⟩ := hrel
        have kP : wr.cell? ⟨w.heap.size, 6, none⟩ = some (.slice aBf c.bu.length cBf) := (BoxAt.cell PB.out 6).trans rfl
        by_cases hlt : k < c.bu.length
        · obtain ⟨g, rfl, hg1, hg2⟩ := HGBf.out (by omega)
          have HLt := hid hlt
          go_wp2_with fail
          have HM := hid (HM.out.below ((Below.refl _ _).drew))
          have PB := hid (BoxAt.drew PB.out)
          have RB := hid (BoxAt.drew RB.out)
          have HFBd := hid (HFBd.out.below ((Below.refl _ _).drew))
          have HB := hid HB.out.drew
          have hsr : sBf.heap.size ≤ wr.drew.heap.size := hsr
          have kP : wr.drew.cell? ⟨w.heap.size, 6, none⟩ = some (.slice (some ⟨g, 0, none⟩) c.bu.length cBf) := (BoxAt.cell PB.out 6).trans rfl
          obtain ⟨sl, hsl1, hsl2⟩ := HM.out.get HKw.out rfl hlt
          have HSl := hid hsl2
          clear hsl2
          refine wp_region_held_drew (S := (fun W => W.cell? ⟨w.heap.size, 6, none⟩ = some (.slice (some ⟨g, 0, none⟩) c.bu.length cBf))) (by kernel_rfl) (kP) (fun hHeld => ?_)
          refine wpAnyH_take (i := 0) (oi := { dst := some 44, op := Op.fieldAddr 39 (Operand.tmp 2) 6, type := 0, pos := "ref.go:57", after := #[], guard := none }) (v := ?v101) rfl (by kernel_rfl) (by kernel_rfl) (by kernel_rfl) (fun _ _ _ h => h) (Or.inl ⟨by rfl, ?hy101⟩) (by assumption) ?rest101
          case hy101 => (intro w hSw; (try dsimp only at hSw); go_simp; try with_reducible rfl)
          simp only [Act.put, List.setIfInBounds_toArray, List.set_cons_zero, List.set_cons_succ]
          refine wpAnyH_take (i := 1) (oi := { dst := some 45, op := Op.load 31 (Operand.tmp 44), type := 31, pos := "ref.go:57", after := #[{ on := 0, ground := Ground.data }], guard := none }) (v := ?v102) rfl (by kernel_rfl) (by kernel_rfl) (by kernel_rfl) (fun _ _ _ h => h) (Or.inl ⟨by rfl, ?hy102⟩) (by assumption) ?rest102
          case hy102 => (intro w hSw; (try dsimp only at hSw); go_simp; try with_reducible rfl)
          simp only [Act.put, List.setIfInBounds_toArray, List.set_cons_zero, List.set_cons_succ]
          refine wpAnyH_take (i := 2) (oi := { dst := some 46, op := Op.move (Operand.tmp 6), type := 3, pos := "ref.go:57", after := #[], guard := none }) (v := ?v103) rfl (by kernel_rfl) (by kernel_rfl) (by kernel_rfl) (fun _ _ _ h => h) (Or.inl ⟨by rfl, ?hy103⟩) (by assumption) ?rest103
          case hy103 => (intro w hSw; (try dsimp only at hSw); go_simp; try with_reducible rfl)
          simp only [Act.put, List.setIfInBounds_toArray, List.set_cons_zero, List.set_cons_succ]
          refine wpAnyH_take (i := 3) (oi := { dst := some 47, op := Op.fieldAddr 39 (Operand.tmp 2) 6, type := 0, pos := "ref.go:57", after := #[], guard := none }) (v := ?v104) rfl (by kernel_rfl) (by kernel_rfl) (by kernel_rfl) (fun _ _ _ h => h) (Or.inl ⟨by rfl, ?hy104⟩) (by assumption) ?rest104
          case hy104 => (intro w hSw; (try dsimp only at hSw); go_simp; try with_reducible rfl)
          simp only [Act.put, List.setIfInBounds_toArray, List.set_cons_zero, List.set_cons_succ]
          refine wpAnyH_take (i := 4) (oi := { dst := some 48, op := Op.load 31 (Operand.tmp 47), type := 31, pos := "ref.go:57", after := #[{ on := 3, ground := Ground.data }], guard := none }) (v := ?v105) rfl (by kernel_rfl) (by kernel_rfl) (by kernel_rfl) (fun _ _ _ h => h) (Or.inl ⟨by rfl, ?hy105⟩) (by assumption) ?rest105
          case hy105 => (intro w hSw; (try dsimp only at hSw); go_simp; try with_reducible rfl)
          simp only [Act.put, List.setIfInBounds_toArray, List.set_cons_zero, List.set_cons_succ]
          refine wpAnyH_take (i := 5) (oi := { dst := some 49, op := Op.move (Operand.tmp 6), type := 3, pos := "ref.go:57", after := #[], guard := none }) (v := ?v106) rfl (by kernel_rfl) (by kernel_rfl) (by kernel_rfl) (fun _ _ _ h => h) (Or.inl ⟨by rfl, ?hy106⟩) (by assumption) ?rest106
          case hy106 => (intro w hSw; (try dsimp only at hSw); go_simp; try with_reducible rfl)
          simp only [Act.put, List.setIfInBounds_toArray, List.set_cons_zero, List.set_cons_succ]
          refine wpAnyH_take (i := 6) (oi := { dst := some 50, op := Op.indexAddr 31 (Operand.tmp 48) (Operand.tmp 49), type := 0, pos := "ref.go:57", after := #[{ on := 4, ground := Ground.data }, { on := 5, ground := Ground.data }], guard := none }) (v := ?v107) rfl (by kernel_rfl) (by kernel_rfl) (by kernel_rfl) (fun _ _ _ h => h) (Or.inl ⟨by rfl, ?hy107⟩) (by assumption) ?rest107
          case hy107 => (intro w hSw; (try dsimp only at hSw); go_simp; try with_reducible rfl)
          simp only [Act.put, List.setIfInBounds_toArray, List.set_cons_zero, List.set_cons_succ]
          refine wpAnyH_take (i := 7) (oi := { dst := some 51, op := Op.fieldAddr 69 (Operand.tmp 50) 3, type := 0, pos := "ref.go:57", after := #[{ on := 6, ground := Ground.data }], guard := none }) (v := ?v108) rfl (by kernel_rfl) (by kernel_rfl) (by kernel_rfl) (fun _ _ _ h => h) (Or.inl ⟨by rfl, ?hy108⟩) (by assumption) ?rest108
          case hy108 => (intro w hSw; (try dsimp only at hSw); go_simp; try with_reducible rfl)
          simp only [Act.put, List.setIfInBounds_toArray, List.set_cons_zero, List.set_cons_succ]
          refine wpAnyH_take (i := 9) (oi := { dst := some 53, op := Op.move (Operand.tmp 1), type := 3, pos := "ref.go:57", after := #[], guard := none }) (v := ?v109) rfl (by kernel_rfl) (by kernel_rfl) (by kernel_rfl) (fun _ _ _ h => h) (Or.inl ⟨by rfl, ?hy109⟩) (by assumption) ?rest109
          case hy109 => (intro w hSw; (try dsimp only at hSw); go_simp; try with_reducible rfl)
          simp only [Act.put, List.setIfInBounds_toArray, List.set_cons_zero, List.set_cons_succ]
          refine wpAnyH_ready (rs := [8]) (by kernel_rfl) (by simp) (AllReadyH.cons (o := { dst := some 52, op := Op.load 65 (Operand.tmp 51), type := 65, pos := "ref.go:57", after := #[{ on := 7, ground := Ground.data }], guard := none }) rfl (fun K110 hK110 => ?_) AllReadyH.nil)
          go_simp
          refine hK110.out _ _ (hHeld) (fun hHeld110 => ?_)
          clear hK110 K110
          try simp only [Act.put, List.setIfInBounds_toArray, List.set_cons_zero, List.set_cons_succ]
          refine wpAnyH_ready (rs := [10]) (by kernel_rfl) (by simp) (AllReadyH.cons (o := { dst := some 54, op := Op.call { callee := Callee.value (Operand.func 54), args := #[Operand.tmp 52, Operand.tmp 53], argTypes := #[65, 3] }, type := 65, pos := "ref.go:57", after := #[{ on := 8, ground := Ground.data }, { on := 9, ground := Ground.data }], guard := none }) rfl (fun K111 hK111 => ?_) AllReadyH.nil)
          go_simp
          refine (rwithout_any i (HSl.out.below (H0.out.trans (HB.out.mono h0s))) ((HSm.out.bul _ (mem_getDz Bf.zero HLt.out)).1)).mono ?_
          rintro e vc ⟨u, rfl, ho, hb⟩
          obtain ⟨s, rfl⟩ := OWt.sl ho
          have HO := hid (OWt.mono ho (show xBd.heap.size ≤ wr.drew.heap.size by omega))
          have HM := hid (HM.out.below hb)
          have PB := hid (PB.out.belowAll hb)
          have RB := hid (RB.out.belowAll hb)
          have HFBd := hid (HFBd.out.below hb)
          have HB := hid (HB.out.trans (hb.mono HB.out.size))
          have hsc : wr.drew.heap.size ≤ vc.heap.size := hb.size
          obtain ⟨_, hsl3, _⟩ := HM.out.get HKw.out rfl HLt.out
          have HC3 := hid hsl3
          clear ho hb hsl1 hsl3 kP
          refine hK111.out _ _ ((BoxAt.cell PB.out 6).trans rfl) (fun hHeld111 => ?_)
          clear hK111 K111
          try simp only [Act.put, List.setIfInBounds_toArray, List.set_cons_zero, List.set_cons_succ]
          refine wpAnyH_take (i := 11) (oi := { dst := some 55, op := Op.indexAddr 31 (Operand.tmp 45) (Operand.tmp 46), type := 0, pos := "ref.go:57", after := #[{ on := 1, ground := Ground.data }, { on := 2, ground := Ground.data }, { on := 0, ground := Ground.phase }, { on := 1, ground := Ground.phase }, { on := 2, ground := Ground.phase }, { on := 3, ground := Ground.phase }, { on := 4, ground := Ground.phase }, { on := 5, ground := Ground.phase }, { on := 6, ground := Ground.phase }, { on := 7, ground := Ground.phase }, { on := 8, ground := Ground.phase }, { on := 9, ground := Ground.phase }, { on := 10, ground := Ground.phase }], guard := none }) (v := ?v112) rfl (by kernel_rfl) (by kernel_rfl) (by kernel_rfl) (fun _ _ _ h => h) (Or.inl ⟨by rfl, ?hy112⟩) (by assumption) ?rest112
          case hy112 => (intro w hSw; (try dsimp only at hSw); go_simp; try with_reducible rfl)
          simp only [Act.put, List.setIfInBounds_toArray, List.set_cons_zero, List.set_cons_succ]
          refine wpAnyH_take (i := 12) (oi := { dst := some 56, op := Op.fieldAddr 69 (Operand.tmp 55) 3, type := 0, pos := "ref.go:57", after := #[{ on := 11, ground := Ground.data }, { on := 0, ground := Ground.phase }, { on := 1, ground := Ground.phase }, { on := 2, ground := Ground.phase }, { on := 3, ground := Ground.phase }, { on := 4, ground := Ground.phase }, { on := 5, ground := Ground.phase }, { on := 6, ground := Ground.phase }, { on := 7, ground := Ground.phase }, { on := 8, ground := Ground.phase }, { on := 9, ground := Ground.phase }, { on := 10, ground := Ground.phase }], guard := none }) (v := ?v113) rfl (by kernel_rfl) (by kernel_rfl) (by kernel_rfl) (fun _ _ _ h => h) (Or.inl ⟨by rfl, ?hy113⟩) (by assumption) ?rest113
          case hy113 => (intro w hSw; (try dsimp only at hSw); go_simp; try with_reducible rfl)
          simp only [Act.put, List.setIfInBounds_toArray, List.set_cons_zero, List.set_cons_succ]
          refine wpAnyH_ready (rs := [13]) (by kernel_rfl) (by simp) (AllReadyH.cons (o := { dst := none, op := Op.store 65 (Operand.tmp 56) (Operand.tmp 54), type := 0, pos := "ref.go:57", after := #[{ on := 12, ground := Ground.data }, { on := 10, ground := Ground.data }, { on := 10, ground := Ground.chain }, { on := 0, ground := Ground.phase }, { on := 1, ground := Ground.phase }, { on := 2, ground := Ground.phase }, { on := 3, ground := Ground.phase }, { on := 4, ground := Ground.phase }, { on := 5, ground := Ground.phase }, { on := 6, ground := Ground.phase }, { on := 7, ground := Ground.phase }, { on := 8, ground := Ground.phase }, { on := 9, ground := Ground.phase }, { on := 10, ground := Ground.phase }], guard := none }) rfl (fun K114 hK114 => ?_) AllReadyH.nil)
          refine wp_store_at 65 _ _ rfl g (k * 4 + 3) (.slice s.a s.n s.c) rfl rfl rfl rfl (by kernel_rfl) _ HC3.out (HM.out.free rfl _) ?_
          have HT := hid (HM.out.turns (j := k * 4 + 3) rfl (.slice s.a s.n s.c))
          have HM := hid (HM.out.put HKw.out rfl HLt.out s HO.out)
          have PB := hid (PB.out.grown (grown_set vc g (k * 4 + 3) (.slice s.a s.n s.c)) (fun e => by have := Option.some.inj e; omega))
          have RB := hid (RB.out.grown (grown_set vc g (k * 4 + 3) (.slice s.a s.n s.c)) (fun e => by have := Option.some.inj e; omega))
          have HFBd := hid (HFBd.out.turn (S := fun t => t = 69) (by decide) (by decide) HT.out)
          have HB := hid (HB.out.setCell (p := ⟨g, k * 4 + 3, none⟩) (show w.heap.size ≤ g by omega) (.slice s.a s.n s.c))
          have hsw : sBf.heap.size ≤ (vc.setCell ⟨g, k * 4 + 3, none⟩ (.slice s.a s.n s.c)).heap.size := by simp; omega
          obtain ⟨vs, hvs⟩ : ∃ W, vc.setCell ⟨g, k * 4 + 3, none⟩ (.slice s.a s.n s.c) = W := ⟨_, rfl⟩
          rw [hvs] at HM PB RB HB hsw HFBd ⊢
          clear hvs HT HC3
          refine hK114.out _ _ ((BoxAt.cell PB.out 6).trans rfl) (fun hHeld114 => ?_)
          clear hK114 K114
          try simp only [Act.put]
          refine wpAnyH_done (by kernel_rfl) ?_ _
          clear hHeld hHeld110 hHeld111 hHeld114
          go_wp2_with fail
          go_roundw
          case rel => exact ⟨k + 1, by have := HLt.out; omega, by go_num, HM, PB, RB, HFBd, HB, by omega⟩
          case measure => have := HLt.out; simp [intOf]; omega
        · obtain rfl : k = c.bu.length := by omega
          have HFBf := hid HM.out.done
          clear HM
          have hsrBf := hsr
          clear hsr hk hlt
          obtain ⟨xBf, hxBf⟩ : ∃ W, W = wr := ⟨_, rfl⟩
          subst hxBf
          have kA : xBf.cell? ⟨w.heap.size, 7, none⟩ = some (.slice q.se.a q.se.n q.se.c) := (BoxAt.cell PB.out 7).trans rfl
          go_wp2_with (first
            | (at_builtin
               refine app_row 71 32 4 48 _ Try.underlying32 Try.infoOSeV rfl (by decide) (by decide) rfl _ _ rfl xBf.heap.size _ 0 [] rfl (OSeV.nil _ _) _ (rSe.map SeV.cells) rfl (HSSe.out.below (H0.out.trans (HB.out.mono h0s))) (lensSeV _) (oneSeV _) (by have h1 := HSm.out.se; have h2 := HLSe.out; simp only [List.length_map]; omega) (Nat.le_refl _) ?_
               intro u uSe ho hg hb
               have ho : OSeV uSe xBf.heap.size u rSe := by simpa [OSeV] using ho
               obtain ⟨aSe, cSe, hu, hx1, hx2, hx3⟩ := row_form (show uSe.ownsRow xBf.heap.size 71 4 u c.se.length (rSe.map SeV.cells).flatten from by rw [← HLSe.out]; exact ho)
               subst hu
               have HM := hid (MSe.start (w0 := w) i ho HLSe.out HASe.out)
               have HGSe := hid hx3
               have hclSe : c.se.length ≤ cSe := hx1
               have hcmSe : cSe ≤ 9223372036854775807 := hx2
               have HFBd := hid (HFBd.out.below hb)
               have HFBf := hid (HFBf.out.below hb)
               have PB := hid (PB.out.belowAll hb)
               have RB := hid (RB.out.belowAll hb)
               have HB := hid (HB.out.trans (hb.mono HB.out.size))
               have hsuSe : xBf.heap.size ≤ uSe.heap.size := hb.size
               clear ho hg hb hx1 hx2 hx3 kA)
            | (refine wpList_store_box rfl 32 _ _ rfl rfl w.heap.size 7 (.slice aSe c.se.length cSe) rfl rfl rfl rfl (by kernel_rfl) _ _ PB.out (by simp [PaV.cells]) ?_
               intro sSe b g z
               have HT := hid (Turns.grown (S := fun t => t = 39) PB.out b rfl g)
               have HM := hid (HM.out.turn (S := fun t => t = 39) (by decide) (by decide) HT.out)
               have HFBd := hid (HFBd.out.turn (S := fun t => t = 39) (by decide) (by decide) HT.out)
               have HFBf := hid (HFBf.out.turn (S := fun t => t = 39) (by decide) (by decide) HT.out)
               have hssSe : uSe.heap.size ≤ sSe.heap.size := by omega
               have PB := hid (show BoxAt sSe w.heap.size 39 (PaV.cells { { { q with bo := ⟨aBd, c.bo.length, cBd⟩ } with bu := ⟨aBf, c.bu.length, cBf⟩ } with se := ⟨aSe, c.se.length, cSe⟩ }).toArray by simpa [PaV.cells] using b)
               have RB := hid (RB.out.grown g (fun e => by have := Option.some.inj e; omega))
               have HB := hid (HB.out.trans (grown_below g (Nat.le_refl _) (by omega)))
               have kP : sSe.cell? ⟨w.heap.size, 7, none⟩ = some (.slice aSe c.se.length cSe) := (BoxAt.cell PB.out 7).trans rfl
               clear b g z HT)
            | fail)
          go_loopw [7] (fun t wr => ∃ k : Nat, k ≤ c.se.length ∧ t = .int .i64 k ∧ Hid (MSe w wr xBf.heap.size i k (.slice aSe c.se.length cSe) c.se) ∧ Hid (BoxAt wr w.heap.size 39 (PaV.cells { { { q with bo := ⟨aBd, c.bo.length, cBd⟩ } with bu := ⟨aBf, c.bu.length, cBf⟩ } with se := ⟨aSe, c.se.length, cSe⟩ }).toArray) ∧ Hid (BoxAt wr v1.heap.size 39 (PaV.cells PaV.zero).toArray) ∧ Hid (FBd w wr v2.heap.size (.slice aBd c.bo.length cBd) (c.bo.map (outBd i))) ∧ Hid (FBfZ (Keep n w) wr xBd.heap.size (.slice aBf c.bu.length cBf) (c.bu.map (outBf i))) ∧ Hid (Below w.heap.size w wr) ∧ sSe.heap.size ≤ wr.heap.size) (fun t _ => c.se.length - (intOf t).toNat)
          case atStart => exact ⟨0, by omega, rfl, HM, PB, RB, HFBd, HFBf, HB, Nat.le_refl _⟩
          case round =>
            clear kP HM PB RB HFBd HFBf HB
            obtain ⟨k, hk, rfl, HM, PB, RB, HFBd, HFBf, HB, hsr⟩ := hrel
            have kP : wr.cell? ⟨w.heap.size, 7, none⟩ = some (.slice aSe c.se.length cSe) := (BoxAt.cell PB.out 7).trans rfl
            by_cases hlt : k < c.se.length
            · obtain ⟨g, rfl, hg1, hg2⟩ := HGSe.out (by omega)
              have HLt := hid hlt
              go_wp2_with fail
              have HM := hid (HM.out.below ((Below.refl _ _).drew))
              have PB := hid (BoxAt.drew PB.out)
              have RB := hid (BoxAt.drew RB.out)
              have HFBd := hid (HFBd.out.below ((Below.refl _ _).drew))
              have HFBf := hid (HFBf.out.below ((Below.refl _ _).drew))
              have HB := hid HB.out.drew
              have hsr : sSe.heap.size ≤ wr.drew.heap.size := hsr
              have kP : wr.drew.cell? ⟨w.heap.size, 7, none⟩ = some (.slice (some ⟨g, 0, none⟩) c.se.length cSe) := (BoxAt.cell PB.out 7).trans rfl
              obtain ⟨sl, hsl1, hsl2⟩ := HM.out.get rfl hlt
              have HSl := hid hsl2
              clear hsl2
              refine wp_region_held_drew (S := (fun W => W.cell? ⟨w.heap.size, 7, none⟩ = some (.slice (some ⟨g, 0, none⟩) c.se.length cSe))) (by kernel_rfl) (kP) (fun hHeld => ?_)
              refine wpAnyH_take (i := 0) (oi := { dst := some 68, op := Op.fieldAddr 39 (Operand.tmp 2) 7, type := 0, pos := "ref.go:61", after := #[], guard := none }) (v := ?v201) rfl (by kernel_rfl) (by kernel_rfl) (by kernel_rfl) (fun _ _ _ h => h) (Or.inl ⟨by rfl, ?hy201⟩) (by assumption) ?rest201
              case hy201 => (intro w hSw; (try dsimp only at hSw); go_simp; try with_reducible rfl)
              simp only [Act.put, List.setIfInBounds_toArray, List.set_cons_zero, List.set_cons_succ]
              refine wpAnyH_take (i := 1) (oi := { dst := some 69, op := Op.load 32 (Operand.tmp 68), type := 32, pos := "ref.go:61", after := #[{ on := 0, ground := Ground.data }], guard := none }) (v := ?v202) rfl (by kernel_rfl) (by kernel_rfl) (by kernel_rfl) (fun _ _ _ h => h) (Or.inl ⟨by rfl, ?hy202⟩) (by assumption) ?rest202
              case hy202 => (intro w hSw; (try dsimp only at hSw); go_simp; try with_reducible rfl)
              simp only [Act.put, List.setIfInBounds_toArray, List.set_cons_zero, List.set_cons_succ]
              refine wpAnyH_take (i := 2) (oi := { dst := some 70, op := Op.move (Operand.tmp 7), type := 3, pos := "ref.go:61", after := #[], guard := none }) (v := ?v203) rfl (by kernel_rfl) (by kernel_rfl) (by kernel_rfl) (fun _ _ _ h => h) (Or.inl ⟨by rfl, ?hy203⟩) (by assumption) ?rest203
              case hy203 => (intro w hSw; (try dsimp only at hSw); go_simp; try with_reducible rfl)
              simp only [Act.put, List.setIfInBounds_toArray, List.set_cons_zero, List.set_cons_succ]
              refine wpAnyH_take (i := 3) (oi := { dst := some 71, op := Op.fieldAddr 39 (Operand.tmp 2) 7, type := 0, pos := "ref.go:61", after := #[], guard := none }) (v := ?v204) rfl (by kernel_rfl) (by kernel_rfl) (by kernel_rfl) (fun _ _ _ h => h) (Or.inl ⟨by rfl, ?hy204⟩) (by assumption) ?rest204
              case hy204 => (intro w hSw; (try dsimp only at hSw); go_simp; try with_reducible rfl)
              simp only [Act.put, List.setIfInBounds_toArray, List.set_cons_zero, List.set_cons_succ]
              refine wpAnyH_take (i := 4) (oi := { dst := some 72, op := Op.load 32 (Operand.tmp 71), type := 32, pos := "ref.go:61", after := #[{ on := 3, ground := Ground.data }], guard := none }) (v := ?v205) rfl (by kernel_rfl) (by kernel_rfl) (by kernel_rfl) (fun _ _ _ h => h) (Or.inl ⟨by rfl, ?hy205⟩) (by assumption) ?rest205
              case hy205 => (intro w hSw; (try dsimp only at hSw); go_simp; try with_reducible rfl)
              simp only [Act.put, List.setIfInBounds_toArray, List.set_cons_zero, List.set_cons_succ]
              refine wpAnyH_take (i := 5) (oi := { dst := some 73, op := Op.move (Operand.tmp 7), type := 3, pos := "ref.go:61", after := #[], guard := none }) (v := ?v206) rfl (by kernel_rfl) (by kernel_rfl) (by kernel_rfl) (fun _ _ _ h => h) (Or.inl ⟨by rfl, ?hy206⟩) (by assumption) ?rest206
              case hy206 => (intro w hSw; (try dsimp only at hSw); go_simp; try with_reducible rfl)
              simp only [Act.put, List.setIfInBounds_toArray, List.set_cons_zero, List.set_cons_succ]
              refine wpAnyH_take (i := 6) (oi := { dst := some 74, op := Op.indexAddr 32 (Operand.tmp 72) (Operand.tmp 73), type := 0, pos := "ref.go:61", after := #[{ on := 4, ground := Ground.data }, { on := 5, ground := Ground.data }], guard := none }) (v := ?v207) rfl (by kernel_rfl) (by kernel_rfl) (by kernel_rfl) (fun _ _ _ h => h) (Or.inl ⟨by rfl, ?hy207⟩) (by assumption) ?rest207
              case hy207 => (intro w hSw; (try dsimp only at hSw); go_simp; try with_reducible rfl)
              simp only [Act.put, List.setIfInBounds_toArray, List.set_cons_zero, List.set_cons_succ]
              refine wpAnyH_take (i := 7) (oi := { dst := some 75, op := Op.fieldAddr 71 (Operand.tmp 74) 3, type := 0, pos := "ref.go:61", after := #[{ on := 6, ground := Ground.data }], guard := none }) (v := ?v208) rfl (by kernel_rfl) (by kernel_rfl) (by kernel_rfl) (fun _ _ _ h => h) (Or.inl ⟨by rfl, ?hy208⟩) (by assumption) ?rest208
              case hy208 => (intro w hSw; (try dsimp only at hSw); go_simp; try with_reducible rfl)
              simp only [Act.put, List.setIfInBounds_toArray, List.set_cons_zero, List.set_cons_succ]
              refine wpAnyH_take (i := 9) (oi := { dst := some 77, op := Op.move (Operand.tmp 1), type := 3, pos := "ref.go:61", after := #[], guard := none }) (v := ?v209) rfl (by kernel_rfl) (by kernel_rfl) (by kernel_rfl) (fun _ _ _ h => h) (Or.inl ⟨by rfl, ?hy209⟩) (by assumption) ?rest209
              case hy209 => (intro w hSw; (try dsimp only at hSw); go_simp; try with_reducible rfl)
              simp only [Act.put, List.setIfInBounds_toArray, List.set_cons_zero, List.set_cons_succ]
              refine wpAnyH_ready (rs := [8]) (by kernel_rfl) (by simp) (AllReadyH.cons (o := { dst := some 76, op := Op.load 65 (Operand.tmp 75), type := 65, pos := "ref.go:61", after := #[{ on := 7, ground := Ground.data }], guard := none }) rfl (fun K210 hK210 => ?_) AllReadyH.nil)
              go_simp
              refine hK210.out _ _ (hHeld) (fun hHeld210 => ?_)
              clear hK210 K210
              try simp only [Act.put, List.setIfInBounds_toArray, List.set_cons_zero, List.set_cons_succ]
              refine wpAnyH_ready (rs := [10]) (by kernel_rfl) (by simp) (AllReadyH.cons (o := { dst := some 78, op := Op.call { callee := Callee.value (Operand.func 54), args := #[Operand.tmp 76, Operand.tmp 77], argTypes := #[65, 3] }, type := 65, pos := "ref.go:61", after := #[{ on := 8, ground := Ground.data }, { on := 9, ground := Ground.data }], guard := none }) rfl (fun K211 hK211 => ?_) AllReadyH.nil)
              go_simp
              refine (rwithout_any i (HSl.out.below (H0.out.trans (HB.out.mono h0s))) (HSm.out.sel _ (mem_getDz Se.zero HLt.out))).mono ?_
              rintro e vc ⟨u, rfl, ho, hb⟩
              obtain ⟨s, rfl⟩ := OWt.sl ho
              have HO := hid (OWt.mono ho (show xBf.heap.size ≤ wr.drew.heap.size by omega))
              have HM := hid (HM.out.below hb)
              have PB := hid (PB.out.belowAll hb)
              have RB := hid (RB.out.belowAll hb)
              have HFBd := hid (HFBd.out.below hb)
              have HFBf := hid (HFBf.out.below hb)
              have HB := hid (HB.out.trans (hb.mono HB.out.size))
              have hsc : wr.drew.heap.size ≤ vc.heap.size := hb.size
              obtain ⟨_, hsl3, _⟩ := HM.out.get rfl HLt.out
              have HC3 := hid hsl3
              clear ho hb hsl1 hsl3 kP
              refine hK211.out _ _ ((BoxAt.cell PB.out 7).trans rfl) (fun hHeld211 => ?_)
              clear hK211 K211
              try simp only [Act.put, List.setIfInBounds_toArray, List.set_cons_zero, List.set_cons_succ]
              refine wpAnyH_take (i := 11) (oi := { dst := some 79, op := Op.indexAddr 32 (Operand.tmp 69) (Operand.tmp 70), type := 0, pos := "ref.go:61", after := #[{ on := 1, ground := Ground.data }, { on := 2, ground := Ground.data }, { on := 0, ground := Ground.phase }, { on := 1, ground := Ground.phase }, { on := 2, ground := Ground.phase }, { on := 3, ground := Ground.phase }, { on := 4, ground := Ground.phase }, { on := 5, ground := Ground.phase }, { on := 6, ground := Ground.phase }, { on := 7, ground := Ground.phase }, { on := 8, ground := Ground.phase }, { on := 9, ground := Ground.phase }, { on := 10, ground := Ground.phase }], guard := none }) (v := ?v212) rfl (by kernel_rfl) (by kernel_rfl) (by kernel_rfl) (fun _ _ _ h => h) (Or.inl ⟨by rfl, ?hy212⟩) (by assumption) ?rest212
              case hy212 => (intro w hSw; (try dsimp only at hSw); go_simp; try with_reducible rfl)
              simp only [Act.put, List.setIfInBounds_toArray, List.set_cons_zero, List.set_cons_succ]
              refine wpAnyH_take (i := 12) (oi := { dst := some 80, op := Op.fieldAddr 71 (Operand.tmp 79) 3, type := 0, pos := "ref.go:61", after := #[{ on := 11, ground := Ground.data }, { on := 0, ground := Ground.phase }, { on := 1, ground := Ground.phase }, { on := 2, ground := Ground.phase }, { on := 3, ground := Ground.phase }, { on := 4, ground := Ground.phase }, { on := 5, ground := Ground.phase }, { on := 6, ground := Ground.phase }, { on := 7, ground := Ground.phase }, { on := 8, ground := Ground.phase }, { on := 9, ground := Ground.phase }, { on := 10, ground := Ground.phase }], guard := none }) (v := ?v213) rfl (by kernel_rfl) (by kernel_rfl) (by kernel_rfl) (fun _ _ _ h => h) (Or.inl ⟨by rfl, ?hy213⟩) (by assumption) ?rest213
              case hy213 => (intro w hSw; (try dsimp only at hSw); go_simp; try with_reducible rfl)
              simp only [Act.put, List.setIfInBounds_toArray, List.set_cons_zero, List.set_cons_succ]
              refine wpAnyH_ready (rs := [13]) (by kernel_rfl) (by simp) (AllReadyH.cons (o := { dst := none, op := Op.store 65 (Operand.tmp 80) (Operand.tmp 78), type := 0, pos := "ref.go:61", after := #[{ on := 12, ground := Ground.data }, { on := 10, ground := Ground.data }, { on := 10, ground := Ground.chain }, { on := 0, ground := Ground.phase }, { on := 1, ground := Ground.phase }, { on := 2, ground := Ground.phase }, { on := 3, ground := Ground.phase }, { on := 4, ground := Ground.phase }, { on := 5, ground := Ground.phase }, { on := 6, ground := Ground.phase }, { on := 7, ground := Ground.phase }, { on := 8, ground := Ground.phase }, { on := 9, ground := Ground.phase }, { on := 10, ground := Ground.phase }], guard := none }) rfl (fun K214 hK214 => ?_) AllReadyH.nil)
              refine wp_store_at 65 _ _ rfl g (k * 4 + 3) (.slice s.a s.n s.c) rfl rfl rfl rfl (by kernel_rfl) _ HC3.out (HM.out.free rfl _) ?_
              have HT := hid (HM.out.turns (j := k * 4 + 3) rfl (.slice s.a s.n s.c))
              have HM := hid (HM.out.put rfl HLt.out s HO.out)
              have PB := hid (PB.out.grown (grown_set vc g (k * 4 + 3) (.slice s.a s.n s.c)) (fun e => by have := Option.some.inj e; omega))
              have RB := hid (RB.out.grown (grown_set vc g (k * 4 + 3) (.slice s.a s.n s.c)) (fun e => by have := Option.some.inj e; omega))
              have HFBd := hid (HFBd.out.turn (S := fun t => t = 71) (by decide) (by decide) HT.out)
              have HFBf := hid (HFBf.out.turn (S := fun t => t = 71) (by decide) (by decide) HT.out)
              have HB := hid (HB.out.setCell (p := ⟨g, k * 4 + 3, none⟩) (show w.heap.size ≤ g by omega) (.slice s.a s.n s.c))
              have hsw : sSe.heap.size ≤ (vc.setCell ⟨g, k * 4 + 3, none⟩ (.slice s.a s.n s.c)).heap.size := by simp; omega
              obtain ⟨vs, hvs⟩ : ∃ W, vc.setCell ⟨g, k * 4 + 3, none⟩ (.slice s.a s.n s.c) = W := ⟨_, rfl⟩
              rw [hvs] at HM PB RB HB hsw HFBd HFBf ⊢
              clear hvs HT HC3
              refine hK214.out _ _ ((BoxAt.cell PB.out 7).trans rfl) (fun hHeld214 => ?_)
              clear hK214 K214
              try simp only [Act.put]
              refine wpAnyH_done (by kernel_rfl) ?_ _
              clear hHeld hHeld210 hHeld211 hHeld214
              go_wp2_with fail
              go_roundw
              case rel => exact ⟨k + 1, by have := HLt.out; omega, by go_num, HM, PB, RB, HFBd, HFBf, HB, by omega⟩
              case measure => have := HLt.out; simp [intOf]; omega
            · obtain rfl : k = c.se.length := by omega
              have HFSe := hid HM.out.done
              clear HM
              have hsrSe := hsr
              clear hsr hk hlt
              obtain ⟨xSe, hxSe⟩ : ∃ W, W = wr := ⟨_, rfl⟩
              subst hxSe
              have kA : xSe.cell? ⟨w.heap.size, 8, none⟩ = some (.slice q.ev.a q.ev.n q.ev.c) := (BoxAt.cell PB.out 8).trans rfl
              go_wp2_with (first
                | (at_builtin
                   refine app_row 73 33 2 32 _ Try.underlying33 Try.infoOEvV rfl (by decide) (by decide) rfl _ _ rfl xSe.heap.size _ 0 [] rfl (OEvV.nil _ _) _ (rEv.map EvV.cells) rfl (HSEv.out.below (H0.out.trans (HB.out.mono h0s))) (lensEvV _) (oneEvV _) (by have h1 := HSm.out.ev; have h2 := HLEv.out; simp only [List.length_map]; omega) (Nat.le_refl _) ?_
                   intro u uEv ho hg hb
                   have ho : OEvV uEv xSe.heap.size u rEv := by simpa [OEvV] using ho
                   obtain ⟨aEv, cEv, hu, hx1, hx2, hx3⟩ := row_form (show uEv.ownsRow xSe.heap.size 73 2 u c.ev.length (rEv.map EvV.cells).flatten from by rw [← HLEv.out]; exact ho)
                   subst hu
                   have HM := hid (MEv.start (w0 := w) i ho HLEv.out HAEv.out)
                   have HGEv := hid hx3
                   have hclEv : c.ev.length ≤ cEv := hx1
                   have hcmEv : cEv ≤ 9223372036854775807 := hx2
                   have HFBd := hid (HFBd.out.below hb)
                   have HFBf := hid (HFBf.out.below hb)
                   have HFSe := hid (HFSe.out.below hb)
                   have PB := hid (PB.out.belowAll hb)
                   have RB := hid (RB.out.belowAll hb)
                   have HB := hid (HB.out.trans (hb.mono HB.out.size))
                   have hsuEv : xSe.heap.size ≤ uEv.heap.size := hb.size
                   clear ho hg hb hx1 hx2 hx3 kA)
                | (refine wpList_store_box rfl 33 _ _ rfl rfl w.heap.size 8 (.slice aEv c.ev.length cEv) rfl rfl rfl rfl (by kernel_rfl) _ _ PB.out (by simp [PaV.cells]) ?_
                   intro sEv b g z
                   have HT := hid (Turns.grown (S := fun t => t = 39) PB.out b rfl g)
                   have HM := hid (HM.out.turn (S := fun t => t = 39) (by decide) (by decide) HT.out)
                   have HFBd := hid (HFBd.out.turn (S := fun t => t = 39) (by decide) (by decide) HT.out)
                   have HFBf := hid (HFBf.out.turn (S := fun t => t = 39) (by decide) (by decide) HT.out)
                   have HFSe := hid (HFSe.out.turn (S := fun t => t = 39) (by decide) (by decide) HT.out)
                   have hssEv : uEv.heap.size ≤ sEv.heap.size := by omega
                   have PB := hid (show BoxAt sEv w.heap.size 39 (PaV.cells { { { { q with bo := ⟨aBd, c.bo.length, cBd⟩ } with bu := ⟨aBf, c.bu.length, cBf⟩ } with se := ⟨aSe, c.se.length, cSe⟩ } with ev := ⟨aEv, c.ev.length, cEv⟩ }).toArray by simpa [PaV.cells] using b)
                   have RB := hid (RB.out.grown g (fun e => by have := Option.some.inj e; omega))
                   have HB := hid (HB.out.trans (grown_below g (Nat.le_refl _) (by omega)))
                   have kP : sEv.cell? ⟨w.heap.size, 8, none⟩ = some (.slice aEv c.ev.length cEv) := (BoxAt.cell PB.out 8).trans rfl
                   clear b g z HT)
                | fail)
              go_loopw [8] (fun t wr => ∃ k : Nat, k ≤ c.ev.length ∧ t = .int .i64 k ∧ Hid (MEv w wr xSe.heap.size i k (.slice aEv c.ev.length cEv) c.ev) ∧ Hid (BoxAt wr w.heap.size 39 (PaV.cells { { { { q with bo := ⟨aBd, c.bo.length, cBd⟩ } with bu := ⟨aBf, c.bu.length, cBf⟩ } with se := ⟨aSe, c.se.length, cSe⟩ } with ev := ⟨aEv, c.ev.length, cEv⟩ }).toArray) ∧ Hid (BoxAt wr v1.heap.size 39 (PaV.cells PaV.zero).toArray) ∧ Hid (FBd w wr v2.heap.size (.slice aBd c.bo.length cBd) (c.bo.map (outBd i))) ∧ Hid (FBfZ (Keep n w) wr xBd.heap.size (.slice aBf c.bu.length cBf) (c.bu.map (outBf i))) ∧ Hid (FSe w wr xBf.heap.size (.slice aSe c.se.length cSe) (c.se.map (outSe i))) ∧ Hid (Below w.heap.size w wr) ∧ sEv.heap.size ≤ wr.heap.size) (fun t _ => c.ev.length - (intOf t).toNat)
              case atStart => exact ⟨0, by omega, rfl, HM, PB, RB, HFBd, HFBf, HFSe, HB, Nat.le_refl _⟩
              case round =>
                clear kP HM PB RB HFBd HFBf HFSe HB
                obtain ⟨k, hk, rfl, HM, PB, RB, HFBd, HFBf, HFSe, HB, hsr⟩ := hrel
                have kP : wr.cell? ⟨w.heap.size, 8, none⟩ = some (.slice aEv c.ev.length cEv) := (BoxAt.cell PB.out 8).trans rfl
                by_cases hlt : k < c.ev.length
                · obtain ⟨g, rfl, hg1, hg2⟩ := HGEv.out (by omega)
                  have HLt := hid hlt
                  go_wp2_with fail
                  have HM := hid (HM.out.below ((Below.refl _ _).drew))
                  have PB := hid (BoxAt.drew PB.out)
                  have RB := hid (BoxAt.drew RB.out)
                  have HFBd := hid (HFBd.out.below ((Below.refl _ _).drew))
                  have HFBf := hid (HFBf.out.below ((Below.refl _ _).drew))
                  have HFSe := hid (HFSe.out.below ((Below.refl _ _).drew))
                  have HB := hid HB.out.drew
                  have hsr : sEv.heap.size ≤ wr.drew.heap.size := hsr
                  have kP : wr.drew.cell? ⟨w.heap.size, 8, none⟩ = some (.slice (some ⟨g, 0, none⟩) c.ev.length cEv) := (BoxAt.cell PB.out 8).trans rfl
                  obtain ⟨sl, hsl1, hsl2⟩ := HM.out.get rfl hlt
                  have HSl := hid hsl2
                  clear hsl2
                  refine wp_region_held_drew (S := (fun W => W.cell? ⟨w.heap.size, 8, none⟩ = some (.slice (some ⟨g, 0, none⟩) c.ev.length cEv))) (by kernel_rfl) (kP) (fun hHeld => ?_)
                  refine wpAnyH_take (i := 0) (oi := { dst := some 92, op := Op.fieldAddr 39 (Operand.tmp 2) 8, type := 0, pos := "ref.go:65", after := #[], guard := none }) (v := ?v301) rfl (by kernel_rfl) (by kernel_rfl) (by kernel_rfl) (fun _ _ _ h => h) (Or.inl ⟨by rfl, ?hy301⟩) (by assumption) ?rest301
                  case hy301 => (intro w hSw; (try dsimp only at hSw); go_simp; try with_reducible rfl)
                  simp only [Act.put, List.setIfInBounds_toArray, List.set_cons_zero, List.set_cons_succ]
                  refine wpAnyH_take (i := 1) (oi := { dst := some 93, op := Op.load 33 (Operand.tmp 92), type := 33, pos := "ref.go:65", after := #[{ on := 0, ground := Ground.data }], guard := none }) (v := ?v302) rfl (by kernel_rfl) (by kernel_rfl) (by kernel_rfl) (fun _ _ _ h => h) (Or.inl ⟨by rfl, ?hy302⟩) (by assumption) ?rest302
                  case hy302 => (intro w hSw; (try dsimp only at hSw); go_simp; try with_reducible rfl)
                  simp only [Act.put, List.setIfInBounds_toArray, List.set_cons_zero, List.set_cons_succ]
                  refine wpAnyH_take (i := 2) (oi := { dst := some 94, op := Op.move (Operand.tmp 8), type := 3, pos := "ref.go:65", after := #[], guard := none }) (v := ?v303) rfl (by kernel_rfl) (by kernel_rfl) (by kernel_rfl) (fun _ _ _ h => h) (Or.inl ⟨by rfl, ?hy303⟩) (by assumption) ?rest303
                  case hy303 => (intro w hSw; (try dsimp only at hSw); go_simp; try with_reducible rfl)
                  simp only [Act.put, List.setIfInBounds_toArray, List.set_cons_zero, List.set_cons_succ]
                  refine wpAnyH_take (i := 3) (oi := { dst := some 95, op := Op.fieldAddr 39 (Operand.tmp 2) 8, type := 0, pos := "ref.go:65", after := #[], guard := none }) (v := ?v304) rfl (by kernel_rfl) (by kernel_rfl) (by kernel_rfl) (fun _ _ _ h => h) (Or.inl ⟨by rfl, ?hy304⟩) (by assumption) ?rest304
                  case hy304 => (intro w hSw; (try dsimp only at hSw); go_simp; try with_reducible rfl)
                  simp only [Act.put, List.setIfInBounds_toArray, List.set_cons_zero, List.set_cons_succ]
                  refine wpAnyH_take (i := 4) (oi := { dst := some 96, op := Op.load 33 (Operand.tmp 95), type := 33, pos := "ref.go:65", after := #[{ on := 3, ground := Ground.data }], guard := none }) (v := ?v305) rfl (by kernel_rfl) (by kernel_rfl) (by kernel_rfl) (fun _ _ _ h => h) (Or.inl ⟨by rfl, ?hy305⟩) (by assumption) ?rest305
                  case hy305 => (intro w hSw; (try dsimp only at hSw); go_simp; try with_reducible rfl)
                  simp only [Act.put, List.setIfInBounds_toArray, List.set_cons_zero, List.set_cons_succ]
                  refine wpAnyH_take (i := 5) (oi := { dst := some 97, op := Op.move (Operand.tmp 8), type := 3, pos := "ref.go:65", after := #[], guard := none }) (v := ?v306) rfl (by kernel_rfl) (by kernel_rfl) (by kernel_rfl) (fun _ _ _ h => h) (Or.inl ⟨by rfl, ?hy306⟩) (by assumption) ?rest306
                  case hy306 => (intro w hSw; (try dsimp only at hSw); go_simp; try with_reducible rfl)
                  simp only [Act.put, List.setIfInBounds_toArray, List.set_cons_zero, List.set_cons_succ]
                  refine wpAnyH_take (i := 6) (oi := { dst := some 98, op := Op.indexAddr 33 (Operand.tmp 96) (Operand.tmp 97), type := 0, pos := "ref.go:65", after := #[{ on := 4, ground := Ground.data }, { on := 5, ground := Ground.data }], guard := none }) (v := ?v307) rfl (by kernel_rfl) (by kernel_rfl) (by kernel_rfl) (fun _ _ _ h => h) (Or.inl ⟨by rfl, ?hy307⟩) (by assumption) ?rest307
                  case hy307 => (intro w hSw; (try dsimp only at hSw); go_simp; try with_reducible rfl)
                  simp only [Act.put, List.setIfInBounds_toArray, List.set_cons_zero, List.set_cons_succ]
                  refine wpAnyH_take (i := 7) (oi := { dst := some 99, op := Op.fieldAddr 73 (Operand.tmp 98) 1, type := 0, pos := "ref.go:65", after := #[{ on := 6, ground := Ground.data }], guard := none }) (v := ?v308) rfl (by kernel_rfl) (by kernel_rfl) (by kernel_rfl) (fun _ _ _ h => h) (Or.inl ⟨by rfl, ?hy308⟩) (by assumption) ?rest308
                  case hy308 => (intro w hSw; (try dsimp only at hSw); go_simp; try with_reducible rfl)
                  simp only [Act.put, List.setIfInBounds_toArray, List.set_cons_zero, List.set_cons_succ]
                  refine wpAnyH_take (i := 9) (oi := { dst := some 101, op := Op.move (Operand.tmp 1), type := 3, pos := "ref.go:65", after := #[], guard := none }) (v := ?v309) rfl (by kernel_rfl) (by kernel_rfl) (by kernel_rfl) (fun _ _ _ h => h) (Or.inl ⟨by rfl, ?hy309⟩) (by assumption) ?rest309
                  case hy309 => (intro w hSw; (try dsimp only at hSw); go_simp; try with_reducible rfl)
                  simp only [Act.put, List.setIfInBounds_toArray, List.set_cons_zero, List.set_cons_succ]
                  refine wpAnyH_ready (rs := [8]) (by kernel_rfl) (by simp) (AllReadyH.cons (o := { dst := some 100, op := Op.load 65 (Operand.tmp 99), type := 65, pos := "ref.go:65", after := #[{ on := 7, ground := Ground.data }], guard := none }) rfl (fun K310 hK310 => ?_) AllReadyH.nil)
                  go_simp
                  refine hK310.out _ _ (hHeld) (fun hHeld310 => ?_)
                  clear hK310 K310
                  try simp only [Act.put, List.setIfInBounds_toArray, List.set_cons_zero, List.set_cons_succ]
                  refine wpAnyH_ready (rs := [10]) (by kernel_rfl) (by simp) (AllReadyH.cons (o := { dst := some 102, op := Op.call { callee := Callee.value (Operand.func 54), args := #[Operand.tmp 100, Operand.tmp 101], argTypes := #[65, 3] }, type := 65, pos := "ref.go:65", after := #[{ on := 8, ground := Ground.data }, { on := 9, ground := Ground.data }], guard := none }) rfl (fun K311 hK311 => ?_) AllReadyH.nil)
                  go_simp
                  refine (rwithout_any i (HSl.out.below (H0.out.trans (HB.out.mono h0s))) (HSm.out.evl _ (mem_getDz Ev.zero HLt.out))).mono ?_
                  rintro e vc ⟨u, rfl, ho, hb⟩
                  obtain ⟨s, rfl⟩ := OWt.sl ho
                  have HO := hid (OWt.mono ho (show xSe.heap.size ≤ wr.drew.heap.size by omega))
                  have HM := hid (HM.out.below hb)
                  have PB := hid (PB.out.belowAll hb)
                  have RB := hid (RB.out.belowAll hb)
                  have HFBd := hid (HFBd.out.below hb)
                  have HFBf := hid (HFBf.out.below hb)
                  have HFSe := hid (HFSe.out.below hb)
                  have HB := hid (HB.out.trans (hb.mono HB.out.size))
                  have hsc : wr.drew.heap.size ≤ vc.heap.size := hb.size
                  obtain ⟨_, hsl3, _⟩ := HM.out.get rfl HLt.out
                  have HC3 := hid hsl3
                  clear ho hb hsl1 hsl3 kP
                  refine hK311.out _ _ ((BoxAt.cell PB.out 8).trans rfl) (fun hHeld311 => ?_)
                  clear hK311 K311
                  try simp only [Act.put, List.setIfInBounds_toArray, List.set_cons_zero, List.set_cons_succ]
                  refine wpAnyH_take (i := 11) (oi := { dst := some 103, op := Op.indexAddr 33 (Operand.tmp 93) (Operand.tmp 94), type := 0, pos := "ref.go:65", after := #[{ on := 1, ground := Ground.data }, { on := 2, ground := Ground.data }, { on := 0, ground := Ground.phase }, { on := 1, ground := Ground.phase }, { on := 2, ground := Ground.phase }, { on := 3, ground := Ground.phase }, { on := 4, ground := Ground.phase }, { on := 5, ground := Ground.phase }, { on := 6, ground := Ground.phase }, { on := 7, ground := Ground.phase }, { on := 8, ground := Ground.phase }, { on := 9, ground := Ground.phase }, { on := 10, ground := Ground.phase }], guard := none }) (v := ?v312) rfl (by kernel_rfl) (by kernel_rfl) (by kernel_rfl) (fun _ _ _ h => h) (Or.inl ⟨by rfl, ?hy312⟩) (by assumption) ?rest312
                  case hy312 => (intro w hSw; (try dsimp only at hSw); go_simp; try with_reducible rfl)
                  simp only [Act.put, List.setIfInBounds_toArray, List.set_cons_zero, List.set_cons_succ]
                  refine wpAnyH_take (i := 12) (oi := { dst := some 104, op := Op.fieldAddr 73 (Operand.tmp 103) 1, type := 0, pos := "ref.go:65", after := #[{ on := 11, ground := Ground.data }, { on := 0, ground := Ground.phase }, { on := 1, ground := Ground.phase }, { on := 2, ground := Ground.phase }, { on := 3, ground := Ground.phase }, { on := 4, ground := Ground.phase }, { on := 5, ground := Ground.phase }, { on := 6, ground := Ground.phase }, { on := 7, ground := Ground.phase }, { on := 8, ground := Ground.phase }, { on := 9, ground := Ground.phase }, { on := 10, ground := Ground.phase }], guard := none }) (v := ?v313) rfl (by kernel_rfl) (by kernel_rfl) (by kernel_rfl) (fun _ _ _ h => h) (Or.inl ⟨by rfl, ?hy313⟩) (by assumption) ?rest313
                  case hy313 => (intro w hSw; (try dsimp only at hSw); go_simp; try with_reducible rfl)
                  simp only [Act.put, List.setIfInBounds_toArray, List.set_cons_zero, List.set_cons_succ]
                  refine wpAnyH_ready (rs := [13]) (by kernel_rfl) (by simp) (AllReadyH.cons (o := { dst := none, op := Op.store 65 (Operand.tmp 104) (Operand.tmp 102), type := 0, pos := "ref.go:65", after := #[{ on := 12, ground := Ground.data }, { on := 10, ground := Ground.data }, { on := 10, ground := Ground.chain }, { on := 0, ground := Ground.phase }, { on := 1, ground := Ground.phase }, { on := 2, ground := Ground.phase }, { on := 3, ground := Ground.phase }, { on := 4, ground := Ground.phase }, { on := 5, ground := Ground.phase }, { on := 6, ground := Ground.phase }, { on := 7, ground := Ground.phase }, { on := 8, ground := Ground.phase }, { on := 9, ground := Ground.phase }, { on := 10, ground := Ground.phase }], guard := none }) rfl (fun K314 hK314 => ?_) AllReadyH.nil)
                  refine wp_store_at 65 _ _ rfl g (k * 2 + 1) (.slice s.a s.n s.c) rfl rfl rfl rfl (by kernel_rfl) _ HC3.out (HM.out.free rfl _) ?_
                  have HT := hid (HM.out.turns (j := k * 2 + 1) rfl (.slice s.a s.n s.c))
                  have HM := hid (HM.out.put rfl HLt.out s HO.out)
                  have PB := hid (PB.out.grown (grown_set vc g (k * 2 + 1) (.slice s.a s.n s.c)) (fun e => by have := Option.some.inj e; omega))
                  have RB := hid (RB.out.grown (grown_set vc g (k * 2 + 1) (.slice s.a s.n s.c)) (fun e => by have := Option.some.inj e; omega))
                  have HFBd := hid (HFBd.out.turn (S := fun t => t = 73) (by decide) (by decide) HT.out)
                  have HFBf := hid (HFBf.out.turn (S := fun t => t = 73) (by decide) (by decide) HT.out)
                  have HFSe := hid (HFSe.out.turn (S := fun t => t = 73) (by decide) (by decide) HT.out)
                  have HB := hid (HB.out.setCell (p := ⟨g, k * 2 + 1, none⟩) (show w.heap.size ≤ g by omega) (.slice s.a s.n s.c))
                  have hsw : sEv.heap.size ≤ (vc.setCell ⟨g, k * 2 + 1, none⟩ (.slice s.a s.n s.c)).heap.size := by simp; omega
                  obtain ⟨vs, hvs⟩ : ∃ W, vc.setCell ⟨g, k * 2 + 1, none⟩ (.slice s.a s.n s.c) = W := ⟨_, rfl⟩
                  rw [hvs] at HM PB RB HB hsw HFBd HFBf HFSe ⊢
                  clear hvs HT HC3
                  refine hK314.out _ _ ((BoxAt.cell PB.out 8).trans rfl) (fun hHeld314 => ?_)
                  clear hK314 K314
                  try simp only [Act.put]
                  refine wpAnyH_done (by kernel_rfl) ?_ _
                  clear hHeld hHeld310 hHeld311 hHeld314
                  go_wp2_with fail
                  go_roundw
                  case rel => exact ⟨k + 1, by have := HLt.out; omega, by go_num, HM, PB, RB, HFBd, HFBf, HFSe, HB, by omega⟩
                  case measure => have := HLt.out; simp [intOf]; omega
                · obtain rfl : k = c.ev.length := by omega
                  have HFEv := hid HM.out.done
                  clear HM
                  have kF := trivial
                  go_wp2_with (first
                    | (refine wpList_load_box rfl 39 _ rfl w.heap.size rfl _ _ PB.out _ Try.underlying39 Try.infoPa ?_)
                    | (refine wpList_store_whole rfl 39 _ _ rfl rfl v1.heap.size rfl (PaV.cells { { { { q with bo := ⟨aBd, c.bo.length, cBd⟩ } with bu := ⟨aBf, c.bu.length, cBf⟩ } with se := ⟨aSe, c.se.length, cSe⟩ } with ev := ⟨aEv, c.ev.length, cEv⟩ }) rfl _ _ RB.out rfl Try.infoPa (PaV.one _) ?_
                       intro vz b g z
                       have HT := hid (Turns.grown (S := fun t => t = 39) RB.out b rfl g)
                       have HFBd := hid (HFBd.out.turn (S := fun t => t = 39) (by decide) (by decide) HT.out)
                       have HFBf := hid (HFBf.out.turn (S := fun t => t = 39) (by decide) (by decide) HT.out)
                       have HFSe := hid (HFSe.out.turn (S := fun t => t = 39) (by decide) (by decide) HT.out)
                       have HFEv := hid (HFEv.out.turn (S := fun t => t = 39) (by decide) (by decide) HT.out)
                       have RB := hid (show BoxAt vz v1.heap.size 39 (PaV.cells { { { { q with bo := ⟨aBd, c.bo.length, cBd⟩ } with bu := ⟨aBf, c.bu.length, cBf⟩ } with se := ⟨aSe, c.se.length, cSe⟩ } with ev := ⟨aEv, c.ev.length, cEv⟩ }).toArray from b)
                       have HB := hid (HB.out.trans (grown_below g (by omega) (by omega)))
                       clear b g z HT)
                    | fail)
                  refine bodyPost_ret (results_cell_row rfl _ _ (v1.heap.size) 39 _ (0, 0) _ rfl RB.out Try.underlying39 rfl Try.infoPa) rfl ?_
                  obtain ⟨rs, hs1, hs2, hs3⟩ := HFBf.out
                  have HK1 := hid (Keep.below HN.out HB.out)
                  refine ⟨({ { { { q with bo := ⟨aBd, c.bo.length, cBd⟩ } with bu := ⟨aBf, c.bu.length, cBf⟩ } with se := ⟨aSe, c.se.length, cSe⟩ } with ev := ⟨aEv, c.ev.length, cEv⟩ } : PaV), rfl, ?_, HB.out⟩
                  refine ⟨fun W hW => ?_, rs, hs2, fun W hW => ⟨?_, fun j hj => ?_⟩⟩
                  · have hK : Keep n w W := HK1.out.trans hW
                    have hA := HZ0.out W hK
                    exact ⟨hA.md, hA.bg, hA.nx, hA.me, hA.pr, (FBd.turn HFBd.out (S := SK) (by decide) (by decide) hW.2).see, (FBfZ.turn HFBf.out (S := SK) (by decide) (by decide) hW.2).at hK, (FSe.turn HFSe.out (S := SK) (by decide) (by decide) hW.2).see, (FEv.turn HFEv.out (S := SK) (by decide) (by decide) hW.2).see, hA.sa, hA.qu, hA.ld, hA.ll, hA.lx, hA.gi⟩
                  · exact (hs1.turn (S := SK) (by decide) hW.2).sees
                  · exact ((hs3 j hj).turn (S := SK) (by decide) hW.2).at (HK1.out.trans hW)

set_option maxRecDepth 100000 in
set_option maxHeartbeats 6400000 in
theorem rgo_z {n : Nat} {q : PaV} {c : Pa} {w : World} {kp kc kv : Int} (hz : PaZ n w q c) (hn : n ≤ w.heap.size) (hsm : c.small) :
    Calls Try.prog 37 #[q.val, Wk.val ⟨kp, kc, kv⟩] w fun e w' => ∃ q', e = .returned (PaV.val q') ∧ PaZ n w' q' (goP c kp kc kv) ∧ Below w.heap.size w w' := by
  have HS0 := hid hz
  have HA := hid hz.at
  have HSm := hid hsm
  have HB := hid (Below.refl w.heap.size w)
  obtain ⟨ap, cpp, hpv, hp1, hp2, hpcell⟩ := HA.out.pr.form
  have hmax : cpp ≤ 9223372036854775807 := hp2
  have HPv := hid hpv
  have HPc := hid hpcell
  clear hz hsm hpv hp2 hpcell
  unfold Wk.val
  simp only
  go_enter Try.func37, Try.ntmps37
  have FL1 := hid trivial
  have FL2 := hid trivial
  have FL3 := hid trivial
  go_wp2_with (first
    | (have hfl := FL1.out
       refine wpList_box rfl 39 (.tmp 0) rfl (PaV.cells q).toArray rfl ?_
       intro v1 b h z
       have PB := hid (show BoxAt v1 w.heap.size 39 (PaV.cells q).toArray from b)
       have HB := hid (HB.out.trans (h.mono HB.out.size))
       have hsv1 : w.heap.size + 1 ≤ v1.heap.size := by omega
       clear b h z hfl FL1)
    | (have hfl := FL2.out
       refine wpList_box rfl 92 (.tmp 1) rfl [.int .i64 kp, .int .i64 kc, .int .i64 kv].toArray rfl ?_
       intro v2 b h z
       have KB := hid (show BoxAt v2 v1.heap.size 92 [.int .i64 kp, .int .i64 kc, .int .i64 kv].toArray from b)
       have PB := hid (PB.out.belowAll h)
       have HB := hid (HB.out.trans (h.mono HB.out.size))
       have hsv2 : v1.heap.size + 1 ≤ v2.heap.size := by omega
       clear b h z hfl FL2)
    | (have hfl := FL3.out
       refine wpList_new rfl 39 rfl _ Try.zeroPa ?_
       intro v3 b h z
       have RB := hid (show BoxAt v3 v2.heap.size 39 (PaV.cells PaV.zero).toArray from b)
       have PB := hid (PB.out.belowAll h)
       have KB := hid (KB.out.belowAll h)
       have HB := hid (HB.out.trans (h.mono HB.out.size))
       have hsv3 : v2.heap.size + 1 ≤ v3.heap.size := by omega
       have kKB0 : v3.cell? ⟨v1.heap.size, 0, none⟩ = some (.int .i64 kp) := (BoxAt.cell KB.out 0).trans rfl
       clear b h z hfl FL3)
    | (refine wpList_load_box rfl 39 _ rfl w.heap.size rfl _ _ PB.out _ Try.underlying39 Try.infoPa ?_)
    | fail)
  refine (rthere_any kp (HA.out.below HB.out)).mono ?_
  rintro e v4 ⟨rfl, hb⟩
  have PB := hid (PB.out.belowAll hb)
  have KB := hid (KB.out.belowAll hb)
  have RB := hid (RB.out.belowAll hb)
  have HB := hid (HB.out.trans (hb.mono HB.out.size))
  have hsv4 : v3.heap.size ≤ v4.heap.size := hb.size
  clear kKB0
  have kKB0 : v4.cell? ⟨v1.heap.size, 0, none⟩ = some (.int .i64 kp) := (BoxAt.cell KB.out 0).trans rfl
  clear hb
  by_cases hin : 0 ≤ kp ∧ kp < c.pr.length
  rotate_left
  · have HIn := hid hin
    rw [decide_eq_false hin]
    clear hin
    have FL4 := hid trivial
    go_wp2_with (first
      | (refine wpList_load_box rfl 39 _ rfl w.heap.size rfl _ _ PB.out _ Try.underlying39 Try.infoPa ?_)
      | (have hfl := FL4.out
         refine wpList_store_whole rfl 39 _ _ rfl rfl v2.heap.size rfl (PaV.cells q) rfl _ _ RB.out rfl Try.infoPa (PaV.one _) ?_
         intro v5 b g z
         have hsv5 : v4.heap.size ≤ v5.heap.size := by omega
         have RB := hid (show BoxAt v5 v2.heap.size 39 (PaV.cells q).toArray from b)
         have PB := hid (PB.out.grown g (fun e => by have := Option.some.inj e; omega))
         have KB := hid (KB.out.grown g (fun e => by have := Option.some.inj e; omega))
         have HB := hid (HB.out.trans (grown_below g (by omega) (by omega)))
         clear kKB0
         have kKB0 : v5.cell? ⟨v1.heap.size, 0, none⟩ = some (.int .i64 kp) := (BoxAt.cell KB.out 0).trans rfl
         clear b g z hfl FL4)
      | fail)
    refine bodyPost_ret (results_cell_row rfl _ _ (v2.heap.size) 39 _ (0, 0) _ rfl RB.out Try.underlying39 rfl Try.infoPa) rfl ?_
    rw [show goP c kp kc kv = c from by unfold goP; rw [deed_out HIn.out]]
    exact ⟨q, rfl, HS0.out.below hn HB.out, HB.out⟩
  rw [decide_eq_true hin]
  obtain ⟨k, hki⟩ : ∃ k : Nat, kp = (k : Int) := ⟨kp.toNat, by omega⟩
  have hk : k < c.pr.length := by omega
  clear hin
  subst hki
  obtain ⟨b1, off, rfl, hbw, hpx⟩ := HPc.out (by omega)
  have HP0 := hid (show PxAt w b1 (off + k * 18) (c.pr.getD k Px.zero) from fun j hj => hpx k hk j hj)
  clear hpx
  obtain ⟨r, hr⟩ : ∃ r, c.pr.getD k Px.zero = r := ⟨_, rfl⟩
  rw [hr] at HP0
  have HR := hid hr
  have HK := hid hk
  clear hr
  have kPB4 : v4.cell? ⟨w.heap.size, 4, none⟩ = some (.slice (some ⟨b1, off, none⟩) c.pr.length cpp) := (BoxAt.cell PB.out 4).trans (by show some q.pr.val = _; rw [HPv.out])
  clear kKB0
  have kKB0 : v4.cell? ⟨v1.heap.size, 0, none⟩ = some (.int .i64 (k : Int)) := (BoxAt.cell KB.out 0).trans rfl
  have kKB1 : v4.cell? ⟨v1.heap.size, 1, none⟩ = some (.int .i64 kc) := (BoxAt.cell KB.out 1).trans rfl
  have kKB2 : v4.cell? ⟨v1.heap.size, 2, none⟩ = some (.int .i64 kv) := (BoxAt.cell KB.out 2).trans rfl
  by_cases hst : r.st = 2
  · obtain ⟨x1, hx1⟩ : ∃ x : Px, { r with st := 1, un := -1, ki := 0, ob := 0, pe := true, co := kc, va := kv, r0 := kc, r1 := kv } = x := ⟨_, rfl⟩
    have HX1 := hid hx1
    clear hx1
    have HD := hid (show goD kc kv r = ⟨x1, true, 0⟩ from by unfold goD; rw [if_pos hst, ← HX1.out])
    have FL5 := hid trivial
    have FL6 := hid trivial
    have FL7 := hid trivial
    have FL8 := hid trivial
    have FL9 := hid trivial
    have FL10 := hid trivial
    have FL11 := hid trivial
    have FL12 := hid trivial
    have FL13 := hid trivial
    have FL14 := hid trivial
    have FL15 := hid trivial
    go_wp2_with (first
      | (refine wpList_load_px rfl _ rfl b1 (off + k * 18) rfl r (HP0.out.below HB.out hbw) ?_)
      | (have hfl := FL5.out
         refine wpList_new rfl 57 rfl _ Try.zeroPx ?_
         intro v6 b h z
         have XB := hid (show BoxAt v6 v4.heap.size 57 (Px.cells Px.zero).toArray from b)
         have PB := hid (PB.out.belowAll h)
         have KB := hid (KB.out.belowAll h)
         have RB := hid (RB.out.belowAll h)
         have HB := hid (HB.out.trans (h.mono HB.out.size))
         have hsv6 : v4.heap.size + 1 ≤ v6.heap.size := by omega
         clear kPB4
         have kPB4 : v6.cell? ⟨w.heap.size, 4, none⟩ = some (.slice (some ⟨b1, off, none⟩) c.pr.length cpp) := (BoxAt.cell PB.out 4).trans (by show some q.pr.val = _; rw [HPv.out])
         clear kKB0
         have kKB0 : v6.cell? ⟨v1.heap.size, 0, none⟩ = some (.int .i64 (k : Int)) := (BoxAt.cell KB.out 0).trans rfl
         clear kKB1
         have kKB1 : v6.cell? ⟨v1.heap.size, 1, none⟩ = some (.int .i64 kc) := (BoxAt.cell KB.out 1).trans rfl
         clear kKB2
         have kKB2 : v6.cell? ⟨v1.heap.size, 2, none⟩ = some (.int .i64 kv) := (BoxAt.cell KB.out 2).trans rfl
         clear b h z hfl FL5)
      | (have hfl := FL6.out
         refine wpList_store_whole rfl 57 _ _ rfl rfl v4.heap.size rfl (Px.cells r) rfl _ _ XB.out rfl Try.infoPx (Px.one _) ?_
         intro v7 b g z
         have hsv7 : v6.heap.size ≤ v7.heap.size := by omega
         have XB := hid (show BoxAt v7 v4.heap.size 57 (Px.cells r).toArray from b)
         have PB := hid (PB.out.grown g (fun e => by have := Option.some.inj e; omega))
         have KB := hid (KB.out.grown g (fun e => by have := Option.some.inj e; omega))
         have RB := hid (RB.out.grown g (fun e => by have := Option.some.inj e; omega))
         have HB := hid (HB.out.trans (grown_below g (by omega) (by omega)))
         clear kPB4
         have kPB4 : v7.cell? ⟨w.heap.size, 4, none⟩ = some (.slice (some ⟨b1, off, none⟩) c.pr.length cpp) := (BoxAt.cell PB.out 4).trans (by show some q.pr.val = _; rw [HPv.out])
         clear kKB0
         have kKB0 : v7.cell? ⟨v1.heap.size, 0, none⟩ = some (.int .i64 (k : Int)) := (BoxAt.cell KB.out 0).trans rfl
         clear kKB1
         have kKB1 : v7.cell? ⟨v1.heap.size, 1, none⟩ = some (.int .i64 kc) := (BoxAt.cell KB.out 1).trans rfl
         clear kKB2
         have kKB2 : v7.cell? ⟨v1.heap.size, 2, none⟩ = some (.int .i64 kv) := (BoxAt.cell KB.out 2).trans rfl
         have kXB0 : v7.cell? ⟨v4.heap.size, 0, none⟩ = some (.int .i64 r.st) := (BoxAt.cell XB.out 0).trans rfl
         clear b g z hfl FL6)
      | (have hfl := FL7.out
         refine wpList_store_box rfl 3 _ _ rfl rfl v4.heap.size 0 (.int .i64 1) rfl rfl rfl rfl (by kernel_rfl) _ _ XB.out (by simp [Px.cells]) ?_
         intro v8 b g z
         have hsv8 : v7.heap.size ≤ v8.heap.size := by omega
         have XB := hid (show BoxAt v8 v4.heap.size 57 (Px.cells { r with st := 1 }).toArray by simpa [Px.cells] using b)
         have PB := hid (PB.out.grown g (fun e => by have := Option.some.inj e; omega))
         have KB := hid (KB.out.grown g (fun e => by have := Option.some.inj e; omega))
         have RB := hid (RB.out.grown g (fun e => by have := Option.some.inj e; omega))
         have HB := hid (HB.out.trans (grown_below g (by omega) (by omega)))
         clear kPB4
         have kPB4 : v8.cell? ⟨w.heap.size, 4, none⟩ = some (.slice (some ⟨b1, off, none⟩) c.pr.length cpp) := (BoxAt.cell PB.out 4).trans (by show some q.pr.val = _; rw [HPv.out])
         clear kKB0
         have kKB0 : v8.cell? ⟨v1.heap.size, 0, none⟩ = some (.int .i64 (k : Int)) := (BoxAt.cell KB.out 0).trans rfl
         clear kKB1
         have kKB1 : v8.cell? ⟨v1.heap.size, 1, none⟩ = some (.int .i64 kc) := (BoxAt.cell KB.out 1).trans rfl
         clear kKB2
         have kKB2 : v8.cell? ⟨v1.heap.size, 2, none⟩ = some (.int .i64 kv) := (BoxAt.cell KB.out 2).trans rfl
         clear b g z hfl FL7)
      | (have hfl := FL8.out
         refine wpList_store_box rfl 3 _ _ rfl rfl v4.heap.size 9 (.int .i64 (-1)) rfl rfl rfl rfl (by kernel_rfl) _ _ XB.out (by simp [Px.cells]) ?_
         intro v9 b g z
         have hsv9 : v8.heap.size ≤ v9.heap.size := by omega
         have XB := hid (show BoxAt v9 v4.heap.size 57 (Px.cells { r with st := 1, un := -1 }).toArray by simpa [Px.cells] using b)
         have PB := hid (PB.out.grown g (fun e => by have := Option.some.inj e; omega))
         have KB := hid (KB.out.grown g (fun e => by have := Option.some.inj e; omega))
         have RB := hid (RB.out.grown g (fun e => by have := Option.some.inj e; omega))
         have HB := hid (HB.out.trans (grown_below g (by omega) (by omega)))
         clear kPB4
         have kPB4 : v9.cell? ⟨w.heap.size, 4, none⟩ = some (.slice (some ⟨b1, off, none⟩) c.pr.length cpp) := (BoxAt.cell PB.out 4).trans (by show some q.pr.val = _; rw [HPv.out])
         clear kKB0
         have kKB0 : v9.cell? ⟨v1.heap.size, 0, none⟩ = some (.int .i64 (k : Int)) := (BoxAt.cell KB.out 0).trans rfl
         clear kKB1
         have kKB1 : v9.cell? ⟨v1.heap.size, 1, none⟩ = some (.int .i64 kc) := (BoxAt.cell KB.out 1).trans rfl
         clear kKB2
         have kKB2 : v9.cell? ⟨v1.heap.size, 2, none⟩ = some (.int .i64 kv) := (BoxAt.cell KB.out 2).trans rfl
         clear b g z hfl FL8)
      | (have hfl := FL9.out
         refine wpList_store_box rfl 3 _ _ rfl rfl v4.heap.size 10 (.int .i64 0) rfl rfl rfl rfl (by kernel_rfl) _ _ XB.out (by simp [Px.cells]) ?_
         intro v10 b g z
         have hsv10 : v9.heap.size ≤ v10.heap.size := by omega
         have XB := hid (show BoxAt v10 v4.heap.size 57 (Px.cells { r with st := 1, un := -1, ki := 0 }).toArray by simpa [Px.cells] using b)
         have PB := hid (PB.out.grown g (fun e => by have := Option.some.inj e; omega))
         have KB := hid (KB.out.grown g (fun e => by have := Option.some.inj e; omega))
         have RB := hid (RB.out.grown g (fun e => by have := Option.some.inj e; omega))
         have HB := hid (HB.out.trans (grown_below g (by omega) (by omega)))
         clear kPB4
         have kPB4 : v10.cell? ⟨w.heap.size, 4, none⟩ = some (.slice (some ⟨b1, off, none⟩) c.pr.length cpp) := (BoxAt.cell PB.out 4).trans (by show some q.pr.val = _; rw [HPv.out])
         clear kKB0
         have kKB0 : v10.cell? ⟨v1.heap.size, 0, none⟩ = some (.int .i64 (k : Int)) := (BoxAt.cell KB.out 0).trans rfl
         clear kKB1
         have kKB1 : v10.cell? ⟨v1.heap.size, 1, none⟩ = some (.int .i64 kc) := (BoxAt.cell KB.out 1).trans rfl
         clear kKB2
         have kKB2 : v10.cell? ⟨v1.heap.size, 2, none⟩ = some (.int .i64 kv) := (BoxAt.cell KB.out 2).trans rfl
         clear b g z hfl FL9)
      | (have hfl := FL10.out
         refine wpList_store_box rfl 3 _ _ rfl rfl v4.heap.size 11 (.int .i64 0) rfl rfl rfl rfl (by kernel_rfl) _ _ XB.out (by simp [Px.cells]) ?_
         intro v11 b g z
         have hsv11 : v10.heap.size ≤ v11.heap.size := by omega
         have XB := hid (show BoxAt v11 v4.heap.size 57 (Px.cells { r with st := 1, un := -1, ki := 0, ob := 0 }).toArray by simpa [Px.cells] using b)
         have PB := hid (PB.out.grown g (fun e => by have := Option.some.inj e; omega))
         have KB := hid (KB.out.grown g (fun e => by have := Option.some.inj e; omega))
         have RB := hid (RB.out.grown g (fun e => by have := Option.some.inj e; omega))
         have HB := hid (HB.out.trans (grown_below g (by omega) (by omega)))
         clear kPB4
         have kPB4 : v11.cell? ⟨w.heap.size, 4, none⟩ = some (.slice (some ⟨b1, off, none⟩) c.pr.length cpp) := (BoxAt.cell PB.out 4).trans (by show some q.pr.val = _; rw [HPv.out])
         clear kKB0
         have kKB0 : v11.cell? ⟨v1.heap.size, 0, none⟩ = some (.int .i64 (k : Int)) := (BoxAt.cell KB.out 0).trans rfl
         clear kKB1
         have kKB1 : v11.cell? ⟨v1.heap.size, 1, none⟩ = some (.int .i64 kc) := (BoxAt.cell KB.out 1).trans rfl
         clear kKB2
         have kKB2 : v11.cell? ⟨v1.heap.size, 2, none⟩ = some (.int .i64 kv) := (BoxAt.cell KB.out 2).trans rfl
         clear b g z hfl FL10)
      | (have hfl := FL11.out
         refine wpList_store_box rfl 4 _ _ rfl rfl v4.heap.size 14 (.bool true) rfl rfl rfl rfl (by kernel_rfl) _ _ XB.out (by simp [Px.cells]) ?_
         intro v12 b g z
         have hsv12 : v11.heap.size ≤ v12.heap.size := by omega
         have XB := hid (show BoxAt v12 v4.heap.size 57 (Px.cells { r with st := 1, un := -1, ki := 0, ob := 0, pe := true }).toArray by simpa [Px.cells] using b)
         have PB := hid (PB.out.grown g (fun e => by have := Option.some.inj e; omega))
         have KB := hid (KB.out.grown g (fun e => by have := Option.some.inj e; omega))
         have RB := hid (RB.out.grown g (fun e => by have := Option.some.inj e; omega))
         have HB := hid (HB.out.trans (grown_below g (by omega) (by omega)))
         clear kPB4
         have kPB4 : v12.cell? ⟨w.heap.size, 4, none⟩ = some (.slice (some ⟨b1, off, none⟩) c.pr.length cpp) := (BoxAt.cell PB.out 4).trans (by show some q.pr.val = _; rw [HPv.out])
         clear kKB0
         have kKB0 : v12.cell? ⟨v1.heap.size, 0, none⟩ = some (.int .i64 (k : Int)) := (BoxAt.cell KB.out 0).trans rfl
         clear kKB1
         have kKB1 : v12.cell? ⟨v1.heap.size, 1, none⟩ = some (.int .i64 kc) := (BoxAt.cell KB.out 1).trans rfl
         clear kKB2
         have kKB2 : v12.cell? ⟨v1.heap.size, 2, none⟩ = some (.int .i64 kv) := (BoxAt.cell KB.out 2).trans rfl
         clear b g z hfl FL11)
      | (have hfl := FL12.out
         refine wpList_store_box rfl 3 _ _ rfl rfl v4.heap.size 15 (.int .i64 kc) rfl rfl rfl rfl (by kernel_rfl) _ _ XB.out (by simp [Px.cells]) ?_
         intro v13 b g z
         have hsv13 : v12.heap.size ≤ v13.heap.size := by omega
         have XB := hid (show BoxAt v13 v4.heap.size 57 (Px.cells { r with st := 1, un := -1, ki := 0, ob := 0, pe := true, co := kc }).toArray by simpa [Px.cells] using b)
         have PB := hid (PB.out.grown g (fun e => by have := Option.some.inj e; omega))
         have KB := hid (KB.out.grown g (fun e => by have := Option.some.inj e; omega))
         have RB := hid (RB.out.grown g (fun e => by have := Option.some.inj e; omega))
         have HB := hid (HB.out.trans (grown_below g (by omega) (by omega)))
         clear kPB4
         have kPB4 : v13.cell? ⟨w.heap.size, 4, none⟩ = some (.slice (some ⟨b1, off, none⟩) c.pr.length cpp) := (BoxAt.cell PB.out 4).trans (by show some q.pr.val = _; rw [HPv.out])
         clear kKB0
         have kKB0 : v13.cell? ⟨v1.heap.size, 0, none⟩ = some (.int .i64 (k : Int)) := (BoxAt.cell KB.out 0).trans rfl
         clear kKB1
         have kKB1 : v13.cell? ⟨v1.heap.size, 1, none⟩ = some (.int .i64 kc) := (BoxAt.cell KB.out 1).trans rfl
         clear kKB2
         have kKB2 : v13.cell? ⟨v1.heap.size, 2, none⟩ = some (.int .i64 kv) := (BoxAt.cell KB.out 2).trans rfl
         clear b g z hfl FL12)
      | (have hfl := FL13.out
         refine wpList_store_box rfl 3 _ _ rfl rfl v4.heap.size 16 (.int .i64 kv) rfl rfl rfl rfl (by kernel_rfl) _ _ XB.out (by simp [Px.cells]) ?_
         intro v14 b g z
         have hsv14 : v13.heap.size ≤ v14.heap.size := by omega
         have XB := hid (show BoxAt v14 v4.heap.size 57 (Px.cells { r with st := 1, un := -1, ki := 0, ob := 0, pe := true, co := kc, va := kv }).toArray by simpa [Px.cells] using b)
         have PB := hid (PB.out.grown g (fun e => by have := Option.some.inj e; omega))
         have KB := hid (KB.out.grown g (fun e => by have := Option.some.inj e; omega))
         have RB := hid (RB.out.grown g (fun e => by have := Option.some.inj e; omega))
         have HB := hid (HB.out.trans (grown_below g (by omega) (by omega)))
         clear kPB4
         have kPB4 : v14.cell? ⟨w.heap.size, 4, none⟩ = some (.slice (some ⟨b1, off, none⟩) c.pr.length cpp) := (BoxAt.cell PB.out 4).trans (by show some q.pr.val = _; rw [HPv.out])
         clear kKB0
         have kKB0 : v14.cell? ⟨v1.heap.size, 0, none⟩ = some (.int .i64 (k : Int)) := (BoxAt.cell KB.out 0).trans rfl
         clear kKB1
         have kKB1 : v14.cell? ⟨v1.heap.size, 1, none⟩ = some (.int .i64 kc) := (BoxAt.cell KB.out 1).trans rfl
         clear kKB2
         have kKB2 : v14.cell? ⟨v1.heap.size, 2, none⟩ = some (.int .i64 kv) := (BoxAt.cell KB.out 2).trans rfl
         clear b g z hfl FL13)
      | (have hfl := FL14.out
         refine wpList_store_box rfl 3 _ _ rfl rfl v4.heap.size 4 (.int .i64 kc) rfl rfl rfl rfl (by kernel_rfl) _ _ XB.out (by simp [Px.cells]) ?_
         intro v15 b g z
         have hsv15 : v14.heap.size ≤ v15.heap.size := by omega
         have XB := hid (show BoxAt v15 v4.heap.size 57 (Px.cells { r with st := 1, un := -1, ki := 0, ob := 0, pe := true, co := kc, va := kv, r0 := kc }).toArray by simpa [Px.cells] using b)
         have PB := hid (PB.out.grown g (fun e => by have := Option.some.inj e; omega))
         have KB := hid (KB.out.grown g (fun e => by have := Option.some.inj e; omega))
         have RB := hid (RB.out.grown g (fun e => by have := Option.some.inj e; omega))
         have HB := hid (HB.out.trans (grown_below g (by omega) (by omega)))
         clear kPB4
         have kPB4 : v15.cell? ⟨w.heap.size, 4, none⟩ = some (.slice (some ⟨b1, off, none⟩) c.pr.length cpp) := (BoxAt.cell PB.out 4).trans (by show some q.pr.val = _; rw [HPv.out])
         clear kKB0
         have kKB0 : v15.cell? ⟨v1.heap.size, 0, none⟩ = some (.int .i64 (k : Int)) := (BoxAt.cell KB.out 0).trans rfl
         clear kKB1
         have kKB1 : v15.cell? ⟨v1.heap.size, 1, none⟩ = some (.int .i64 kc) := (BoxAt.cell KB.out 1).trans rfl
         clear kKB2
         have kKB2 : v15.cell? ⟨v1.heap.size, 2, none⟩ = some (.int .i64 kv) := (BoxAt.cell KB.out 2).trans rfl
         clear b g z hfl FL14)
      | (have hfl := FL15.out
         refine wpList_store_box rfl 3 _ _ rfl rfl v4.heap.size 5 (.int .i64 kv) rfl rfl rfl rfl (by kernel_rfl) _ _ XB.out (by simp [Px.cells]) ?_
         intro v16 b g z
         have hsv16 : v15.heap.size ≤ v16.heap.size := by omega
         have XB := hid (show BoxAt v16 v4.heap.size 57 (Px.cells x1).toArray by rw [← HX1.out]; simpa [Px.cells] using b)
         have PB := hid (PB.out.grown g (fun e => by have := Option.some.inj e; omega))
         have KB := hid (KB.out.grown g (fun e => by have := Option.some.inj e; omega))
         have RB := hid (RB.out.grown g (fun e => by have := Option.some.inj e; omega))
         have HB := hid (HB.out.trans (grown_below g (by omega) (by omega)))
         clear kPB4
         have kPB4 : v16.cell? ⟨w.heap.size, 4, none⟩ = some (.slice (some ⟨b1, off, none⟩) c.pr.length cpp) := (BoxAt.cell PB.out 4).trans (by show some q.pr.val = _; rw [HPv.out])
         clear kKB0
         have kKB0 : v16.cell? ⟨v1.heap.size, 0, none⟩ = some (.int .i64 (k : Int)) := (BoxAt.cell KB.out 0).trans rfl
         clear kKB1
         have kKB1 : v16.cell? ⟨v1.heap.size, 1, none⟩ = some (.int .i64 kc) := (BoxAt.cell KB.out 1).trans rfl
         clear kKB2
         have kKB2 : v16.cell? ⟨v1.heap.size, 2, none⟩ = some (.int .i64 kv) := (BoxAt.cell KB.out 2).trans rfl
         clear b g z hfl FL15)
      | (refine wpList_load_box rfl 39 _ rfl w.heap.size rfl _ _ PB.out _ Try.underlying39 Try.infoPa ?_)
      | (refine wpList_load_box rfl 57 _ rfl v4.heap.size rfl _ _ XB.out _ Try.underlying57 Try.infoPx ?_)
      | fail)
    refine (rqueued_s (x1) HA.out.nx).mono ?_
    rintro e v17 ⟨q2, y, rfl, hy, hq, hb⟩
    have PB := hid (PB.out.belowAll hb)
    have KB := hid (KB.out.belowAll hb)
    have RB := hid (RB.out.belowAll hb)
    have XB := hid (XB.out.belowAll hb)
    have HB := hid (HB.out.trans (hb.mono HB.out.size))
    have hsv17 : v16.heap.size ≤ v17.heap.size := hb.size
    have HQ := hid hq
    have HY := hid hy
    clear hy hq
    clear kPB4
    have kPB4 : v17.cell? ⟨w.heap.size, 4, none⟩ = some (.slice (some ⟨b1, off, none⟩) c.pr.length cpp) := (BoxAt.cell PB.out 4).trans (by show some q.pr.val = _; rw [HPv.out])
    clear kKB0
    have kKB0 : v17.cell? ⟨v1.heap.size, 0, none⟩ = some (.int .i64 (k : Int)) := (BoxAt.cell KB.out 0).trans rfl
    clear kKB1
    have kKB1 : v17.cell? ⟨v1.heap.size, 1, none⟩ = some (.int .i64 kc) := (BoxAt.cell KB.out 1).trans rfl
    clear kKB2
    have kKB2 : v17.cell? ⟨v1.heap.size, 2, none⟩ = some (.int .i64 kv) := (BoxAt.cell KB.out 2).trans rfl
    clear hb
    have FL16 := hid trivial
    have FL17 := hid trivial
    have FL18 := hid trivial
    have FL19 := hid trivial
    go_wp2_with (first
      | (have hfl := FL16.out
         refine wpList_new rfl 39 rfl _ Try.zeroPa ?_
         intro v18 b h z
         have QB := hid (show BoxAt v18 v17.heap.size 39 (PaV.cells PaV.zero).toArray from b)
         have PB := hid (PB.out.belowAll h)
         have KB := hid (KB.out.belowAll h)
         have RB := hid (RB.out.belowAll h)
         have XB := hid (XB.out.belowAll h)
         have HB := hid (HB.out.trans (h.mono HB.out.size))
         have hsv18 : v17.heap.size + 1 ≤ v18.heap.size := by omega
         clear kKB0
         have kKB0 : v18.cell? ⟨v1.heap.size, 0, none⟩ = some (.int .i64 (k : Int)) := (BoxAt.cell KB.out 0).trans rfl
         clear kKB1
         have kKB1 : v18.cell? ⟨v1.heap.size, 1, none⟩ = some (.int .i64 kc) := (BoxAt.cell KB.out 1).trans rfl
         clear kKB2
         have kKB2 : v18.cell? ⟨v1.heap.size, 2, none⟩ = some (.int .i64 kv) := (BoxAt.cell KB.out 2).trans rfl
         clear b h z hfl FL16)
      | (have hfl := FL17.out
         refine wpList_new rfl 57 rfl _ Try.zeroPx ?_
         intro v19 b h z
         have YB := hid (show BoxAt v19 v18.heap.size 57 (Px.cells Px.zero).toArray from b)
         have PB := hid (PB.out.belowAll h)
         have KB := hid (KB.out.belowAll h)
         have RB := hid (RB.out.belowAll h)
         have XB := hid (XB.out.belowAll h)
         have QB := hid (QB.out.belowAll h)
         have HB := hid (HB.out.trans (h.mono HB.out.size))
         have hsv19 : v18.heap.size + 1 ≤ v19.heap.size := by omega
         clear kKB0
         have kKB0 : v19.cell? ⟨v1.heap.size, 0, none⟩ = some (.int .i64 (k : Int)) := (BoxAt.cell KB.out 0).trans rfl
         clear kKB1
         have kKB1 : v19.cell? ⟨v1.heap.size, 1, none⟩ = some (.int .i64 kc) := (BoxAt.cell KB.out 1).trans rfl
         clear kKB2
         have kKB2 : v19.cell? ⟨v1.heap.size, 2, none⟩ = some (.int .i64 kv) := (BoxAt.cell KB.out 2).trans rfl
         clear b h z hfl FL17)
      | (have hfl := FL18.out
         refine wpList_store_whole rfl 39 _ _ rfl rfl v17.heap.size rfl (PaV.cells q2) rfl _ _ QB.out rfl Try.infoPa (PaV.one _) ?_
         intro v20 b g z
         have hsv20 : v19.heap.size ≤ v20.heap.size := by omega
         have QB := hid (show BoxAt v20 v17.heap.size 39 (PaV.cells q2).toArray from b)
         have PB := hid (PB.out.grown g (fun e => by have := Option.some.inj e; omega))
         have KB := hid (KB.out.grown g (fun e => by have := Option.some.inj e; omega))
         have RB := hid (RB.out.grown g (fun e => by have := Option.some.inj e; omega))
         have XB := hid (XB.out.grown g (fun e => by have := Option.some.inj e; omega))
         have YB := hid (YB.out.grown g (fun e => by have := Option.some.inj e; omega))
         have HB := hid (HB.out.trans (grown_below g (by omega) (by omega)))
         clear kKB0
         have kKB0 : v20.cell? ⟨v1.heap.size, 0, none⟩ = some (.int .i64 (k : Int)) := (BoxAt.cell KB.out 0).trans rfl
         clear kKB1
         have kKB1 : v20.cell? ⟨v1.heap.size, 1, none⟩ = some (.int .i64 kc) := (BoxAt.cell KB.out 1).trans rfl
         clear kKB2
         have kKB2 : v20.cell? ⟨v1.heap.size, 2, none⟩ = some (.int .i64 kv) := (BoxAt.cell KB.out 2).trans rfl
         clear b g z hfl FL18)
      | (have hfl := FL19.out
         refine wpList_store_whole rfl 57 _ _ rfl rfl v18.heap.size rfl (Px.cells y) rfl _ _ YB.out rfl Try.infoPx (Px.one _) ?_
         intro v21 b g z
         have hsv21 : v20.heap.size ≤ v21.heap.size := by omega
         have YB := hid (show BoxAt v21 v18.heap.size 57 (Px.cells y).toArray from b)
         have PB := hid (PB.out.grown g (fun e => by have := Option.some.inj e; omega))
         have KB := hid (KB.out.grown g (fun e => by have := Option.some.inj e; omega))
         have RB := hid (RB.out.grown g (fun e => by have := Option.some.inj e; omega))
         have XB := hid (XB.out.grown g (fun e => by have := Option.some.inj e; omega))
         have QB := hid (QB.out.grown g (fun e => by have := Option.some.inj e; omega))
         have HB := hid (HB.out.trans (grown_below g (by omega) (by omega)))
         clear kKB0
         have kKB0 : v21.cell? ⟨v1.heap.size, 0, none⟩ = some (.int .i64 (k : Int)) := (BoxAt.cell KB.out 0).trans rfl
         clear kKB1
         have kKB1 : v21.cell? ⟨v1.heap.size, 1, none⟩ = some (.int .i64 kc) := (BoxAt.cell KB.out 1).trans rfl
         clear kKB2
         have kKB2 : v21.cell? ⟨v1.heap.size, 2, none⟩ = some (.int .i64 kv) := (BoxAt.cell KB.out 2).trans rfl
         clear b g z hfl FL19)
      | (refine wpList_load_box rfl 39 _ rfl v17.heap.size rfl _ _ QB.out _ Try.underlying39 Try.infoPa ?_)
      | (refine wpList_load_box rfl 57 _ rfl v18.heap.size rfl _ _ YB.out _ Try.underlying57 Try.infoPx ?_)
      | fail)
    refine (rwith_z (n := n) (c := { c with nx := wrap64 (c.nx + 1) }) k (y) (by rw [HQ.out]; exact PaZ.nx _ (HS0.out.below hn HB.out)) (by omega) HSm.out.pr HK.out).mono ?_
    rintro e v22 ⟨q', rfl, ho, hb⟩
    have PB := hid (PB.out.belowAll hb)
    have KB := hid (KB.out.belowAll hb)
    have RB := hid (RB.out.belowAll hb)
    have XB := hid (XB.out.belowAll hb)
    have QB := hid (QB.out.belowAll hb)
    have YB := hid (YB.out.belowAll hb)
    have HB := hid (HB.out.trans (hb.mono HB.out.size))
    have hsv22 : v21.heap.size ≤ v22.heap.size := hb.size
    rw [HY.out] at ho
    have HO := hid ho
    clear ho
    clear kKB0
    have kKB0 : v22.cell? ⟨v1.heap.size, 0, none⟩ = some (.int .i64 (k : Int)) := (BoxAt.cell KB.out 0).trans rfl
    clear kKB1
    have kKB1 : v22.cell? ⟨v1.heap.size, 1, none⟩ = some (.int .i64 kc) := (BoxAt.cell KB.out 1).trans rfl
    clear kKB2
    have kKB2 : v22.cell? ⟨v1.heap.size, 2, none⟩ = some (.int .i64 kv) := (BoxAt.cell KB.out 2).trans rfl
    clear hb
    have FL20 := hid trivial
    go_wp2_with (first
      | (have hfl := FL20.out
         refine wpList_store_whole rfl 39 _ _ rfl rfl v2.heap.size rfl (PaV.cells q') rfl _ _ RB.out rfl Try.infoPa (PaV.one _) ?_
         intro v23 b g z
         have hsv23 : v22.heap.size ≤ v23.heap.size := by omega
         have HO := hid (HO.out.put (by omega) (by omega) g RB.out b)
         have RB := hid (show BoxAt v23 v2.heap.size 39 (PaV.cells q').toArray from b)
         have PB := hid (PB.out.grown g (fun e => by have := Option.some.inj e; omega))
         have KB := hid (KB.out.grown g (fun e => by have := Option.some.inj e; omega))
         have XB := hid (XB.out.grown g (fun e => by have := Option.some.inj e; omega))
         have QB := hid (QB.out.grown g (fun e => by have := Option.some.inj e; omega))
         have YB := hid (YB.out.grown g (fun e => by have := Option.some.inj e; omega))
         have HB := hid (HB.out.trans (grown_below g (by omega) (by omega)))
         clear kKB0
         have kKB0 : v23.cell? ⟨v1.heap.size, 0, none⟩ = some (.int .i64 (k : Int)) := (BoxAt.cell KB.out 0).trans rfl
         clear kKB1
         have kKB1 : v23.cell? ⟨v1.heap.size, 1, none⟩ = some (.int .i64 kc) := (BoxAt.cell KB.out 1).trans rfl
         clear kKB2
         have kKB2 : v23.cell? ⟨v1.heap.size, 2, none⟩ = some (.int .i64 kv) := (BoxAt.cell KB.out 2).trans rfl
         clear b g z hfl FL20)
      | fail)
    refine bodyPost_ret (results_cell_row rfl _ _ (v2.heap.size) 39 _ (0, 0) _ rfl RB.out Try.underlying39 rfl Try.infoPa) rfl ?_
    rw [show goP c (k : Int) kc kv = { c with pr := c.pr.set k { x1 with si := c.nx }, nx := wrap64 (c.nx + 1) } from by unfold goP; rw [deed_does_q HK.out _ (by rw [HR.out]; exact HD.out)]]
    exact ⟨q', rfl, HO.out, HB.out⟩
  · have HD := hid (show goD kc kv r = ⟨r, false, 1⟩ from by unfold goD; rw [if_neg hst])
    have thst : (r.st == 2) = false := by simpa using hst
    have thsn : (r.st != 2) = true := by simpa using hst
    have FL21 := hid trivial
    have FL22 := hid trivial
    have FL23 := hid trivial
    go_wp2_with (first
      | (refine wpList_load_px rfl _ rfl b1 (off + k * 18) rfl r (HP0.out.below HB.out hbw) ?_)
      | (have hfl := FL21.out
         refine wpList_new rfl 57 rfl _ Try.zeroPx ?_
         intro v24 b h z
         have XB := hid (show BoxAt v24 v4.heap.size 57 (Px.cells Px.zero).toArray from b)
         have PB := hid (PB.out.belowAll h)
         have KB := hid (KB.out.belowAll h)
         have RB := hid (RB.out.belowAll h)
         have HB := hid (HB.out.trans (h.mono HB.out.size))
         have hsv24 : v4.heap.size + 1 ≤ v24.heap.size := by omega
         clear kPB4
         have kPB4 : v24.cell? ⟨w.heap.size, 4, none⟩ = some (.slice (some ⟨b1, off, none⟩) c.pr.length cpp) := (BoxAt.cell PB.out 4).trans (by show some q.pr.val = _; rw [HPv.out])
         clear kKB0
         have kKB0 : v24.cell? ⟨v1.heap.size, 0, none⟩ = some (.int .i64 (k : Int)) := (BoxAt.cell KB.out 0).trans rfl
         clear kKB1
         have kKB1 : v24.cell? ⟨v1.heap.size, 1, none⟩ = some (.int .i64 kc) := (BoxAt.cell KB.out 1).trans rfl
         clear kKB2
         have kKB2 : v24.cell? ⟨v1.heap.size, 2, none⟩ = some (.int .i64 kv) := (BoxAt.cell KB.out 2).trans rfl
         clear b h z hfl FL21)
      | (have hfl := FL22.out
         refine wpList_store_whole rfl 57 _ _ rfl rfl v4.heap.size rfl (Px.cells r) rfl _ _ XB.out rfl Try.infoPx (Px.one _) ?_
         intro v25 b g z
         have hsv25 : v24.heap.size ≤ v25.heap.size := by omega
         have XB := hid (show BoxAt v25 v4.heap.size 57 (Px.cells r).toArray from b)
         have PB := hid (PB.out.grown g (fun e => by have := Option.some.inj e; omega))
         have KB := hid (KB.out.grown g (fun e => by have := Option.some.inj e; omega))
         have RB := hid (RB.out.grown g (fun e => by have := Option.some.inj e; omega))
         have HB := hid (HB.out.trans (grown_below g (by omega) (by omega)))
         clear kPB4
         have kPB4 : v25.cell? ⟨w.heap.size, 4, none⟩ = some (.slice (some ⟨b1, off, none⟩) c.pr.length cpp) := (BoxAt.cell PB.out 4).trans (by show some q.pr.val = _; rw [HPv.out])
         clear kKB0
         have kKB0 : v25.cell? ⟨v1.heap.size, 0, none⟩ = some (.int .i64 (k : Int)) := (BoxAt.cell KB.out 0).trans rfl
         clear kKB1
         have kKB1 : v25.cell? ⟨v1.heap.size, 1, none⟩ = some (.int .i64 kc) := (BoxAt.cell KB.out 1).trans rfl
         clear kKB2
         have kKB2 : v25.cell? ⟨v1.heap.size, 2, none⟩ = some (.int .i64 kv) := (BoxAt.cell KB.out 2).trans rfl
         have kXB0 : v25.cell? ⟨v4.heap.size, 0, none⟩ = some (.int .i64 r.st) := (BoxAt.cell XB.out 0).trans rfl
         clear b g z hfl FL22)
      | (refine wpList_load_box rfl 39 _ rfl w.heap.size rfl _ _ PB.out _ Try.underlying39 Try.infoPa ?_)
      | (have hfl := FL23.out
         refine wpList_store_whole rfl 39 _ _ rfl rfl v2.heap.size rfl (PaV.cells q) rfl _ _ RB.out rfl Try.infoPa (PaV.one _) ?_
         intro v26 b g z
         have hsv26 : v25.heap.size ≤ v26.heap.size := by omega
         have RB := hid (show BoxAt v26 v2.heap.size 39 (PaV.cells q).toArray from b)
         have PB := hid (PB.out.grown g (fun e => by have := Option.some.inj e; omega))
         have KB := hid (KB.out.grown g (fun e => by have := Option.some.inj e; omega))
         have XB := hid (XB.out.grown g (fun e => by have := Option.some.inj e; omega))
         have HB := hid (HB.out.trans (grown_below g (by omega) (by omega)))
         clear kPB4
         have kPB4 : v26.cell? ⟨w.heap.size, 4, none⟩ = some (.slice (some ⟨b1, off, none⟩) c.pr.length cpp) := (BoxAt.cell PB.out 4).trans (by show some q.pr.val = _; rw [HPv.out])
         clear kKB0
         have kKB0 : v26.cell? ⟨v1.heap.size, 0, none⟩ = some (.int .i64 (k : Int)) := (BoxAt.cell KB.out 0).trans rfl
         clear kKB1
         have kKB1 : v26.cell? ⟨v1.heap.size, 1, none⟩ = some (.int .i64 kc) := (BoxAt.cell KB.out 1).trans rfl
         clear kKB2
         have kKB2 : v26.cell? ⟨v1.heap.size, 2, none⟩ = some (.int .i64 kv) := (BoxAt.cell KB.out 2).trans rfl
         clear kXB0
         have kXB0 : v26.cell? ⟨v4.heap.size, 0, none⟩ = some (.int .i64 r.st) := (BoxAt.cell XB.out 0).trans rfl
         clear b g z hfl FL23)
      | fail)
    refine bodyPost_ret (results_cell_row rfl _ _ (v2.heap.size) 39 _ (0, 0) _ rfl RB.out Try.underlying39 rfl Try.infoPa) rfl ?_
    rw [show goP c (k : Int) kc kv = c from by unfold goP; rw [deed_idle HK.out _ (by rw [HR.out]; exact HD.out)]]
    exact ⟨q, rfl, HS0.out.below hn HB.out, HB.out⟩

theorem box_apart {w : World} {base g : Nat} {u : Value} {L : List Int} {t : TypeId} {cs : Array Value} (ho : OI w base u L) (h : BoxAt w g t cs) (ht : t ≠ 3) : some g ≠ u.ownBlock := by
  intro e
  rcases ho.2 with ⟨h2, _⟩ | ⟨g2, cap2, cur2, hv2, hb2, hh2, hrest2⟩
  · rw [h2] at e; simp [Value.ownBlock] at e
  · subst hv2
    simp only [Value.ownBlock, Option.some.injEq] at e
    subst e
    rw [show w.heap[g]? = _ from h] at hh2
    have := Option.some.inj hh2
    injection this with _ h5
    exact absurd h5 ht
theorem owns_keep {w w' : World} {base size n : Nat} {e : TypeId} {v : Value} {xs : List Value} {row : Option Nat} (h : w.ownsRow base e size v n xs) (hg : w.grownBy w' row) (hne : ∀ k, v.ownBlock = some k → some k ≠ row) : w'.ownsRow base e size v n xs := by
  refine ⟨h.1, ?_⟩
  rcases h.2 with h1 | ⟨g, cap, cur, hv, hb, hh, hrest⟩
  · exact .inl h1
  · subst hv
    have hl : g < w.heap.size := (World.ownsRow.lt h g rfl).2
    exact .inr ⟨g, cap, cur, rfl, hb, (hg.block g hl (hne g rfl)).trans hh, hrest⟩
theorem own_apart {w : World} {base base' : Nat} {u v : Value} {l : List Px} {L : List Int} (h : OP w base v l) (ho : OI w base' u L) : ∀ k, v.ownBlock = some k → some k ≠ u.ownBlock := by
  intro k hk e
  rcases h.2 with ⟨h1, _⟩ | ⟨g, cap, cur, hv, hb, hh, hrest⟩
  · rw [h1] at hk; simp [Value.ownBlock] at hk
  · rcases ho.2 with ⟨h2, _⟩ | ⟨g2, cap2, cur2, hv2, hb2, hh2, hrest2⟩
    · rw [h2] at e; simp [Value.ownBlock] at e
    · subst hv
      subst hv2
      simp only [Value.ownBlock, Option.some.injEq] at hk e
      subst hk
      subst e
      rw [hh] at hh2
      have := Option.some.inj hh2
      injection this with _ h5
      exact absurd h5 (by decide)
/-- p is q, with its processes anew: l. -/
def LateP (q : PaV) (c : Pa) (base top : Nat) (w : World) (p : PaV) (l : List Px) : Prop := ∃ s : Sl, p = { q with pr := s } ∧ ((s = q.pr ∧ l = c.pr) ∨ (OP w base s.val l ∧ ∀ k, s.val.ownBlock = some k → k < top))
theorem LateP.first {q : PaV} {c : Pa} {base top : Nat} {w : World} : LateP q c base top w q c.pr := ⟨q.pr, rfl, .inl ⟨rfl, rfl⟩⟩
theorem LateP.now {q : PaV} {c : Pa} {base top : Nat} {w : World} {p : PaV} {l : List Px} (h : LateP q c base top w p l) : LateP q c base w.heap.size w p l := by
  obtain ⟨s, hp, h⟩ := h
  exact ⟨s, hp, h.imp_right fun h => ⟨h.1, fun k hk => (h.1.lt k hk).2⟩⟩
theorem LateP.below {q : PaV} {c : Pa} {base top : Nat} {w w' : World} {p : PaV} {l : List Px} (h : LateP q c base top w p l) (hb : Below w.heap.size w w') : LateP q c base top w' p l := by
  obtain ⟨s, hp, h⟩ := h
  exact ⟨s, hp, h.imp_right fun h => ⟨h.1.below hb, h.2⟩⟩
theorem LateP.other {q : PaV} {c : Pa} {base top g : Nat} {w w' : World} {p : PaV} {l : List Px} (h : LateP q c base top w p l) (hg : w.grownBy w' (some g)) (ht : top ≤ g) : LateP q c base top w' p l := by
  obtain ⟨s, hp, h⟩ := h
  exact ⟨s, hp, h.imp_right fun h => ⟨owns_keep h.1 hg (fun k hk e => by have := h.2 k hk; have := Option.some.inj e; omega), h.2⟩⟩
theorem LateP.app {q : PaV} {c : Pa} {base base' top : Nat} {w w' : World} {p : PaV} {l : List Px} {u : Value} {L : List Int} (h : LateP q c base top w p l) (ho : OI w base' u L) (hg : w.grownBy w' u.ownBlock) : LateP q c base top w' p l := by
  obtain ⟨s, hp, h⟩ := h
  exact ⟨s, hp, h.imp_right fun h => ⟨owns_keep h.1 hg (own_apart h.1 ho), h.2⟩⟩
theorem LateP.turn {q : PaV} {c : Pa} {base top : Nat} {w w' : World} {p : PaV} {l : List Px} (h : LateP q c base top w p l) (ht : Turns (fun t => t = 39) w w') : LateP q c base top w' p l := by
  obtain ⟨s, hp, h⟩ := h
  exact ⟨s, hp, h.imp_right fun h => ⟨h.1.turn (by decide) ht, h.2⟩⟩
theorem LateP.set {q : PaV} {c : Pa} {base base' top : Nat} {w w' : World} {p : PaV} {s : Sl} {l l' : List Px} (h : LateP q c base top w p l) (ho : OP w' base' s.val l') (hb : base ≤ base') : LateP q c base w'.heap.size w' { p with pr := s } l' := by
  obtain ⟨s0, hp, _⟩ := h
  subst hp
  exact ⟨s, rfl, .inr ⟨ho.mono hb, fun k hk => (ho.lt k hk).2⟩⟩
theorem LateP.at {q : PaV} {c : Pa} {base top : Nat} {w : World} {p : PaV} {l : List Px} (h : LateP q c base top w p l) (ha : PaAt w q c) : PaAt w p { c with pr := l } := by
  obtain ⟨s, rfl, ⟨rfl, rfl⟩ | h⟩ := h
  · exact ha
  · exact ⟨ha.md, ha.bg, ha.nx, ha.me, h.1.sees, ha.bo, ha.bu, ha.se, ha.ev, ha.sa, ha.qu, ha.ld, ha.ll, ha.lx, ha.gi⟩
theorem LateP.done {q : PaV} {c : Pa} {base top : Nat} {w0 w : World} {p : PaV} {l : List Px} (h : LateP q c base top w p l) (ha : PaAt w0 q c) (h0 : Below w0.heap.size w0 w) : PaS w0.heap.size w p { c with pr := l } := by
  obtain ⟨s, rfl, ⟨rfl, rfl⟩ | h⟩ := h
  · exact PaS.from ha h0
  · exact PaS.pr (PaS.from ha h0) h0.size (Below.refl _ _) h.1

set_option maxRecDepth 100000 in
set_option maxHeartbeats 3200000 in
theorem rlate_any {q : PaV} {c : Pa} {w0 w : World} {now : Int} (ha : PaAt w0 q c) (h0 : Below w0.heap.size w0 w) (hsm : c.small) :
    Calls Try.prog 15 #[q.val, .int .i64 now] w fun e w' => ∃ v q', e = .returned (.tuple #[v, PaV.val q']) ∧ OI w' w.heap.size v ((lateL c now).map fun i : Nat => (i : Int)) ∧ PaS w0.heap.size w' q' (lateC c now) ∧ Below w.heap.size w w' := by
  have HA0 := hid ha
  have H0 := hid h0
  have h0s : w0.heap.size ≤ w.heap.size := h0.size
  have HSm := hid hsm
  have HB := hid (Below.refl w.heap.size w)
  clear ha h0 hsm
  obtain ⟨N, hN⟩ : ∃ N, c.pr.length = N := ⟨_, rfl⟩
  have HN := hid hN
  have hN9 : N ≤ 900000 := by rw [← hN]; exact HSm.out.pr
  clear hN
  go_enter Try.func15, Try.ntmps15
  have FL1 := hid trivial
  have FL2 := hid trivial
  go_wp2_with (first
    | (have hfl := FL1.out
       refine wpList_box rfl 39 (.tmp 0) rfl (PaV.cells q).toArray rfl ?_
       intro v1 b h z
       have PB := hid (show BoxAt v1 w.heap.size 39 (PaV.cells q).toArray from b)
       have HB := hid (HB.out.trans (h.mono HB.out.size))
       have hsv1 : w.heap.size + 1 ≤ v1.heap.size := by omega
       clear b h z hfl FL1)
    | (have hfl := FL2.out
       refine wpList_new rfl 39 rfl _ Try.zeroPa ?_
       intro v2 b h z
       have RB := hid (show BoxAt v2 v1.heap.size 39 (PaV.cells PaV.zero).toArray from b)
       have PB := hid (PB.out.belowAll h)
       have HB := hid (HB.out.trans (h.mono HB.out.size))
       have hsv2 : v1.heap.size + 1 ≤ v2.heap.size := by omega
       clear b h z hfl FL2)
    | fail)
  have HO := hid (show OI v2 v2.heap.size (.slice none 0 0) (lateI c now 0) from ⟨rfl, .inl ⟨rfl, rfl⟩⟩)
  have HL := hid (show LateP q c w.heap.size v2.heap.size v2 q (lateS c now 0).pr from by rw [lateS_zero]; exact LateP.first)
  go_loopw [6, 7] (fun s t wr => ∃ (k : Nat) (p : PaV), k ≤ N ∧ t = .int .i64 k ∧ Hid (OI wr v2.heap.size s (lateI c now k)) ∧ Hid (LateP q c w.heap.size wr.heap.size wr p (lateS c now k).pr) ∧ Hid (BoxAt wr w.heap.size 39 (PaV.cells p).toArray) ∧ Hid (BoxAt wr v1.heap.size 39 (PaV.cells PaV.zero).toArray) ∧ Hid (Below w.heap.size w wr) ∧ v2.heap.size ≤ wr.heap.size) (fun _ t _ => N - (intOf t).toNat)
  case atStart => exact ⟨0, q, Nat.zero_le _, rfl, HO, HL, PB, RB, HB, Nat.le_refl _⟩
  case round =>
    clear PB RB HB HO HL
    obtain ⟨k, p, hk, rfl, HO, HL, PB, RB, HB, hsr⟩ := hrel
    have HAt := hid (HL.out.at (HA0.out.below (H0.out.trans (HB.out.mono h0s))))
    obtain ⟨l, hl⟩ : ∃ l, (lateS c now k).pr = l := ⟨_, rfl⟩
    have HLl := hid hl
    have hln : l.length = N := by rw [← hl, lateS_len, HN.out]
    rw [hl] at HL HAt
    clear hl
    obtain ⟨ap, cpp, hpv, hp1, hp2, hpcell⟩ := HAt.out.pr.form
    simp only at hpv hp1 hpcell
    rw [hln] at hpv hp1
    have hmax : cpp ≤ 9223372036854775807 := hp2
    have HPv := hid hpv
    have HLn := hid hln
    clear hpv hp2
    by_cases hlt : k < N
    · obtain ⟨b1, off, hap, hbw, hpx⟩ := hpcell (by rw [hln]; omega)
      subst hap
      obtain ⟨r, hr⟩ : ∃ r, c.pr.getD k Px.zero = r := ⟨_, rfl⟩
      have HR := hid hr
      have HGe := hid (show l.getD k Px.zero = r by rw [← HLl.out, lateS_ge c now (Nat.le_refl k) (by rw [HN.out]; omega), hr])
      have HP0 := hid (show PxAt wr b1 (off + k * 18) r from by rw [← HGe.out]; exact fun j hj => hpx k (by rw [hln]; exact hlt) j hj)
      have HLt := hid hlt
      clear hpx hr hln
      have hkI : (k : Int) < (N : Int) := by omega
      clear hlt
      have kPB4 : wr.cell? ⟨w.heap.size, 4, none⟩ = some (.slice (some ⟨b1, off, none⟩) N cpp) := (BoxAt.cell PB.out 4).trans (by show some p.pr.val = _; rw [HPv.out])
      by_cases e0 : r.st = 0
      · have t0 : (r.st == 0) = true := by simpa using e0
        have HT := hid (show ¬ (r.st ≠ 0 ∧ ¬ (r.st = 2 ∧ r.ki = 2) ∧ 0 ≤ r.du ∧ r.du ≤ now) from fun h => h.1 e0)
        clear e0
        have HNo := hid (show lateX now r = false from by have h := HT.out; rw [Bool.eq_false_iff]; intro h2; rw [lateX_iff] at h2; exact h h2)
        have FL3 := hid trivial
        have FL4 := hid trivial
        go_wp2_with (first
          | (refine wpList_load_px rfl _ rfl b1 (off + k * 18) rfl r HP0.out ?_)
          | (have hfl := FL3.out
             refine wpList_new rfl 57 rfl _ Try.zeroPx ?_
             intro v3 b h z
             have XB := hid (show BoxAt v3 wr.heap.size 57 (Px.cells Px.zero).toArray from b)
             have PB := hid (PB.out.belowAll h)
             have RB := hid (RB.out.belowAll h)
             have HO := hid (HO.out.below h)
             have HL := hid (HL.out.below h)
             have HB := hid (HB.out.trans (h.mono HB.out.size))
             have hsv3 : wr.heap.size + 1 ≤ v3.heap.size := by omega
             clear kPB4
             have kPB4 : v3.cell? ⟨w.heap.size, 4, none⟩ = some (.slice (some ⟨b1, off, none⟩) N cpp) := (BoxAt.cell PB.out 4).trans (by show some p.pr.val = _; rw [HPv.out])
             clear b h z hfl FL3)
          | (have hfl := FL4.out
             refine wpList_store_whole rfl 57 _ _ rfl rfl wr.heap.size rfl (Px.cells r) rfl _ _ XB.out rfl Try.infoPx (Px.one _) ?_
             intro v4 b g z
             have hsv4 : v3.heap.size ≤ v4.heap.size := by omega
             have HO := hid (OI.turn (S := fun t => t = 57) HO.out (by decide) (Turns.grown (S := fun t => t = 57) XB.out b rfl g))
             have HL := hid (HL.out.other g (by omega))
             have XB := hid (show BoxAt v4 wr.heap.size 57 (Px.cells r).toArray from b)
             have PB := hid (PB.out.grown g (fun e => by have := Option.some.inj e; omega))
             have RB := hid (RB.out.grown g (fun e => by have := Option.some.inj e; omega))
             have HB := hid (HB.out.trans (grown_below g (by omega) (by omega)))
             clear kPB4
             have kPB4 : v4.cell? ⟨w.heap.size, 4, none⟩ = some (.slice (some ⟨b1, off, none⟩) N cpp) := (BoxAt.cell PB.out 4).trans (by show some p.pr.val = _; rw [HPv.out])
             have kXB0 : v4.cell? ⟨wr.heap.size, 0, none⟩ = some (.int .i64 r.st) := (BoxAt.cell XB.out 0).trans rfl
             have kXB10 : v4.cell? ⟨wr.heap.size, 10, none⟩ = some (.int .i64 r.ki) := (BoxAt.cell XB.out 10).trans rfl
             have kXB12 : v4.cell? ⟨wr.heap.size, 12, none⟩ = some (.int .i64 r.du) := (BoxAt.cell XB.out 12).trans rfl
             clear b g z hfl FL4)
          | fail)
        go_roundw
        case rel => exact ⟨k + 1, p, by have := HLt.out; omega, by go_num, by rw [lateI_no (by rw [HR.out]; exact HNo.out)]; exact HO, by rw [lateS_skip c now (by rw [HN.out]; exact HLt.out) (by rw [HR.out]; exact HNo.out), HLl.out]; exact hid HL.out.now, PB, RB, HB, by omega⟩
        case measure => have := HLt.out; simp [intOf]; omega
      · have t0 : (r.st == 0) = false := by simpa using e0
        by_cases e2 : r.st = 2
        · have t2 : (r.st == 2) = true := by simpa using e2
          by_cases ek : r.ki = 2
          · have tk : (r.ki == 2) = true := by simpa using ek
            have HT := hid (show ¬ (r.st ≠ 0 ∧ ¬ (r.st = 2 ∧ r.ki = 2) ∧ 0 ≤ r.du ∧ r.du ≤ now) from fun h => h.2.1 ⟨e2, ek⟩)
            clear e0 e2 ek
            have HNo := hid (show lateX now r = false from by have h := HT.out; rw [Bool.eq_false_iff]; intro h2; rw [lateX_iff] at h2; exact h h2)
            have FL5 := hid trivial
            have FL6 := hid trivial
            go_wp2_with (first
              | (refine wpList_load_px rfl _ rfl b1 (off + k * 18) rfl r HP0.out ?_)
              | (have hfl := FL5.out
                 refine wpList_new rfl 57 rfl _ Try.zeroPx ?_
                 intro v5 b h z
                 have XB := hid (show BoxAt v5 wr.heap.size 57 (Px.cells Px.zero).toArray from b)
                 have PB := hid (PB.out.belowAll h)
                 have RB := hid (RB.out.belowAll h)
                 have HO := hid (HO.out.below h)
                 have HL := hid (HL.out.below h)
                 have HB := hid (HB.out.trans (h.mono HB.out.size))
                 have hsv5 : wr.heap.size + 1 ≤ v5.heap.size := by omega
                 clear kPB4
                 have kPB4 : v5.cell? ⟨w.heap.size, 4, none⟩ = some (.slice (some ⟨b1, off, none⟩) N cpp) := (BoxAt.cell PB.out 4).trans (by show some p.pr.val = _; rw [HPv.out])
                 clear b h z hfl FL5)
              | (have hfl := FL6.out
                 refine wpList_store_whole rfl 57 _ _ rfl rfl wr.heap.size rfl (Px.cells r) rfl _ _ XB.out rfl Try.infoPx (Px.one _) ?_
                 intro v6 b g z
                 have hsv6 : v5.heap.size ≤ v6.heap.size := by omega
                 have HO := hid (OI.turn (S := fun t => t = 57) HO.out (by decide) (Turns.grown (S := fun t => t = 57) XB.out b rfl g))
                 have HL := hid (HL.out.other g (by omega))
                 have XB := hid (show BoxAt v6 wr.heap.size 57 (Px.cells r).toArray from b)
                 have PB := hid (PB.out.grown g (fun e => by have := Option.some.inj e; omega))
                 have RB := hid (RB.out.grown g (fun e => by have := Option.some.inj e; omega))
                 have HB := hid (HB.out.trans (grown_below g (by omega) (by omega)))
                 clear kPB4
                 have kPB4 : v6.cell? ⟨w.heap.size, 4, none⟩ = some (.slice (some ⟨b1, off, none⟩) N cpp) := (BoxAt.cell PB.out 4).trans (by show some p.pr.val = _; rw [HPv.out])
                 have kXB0 : v6.cell? ⟨wr.heap.size, 0, none⟩ = some (.int .i64 r.st) := (BoxAt.cell XB.out 0).trans rfl
                 have kXB10 : v6.cell? ⟨wr.heap.size, 10, none⟩ = some (.int .i64 r.ki) := (BoxAt.cell XB.out 10).trans rfl
                 have kXB12 : v6.cell? ⟨wr.heap.size, 12, none⟩ = some (.int .i64 r.du) := (BoxAt.cell XB.out 12).trans rfl
                 clear b g z hfl FL6)
              | fail)
            go_roundw
            case rel => exact ⟨k + 1, p, by have := HLt.out; omega, by go_num, by rw [lateI_no (by rw [HR.out]; exact HNo.out)]; exact HO, by rw [lateS_skip c now (by rw [HN.out]; exact HLt.out) (by rw [HR.out]; exact HNo.out), HLl.out]; exact hid HL.out.now, PB, RB, HB, by omega⟩
            case measure => have := HLt.out; simp [intOf]; omega
          · have tk : (r.ki == 2) = false := by simpa using ek
            have HQ := hid (show r.st ≠ 0 ∧ ¬ (r.st = 2 ∧ r.ki = 2) from ⟨e0, fun h => ek h.2⟩)
            clear e0 e2 ek
            by_cases ed : r.du < 0
            · have td : decide (r.du < 0) = true := decide_eq_true ed
              have HT := hid (show ¬ (r.st ≠ 0 ∧ ¬ (r.st = 2 ∧ r.ki = 2) ∧ 0 ≤ r.du ∧ r.du ≤ now) from fun h => by have := h.2.2.1; omega)
              clear ed
              have HNo := hid (show lateX now r = false from by have h := HT.out; rw [Bool.eq_false_iff]; intro h2; rw [lateX_iff] at h2; exact h h2)
              have FL7 := hid trivial
              have FL8 := hid trivial
              go_wp2_with (first
                | (refine wpList_load_px rfl _ rfl b1 (off + k * 18) rfl r HP0.out ?_)
                | (have hfl := FL7.out
                   refine wpList_new rfl 57 rfl _ Try.zeroPx ?_
                   intro v7 b h z
                   have XB := hid (show BoxAt v7 wr.heap.size 57 (Px.cells Px.zero).toArray from b)
                   have PB := hid (PB.out.belowAll h)
                   have RB := hid (RB.out.belowAll h)
                   have HO := hid (HO.out.below h)
                   have HL := hid (HL.out.below h)
                   have HB := hid (HB.out.trans (h.mono HB.out.size))
                   have hsv7 : wr.heap.size + 1 ≤ v7.heap.size := by omega
                   clear kPB4
                   have kPB4 : v7.cell? ⟨w.heap.size, 4, none⟩ = some (.slice (some ⟨b1, off, none⟩) N cpp) := (BoxAt.cell PB.out 4).trans (by show some p.pr.val = _; rw [HPv.out])
                   clear b h z hfl FL7)
                | (have hfl := FL8.out
                   refine wpList_store_whole rfl 57 _ _ rfl rfl wr.heap.size rfl (Px.cells r) rfl _ _ XB.out rfl Try.infoPx (Px.one _) ?_
                   intro v8 b g z
                   have hsv8 : v7.heap.size ≤ v8.heap.size := by omega
                   have HO := hid (OI.turn (S := fun t => t = 57) HO.out (by decide) (Turns.grown (S := fun t => t = 57) XB.out b rfl g))
                   have HL := hid (HL.out.other g (by omega))
                   have XB := hid (show BoxAt v8 wr.heap.size 57 (Px.cells r).toArray from b)
                   have PB := hid (PB.out.grown g (fun e => by have := Option.some.inj e; omega))
                   have RB := hid (RB.out.grown g (fun e => by have := Option.some.inj e; omega))
                   have HB := hid (HB.out.trans (grown_below g (by omega) (by omega)))
                   clear kPB4
                   have kPB4 : v8.cell? ⟨w.heap.size, 4, none⟩ = some (.slice (some ⟨b1, off, none⟩) N cpp) := (BoxAt.cell PB.out 4).trans (by show some p.pr.val = _; rw [HPv.out])
                   have kXB0 : v8.cell? ⟨wr.heap.size, 0, none⟩ = some (.int .i64 r.st) := (BoxAt.cell XB.out 0).trans rfl
                   have kXB10 : v8.cell? ⟨wr.heap.size, 10, none⟩ = some (.int .i64 r.ki) := (BoxAt.cell XB.out 10).trans rfl
                   have kXB12 : v8.cell? ⟨wr.heap.size, 12, none⟩ = some (.int .i64 r.du) := (BoxAt.cell XB.out 12).trans rfl
                   clear b g z hfl FL8)
                | fail)
              go_roundw
              case rel => exact ⟨k + 1, p, by have := HLt.out; omega, by go_num, by rw [lateI_no (by rw [HR.out]; exact HNo.out)]; exact HO, by rw [lateS_skip c now (by rw [HN.out]; exact HLt.out) (by rw [HR.out]; exact HNo.out), HLl.out]; exact hid HL.out.now, PB, RB, HB, by omega⟩
              case measure => have := HLt.out; simp [intOf]; omega
            · have td : decide (r.du < 0) = false := decide_eq_false ed
              by_cases en : now < r.du
              · have tn : decide (now < r.du) = true := decide_eq_true en
                have HT := hid (show ¬ (r.st ≠ 0 ∧ ¬ (r.st = 2 ∧ r.ki = 2) ∧ 0 ≤ r.du ∧ r.du ≤ now) from fun h => by have := h.2.2.2; omega)
                clear ed en
                have HNo := hid (show lateX now r = false from by have h := HT.out; rw [Bool.eq_false_iff]; intro h2; rw [lateX_iff] at h2; exact h h2)
                have FL9 := hid trivial
                have FL10 := hid trivial
                go_wp2_with (first
                  | (refine wpList_load_px rfl _ rfl b1 (off + k * 18) rfl r HP0.out ?_)
                  | (have hfl := FL9.out
                     refine wpList_new rfl 57 rfl _ Try.zeroPx ?_
                     intro v9 b h z
                     have XB := hid (show BoxAt v9 wr.heap.size 57 (Px.cells Px.zero).toArray from b)
                     have PB := hid (PB.out.belowAll h)
                     have RB := hid (RB.out.belowAll h)
                     have HO := hid (HO.out.below h)
                     have HL := hid (HL.out.below h)
                     have HB := hid (HB.out.trans (h.mono HB.out.size))
                     have hsv9 : wr.heap.size + 1 ≤ v9.heap.size := by omega
                     clear kPB4
                     have kPB4 : v9.cell? ⟨w.heap.size, 4, none⟩ = some (.slice (some ⟨b1, off, none⟩) N cpp) := (BoxAt.cell PB.out 4).trans (by show some p.pr.val = _; rw [HPv.out])
                     clear b h z hfl FL9)
                  | (have hfl := FL10.out
                     refine wpList_store_whole rfl 57 _ _ rfl rfl wr.heap.size rfl (Px.cells r) rfl _ _ XB.out rfl Try.infoPx (Px.one _) ?_
                     intro v10 b g z
                     have hsv10 : v9.heap.size ≤ v10.heap.size := by omega
                     have HO := hid (OI.turn (S := fun t => t = 57) HO.out (by decide) (Turns.grown (S := fun t => t = 57) XB.out b rfl g))
                     have HL := hid (HL.out.other g (by omega))
                     have XB := hid (show BoxAt v10 wr.heap.size 57 (Px.cells r).toArray from b)
                     have PB := hid (PB.out.grown g (fun e => by have := Option.some.inj e; omega))
                     have RB := hid (RB.out.grown g (fun e => by have := Option.some.inj e; omega))
                     have HB := hid (HB.out.trans (grown_below g (by omega) (by omega)))
                     clear kPB4
                     have kPB4 : v10.cell? ⟨w.heap.size, 4, none⟩ = some (.slice (some ⟨b1, off, none⟩) N cpp) := (BoxAt.cell PB.out 4).trans (by show some p.pr.val = _; rw [HPv.out])
                     have kXB0 : v10.cell? ⟨wr.heap.size, 0, none⟩ = some (.int .i64 r.st) := (BoxAt.cell XB.out 0).trans rfl
                     have kXB10 : v10.cell? ⟨wr.heap.size, 10, none⟩ = some (.int .i64 r.ki) := (BoxAt.cell XB.out 10).trans rfl
                     have kXB12 : v10.cell? ⟨wr.heap.size, 12, none⟩ = some (.int .i64 r.du) := (BoxAt.cell XB.out 12).trans rfl
                     clear b g z hfl FL10)
                  | fail)
                go_roundw
                case rel => exact ⟨k + 1, p, by have := HLt.out; omega, by go_num, by rw [lateI_no (by rw [HR.out]; exact HNo.out)]; exact HO, by rw [lateS_skip c now (by rw [HN.out]; exact HLt.out) (by rw [HR.out]; exact HNo.out), HLl.out]; exact hid HL.out.now, PB, RB, HB, by omega⟩
                case measure => have := HLt.out; simp [intOf]; omega
              · have tn : decide (now < r.du) = false := decide_eq_false en
                have HT := hid (show r.st ≠ 0 ∧ ¬ (r.st = 2 ∧ r.ki = 2) ∧ 0 ≤ r.du ∧ r.du ≤ now from ⟨HQ.out.1, HQ.out.2, by omega, by omega⟩)
                clear ed en
                have HYes := hid (show lateX now r = true from (lateX_iff now r).2 HT.out)
                have FL11 := hid trivial
                have FL12 := hid trivial
                go_wp2_with (first
                  | (refine wpList_load_px rfl _ rfl b1 (off + k * 18) rfl r HP0.out ?_)
                  | (have hfl := FL11.out
                     refine wpList_new rfl 57 rfl _ Try.zeroPx ?_
                     intro v11 b h z
                     have XB := hid (show BoxAt v11 wr.heap.size 57 (Px.cells Px.zero).toArray from b)
                     have PB := hid (PB.out.belowAll h)
                     have RB := hid (RB.out.belowAll h)
                     have HO := hid (HO.out.below h)
                     have HL := hid (HL.out.below h)
                     have HB := hid (HB.out.trans (h.mono HB.out.size))
                     have hsv11 : wr.heap.size + 1 ≤ v11.heap.size := by omega
                     clear kPB4
                     have kPB4 : v11.cell? ⟨w.heap.size, 4, none⟩ = some (.slice (some ⟨b1, off, none⟩) N cpp) := (BoxAt.cell PB.out 4).trans (by show some p.pr.val = _; rw [HPv.out])
                     clear b h z hfl FL11)
                  | (have hfl := FL12.out
                     refine wpList_store_whole rfl 57 _ _ rfl rfl wr.heap.size rfl (Px.cells r) rfl _ _ XB.out rfl Try.infoPx (Px.one _) ?_
                     intro v12 b g z
                     have hsv12 : v11.heap.size ≤ v12.heap.size := by omega
                     have HO := hid (OI.turn (S := fun t => t = 57) HO.out (by decide) (Turns.grown (S := fun t => t = 57) XB.out b rfl g))
                     have HL := hid (HL.out.other g (by omega))
                     have XB := hid (show BoxAt v12 wr.heap.size 57 (Px.cells r).toArray from b)
                     have PB := hid (PB.out.grown g (fun e => by have := Option.some.inj e; omega))
                     have RB := hid (RB.out.grown g (fun e => by have := Option.some.inj e; omega))
                     have HB := hid (HB.out.trans (grown_below g (by omega) (by omega)))
                     clear kPB4
                     have kPB4 : v12.cell? ⟨w.heap.size, 4, none⟩ = some (.slice (some ⟨b1, off, none⟩) N cpp) := (BoxAt.cell PB.out 4).trans (by show some p.pr.val = _; rw [HPv.out])
                     have kXB0 : v12.cell? ⟨wr.heap.size, 0, none⟩ = some (.int .i64 r.st) := (BoxAt.cell XB.out 0).trans rfl
                     have kXB10 : v12.cell? ⟨wr.heap.size, 10, none⟩ = some (.int .i64 r.ki) := (BoxAt.cell XB.out 10).trans rfl
                     have kXB12 : v12.cell? ⟨wr.heap.size, 12, none⟩ = some (.int .i64 r.du) := (BoxAt.cell XB.out 12).trans rfl
                     clear b g z hfl FL12
                     refine Hid.out ?_)
                  | fail)
                refine hid ?_
                obtain ⟨M, hM⟩ : ∃ M, lateI c now k = M := ⟨_, rfl⟩
                have HM := hid hM
                have HMl := hid (show M.length ≤ 900000 by rw [← hM]; have h := lateI_len c now k; have := HLt.out; omega)
                rw [hM] at HO
                clear hM
                have HLx := hid (HO.out.below ((Below.refl _ v12).alloc (Nat.le_refl _) (.cells #[.int .i64 (k : Int)] 3)))
                have HSx := hid (show Sees (v12.alloc (.cells #[.int .i64 (k : Int)] 3)) .i64 (.slice (some ⟨v12.heap.size, 0, none⟩) 1 1) [(k : Int)] from Sees.box (ys := [(k : Int)]) (t := 3) (BoxAt.new v12 3 #[.int .i64 (k : Int)]) (by simp))
                have HMx := hid (show M.length + [(k : Int)].length ≤ 1000000 by have := HMl.out; simp only [List.length_cons, List.length_nil]; omega)
                have HVs := hid (show v2.heap.size ≤ (v12.alloc (.cells #[.int .i64 (k : Int)] 3)).heap.size by simp; omega)
                have HBa := hid ((Below.refl v12.heap.size v12).alloc (Nat.le_refl _) (.cells #[.int .i64 (k : Int)] 3))
                go_wp2_with (at_builtin; refine app_ints rfl _ _ rfl v2.heap.size _ M rfl HLx.out _ [(k : Int)] rfl HSx.out HMx.out HVs.out ?_)
                intro u2 U2 ho hg hb
                have hbA : Below v2.heap.size v12 U2 := (HBa.out.mono (by omega)).trans hb
                have HL := hid ((HL.out.below HBa.out).app HLx.out hg)
                have hapart : ∀ g, BoxAt (v12.alloc (.cells #[.int .i64 (k : Int)] 3)) g 57 (Px.cells r).toArray → some g ≠ Value.ownBlock _ := fun g h => box_apart HLx.out h (by decide)
                have XB := hid ((XB.out.belowAll HBa.out).grown hg (hapart _ (XB.out.belowAll HBa.out)))
                have PB := hid (PB.out.below hbA (by omega))
                have RB := hid (RB.out.below hbA (by omega))
                have HB := hid (HB.out.trans (hbA.mono (by omega)))
                have hsU2 := hbA.size
                have HO := hid ho
                clear ho hg hb hbA hapart HLx HSx HMx HVs HBa
                obtain ⟨x1, hx1⟩ : ∃ x : Px, { r with du := -1 } = x := ⟨_, rfl⟩
                have HX1 := hid hx1
                clear hx1
                clear kXB0 kXB10 kXB12 kPB4
                have FL13 := hid trivial
                go_wp2_with (first
                  | (have hfl := FL13.out
                     refine wpList_store_box rfl 3 _ _ rfl rfl wr.heap.size 12 (.int .i64 (-1)) rfl rfl rfl rfl (by kernel_rfl) _ _ XB.out (by simp [Px.cells]) ?_
                     intro v13 b g z
                     have hsv13 : U2.heap.size ≤ v13.heap.size := by omega
                     have HO := hid (OI.turn (S := fun t => t = 57) HO.out (by decide) (Turns.grown (S := fun t => t = 57) XB.out b rfl g))
                     have HL := hid (HL.out.other g (by omega))
                     have XB := hid (show BoxAt v13 wr.heap.size 57 (Px.cells x1).toArray by rw [← HX1.out]; simpa [Px.cells] using b)
                     have PB := hid (PB.out.grown g (fun e => by have := Option.some.inj e; omega))
                     have RB := hid (RB.out.grown g (fun e => by have := Option.some.inj e; omega))
                     have HB := hid (HB.out.trans (grown_below g (by omega) (by omega)))
                     clear b g z hfl FL13)
                  | (with_reducible refine wpList_dst 50 rfl ?_
                     refine wpList_load_box rfl 39 _ rfl w.heap.size rfl _ _ PB.out _ Try.underlying39 Try.infoPa ?_)
                  | (with_reducible refine wpList_dst 52 rfl ?_
                     refine wpList_load_box rfl 57 _ rfl wr.heap.size rfl _ _ XB.out _ Try.underlying57 Try.infoPx ?_)
                  | fail)
                refine (rwith11_own (c := { c with pr := l }) k x1 (HL.out.at (HA0.out.below (H0.out.trans (HB.out.mono h0s)))) (by show l.length ≤ 900000; rw [HLn.out]; exact hN9) (by show k < l.length; rw [HLn.out]; exact HLt.out)).mono ?_
                rintro e v14 ⟨s2, rfl, ho, hb⟩
                have PB := hid (PB.out.belowAll hb)
                have RB := hid (RB.out.belowAll hb)
                have XB := hid (XB.out.belowAll hb)
                have HO := hid (HO.out.below hb)
                have HL := hid (HL.out.below hb)
                have HB := hid (HB.out.trans (hb.mono HB.out.size))
                have hsv14 : v13.heap.size ≤ v14.heap.size := hb.size
                have HW := hid (HL.out.set ho (show w.heap.size ≤ v13.heap.size by omega))
                clear ho HL
                clear hb
                have FL14 := hid trivial
                go_wp2_with (first
                  | (have hfl := FL14.out
                     refine wpList_store_whole rfl 39 _ _ rfl rfl w.heap.size rfl (PaV.cells { p with pr := s2 }) rfl _ _ PB.out rfl Try.infoPa (PaV.one _) ?_
                     intro v15 b g z
                     have hsv15 : v14.heap.size ≤ v15.heap.size := by omega
                     have HO := hid (OI.turn (S := fun t => t = 39) HO.out (by decide) (Turns.grown (S := fun t => t = 39) PB.out b rfl g))
                     have HW := hid (HW.out.turn (Turns.grown (S := fun t => t = 39) PB.out b rfl g))
                     have PB := hid (show BoxAt v15 w.heap.size 39 (PaV.cells { p with pr := s2 }).toArray from b)
                     have RB := hid (RB.out.grown g (fun e => by have := Option.some.inj e; omega))
                     have XB := hid (XB.out.grown g (fun e => by have := Option.some.inj e; omega))
                     have HB := hid (HB.out.trans (grown_below g (by omega) (by omega)))
                     clear b g z hfl FL14)
                  | fail)
                go_roundw
                case rel => exact ⟨k + 1, _, by have := HLt.out; omega, by go_num, by rw [lateI_yes (by rw [HR.out]; exact HYes.out), HM.out]; exact HO, by rw [lateS_succ c now (by rw [HN.out]; exact HLt.out), HLl.out, HR.out, show toldX now r = x1 from by unfold toldX; rw [if_pos HYes.out, HX1.out]]; exact hid HW.out.now, PB, RB, HB, by omega⟩
                case measure => have := HLt.out; simp [intOf]; omega
        · have t2 : (r.st == 2) = false := by simpa using e2
          have HQ := hid (show r.st ≠ 0 ∧ ¬ (r.st = 2 ∧ r.ki = 2) from ⟨e0, fun h => e2 h.1⟩)
          clear e0 e2
          by_cases ed : r.du < 0
          · have td : decide (r.du < 0) = true := decide_eq_true ed
            have HT := hid (show ¬ (r.st ≠ 0 ∧ ¬ (r.st = 2 ∧ r.ki = 2) ∧ 0 ≤ r.du ∧ r.du ≤ now) from fun h => by have := h.2.2.1; omega)
            clear ed
            have HNo := hid (show lateX now r = false from by have h := HT.out; rw [Bool.eq_false_iff]; intro h2; rw [lateX_iff] at h2; exact h h2)
            have FL15 := hid trivial
            have FL16 := hid trivial
            go_wp2_with (first
              | (refine wpList_load_px rfl _ rfl b1 (off + k * 18) rfl r HP0.out ?_)
              | (have hfl := FL15.out
                 refine wpList_new rfl 57 rfl _ Try.zeroPx ?_
                 intro v16 b h z
                 have XB := hid (show BoxAt v16 wr.heap.size 57 (Px.cells Px.zero).toArray from b)
                 have PB := hid (PB.out.belowAll h)
                 have RB := hid (RB.out.belowAll h)
                 have HO := hid (HO.out.below h)
                 have HL := hid (HL.out.below h)
                 have HB := hid (HB.out.trans (h.mono HB.out.size))
                 have hsv16 : wr.heap.size + 1 ≤ v16.heap.size := by omega
                 clear kPB4
                 have kPB4 : v16.cell? ⟨w.heap.size, 4, none⟩ = some (.slice (some ⟨b1, off, none⟩) N cpp) := (BoxAt.cell PB.out 4).trans (by show some p.pr.val = _; rw [HPv.out])
                 clear b h z hfl FL15)
              | (have hfl := FL16.out
                 refine wpList_store_whole rfl 57 _ _ rfl rfl wr.heap.size rfl (Px.cells r) rfl _ _ XB.out rfl Try.infoPx (Px.one _) ?_
                 intro v17 b g z
                 have hsv17 : v16.heap.size ≤ v17.heap.size := by omega
                 have HO := hid (OI.turn (S := fun t => t = 57) HO.out (by decide) (Turns.grown (S := fun t => t = 57) XB.out b rfl g))
                 have HL := hid (HL.out.other g (by omega))
                 have XB := hid (show BoxAt v17 wr.heap.size 57 (Px.cells r).toArray from b)
                 have PB := hid (PB.out.grown g (fun e => by have := Option.some.inj e; omega))
                 have RB := hid (RB.out.grown g (fun e => by have := Option.some.inj e; omega))
                 have HB := hid (HB.out.trans (grown_below g (by omega) (by omega)))
                 clear kPB4
                 have kPB4 : v17.cell? ⟨w.heap.size, 4, none⟩ = some (.slice (some ⟨b1, off, none⟩) N cpp) := (BoxAt.cell PB.out 4).trans (by show some p.pr.val = _; rw [HPv.out])
                 have kXB0 : v17.cell? ⟨wr.heap.size, 0, none⟩ = some (.int .i64 r.st) := (BoxAt.cell XB.out 0).trans rfl
                 have kXB10 : v17.cell? ⟨wr.heap.size, 10, none⟩ = some (.int .i64 r.ki) := (BoxAt.cell XB.out 10).trans rfl
                 have kXB12 : v17.cell? ⟨wr.heap.size, 12, none⟩ = some (.int .i64 r.du) := (BoxAt.cell XB.out 12).trans rfl
                 clear b g z hfl FL16)
              | fail)
            go_roundw
            case rel => exact ⟨k + 1, p, by have := HLt.out; omega, by go_num, by rw [lateI_no (by rw [HR.out]; exact HNo.out)]; exact HO, by rw [lateS_skip c now (by rw [HN.out]; exact HLt.out) (by rw [HR.out]; exact HNo.out), HLl.out]; exact hid HL.out.now, PB, RB, HB, by omega⟩
            case measure => have := HLt.out; simp [intOf]; omega
          · have td : decide (r.du < 0) = false := decide_eq_false ed
            by_cases en : now < r.du
            · have tn : decide (now < r.du) = true := decide_eq_true en
              have HT := hid (show ¬ (r.st ≠ 0 ∧ ¬ (r.st = 2 ∧ r.ki = 2) ∧ 0 ≤ r.du ∧ r.du ≤ now) from fun h => by have := h.2.2.2; omega)
              clear ed en
              have HNo := hid (show lateX now r = false from by have h := HT.out; rw [Bool.eq_false_iff]; intro h2; rw [lateX_iff] at h2; exact h h2)
              have FL17 := hid trivial
              have FL18 := hid trivial
              go_wp2_with (first
                | (refine wpList_load_px rfl _ rfl b1 (off + k * 18) rfl r HP0.out ?_)
                | (have hfl := FL17.out
                   refine wpList_new rfl 57 rfl _ Try.zeroPx ?_
                   intro v18 b h z
                   have XB := hid (show BoxAt v18 wr.heap.size 57 (Px.cells Px.zero).toArray from b)
                   have PB := hid (PB.out.belowAll h)
                   have RB := hid (RB.out.belowAll h)
                   have HO := hid (HO.out.below h)
                   have HL := hid (HL.out.below h)
                   have HB := hid (HB.out.trans (h.mono HB.out.size))
                   have hsv18 : wr.heap.size + 1 ≤ v18.heap.size := by omega
                   clear kPB4
                   have kPB4 : v18.cell? ⟨w.heap.size, 4, none⟩ = some (.slice (some ⟨b1, off, none⟩) N cpp) := (BoxAt.cell PB.out 4).trans (by show some p.pr.val = _; rw [HPv.out])
                   clear b h z hfl FL17)
                | (have hfl := FL18.out
                   refine wpList_store_whole rfl 57 _ _ rfl rfl wr.heap.size rfl (Px.cells r) rfl _ _ XB.out rfl Try.infoPx (Px.one _) ?_
                   intro v19 b g z
                   have hsv19 : v18.heap.size ≤ v19.heap.size := by omega
                   have HO := hid (OI.turn (S := fun t => t = 57) HO.out (by decide) (Turns.grown (S := fun t => t = 57) XB.out b rfl g))
                   have HL := hid (HL.out.other g (by omega))
                   have XB := hid (show BoxAt v19 wr.heap.size 57 (Px.cells r).toArray from b)
                   have PB := hid (PB.out.grown g (fun e => by have := Option.some.inj e; omega))
                   have RB := hid (RB.out.grown g (fun e => by have := Option.some.inj e; omega))
                   have HB := hid (HB.out.trans (grown_below g (by omega) (by omega)))
                   clear kPB4
                   have kPB4 : v19.cell? ⟨w.heap.size, 4, none⟩ = some (.slice (some ⟨b1, off, none⟩) N cpp) := (BoxAt.cell PB.out 4).trans (by show some p.pr.val = _; rw [HPv.out])
                   have kXB0 : v19.cell? ⟨wr.heap.size, 0, none⟩ = some (.int .i64 r.st) := (BoxAt.cell XB.out 0).trans rfl
                   have kXB10 : v19.cell? ⟨wr.heap.size, 10, none⟩ = some (.int .i64 r.ki) := (BoxAt.cell XB.out 10).trans rfl
                   have kXB12 : v19.cell? ⟨wr.heap.size, 12, none⟩ = some (.int .i64 r.du) := (BoxAt.cell XB.out 12).trans rfl
                   clear b g z hfl FL18)
                | fail)
              go_roundw
              case rel => exact ⟨k + 1, p, by have := HLt.out; omega, by go_num, by rw [lateI_no (by rw [HR.out]; exact HNo.out)]; exact HO, by rw [lateS_skip c now (by rw [HN.out]; exact HLt.out) (by rw [HR.out]; exact HNo.out), HLl.out]; exact hid HL.out.now, PB, RB, HB, by omega⟩
              case measure => have := HLt.out; simp [intOf]; omega
            · have tn : decide (now < r.du) = false := decide_eq_false en
              have HT := hid (show r.st ≠ 0 ∧ ¬ (r.st = 2 ∧ r.ki = 2) ∧ 0 ≤ r.du ∧ r.du ≤ now from ⟨HQ.out.1, HQ.out.2, by omega, by omega⟩)
              clear ed en
              have HYes := hid (show lateX now r = true from (lateX_iff now r).2 HT.out)
              have FL19 := hid trivial
              have FL20 := hid trivial
              go_wp2_with (first
                | (refine wpList_load_px rfl _ rfl b1 (off + k * 18) rfl r HP0.out ?_)
                | (have hfl := FL19.out
                   refine wpList_new rfl 57 rfl _ Try.zeroPx ?_
                   intro v20 b h z
                   have XB := hid (show BoxAt v20 wr.heap.size 57 (Px.cells Px.zero).toArray from b)
                   have PB := hid (PB.out.belowAll h)
                   have RB := hid (RB.out.belowAll h)
                   have HO := hid (HO.out.below h)
                   have HL := hid (HL.out.below h)
                   have HB := hid (HB.out.trans (h.mono HB.out.size))
                   have hsv20 : wr.heap.size + 1 ≤ v20.heap.size := by omega
                   clear kPB4
                   have kPB4 : v20.cell? ⟨w.heap.size, 4, none⟩ = some (.slice (some ⟨b1, off, none⟩) N cpp) := (BoxAt.cell PB.out 4).trans (by show some p.pr.val = _; rw [HPv.out])
                   clear b h z hfl FL19)
                | (have hfl := FL20.out
                   refine wpList_store_whole rfl 57 _ _ rfl rfl wr.heap.size rfl (Px.cells r) rfl _ _ XB.out rfl Try.infoPx (Px.one _) ?_
                   intro v21 b g z
                   have hsv21 : v20.heap.size ≤ v21.heap.size := by omega
                   have HO := hid (OI.turn (S := fun t => t = 57) HO.out (by decide) (Turns.grown (S := fun t => t = 57) XB.out b rfl g))
                   have HL := hid (HL.out.other g (by omega))
                   have XB := hid (show BoxAt v21 wr.heap.size 57 (Px.cells r).toArray from b)
                   have PB := hid (PB.out.grown g (fun e => by have := Option.some.inj e; omega))
                   have RB := hid (RB.out.grown g (fun e => by have := Option.some.inj e; omega))
                   have HB := hid (HB.out.trans (grown_below g (by omega) (by omega)))
                   clear kPB4
                   have kPB4 : v21.cell? ⟨w.heap.size, 4, none⟩ = some (.slice (some ⟨b1, off, none⟩) N cpp) := (BoxAt.cell PB.out 4).trans (by show some p.pr.val = _; rw [HPv.out])
                   have kXB0 : v21.cell? ⟨wr.heap.size, 0, none⟩ = some (.int .i64 r.st) := (BoxAt.cell XB.out 0).trans rfl
                   have kXB10 : v21.cell? ⟨wr.heap.size, 10, none⟩ = some (.int .i64 r.ki) := (BoxAt.cell XB.out 10).trans rfl
                   have kXB12 : v21.cell? ⟨wr.heap.size, 12, none⟩ = some (.int .i64 r.du) := (BoxAt.cell XB.out 12).trans rfl
                   clear b g z hfl FL20
                   refine Hid.out ?_)
                | fail)
              refine hid ?_
              obtain ⟨M, hM⟩ : ∃ M, lateI c now k = M := ⟨_, rfl⟩
              have HM := hid hM
              have HMl := hid (show M.length ≤ 900000 by rw [← hM]; have h := lateI_len c now k; have := HLt.out; omega)
              rw [hM] at HO
              clear hM
              have HLx := hid (HO.out.below ((Below.refl _ v21).alloc (Nat.le_refl _) (.cells #[.int .i64 (k : Int)] 3)))
              have HSx := hid (show Sees (v21.alloc (.cells #[.int .i64 (k : Int)] 3)) .i64 (.slice (some ⟨v21.heap.size, 0, none⟩) 1 1) [(k : Int)] from Sees.box (ys := [(k : Int)]) (t := 3) (BoxAt.new v21 3 #[.int .i64 (k : Int)]) (by simp))
              have HMx := hid (show M.length + [(k : Int)].length ≤ 1000000 by have := HMl.out; simp only [List.length_cons, List.length_nil]; omega)
              have HVs := hid (show v2.heap.size ≤ (v21.alloc (.cells #[.int .i64 (k : Int)] 3)).heap.size by simp; omega)
              have HBa := hid ((Below.refl v21.heap.size v21).alloc (Nat.le_refl _) (.cells #[.int .i64 (k : Int)] 3))
              go_wp2_with (at_builtin; refine app_ints rfl _ _ rfl v2.heap.size _ M rfl HLx.out _ [(k : Int)] rfl HSx.out HMx.out HVs.out ?_)
              intro u2 U2 ho hg hb
              have hbA : Below v2.heap.size v21 U2 := (HBa.out.mono (by omega)).trans hb
              have HL := hid ((HL.out.below HBa.out).app HLx.out hg)
              have hapart : ∀ g, BoxAt (v21.alloc (.cells #[.int .i64 (k : Int)] 3)) g 57 (Px.cells r).toArray → some g ≠ Value.ownBlock _ := fun g h => box_apart HLx.out h (by decide)
              have XB := hid ((XB.out.belowAll HBa.out).grown hg (hapart _ (XB.out.belowAll HBa.out)))
              have PB := hid (PB.out.below hbA (by omega))
              have RB := hid (RB.out.below hbA (by omega))
              have HB := hid (HB.out.trans (hbA.mono (by omega)))
              have hsU2 := hbA.size
              have HO := hid ho
              clear ho hg hb hbA hapart HLx HSx HMx HVs HBa
              obtain ⟨x1, hx1⟩ : ∃ x : Px, { r with du := -1 } = x := ⟨_, rfl⟩
              have HX1 := hid hx1
              clear hx1
              clear kXB0 kXB10 kXB12 kPB4
              have FL21 := hid trivial
              go_wp2_with (first
                | (have hfl := FL21.out
                   refine wpList_store_box rfl 3 _ _ rfl rfl wr.heap.size 12 (.int .i64 (-1)) rfl rfl rfl rfl (by kernel_rfl) _ _ XB.out (by simp [Px.cells]) ?_
                   intro v22 b g z
                   have hsv22 : U2.heap.size ≤ v22.heap.size := by omega
                   have HO := hid (OI.turn (S := fun t => t = 57) HO.out (by decide) (Turns.grown (S := fun t => t = 57) XB.out b rfl g))
                   have HL := hid (HL.out.other g (by omega))
                   have XB := hid (show BoxAt v22 wr.heap.size 57 (Px.cells x1).toArray by rw [← HX1.out]; simpa [Px.cells] using b)
                   have PB := hid (PB.out.grown g (fun e => by have := Option.some.inj e; omega))
                   have RB := hid (RB.out.grown g (fun e => by have := Option.some.inj e; omega))
                   have HB := hid (HB.out.trans (grown_below g (by omega) (by omega)))
                   clear b g z hfl FL21)
                | (with_reducible refine wpList_dst 50 rfl ?_
                   refine wpList_load_box rfl 39 _ rfl w.heap.size rfl _ _ PB.out _ Try.underlying39 Try.infoPa ?_)
                | (with_reducible refine wpList_dst 52 rfl ?_
                   refine wpList_load_box rfl 57 _ rfl wr.heap.size rfl _ _ XB.out _ Try.underlying57 Try.infoPx ?_)
                | fail)
              refine (rwith11_own (c := { c with pr := l }) k x1 (HL.out.at (HA0.out.below (H0.out.trans (HB.out.mono h0s)))) (by show l.length ≤ 900000; rw [HLn.out]; exact hN9) (by show k < l.length; rw [HLn.out]; exact HLt.out)).mono ?_
              rintro e v23 ⟨s2, rfl, ho, hb⟩
              have PB := hid (PB.out.belowAll hb)
              have RB := hid (RB.out.belowAll hb)
              have XB := hid (XB.out.belowAll hb)
              have HO := hid (HO.out.below hb)
              have HL := hid (HL.out.below hb)
              have HB := hid (HB.out.trans (hb.mono HB.out.size))
              have hsv23 : v22.heap.size ≤ v23.heap.size := hb.size
              have HW := hid (HL.out.set ho (show w.heap.size ≤ v22.heap.size by omega))
              clear ho HL
              clear hb
              have FL22 := hid trivial
              go_wp2_with (first
                | (have hfl := FL22.out
                   refine wpList_store_whole rfl 39 _ _ rfl rfl w.heap.size rfl (PaV.cells { p with pr := s2 }) rfl _ _ PB.out rfl Try.infoPa (PaV.one _) ?_
                   intro v24 b g z
                   have hsv24 : v23.heap.size ≤ v24.heap.size := by omega
                   have HO := hid (OI.turn (S := fun t => t = 39) HO.out (by decide) (Turns.grown (S := fun t => t = 39) PB.out b rfl g))
                   have HW := hid (HW.out.turn (Turns.grown (S := fun t => t = 39) PB.out b rfl g))
                   have PB := hid (show BoxAt v24 w.heap.size 39 (PaV.cells { p with pr := s2 }).toArray from b)
                   have RB := hid (RB.out.grown g (fun e => by have := Option.some.inj e; omega))
                   have XB := hid (XB.out.grown g (fun e => by have := Option.some.inj e; omega))
                   have HB := hid (HB.out.trans (grown_below g (by omega) (by omega)))
                   clear b g z hfl FL22)
                | fail)
              go_roundw
              case rel => exact ⟨k + 1, _, by have := HLt.out; omega, by go_num, by rw [lateI_yes (by rw [HR.out]; exact HYes.out), HM.out]; exact HO, by rw [lateS_succ c now (by rw [HN.out]; exact HLt.out), HLl.out, HR.out, show toldX now r = x1 from by unfold toldX; rw [if_pos HYes.out, HX1.out]]; exact hid HW.out.now, PB, RB, HB, by omega⟩
              case measure => have := HLt.out; simp [intOf]; omega
    · obtain rfl : k = N := by omega
      clear hlt hpcell hln
      have kPB4 : wr.cell? ⟨w.heap.size, 4, none⟩ = some (.slice ap k cpp) := (BoxAt.cell PB.out 4).trans (by show some p.pr.val = _; rw [HPv.out])
      go_wp2_with fail
      have PB := hid (BoxAt.drew PB.out)
      have RB := hid (BoxAt.drew RB.out)
      have HO := hid (HO.out.below ((Below.refl wr.heap.size wr).drew))
      have HL := hid (HL.out.below ((Below.refl wr.heap.size wr).drew))
      have HB := hid HB.out.drew
      have hrp : v1.heap.size ≠ w.heap.size := by omega
      have hrs : v1.heap.size < wr.drew.heap.size := RB.out.lt
      have hdd : wr.drew.heap.size = wr.heap.size := rfl
      clear kPB4 hdd
      refine wp_region_held_drew (S := (fun W => BoxAt W w.heap.size 39 (PaV.cells p).toArray)) (by kernel_rfl) (PB.out) (fun hHeld => ?_)
      refine wpAnyH_take (i := 0) (oi := { dst := some 54, op := Op.move (Operand.tmp 6), type := 26, pos := "ref.go:55", after := #[], guard := none }) (v := ?v701) rfl (by kernel_rfl) (by kernel_rfl) (by kernel_rfl) (fun _ _ _ h => h) (Or.inl ⟨by rfl, ?hy701⟩) (by assumption) ?rest701
      case hy701 => (intro w hSw; (try dsimp only at hSw); go_simp; try with_reducible rfl)
      simp only [Act.put, List.setIfInBounds_toArray, List.set_cons_zero, List.set_cons_succ]
      refine wpAnyH_take (i := 1) (oi := { dst := some 55, op := Op.load 39 (Operand.tmp 2), type := 39, pos := "ref.go:55", after := #[{ on := 2, ground := Ground.gcOnly Departure.lateStores }], guard := none }) (v := ?v702) rfl (by kernel_rfl) (by kernel_rfl) (by kernel_rfl) (fun _ _ _ h => h) (Or.inl ⟨by rfl, ?hy702⟩) (by assumption) ?rest702
      case hy702 => (intro W hSw; refine box_yields 39 (.tmp 2) ?_ (w.heap.size) ?_ (PaV.cells p) 39 _ Try.underlying39 Try.infoPa hSw <;> rfl)
      simp only [Act.put, List.setIfInBounds_toArray, List.set_cons_zero, List.set_cons_succ]
      refine wpAnyH_take (i := 2) (oi := { dst := some 4, op := Op.assign (Operand.tmp 54), type := 26, pos := "ref.go:55", after := #[{ on := 0, ground := Ground.data }, { on := 0, ground := Ground.phase }, { on := 1, ground := Ground.textOnly Departure.lateStores }], guard := none }) (v := ?v703) rfl (by kernel_rfl) (by kernel_rfl) (by kernel_rfl) (fun _ _ _ h => h) (Or.inl ⟨by rfl, ?hy703⟩) (by assumption) ?rest703
      case hy703 => (intro w hSw; (try dsimp only at hSw); go_simp; try with_reducible rfl)
      simp only [Act.put, List.setIfInBounds_toArray, List.set_cons_zero, List.set_cons_succ]
      refine wpAnyH_ready (rs := [3]) (by kernel_rfl) (by simp) (AllReadyH.cons (o := { dst := none, op := Op.store 39 (Operand.tmp 5) (Operand.tmp 55), type := 0, pos := "ref.go:55", after := #[{ on := 1, ground := Ground.data }, { on := 2, ground := Ground.chain }, { on := 0, ground := Ground.phase }, { on := 1, ground := Ground.phase }, { on := 2, ground := Ground.phase }], guard := none }) rfl (fun K704 hK704 => ?_) AllReadyH.nil)
      refine wp_store_whole 39 _ _ rfl (v1.heap.size) rfl (PaV.cells p) rfl _ _ RB.out rfl Try.infoPa (PaV.one _) ?_
      intro z b gr hz
      have ht := Turns.grown (S := fun t => t = 39) RB.out b rfl gr
      have HL := hid (HL.out.turn ht)
      have HO := hid (OI.turn (S := fun t => t = 39) HO.out (by decide) ht)
      have HB := hid (HB.out.trans (grown_below gr (by omega) (by omega)))
      have PB := hid (PB.out.grown gr (fun e => hrp (Option.some.inj e).symm))
      have RB := hid (show BoxAt z (v1.heap.size) 39 (PaV.cells p).toArray from b)
      clear b gr hz ht
      refine hK704.out _ _ (PB.out) (fun hHeld704 => ?_)
      clear hK704 K704
      try simp only [Act.put]
      refine wpAnyH_done (by kernel_rfl) ?_ _
      clear hHeld hHeld704
      go_wp2_with fail
      refine bodyPost_ret (results_tmp_box rfl _ _ (v1.heap.size) 39 _ (0, 0) _ rfl RB.out Try.underlying39 rfl Try.infoPa) rfl ?_
      refine ⟨_, p, rfl, ?_, ?_, HB.out⟩
      · rw [← lateI_all, HN.out]; exact HO.out.mono (by omega)
      · have h := HL.out.done HA0.out (H0.out.trans (HB.out.mono h0s))
        rw [← HLl.out] at h
        have e : lateS c now k = lateC c now := by rw [← HN.out]; exact lateS_all c now
        rw [← e]
        exact h

theorem Try.infoWkC : (Try.prog.info? 92).map (·.size) = some 3 := by kernel_rfl
theorem Try.zeroWk : (Try.prog.info? 92).bind (·.zero) = some (.agg #[.int .i64 0, .int .i64 0, .int .i64 0]) := by kernel_rfl
theorem wk_one (a b c : Int) : ∀ v ∈ [Value.int .i64 a, .int .i64 b, .int .i64 c], v.oneCell' = true := by
  intro v hv
  simp only [List.mem_cons, List.not_mem_nil, or_false] at hv
  rcases hv with rfl | rfl | rfl <;> rfl
theorem rel_none {f : Pt} {now : Int} {i : Nat} {x : Px} {c : Pa} (h : ¬ (x.ki = 2 ∧ i < f.pc.length)) : relP f now i x c = c := by
  unfold relP relX
  rw [if_neg h, set_getD_self]
theorem wake_yes {f : Pt} {now : Int} {i : Nat} {c D : Pa} {x : Px} (hx : c.pr.getD i Px.zero = x) (ho : overX now x) (hw : wentP c i x = D) (h : ¬ (x.ki = 2 ∧ i < f.pc.length)) : wakeOne f now i c = D := by
  unfold wakeOne
  rw [hx, if_pos ho, hw, rel_none h]
theorem wake_rel {f : Pt} {now : Int} {i : Nat} {c D : Pa} {x y : Px} (hx : c.pr.getD i Px.zero = x) (ho : overX now x) (hw : wentP c i x = D) (h : x.ki = 2 ∧ i < f.pc.length) (hy : { D.pr.getD i Px.zero with du := if 0 < (f.pc.getD i Pc.zero).li then wrap64 (now + (f.pc.getD i Pc.zero).li) else -1, ne := wrap64 (x.un + (f.pc.getD i Pc.zero).pe) } = y) : wakeOne f now i c = { D with pr := D.pr.set i y } := by
  unfold wakeOne
  rw [hx, if_pos ho, hw]
  unfold relP relX
  rw [if_pos h, hy]

set_option maxRecDepth 100000 in
set_option maxHeartbeats 3200000 in
theorem rwake_any {qc : Pv} {cc : Pt} {q : PaV} {c : Pa} {w0 w : World} {now : Int} (hc : PtAt w0 qc cc) (ha : PaAt w0 q c) (h0 : Below w0.heap.size w0 w) (hsm : c.small) :
    Calls Try.prog 13 #[qc.val, q.val, .int .i64 now] w fun e w' => ∃ q', e = .returned (PaV.val q') ∧ PaS w0.heap.size w' q' (wakeP cc c now) ∧ Below w.heap.size w w' := by
  have HZ := hid ((PaZ.from ha).go (Keep.below (Nat.le_refl _) h0))
  have h0s : w0.heap.size ≤ w.heap.size := h0.size
  have HSm := hid hsm
  have HB := hid (Below.refl w.heap.size w)
  obtain ⟨N, hN⟩ : ∃ N, c.pr.length = N := ⟨_, rfl⟩
  have HN := hid hN
  have hN9 : N ≤ 900000 := by rw [← hN]; exact hsm.pr
  obtain ⟨ac, cpc, hcv, hc1, hc2, hccell⟩ := (hc.below h0).pc.form
  obtain ⟨M, hM⟩ : ∃ M, cc.pc.length = M := ⟨_, rfl⟩
  rw [hM] at hcv hc1 hccell
  have HM := hid hM
  have hmaxc : cpc ≤ 9223372036854775807 := hc2
  have HCv := hid hcv
  have HCc := hid hccell
  obtain ⟨n, hn⟩ : ∃ n, w0.heap.size = n := ⟨_, rfl⟩
  rw [hn] at HZ h0s ⊢
  clear hN hM hn ha h0 hsm hc hcv hc2 hccell
  go_enter Try.func13, Try.ntmps13
  have FL1 := hid trivial
  have FL2 := hid trivial
  have FL3 := hid trivial
  go_wp2_with (first
    | (have hfl := FL1.out
       refine wpList_box rfl 28 (.tmp 0) rfl (Pv.cells qc).toArray rfl ?_
       intro v1 b h z
       have CB := hid (show BoxAt v1 w.heap.size 28 (Pv.cells qc).toArray from b)
       have HB := hid (HB.out.trans (h.mono HB.out.size))
       have hsv1 : w.heap.size + 1 ≤ v1.heap.size := by omega
       clear b h z hfl FL1)
    | (have hfl := FL2.out
       refine wpList_box rfl 39 (.tmp 1) rfl (PaV.cells q).toArray rfl ?_
       intro v2 b h z
       have PB := hid (show BoxAt v2 v1.heap.size 39 (PaV.cells q).toArray from b)
       have CB := hid (CB.out.belowAll h)
       have HB := hid (HB.out.trans (h.mono HB.out.size))
       have hsv2 : v1.heap.size + 1 ≤ v2.heap.size := by omega
       clear b h z hfl FL2)
    | (have hfl := FL3.out
       refine wpList_new rfl 39 rfl _ Try.zeroPa ?_
       intro v3 b h z
       have RB := hid (show BoxAt v3 v2.heap.size 39 (PaV.cells PaV.zero).toArray from b)
       have CB := hid (CB.out.belowAll h)
       have PB := hid (PB.out.belowAll h)
       have HB := hid (HB.out.trans (h.mono HB.out.size))
       have hsv3 : v2.heap.size + 1 ≤ v3.heap.size := by omega
       clear b h z hfl FL3)
    | fail)
  have HZ := hid (HZ.out.below h0s HB.out)
  go_loopw [7] (fun t wr => ∃ (k : Nat) (p : PaV), k ≤ N ∧ t = .int .i64 k ∧ Hid (PaZ n wr p (wakeS cc c now k)) ∧ Hid (BoxAt wr w.heap.size 28 (Pv.cells qc).toArray) ∧ Hid (BoxAt wr v1.heap.size 39 (PaV.cells p).toArray) ∧ Hid (BoxAt wr v2.heap.size 39 (PaV.cells PaV.zero).toArray) ∧ Hid (Below w.heap.size w wr) ∧ v3.heap.size ≤ wr.heap.size) (fun t _ => N - (intOf t).toNat)
  case atStart => exact ⟨0, q, Nat.zero_le _, rfl, HZ, CB, PB, RB, HB, Nat.le_refl _⟩
  case round =>
    clear CB PB RB HB HZ
    obtain ⟨k, p, hk, rfl, HZ, CB, PB, RB, HB, hsr⟩ := hrel
    have HSk := hid (wakeS_small (f := cc) (now := now) HSm.out k)
    obtain ⟨C, hC⟩ : ∃ C, wakeS cc c now k = C := ⟨_, rfl⟩
    have HCk := hid hC
    have hln : C.pr.length = N := by rw [← hC, wakeS_len, HN.out]
    rw [hC] at HZ HSk
    clear hC
    obtain ⟨ap, cpp, hpv, hp1, hp2, hpcell⟩ := HZ.out.at.pr.form
    rw [hln] at hpv hp1
    have hmax : cpp ≤ 9223372036854775807 := hp2
    have HPv := hid hpv
    have HLn := hid hln
    clear hpv hp2
    by_cases hlt : k < N
    · obtain ⟨b1, off, hap, hbw, hpx⟩ := hpcell (by rw [hln]; omega)
      subst hap
      obtain ⟨r, hr⟩ : ∃ r, C.pr.getD k Px.zero = r := ⟨_, rfl⟩
      have HR := hid hr
      have HP0 := hid (show PxAt wr b1 (off + k * 18) r from by rw [← hr]; exact fun j hj => hpx k (by rw [hln]; exact hlt) j hj)
      have HLt := hid hlt
      have HK := hid (show k < C.pr.length by rw [hln]; exact hlt)
      clear hpx hr hln
      have hkI : (k : Int) < (N : Int) := by omega
      clear hlt
      have kPB4 : wr.cell? ⟨v1.heap.size, 4, none⟩ = some (.slice (some ⟨b1, off, none⟩) N cpp) := (BoxAt.cell PB.out 4).trans (by show some p.pr.val = _; rw [HPv.out])
      by_cases e0 : r.st = 2
      · have t0 : (r.st != 2) = false := by simpa using e0
        by_cases eu : r.un < 0
        · have tu : decide (r.un < 0) = true := decide_eq_true eu
          have HT := hid (show ¬ overX now r from fun h => by have := h.2.1; omega)
          clear e0 eu
          have HV := hid (Below.refl wr.heap.size wr)
          have FL4 := hid trivial
          have FL5 := hid trivial
          go_wp2_with (first
            | (refine wpList_load_px rfl _ rfl b1 (off + k * 18) rfl r HP0.out ?_)
            | (have hfl := FL4.out
               refine wpList_new rfl 57 rfl _ Try.zeroPx ?_
               intro v4 b h z
               have XB := hid (show BoxAt v4 wr.heap.size 57 (Px.cells Px.zero).toArray from b)
               have CB := hid (CB.out.belowAll h)
               have PB := hid (PB.out.belowAll h)
               have RB := hid (RB.out.belowAll h)
               have HV := hid (HV.out.trans (h.mono HV.out.size))
               have HB := hid (HB.out.trans (h.mono HB.out.size))
               have hsv4 : wr.heap.size + 1 ≤ v4.heap.size := by omega
               clear kPB4
               have kPB4 : v4.cell? ⟨v1.heap.size, 4, none⟩ = some (.slice (some ⟨b1, off, none⟩) N cpp) := (BoxAt.cell PB.out 4).trans (by show some p.pr.val = _; rw [HPv.out])
               clear b h z hfl FL4)
            | (have hfl := FL5.out
               refine wpList_store_whole rfl 57 _ _ rfl rfl wr.heap.size rfl (Px.cells r) rfl _ _ XB.out rfl Try.infoPx (Px.one _) ?_
               intro v5 b g z
               have hsv5 : v4.heap.size ≤ v5.heap.size := by omega
               have HV := hid (HV.out.trans (grown_below g (by omega) (by omega)))
               have XB := hid (show BoxAt v5 wr.heap.size 57 (Px.cells r).toArray from b)
               have CB := hid (CB.out.grown g (fun e => by have := Option.some.inj e; omega))
               have PB := hid (PB.out.grown g (fun e => by have := Option.some.inj e; omega))
               have RB := hid (RB.out.grown g (fun e => by have := Option.some.inj e; omega))
               have HB := hid (HB.out.trans (grown_below g (by omega) (by omega)))
               clear kPB4
               have kPB4 : v5.cell? ⟨v1.heap.size, 4, none⟩ = some (.slice (some ⟨b1, off, none⟩) N cpp) := (BoxAt.cell PB.out 4).trans (by show some p.pr.val = _; rw [HPv.out])
               have kXB0 : v5.cell? ⟨wr.heap.size, 0, none⟩ = some (.int .i64 r.st) := (BoxAt.cell XB.out 0).trans rfl
               have kXB9 : v5.cell? ⟨wr.heap.size, 9, none⟩ = some (.int .i64 r.un) := (BoxAt.cell XB.out 9).trans rfl
               have kXB10 : v5.cell? ⟨wr.heap.size, 10, none⟩ = some (.int .i64 r.ki) := (BoxAt.cell XB.out 10).trans rfl
               clear b g z hfl FL5)
            | fail)
          have HZ := hid (HZ.out.below (by omega) HV.out)
          go_roundw
          case rel => exact ⟨k + 1, p, by have := HLt.out; omega, by go_num, (show Hid (PaZ n _ _ (wakeS cc c now (k + 1))) from by rw [show wakeS cc c now (k + 1) = wakeOne cc now k C from by rw [← HCk.out]; rfl, wakeOne_idle (by rw [HR.out]; exact HT.out)]; exact HZ), CB, PB, RB, HB, by omega⟩
          case measure => have := HLt.out; simp [intOf]; omega
        · have tu : decide (r.un < 0) = false := decide_eq_false eu
          by_cases en : now < r.un
          · have tn : decide (now < r.un) = true := decide_eq_true en
            have HT := hid (show ¬ overX now r from fun h => by have := h.2.2; omega)
            clear e0 eu en
            have HV := hid (Below.refl wr.heap.size wr)
            have FL6 := hid trivial
            have FL7 := hid trivial
            go_wp2_with (first
              | (refine wpList_load_px rfl _ rfl b1 (off + k * 18) rfl r HP0.out ?_)
              | (have hfl := FL6.out
                 refine wpList_new rfl 57 rfl _ Try.zeroPx ?_
                 intro v6 b h z
                 have XB := hid (show BoxAt v6 wr.heap.size 57 (Px.cells Px.zero).toArray from b)
                 have CB := hid (CB.out.belowAll h)
                 have PB := hid (PB.out.belowAll h)
                 have RB := hid (RB.out.belowAll h)
                 have HV := hid (HV.out.trans (h.mono HV.out.size))
                 have HB := hid (HB.out.trans (h.mono HB.out.size))
                 have hsv6 : wr.heap.size + 1 ≤ v6.heap.size := by omega
                 clear kPB4
                 have kPB4 : v6.cell? ⟨v1.heap.size, 4, none⟩ = some (.slice (some ⟨b1, off, none⟩) N cpp) := (BoxAt.cell PB.out 4).trans (by show some p.pr.val = _; rw [HPv.out])
                 clear b h z hfl FL6)
              | (have hfl := FL7.out
                 refine wpList_store_whole rfl 57 _ _ rfl rfl wr.heap.size rfl (Px.cells r) rfl _ _ XB.out rfl Try.infoPx (Px.one _) ?_
                 intro v7 b g z
                 have hsv7 : v6.heap.size ≤ v7.heap.size := by omega
                 have HV := hid (HV.out.trans (grown_below g (by omega) (by omega)))
                 have XB := hid (show BoxAt v7 wr.heap.size 57 (Px.cells r).toArray from b)
                 have CB := hid (CB.out.grown g (fun e => by have := Option.some.inj e; omega))
                 have PB := hid (PB.out.grown g (fun e => by have := Option.some.inj e; omega))
                 have RB := hid (RB.out.grown g (fun e => by have := Option.some.inj e; omega))
                 have HB := hid (HB.out.trans (grown_below g (by omega) (by omega)))
                 clear kPB4
                 have kPB4 : v7.cell? ⟨v1.heap.size, 4, none⟩ = some (.slice (some ⟨b1, off, none⟩) N cpp) := (BoxAt.cell PB.out 4).trans (by show some p.pr.val = _; rw [HPv.out])
                 have kXB0 : v7.cell? ⟨wr.heap.size, 0, none⟩ = some (.int .i64 r.st) := (BoxAt.cell XB.out 0).trans rfl
                 have kXB9 : v7.cell? ⟨wr.heap.size, 9, none⟩ = some (.int .i64 r.un) := (BoxAt.cell XB.out 9).trans rfl
                 have kXB10 : v7.cell? ⟨wr.heap.size, 10, none⟩ = some (.int .i64 r.ki) := (BoxAt.cell XB.out 10).trans rfl
                 clear b g z hfl FL7)
              | fail)
            have HZ := hid (HZ.out.below (by omega) HV.out)
            go_roundw
            case rel => exact ⟨k + 1, p, by have := HLt.out; omega, by go_num, (show Hid (PaZ n _ _ (wakeS cc c now (k + 1))) from by rw [show wakeS cc c now (k + 1) = wakeOne cc now k C from by rw [← HCk.out]; rfl, wakeOne_idle (by rw [HR.out]; exact HT.out)]; exact HZ), CB, PB, RB, HB, by omega⟩
            case measure => have := HLt.out; simp [intOf]; omega
          · have tn : decide (now < r.un) = false := decide_eq_false en
            have HOv := hid (show overX now r from ⟨e0, by omega, by omega⟩)
            clear e0 eu en
            by_cases k1 : r.ki = 1
            · have t1 : (r.ki != 1) = false := by simpa using k1
              have t3 : (r.ki == 2) = false := by rw [k1]; rfl
              have HTm := hid (show timed r = True from eq_true (.inl k1))
              have HNr := hid (show ¬ (r.ki = 2 ∧ k < cc.pc.length) from fun h => by have := h.1; omega)
              clear k1
              have HV := hid (Below.refl wr.heap.size wr)
              have FL8 := hid trivial
              have FL9 := hid trivial
              go_wp2_with (first
                | (refine wpList_load_px rfl _ rfl b1 (off + k * 18) rfl r HP0.out ?_)
                | (have hfl := FL8.out
                   refine wpList_new rfl 57 rfl _ Try.zeroPx ?_
                   intro v8 b h z
                   have XB := hid (show BoxAt v8 wr.heap.size 57 (Px.cells Px.zero).toArray from b)
                   have CB := hid (CB.out.belowAll h)
                   have PB := hid (PB.out.belowAll h)
                   have RB := hid (RB.out.belowAll h)
                   have HV := hid (HV.out.trans (h.mono HV.out.size))
                   have HB := hid (HB.out.trans (h.mono HB.out.size))
                   have hsv8 : wr.heap.size + 1 ≤ v8.heap.size := by omega
                   clear kPB4
                   have kPB4 : v8.cell? ⟨v1.heap.size, 4, none⟩ = some (.slice (some ⟨b1, off, none⟩) N cpp) := (BoxAt.cell PB.out 4).trans (by show some p.pr.val = _; rw [HPv.out])
                   clear b h z hfl FL8)
                | (have hfl := FL9.out
                   refine wpList_store_whole rfl 57 _ _ rfl rfl wr.heap.size rfl (Px.cells r) rfl _ _ XB.out rfl Try.infoPx (Px.one _) ?_
                   intro v9 b g z
                   have hsv9 : v8.heap.size ≤ v9.heap.size := by omega
                   have HV := hid (HV.out.trans (grown_below g (by omega) (by omega)))
                   have XB := hid (show BoxAt v9 wr.heap.size 57 (Px.cells r).toArray from b)
                   have CB := hid (CB.out.grown g (fun e => by have := Option.some.inj e; omega))
                   have PB := hid (PB.out.grown g (fun e => by have := Option.some.inj e; omega))
                   have RB := hid (RB.out.grown g (fun e => by have := Option.some.inj e; omega))
                   have HB := hid (HB.out.trans (grown_below g (by omega) (by omega)))
                   clear kPB4
                   have kPB4 : v9.cell? ⟨v1.heap.size, 4, none⟩ = some (.slice (some ⟨b1, off, none⟩) N cpp) := (BoxAt.cell PB.out 4).trans (by show some p.pr.val = _; rw [HPv.out])
                   have kXB0 : v9.cell? ⟨wr.heap.size, 0, none⟩ = some (.int .i64 r.st) := (BoxAt.cell XB.out 0).trans rfl
                   have kXB9 : v9.cell? ⟨wr.heap.size, 9, none⟩ = some (.int .i64 r.un) := (BoxAt.cell XB.out 9).trans rfl
                   have kXB10 : v9.cell? ⟨wr.heap.size, 10, none⟩ = some (.int .i64 r.ki) := (BoxAt.cell XB.out 10).trans rfl
                   clear b g z hfl FL9
                   refine Hid.out ?_)
                | fail)
              refine hid ?_
              have HZ := hid (HZ.out.below (by omega) HV.out)
              clear HV kPB4
              have FL10 := hid trivial
              have FL11 := hid trivial
              go_wp2_with (first
                | (have hfl := FL10.out
                   refine wpList_new rfl 92 rfl _ Try.zeroWk ?_
                   intro v10 b h z
                   have WB := hid (show BoxAt v10 v9.heap.size 92 [.int .i64 0, .int .i64 0, .int .i64 0].toArray from b)
                   have CB := hid (CB.out.belowAll h)
                   have PB := hid (PB.out.belowAll h)
                   have RB := hid (RB.out.belowAll h)
                   have XB := hid (XB.out.belowAll h)
                   have HZ := hid (HZ.out.below (by omega) h)
                   have HB := hid (HB.out.trans (h.mono HB.out.size))
                   have hsv10 : v9.heap.size + 1 ≤ v10.heap.size := by omega
                   clear kXB0
                   have kXB0 : v10.cell? ⟨wr.heap.size, 0, none⟩ = some (.int .i64 r.st) := (BoxAt.cell XB.out 0).trans rfl
                   clear kXB9
                   have kXB9 : v10.cell? ⟨wr.heap.size, 9, none⟩ = some (.int .i64 r.un) := (BoxAt.cell XB.out 9).trans rfl
                   clear kXB10
                   have kXB10 : v10.cell? ⟨wr.heap.size, 10, none⟩ = some (.int .i64 r.ki) := (BoxAt.cell XB.out 10).trans rfl
                   clear b h z hfl FL10)
                | (have hfl := FL11.out
                   refine wpList_store_whole rfl 92 _ _ rfl rfl v9.heap.size rfl [.int .i64 (k : Int), .int .i64 0, .int .i64 0] rfl _ _ WB.out rfl Try.infoWkC (wk_one _ _ _) ?_
                   intro v11 b g z
                   have hsv11 : v10.heap.size ≤ v11.heap.size := by omega
                   have HZ := hid (HZ.out.putw (by omega) (by omega) g WB.out b)
                   have WB := hid (show BoxAt v11 v9.heap.size 92 [.int .i64 (k : Int), .int .i64 0, .int .i64 0].toArray from b)
                   have CB := hid (CB.out.grown g (fun e => by have := Option.some.inj e; omega))
                   have PB := hid (PB.out.grown g (fun e => by have := Option.some.inj e; omega))
                   have RB := hid (RB.out.grown g (fun e => by have := Option.some.inj e; omega))
                   have XB := hid (XB.out.grown g (fun e => by have := Option.some.inj e; omega))
                   have HB := hid (HB.out.trans (grown_below g (by omega) (by omega)))
                   clear kXB0
                   have kXB0 : v11.cell? ⟨wr.heap.size, 0, none⟩ = some (.int .i64 r.st) := (BoxAt.cell XB.out 0).trans rfl
                   clear kXB9
                   have kXB9 : v11.cell? ⟨wr.heap.size, 9, none⟩ = some (.int .i64 r.un) := (BoxAt.cell XB.out 9).trans rfl
                   clear kXB10
                   have kXB10 : v11.cell? ⟨wr.heap.size, 10, none⟩ = some (.int .i64 r.ki) := (BoxAt.cell XB.out 10).trans rfl
                   clear b g z hfl FL11)
                | (with_reducible refine wpList_dst 51 rfl ?_
                   refine wpList_load_box rfl 39 _ rfl v1.heap.size rfl _ _ PB.out _ Try.underlying39 Try.infoPa ?_)
                | (with_reducible refine wpList_dst 52 rfl ?_
                   refine wpList_load_box rfl 92 _ rfl v9.heap.size rfl _ _ WB.out _ Try.underlying92 Try.infoWkC ?_)
                | fail)
              refine (rgo_z (kp := (k : Int)) (kc := 0) (kv := 0) HZ.out (by omega) (HSk.out)).mono ?_
              rintro e v12 ⟨q2, rfl, hz, hb⟩
              have CB := hid (CB.out.belowAll hb)
              have PB := hid (PB.out.belowAll hb)
              have RB := hid (RB.out.belowAll hb)
              have XB := hid (XB.out.belowAll hb)
              have WB := hid (WB.out.belowAll hb)
              have HZ := hid hz
              have HB := hid (HB.out.trans (hb.mono HB.out.size))
              have hsv12 : v11.heap.size ≤ v12.heap.size := hb.size
              clear kXB0
              have kXB0 : v12.cell? ⟨wr.heap.size, 0, none⟩ = some (.int .i64 r.st) := (BoxAt.cell XB.out 0).trans rfl
              clear kXB9
              have kXB9 : v12.cell? ⟨wr.heap.size, 9, none⟩ = some (.int .i64 r.un) := (BoxAt.cell XB.out 9).trans rfl
              clear kXB10
              have kXB10 : v12.cell? ⟨wr.heap.size, 10, none⟩ = some (.int .i64 r.ki) := (BoxAt.cell XB.out 10).trans rfl
              clear hb
              skip
              obtain ⟨D, hD⟩ : ∃ D, goP C (k : Int) 0 0 = D := ⟨_, rfl⟩
              rw [hD] at HZ
              have HD := hid (show wentP C k r = D from by rw [← hD]; unfold wentP codeX; simp only [HTm.out, if_true])
              clear hD
              have FL12 := hid trivial
              go_wp2_with (first
                | (have hfl := FL12.out
                   refine wpList_store_whole rfl 39 _ _ rfl rfl v1.heap.size rfl (PaV.cells q2) rfl _ _ PB.out rfl Try.infoPa (PaV.one _) ?_
                   intro v13 b g z
                   have hsv13 : v12.heap.size ≤ v13.heap.size := by omega
                   have HZ := hid (HZ.out.put (by omega) (by omega) g PB.out b)
                   have PB := hid (show BoxAt v13 v1.heap.size 39 (PaV.cells q2).toArray from b)
                   have CB := hid (CB.out.grown g (fun e => by have := Option.some.inj e; omega))
                   have RB := hid (RB.out.grown g (fun e => by have := Option.some.inj e; omega))
                   have XB := hid (XB.out.grown g (fun e => by have := Option.some.inj e; omega))
                   have WB := hid (WB.out.grown g (fun e => by have := Option.some.inj e; omega))
                   have HB := hid (HB.out.trans (grown_below g (by omega) (by omega)))
                   clear kXB0
                   have kXB0 : v13.cell? ⟨wr.heap.size, 0, none⟩ = some (.int .i64 r.st) := (BoxAt.cell XB.out 0).trans rfl
                   clear kXB9
                   have kXB9 : v13.cell? ⟨wr.heap.size, 9, none⟩ = some (.int .i64 r.un) := (BoxAt.cell XB.out 9).trans rfl
                   clear kXB10
                   have kXB10 : v13.cell? ⟨wr.heap.size, 10, none⟩ = some (.int .i64 r.ki) := (BoxAt.cell XB.out 10).trans rfl
                   clear b g z hfl FL12)
                | fail)
              go_roundw
              case rel => exact ⟨k + 1, q2, by have := HLt.out; omega, by go_num, (show Hid (PaZ n _ _ (wakeS cc c now (k + 1))) from by rw [show wakeS cc c now (k + 1) = wakeOne cc now k C from by rw [← HCk.out]; rfl, wake_yes HR.out HOv.out HD.out HNr.out]; exact HZ), CB, PB, RB, HB, by omega⟩
              case measure => have := HLt.out; simp [intOf]; omega
            · have t1 : (r.ki != 1) = true := by simpa using k1
              by_cases k2 : r.ki = 2
              · have t2 : (r.ki != 2) = false := by simpa using k2
                have t3 : (r.ki == 2) = true := by simpa using k2
                have HTm := hid (show timed r = True from eq_true (.inr k2))
                have HK2 := hid k2
                clear k1 k2
                have HV := hid (Below.refl wr.heap.size wr)
                have FL13 := hid trivial
                have FL14 := hid trivial
                go_wp2_with (first
                  | (refine wpList_load_px rfl _ rfl b1 (off + k * 18) rfl r HP0.out ?_)
                  | (have hfl := FL13.out
                     refine wpList_new rfl 57 rfl _ Try.zeroPx ?_
                     intro v14 b h z
                     have XB := hid (show BoxAt v14 wr.heap.size 57 (Px.cells Px.zero).toArray from b)
                     have CB := hid (CB.out.belowAll h)
                     have PB := hid (PB.out.belowAll h)
                     have RB := hid (RB.out.belowAll h)
                     have HV := hid (HV.out.trans (h.mono HV.out.size))
                     have HB := hid (HB.out.trans (h.mono HB.out.size))
                     have hsv14 : wr.heap.size + 1 ≤ v14.heap.size := by omega
                     clear kPB4
                     have kPB4 : v14.cell? ⟨v1.heap.size, 4, none⟩ = some (.slice (some ⟨b1, off, none⟩) N cpp) := (BoxAt.cell PB.out 4).trans (by show some p.pr.val = _; rw [HPv.out])
                     clear b h z hfl FL13)
                  | (have hfl := FL14.out
                     refine wpList_store_whole rfl 57 _ _ rfl rfl wr.heap.size rfl (Px.cells r) rfl _ _ XB.out rfl Try.infoPx (Px.one _) ?_
                     intro v15 b g z
                     have hsv15 : v14.heap.size ≤ v15.heap.size := by omega
                     have HV := hid (HV.out.trans (grown_below g (by omega) (by omega)))
                     have XB := hid (show BoxAt v15 wr.heap.size 57 (Px.cells r).toArray from b)
                     have CB := hid (CB.out.grown g (fun e => by have := Option.some.inj e; omega))
                     have PB := hid (PB.out.grown g (fun e => by have := Option.some.inj e; omega))
                     have RB := hid (RB.out.grown g (fun e => by have := Option.some.inj e; omega))
                     have HB := hid (HB.out.trans (grown_below g (by omega) (by omega)))
                     clear kPB4
                     have kPB4 : v15.cell? ⟨v1.heap.size, 4, none⟩ = some (.slice (some ⟨b1, off, none⟩) N cpp) := (BoxAt.cell PB.out 4).trans (by show some p.pr.val = _; rw [HPv.out])
                     have kXB0 : v15.cell? ⟨wr.heap.size, 0, none⟩ = some (.int .i64 r.st) := (BoxAt.cell XB.out 0).trans rfl
                     have kXB9 : v15.cell? ⟨wr.heap.size, 9, none⟩ = some (.int .i64 r.un) := (BoxAt.cell XB.out 9).trans rfl
                     have kXB10 : v15.cell? ⟨wr.heap.size, 10, none⟩ = some (.int .i64 r.ki) := (BoxAt.cell XB.out 10).trans rfl
                     clear b g z hfl FL14
                     refine Hid.out ?_)
                  | fail)
                refine hid ?_
                have HZ := hid (HZ.out.below (by omega) HV.out)
                clear HV kPB4
                have FL15 := hid trivial
                have FL16 := hid trivial
                go_wp2_with (first
                  | (have hfl := FL15.out
                     refine wpList_new rfl 92 rfl _ Try.zeroWk ?_
                     intro v16 b h z
                     have WB := hid (show BoxAt v16 v15.heap.size 92 [.int .i64 0, .int .i64 0, .int .i64 0].toArray from b)
                     have CB := hid (CB.out.belowAll h)
                     have PB := hid (PB.out.belowAll h)
                     have RB := hid (RB.out.belowAll h)
                     have XB := hid (XB.out.belowAll h)
                     have HZ := hid (HZ.out.below (by omega) h)
                     have HB := hid (HB.out.trans (h.mono HB.out.size))
                     have hsv16 : v15.heap.size + 1 ≤ v16.heap.size := by omega
                     clear kXB0
                     have kXB0 : v16.cell? ⟨wr.heap.size, 0, none⟩ = some (.int .i64 r.st) := (BoxAt.cell XB.out 0).trans rfl
                     clear kXB9
                     have kXB9 : v16.cell? ⟨wr.heap.size, 9, none⟩ = some (.int .i64 r.un) := (BoxAt.cell XB.out 9).trans rfl
                     clear kXB10
                     have kXB10 : v16.cell? ⟨wr.heap.size, 10, none⟩ = some (.int .i64 r.ki) := (BoxAt.cell XB.out 10).trans rfl
                     clear b h z hfl FL15)
                  | (have hfl := FL16.out
                     refine wpList_store_whole rfl 92 _ _ rfl rfl v15.heap.size rfl [.int .i64 (k : Int), .int .i64 0, .int .i64 0] rfl _ _ WB.out rfl Try.infoWkC (wk_one _ _ _) ?_
                     intro v17 b g z
                     have hsv17 : v16.heap.size ≤ v17.heap.size := by omega
                     have HZ := hid (HZ.out.putw (by omega) (by omega) g WB.out b)
                     have WB := hid (show BoxAt v17 v15.heap.size 92 [.int .i64 (k : Int), .int .i64 0, .int .i64 0].toArray from b)
                     have CB := hid (CB.out.grown g (fun e => by have := Option.some.inj e; omega))
                     have PB := hid (PB.out.grown g (fun e => by have := Option.some.inj e; omega))
                     have RB := hid (RB.out.grown g (fun e => by have := Option.some.inj e; omega))
                     have XB := hid (XB.out.grown g (fun e => by have := Option.some.inj e; omega))
                     have HB := hid (HB.out.trans (grown_below g (by omega) (by omega)))
                     clear kXB0
                     have kXB0 : v17.cell? ⟨wr.heap.size, 0, none⟩ = some (.int .i64 r.st) := (BoxAt.cell XB.out 0).trans rfl
                     clear kXB9
                     have kXB9 : v17.cell? ⟨wr.heap.size, 9, none⟩ = some (.int .i64 r.un) := (BoxAt.cell XB.out 9).trans rfl
                     clear kXB10
                     have kXB10 : v17.cell? ⟨wr.heap.size, 10, none⟩ = some (.int .i64 r.ki) := (BoxAt.cell XB.out 10).trans rfl
                     clear b g z hfl FL16)
                  | (with_reducible refine wpList_dst 51 rfl ?_
                     refine wpList_load_box rfl 39 _ rfl v1.heap.size rfl _ _ PB.out _ Try.underlying39 Try.infoPa ?_)
                  | (with_reducible refine wpList_dst 52 rfl ?_
                     refine wpList_load_box rfl 92 _ rfl v15.heap.size rfl _ _ WB.out _ Try.underlying92 Try.infoWkC ?_)
                  | fail)
                refine (rgo_z (kp := (k : Int)) (kc := 0) (kv := 0) HZ.out (by omega) (HSk.out)).mono ?_
                rintro e v18 ⟨q2, rfl, hz, hb⟩
                have CB := hid (CB.out.belowAll hb)
                have PB := hid (PB.out.belowAll hb)
                have RB := hid (RB.out.belowAll hb)
                have XB := hid (XB.out.belowAll hb)
                have WB := hid (WB.out.belowAll hb)
                have HZ := hid hz
                have HB := hid (HB.out.trans (hb.mono HB.out.size))
                have hsv18 : v17.heap.size ≤ v18.heap.size := hb.size
                clear kXB0
                have kXB0 : v18.cell? ⟨wr.heap.size, 0, none⟩ = some (.int .i64 r.st) := (BoxAt.cell XB.out 0).trans rfl
                clear kXB9
                have kXB9 : v18.cell? ⟨wr.heap.size, 9, none⟩ = some (.int .i64 r.un) := (BoxAt.cell XB.out 9).trans rfl
                clear kXB10
                have kXB10 : v18.cell? ⟨wr.heap.size, 10, none⟩ = some (.int .i64 r.ki) := (BoxAt.cell XB.out 10).trans rfl
                clear hb
                skip
                obtain ⟨D, hD⟩ : ∃ D, goP C (k : Int) 0 0 = D := ⟨_, rfl⟩
                rw [hD] at HZ
                have HD := hid (show wentP C k r = D from by rw [← hD]; unfold wentP codeX; simp only [HTm.out, if_true])
                clear hD
                by_cases hkc : k < M
                · have hkM : (k : Int) < (M : Int) := by omega
                  obtain ⟨b2, of2, hac, hcw, hccell⟩ := HCc.out (by omega)
                  subst hac
                  obtain ⟨f, hf⟩ : ∃ f, cc.pc.getD k Pc.zero = f := ⟨_, rfl⟩
                  have HFp := hid (show w.cell? ⟨b2, of2 + k * 5 + 1, none⟩ = some (.int .i64 f.pe) from by rw [← hf]; exact hccell k hkc 1 (by decide))
                  have HFl := hid (show w.cell? ⟨b2, of2 + k * 5 + 2, none⟩ = some (.int .i64 f.li) from by rw [← hf]; exact hccell k hkc 2 (by decide))
                  have HF := hid hf
                  have HKc := hid (show k < cc.pc.length by rw [HM.out]; exact hkc)
                  clear hf hccell hkc
                  have hDl : D.pr.length = N := by rw [← HD.out, (went_does HK.out HR.out HOv.out.1).1, List.length_set, HLn.out]
                  obtain ⟨y, hy⟩ : ∃ y, D.pr.getD k Px.zero = y := ⟨_, rfl⟩
                  have HY := hid hy
                  obtain ⟨a3, cp3, hv3, h31, hm3, hcell3⟩ := HZ.out.at.pr.form
                  obtain ⟨b3, of3, ha3, hb3, hpx3⟩ := hcell3 (by rw [hDl]; omega)
                  subst ha3
                  rw [hDl] at hv3 h31
                  have hmax3 : cp3 ≤ 9223372036854775807 := hm3
                  have HV3 := hid hv3
                  have HP3 := hid (show PxAt v18 b3 (of3 + k * 18) y from by rw [← hy]; exact fun j hj => hpx3 k (by rw [hDl]; have := HLt.out; omega) j hj)
                  have HDl := hid hDl
                  clear hy hv3 hm3 hcell3 hpx3 hDl
                  have kCB2 : v18.cell? ⟨w.heap.size, 2, none⟩ = some (.slice (some ⟨b2, of2, none⟩) M cpc) := (BoxAt.cell CB.out 2).trans (by show some qc.v2.val = _; rw [HCv.out])
                  clear kXB0
                  have kXB0 : v18.cell? ⟨wr.heap.size, 0, none⟩ = some (.int .i64 r.st) := (BoxAt.cell XB.out 0).trans rfl
                  clear kXB9
                  have kXB9 : v18.cell? ⟨wr.heap.size, 9, none⟩ = some (.int .i64 r.un) := (BoxAt.cell XB.out 9).trans rfl
                  clear kXB10
                  have kXB10 : v18.cell? ⟨wr.heap.size, 10, none⟩ = some (.int .i64 r.ki) := (BoxAt.cell XB.out 10).trans rfl
                  have kL : v18.cell? ⟨b2, of2 + k * 5 + 2, none⟩ = some (.int .i64 f.li) := ((HB.out.cell (p := ⟨b2, of2 + k * 5 + 2, none⟩) hcw).trans HFl.out)
                  have FL17 := hid trivial
                  go_wp2_with (first
                    | (have hfl := FL17.out
                       refine wpList_store_whole rfl 39 _ _ rfl rfl v1.heap.size rfl (PaV.cells q2) rfl _ _ PB.out rfl Try.infoPa (PaV.one _) ?_
                       intro v19 b g z
                       have hsv19 : v18.heap.size ≤ v19.heap.size := by omega
                       have HZ := hid (HZ.out.put (by omega) (by omega) g PB.out b)
                       have PB := hid (show BoxAt v19 v1.heap.size 39 (PaV.cells q2).toArray from b)
                       have CB := hid (CB.out.grown g (fun e => by have := Option.some.inj e; omega))
                       have RB := hid (RB.out.grown g (fun e => by have := Option.some.inj e; omega))
                       have XB := hid (XB.out.grown g (fun e => by have := Option.some.inj e; omega))
                       have HB := hid (HB.out.trans (grown_below g (by omega) (by omega)))
                       clear kCB2
                       have kCB2 : v19.cell? ⟨w.heap.size, 2, none⟩ = some (.slice (some ⟨b2, of2, none⟩) M cpc) := (BoxAt.cell CB.out 2).trans (by show some qc.v2.val = _; rw [HCv.out])
                       have kPB4 : v19.cell? ⟨v1.heap.size, 4, none⟩ = some (.slice (some ⟨b3, of3, none⟩) N cp3) := (BoxAt.cell PB.out 4).trans (by show some q2.pr.val = _; rw [HV3.out])
                       clear kXB0
                       have kXB0 : v19.cell? ⟨wr.heap.size, 0, none⟩ = some (.int .i64 r.st) := (BoxAt.cell XB.out 0).trans rfl
                       clear kXB9
                       have kXB9 : v19.cell? ⟨wr.heap.size, 9, none⟩ = some (.int .i64 r.un) := (BoxAt.cell XB.out 9).trans rfl
                       clear kXB10
                       have kXB10 : v19.cell? ⟨wr.heap.size, 10, none⟩ = some (.int .i64 r.ki) := (BoxAt.cell XB.out 10).trans rfl
                       clear kL
                       have kL : v19.cell? ⟨b2, of2 + k * 5 + 2, none⟩ = some (.int .i64 f.li) := ((HB.out.cell (p := ⟨b2, of2 + k * 5 + 2, none⟩) hcw).trans HFl.out)
                       clear b g z hfl FL17
                       refine Hid.out ?_)
                    | fail)
                  refine hid ?_
                  have HP3 := hid (show PxAt v19 b3 (of3 + k * 18) y from by
                    obtain ⟨a4, cp4, hv4, h41, hm4, hcell4⟩ := HZ.out.at.pr.form
                    obtain ⟨b4, of4, ha4, hb4, hpx4⟩ := hcell4 (by rw [HDl.out]; have := HLt.out; omega)
                    rw [HV3.out, ha4] at hv4
                    simp only [Value.slice.injEq, Option.some.injEq, Addr.mk.injEq] at hv4
                    obtain ⟨⟨e1, e2, _⟩, _, _⟩ := hv4
                    subst e1
                    subst e2
                    rw [← HY.out]
                    exact fun j hj => hpx4 k (by rw [HDl.out]; have := HLt.out; omega) j hj)
                  by_cases hli : 0 < f.li
                  · have tl : decide (0 < f.li) = true := decide_eq_true hli
                    have HLi := hid hli
                    clear hli
                    have HZ0 := HZ
                    have HV := hid (Below.refl v19.heap.size v19)
                    clear HZ
                    obtain ⟨y1, hy1⟩ : ∃ x : Px, { y with du := -1 } = x := ⟨_, rfl⟩
                    have HY1 := hid hy1
                    clear hy1
                    obtain ⟨y2, hy2⟩ : ∃ x : Px, { y1 with du := wrap64 (now + f.li) } = x := ⟨_, rfl⟩
                    have HY2 := hid hy2
                    clear hy2
                    have FL18 := hid trivial
                    have FL19 := hid trivial
                    have FL20 := hid trivial
                    have FL21 := hid trivial
                    go_wp2_with (first
                      | (refine wpList_load_px rfl _ rfl b3 (of3 + k * 18) rfl y HP3.out ?_)
                      | (have hfl := FL18.out
                         refine wpList_new rfl 57 rfl _ Try.zeroPx ?_
                         intro v20 b h z
                         have YB := hid (show BoxAt v20 v19.heap.size 57 (Px.cells Px.zero).toArray from b)
                         have CB := hid (CB.out.belowAll h)
                         have PB := hid (PB.out.belowAll h)
                         have RB := hid (RB.out.belowAll h)
                         have XB := hid (XB.out.belowAll h)
                         have HV := hid (HV.out.trans (h.mono HV.out.size))
                         have HB := hid (HB.out.trans (h.mono HB.out.size))
                         have hsv20 : v19.heap.size + 1 ≤ v20.heap.size := by omega
                         clear kCB2
                         have kCB2 : v20.cell? ⟨w.heap.size, 2, none⟩ = some (.slice (some ⟨b2, of2, none⟩) M cpc) := (BoxAt.cell CB.out 2).trans (by show some qc.v2.val = _; rw [HCv.out])
                         clear kPB4
                         have kPB4 : v20.cell? ⟨v1.heap.size, 4, none⟩ = some (.slice (some ⟨b3, of3, none⟩) N cp3) := (BoxAt.cell PB.out 4).trans (by show some q2.pr.val = _; rw [HV3.out])
                         clear kXB0
                         have kXB0 : v20.cell? ⟨wr.heap.size, 0, none⟩ = some (.int .i64 r.st) := (BoxAt.cell XB.out 0).trans rfl
                         clear kXB9
                         have kXB9 : v20.cell? ⟨wr.heap.size, 9, none⟩ = some (.int .i64 r.un) := (BoxAt.cell XB.out 9).trans rfl
                         clear kXB10
                         have kXB10 : v20.cell? ⟨wr.heap.size, 10, none⟩ = some (.int .i64 r.ki) := (BoxAt.cell XB.out 10).trans rfl
                         clear kL
                         have kL : v20.cell? ⟨b2, of2 + k * 5 + 2, none⟩ = some (.int .i64 f.li) := ((HB.out.cell (p := ⟨b2, of2 + k * 5 + 2, none⟩) hcw).trans HFl.out)
                         clear b h z hfl FL18)
                      | (have hfl := FL19.out
                         refine wpList_store_whole rfl 57 _ _ rfl rfl v19.heap.size rfl (Px.cells y) rfl _ _ YB.out rfl Try.infoPx (Px.one _) ?_
                         intro v21 b g z
                         have hsv21 : v20.heap.size ≤ v21.heap.size := by omega
                         have HV := hid (HV.out.trans (grown_below g (by omega) (by omega)))
                         have YB := hid (show BoxAt v21 v19.heap.size 57 (Px.cells y).toArray from b)
                         have CB := hid (CB.out.grown g (fun e => by have := Option.some.inj e; omega))
                         have PB := hid (PB.out.grown g (fun e => by have := Option.some.inj e; omega))
                         have RB := hid (RB.out.grown g (fun e => by have := Option.some.inj e; omega))
                         have XB := hid (XB.out.grown g (fun e => by have := Option.some.inj e; omega))
                         have HB := hid (HB.out.trans (grown_below g (by omega) (by omega)))
                         clear kCB2
                         have kCB2 : v21.cell? ⟨w.heap.size, 2, none⟩ = some (.slice (some ⟨b2, of2, none⟩) M cpc) := (BoxAt.cell CB.out 2).trans (by show some qc.v2.val = _; rw [HCv.out])
                         clear kPB4
                         have kPB4 : v21.cell? ⟨v1.heap.size, 4, none⟩ = some (.slice (some ⟨b3, of3, none⟩) N cp3) := (BoxAt.cell PB.out 4).trans (by show some q2.pr.val = _; rw [HV3.out])
                         clear kXB0
                         have kXB0 : v21.cell? ⟨wr.heap.size, 0, none⟩ = some (.int .i64 r.st) := (BoxAt.cell XB.out 0).trans rfl
                         clear kXB9
                         have kXB9 : v21.cell? ⟨wr.heap.size, 9, none⟩ = some (.int .i64 r.un) := (BoxAt.cell XB.out 9).trans rfl
                         clear kXB10
                         have kXB10 : v21.cell? ⟨wr.heap.size, 10, none⟩ = some (.int .i64 r.ki) := (BoxAt.cell XB.out 10).trans rfl
                         clear kL
                         have kL : v21.cell? ⟨b2, of2 + k * 5 + 2, none⟩ = some (.int .i64 f.li) := ((HB.out.cell (p := ⟨b2, of2 + k * 5 + 2, none⟩) hcw).trans HFl.out)
                         clear b g z hfl FL19)
                      | (have hfl := FL20.out
                         refine wpList_store_box rfl 3 _ _ rfl rfl v19.heap.size 12 (.int .i64 (-1)) rfl rfl rfl rfl (by kernel_rfl) _ _ YB.out (by simp [Px.cells]) ?_
                         intro v22 b g z
                         have hsv22 : v21.heap.size ≤ v22.heap.size := by omega
                         have HV := hid (HV.out.trans (grown_below g (by omega) (by omega)))
                         have YB := hid (show BoxAt v22 v19.heap.size 57 (Px.cells y1).toArray by rw [← HY1.out]; simpa [Px.cells] using b)
                         have CB := hid (CB.out.grown g (fun e => by have := Option.some.inj e; omega))
                         have PB := hid (PB.out.grown g (fun e => by have := Option.some.inj e; omega))
                         have RB := hid (RB.out.grown g (fun e => by have := Option.some.inj e; omega))
                         have XB := hid (XB.out.grown g (fun e => by have := Option.some.inj e; omega))
                         have HB := hid (HB.out.trans (grown_below g (by omega) (by omega)))
                         clear kCB2
                         have kCB2 : v22.cell? ⟨w.heap.size, 2, none⟩ = some (.slice (some ⟨b2, of2, none⟩) M cpc) := (BoxAt.cell CB.out 2).trans (by show some qc.v2.val = _; rw [HCv.out])
                         clear kPB4
                         have kPB4 : v22.cell? ⟨v1.heap.size, 4, none⟩ = some (.slice (some ⟨b3, of3, none⟩) N cp3) := (BoxAt.cell PB.out 4).trans (by show some q2.pr.val = _; rw [HV3.out])
                         clear kXB0
                         have kXB0 : v22.cell? ⟨wr.heap.size, 0, none⟩ = some (.int .i64 r.st) := (BoxAt.cell XB.out 0).trans rfl
                         clear kXB9
                         have kXB9 : v22.cell? ⟨wr.heap.size, 9, none⟩ = some (.int .i64 r.un) := (BoxAt.cell XB.out 9).trans rfl
                         clear kXB10
                         have kXB10 : v22.cell? ⟨wr.heap.size, 10, none⟩ = some (.int .i64 r.ki) := (BoxAt.cell XB.out 10).trans rfl
                         clear kL
                         have kL : v22.cell? ⟨b2, of2 + k * 5 + 2, none⟩ = some (.int .i64 f.li) := ((HB.out.cell (p := ⟨b2, of2 + k * 5 + 2, none⟩) hcw).trans HFl.out)
                         clear b g z hfl FL20)
                      | (have hfl := FL21.out
                         refine wpList_store_box rfl 3 _ _ rfl rfl v19.heap.size 12 (.int .i64 (wrap64 (now + f.li))) rfl rfl rfl rfl (by kernel_rfl) _ _ YB.out (by simp [Px.cells]) ?_
                         intro v23 b g z
                         have hsv23 : v22.heap.size ≤ v23.heap.size := by omega
                         have HV := hid (HV.out.trans (grown_below g (by omega) (by omega)))
                         have YB := hid (show BoxAt v23 v19.heap.size 57 (Px.cells y2).toArray by rw [← HY2.out]; simpa [Px.cells] using b)
                         have CB := hid (CB.out.grown g (fun e => by have := Option.some.inj e; omega))
                         have PB := hid (PB.out.grown g (fun e => by have := Option.some.inj e; omega))
                         have RB := hid (RB.out.grown g (fun e => by have := Option.some.inj e; omega))
                         have XB := hid (XB.out.grown g (fun e => by have := Option.some.inj e; omega))
                         have HB := hid (HB.out.trans (grown_below g (by omega) (by omega)))
                         clear kCB2
                         have kCB2 : v23.cell? ⟨w.heap.size, 2, none⟩ = some (.slice (some ⟨b2, of2, none⟩) M cpc) := (BoxAt.cell CB.out 2).trans (by show some qc.v2.val = _; rw [HCv.out])
                         clear kPB4
                         have kPB4 : v23.cell? ⟨v1.heap.size, 4, none⟩ = some (.slice (some ⟨b3, of3, none⟩) N cp3) := (BoxAt.cell PB.out 4).trans (by show some q2.pr.val = _; rw [HV3.out])
                         clear kXB0
                         have kXB0 : v23.cell? ⟨wr.heap.size, 0, none⟩ = some (.int .i64 r.st) := (BoxAt.cell XB.out 0).trans rfl
                         clear kXB9
                         have kXB9 : v23.cell? ⟨wr.heap.size, 9, none⟩ = some (.int .i64 r.un) := (BoxAt.cell XB.out 9).trans rfl
                         clear kXB10
                         have kXB10 : v23.cell? ⟨wr.heap.size, 10, none⟩ = some (.int .i64 r.ki) := (BoxAt.cell XB.out 10).trans rfl
                         clear kL
                         have kL : v23.cell? ⟨b2, of2 + k * 5 + 2, none⟩ = some (.int .i64 f.li) := ((HB.out.cell (p := ⟨b2, of2 + k * 5 + 2, none⟩) hcw).trans HFl.out)
                         clear b g z hfl FL21)
                      | fail)
                    obtain ⟨y3, hy3⟩ : ∃ x : Px, { y2 with ne := wrap64 (r.un + f.pe) } = x := ⟨_, rfl⟩
                    have HY3 := hid hy3
                    clear hy3
                    have HV := hid (HV.out.trans ((Below.refl v23.heap.size v23).drew.mono HV.out.size))
                    have CB := hid (BoxAt.drew CB.out)
                    have PB := hid (BoxAt.drew PB.out)
                    have RB := hid (BoxAt.drew RB.out)
                    have XB := hid (BoxAt.drew XB.out)
                    have YB := hid (BoxAt.drew YB.out)
                    have HB := hid HB.out.drew
                    have hws : IntKind.i64.wrap (r.un + f.pe) = wrap64 (r.un + f.pe) := by unfold wrap64; exact IntKind.wrap_i64 _
                    have hyc : w.heap.size ≠ v19.heap.size := by omega
                    have hyx : wr.heap.size ≠ v19.heap.size := by omega
                    have hyp : v1.heap.size ≠ v19.heap.size := by omega
                    have hyr : v2.heap.size ≠ v19.heap.size := by omega
                    have hyz : v19.heap.size ≤ v19.heap.size := by omega
                    have hyw : w.heap.size ≤ v19.heap.size := by omega
                    clear kCB2 kL kPB4 kXB0 kXB10 kXB9
                    refine wp_region_held_drew (S := (fun W => W.cell? ⟨wr.heap.size, 9, none⟩ = some (.int .i64 r.un) ∧ W.cell? ⟨w.heap.size, 2, none⟩ = some (.slice (some ⟨b2, of2, none⟩) M cpc) ∧ W.cell? ⟨b2, of2 + k * 5 + 1, none⟩ = some (.int .i64 f.pe))) (by kernel_rfl) (⟨(BoxAt.cell XB.out 9).trans rfl, (BoxAt.cell CB.out 2).trans (by show some qc.v2.val = _; rw [HCv.out]), (HB.out.cell (p := ⟨b2, of2 + k * 5 + 1, none⟩) hcw).trans HFp.out⟩) (fun hHeld => ?_)
                    refine wpAnyH_take (i := 0) (oi := { dst := some 86, op := Op.fieldAddr 57 (Operand.tmp 8) 5, type := 0, pos := "ref.go:36", after := #[], guard := none }) (v := ?v301) rfl (by kernel_rfl) (by kernel_rfl) (by kernel_rfl) (fun _ _ _ h => h) (Or.inl ⟨by rfl, ?hy301⟩) (by assumption) ?rest301
                    case hy301 => (intro W hSw; obtain ⟨s0, s1, s2⟩ := hSw; go_simp; (try simp only [hws]); try with_reducible rfl)
                    simp only [Act.put, List.setIfInBounds_toArray, List.set_cons_zero, List.set_cons_succ]
                    refine wpAnyH_take (i := 1) (oi := { dst := some 87, op := Op.load 3 (Operand.tmp 86), type := 3, pos := "ref.go:36", after := #[{ on := 0, ground := Ground.data }], guard := none }) (v := ?v302) rfl (by kernel_rfl) (by kernel_rfl) (by kernel_rfl) (fun _ _ _ h => h) (Or.inl ⟨by rfl, ?hy302⟩) (by assumption) ?rest302
                    case hy302 => (intro W hSw; obtain ⟨s0, s1, s2⟩ := hSw; go_simp; (try simp only [hws]); try with_reducible rfl)
                    simp only [Act.put, List.setIfInBounds_toArray, List.set_cons_zero, List.set_cons_succ]
                    refine wpAnyH_take (i := 2) (oi := { dst := some 88, op := Op.fieldAddr 28 (Operand.tmp 3) 2, type := 0, pos := "ref.go:36", after := #[], guard := none }) (v := ?v303) rfl (by kernel_rfl) (by kernel_rfl) (by kernel_rfl) (fun _ _ _ h => h) (Or.inl ⟨by rfl, ?hy303⟩) (by assumption) ?rest303
                    case hy303 => (intro W hSw; obtain ⟨s0, s1, s2⟩ := hSw; go_simp; (try simp only [hws]); try with_reducible rfl)
                    simp only [Act.put, List.setIfInBounds_toArray, List.set_cons_zero, List.set_cons_succ]
                    refine wpAnyH_take (i := 3) (oi := { dst := some 89, op := Op.load 23 (Operand.tmp 88), type := 23, pos := "ref.go:36", after := #[{ on := 2, ground := Ground.data }], guard := none }) (v := ?v304) rfl (by kernel_rfl) (by kernel_rfl) (by kernel_rfl) (fun _ _ _ h => h) (Or.inl ⟨by rfl, ?hy304⟩) (by assumption) ?rest304
                    case hy304 => (intro W hSw; obtain ⟨s0, s1, s2⟩ := hSw; go_simp; (try simp only [hws]); try with_reducible rfl)
                    simp only [Act.put, List.setIfInBounds_toArray, List.set_cons_zero, List.set_cons_succ]
                    refine wpAnyH_take (i := 4) (oi := { dst := some 90, op := Op.move (Operand.tmp 7), type := 3, pos := "ref.go:36", after := #[], guard := none }) (v := ?v305) rfl (by kernel_rfl) (by kernel_rfl) (by kernel_rfl) (fun _ _ _ h => h) (Or.inl ⟨by rfl, ?hy305⟩) (by assumption) ?rest305
                    case hy305 => (intro W hSw; obtain ⟨s0, s1, s2⟩ := hSw; go_simp; (try simp only [hws]); try with_reducible rfl)
                    simp only [Act.put, List.setIfInBounds_toArray, List.set_cons_zero, List.set_cons_succ]
                    refine wpAnyH_take (i := 5) (oi := { dst := some 91, op := Op.indexAddr 23 (Operand.tmp 89) (Operand.tmp 90), type := 0, pos := "ref.go:36", after := #[{ on := 3, ground := Ground.data }, { on := 4, ground := Ground.data }], guard := none }) (v := ?v306) rfl (by kernel_rfl) (by kernel_rfl) (by kernel_rfl) (fun _ _ _ h => h) (Or.inl ⟨by rfl, ?hy306⟩) (by assumption) ?rest306
                    case hy306 => (intro W hSw; obtain ⟨s0, s1, s2⟩ := hSw; go_simp; (try simp only [hws]); try with_reducible rfl)
                    simp only [Act.put, List.setIfInBounds_toArray, List.set_cons_zero, List.set_cons_succ]
                    refine wpAnyH_take (i := 6) (oi := { dst := some 92, op := Op.fieldAddr 60 (Operand.tmp 91) 1, type := 0, pos := "ref.go:36", after := #[{ on := 5, ground := Ground.data }], guard := none }) (v := ?v307) rfl (by kernel_rfl) (by kernel_rfl) (by kernel_rfl) (fun _ _ _ h => h) (Or.inl ⟨by rfl, ?hy307⟩) (by assumption) ?rest307
                    case hy307 => (intro W hSw; obtain ⟨s0, s1, s2⟩ := hSw; go_simp; (try simp only [hws]); try with_reducible rfl)
                    simp only [Act.put, List.setIfInBounds_toArray, List.set_cons_zero, List.set_cons_succ]
                    refine wpAnyH_take (i := 7) (oi := { dst := some 93, op := Op.load 3 (Operand.tmp 92), type := 3, pos := "ref.go:36", after := #[{ on := 6, ground := Ground.data }], guard := none }) (v := ?v308) rfl (by kernel_rfl) (by kernel_rfl) (by kernel_rfl) (fun _ _ _ h => h) (Or.inl ⟨by rfl, ?hy308⟩) (by assumption) ?rest308
                    case hy308 => (intro W hSw; obtain ⟨s0, s1, s2⟩ := hSw; go_simp; (try simp only [hws]); try with_reducible rfl)
                    simp only [Act.put, List.setIfInBounds_toArray, List.set_cons_zero, List.set_cons_succ]
                    refine wpAnyH_take (i := 8) (oi := { dst := some 94, op := Op.binOp BinOp.add 3 (Operand.tmp 87) (Operand.tmp 93) 3, type := 3, pos := "ref.go:36", after := #[{ on := 1, ground := Ground.data }, { on := 7, ground := Ground.data }], guard := none }) (v := ?v309) rfl (by kernel_rfl) (by kernel_rfl) (by kernel_rfl) (fun _ _ _ h => h) (Or.inl ⟨by rfl, ?hy309⟩) (by assumption) ?rest309
                    case hy309 => (intro W hSw; obtain ⟨s0, s1, s2⟩ := hSw; go_simp; (try simp only [hws]); try with_reducible rfl)
                    simp only [Act.put, List.setIfInBounds_toArray, List.set_cons_zero, List.set_cons_succ]
                    refine wpAnyH_take (i := 9) (oi := { dst := some 95, op := Op.fieldAddr 57 (Operand.tmp 10) 9, type := 0, pos := "ref.go:36", after := #[{ on := 0, ground := Ground.phase }, { on := 1, ground := Ground.phase }, { on := 2, ground := Ground.phase }, { on := 3, ground := Ground.phase }, { on := 4, ground := Ground.phase }, { on := 5, ground := Ground.phase }, { on := 6, ground := Ground.phase }, { on := 7, ground := Ground.phase }, { on := 8, ground := Ground.phase }], guard := none }) (v := ?v310) rfl (by kernel_rfl) (by kernel_rfl) (by kernel_rfl) (fun _ _ _ h => h) (Or.inl ⟨by rfl, ?hy310⟩) (by assumption) ?rest310
                    case hy310 => (intro W hSw; obtain ⟨s0, s1, s2⟩ := hSw; go_simp; (try simp only [hws]); try with_reducible rfl)
                    simp only [Act.put, List.setIfInBounds_toArray, List.set_cons_zero, List.set_cons_succ]
                    refine wpAnyH_ready (rs := [10]) (by kernel_rfl) (by simp) (AllReadyH.cons (o := { dst := none, op := Op.store 3 (Operand.tmp 95) (Operand.tmp 94), type := 0, pos := "ref.go:36", after := #[{ on := 9, ground := Ground.data }, { on := 8, ground := Ground.data }, { on := 0, ground := Ground.phase }, { on := 1, ground := Ground.phase }, { on := 2, ground := Ground.phase }, { on := 3, ground := Ground.phase }, { on := 4, ground := Ground.phase }, { on := 5, ground := Ground.phase }, { on := 6, ground := Ground.phase }, { on := 7, ground := Ground.phase }, { on := 8, ground := Ground.phase }], guard := none }) rfl (fun K311 hK311 => ?_) AllReadyH.nil)
                    refine wp_store_box 3 _ _ rfl v19.heap.size 13 (.int .i64 (wrap64 (r.un + f.pe))) rfl rfl rfl rfl (by kernel_rfl) _ _ YB.out (by simp [Px.cells]) ?_
                    intro U b gr hz
                    have YB := hid (show BoxAt U v19.heap.size 57 (Px.cells y3).toArray by rw [← HY3.out]; simpa [Px.cells] using b)
                    have XB := hid (XB.out.grown gr (fun e => hyx (Option.some.inj e)))
                    have CB := hid (CB.out.grown gr (fun e => hyc (Option.some.inj e)))
                    have PB := hid (PB.out.grown gr (fun e => hyp (Option.some.inj e)))
                    have RB := hid (RB.out.grown gr (fun e => hyr (Option.some.inj e)))
                    have HV := hid (HV.out.trans (grown_below gr hyz (by have := HV.out.size; omega)))
                    have HB := hid (HB.out.trans (grown_below gr hyw (by have := HB.out.size; omega)))
                    have hsU : v23.heap.size ≤ U.heap.size := Nat.le_of_eq hz.symm
                    clear b gr hz
                    refine hK311.out _ _ (⟨(BoxAt.cell XB.out 9).trans rfl, (BoxAt.cell CB.out 2).trans (by show some qc.v2.val = _; rw [HCv.out]), (HB.out.cell (p := ⟨b2, of2 + k * 5 + 1, none⟩) hcw).trans HFp.out⟩) (fun hHeld311 => ?_)
                    clear hK311 K311
                    try simp only [Act.put]
                    refine wpAnyH_done (by kernel_rfl) ?_ _
                    clear hHeld hHeld311 hyc hyx hyp hyr hws
                    have HZ := hid (HZ0.out.below (by omega) HV.out)
                    clear HZ0 HV
                    go_wp2_with (first
                      | (with_reducible refine wpList_dst 96 rfl ?_
                         refine wpList_load_box rfl 39 _ rfl v1.heap.size rfl _ _ PB.out _ Try.underlying39 Try.infoPa ?_)
                      | (with_reducible refine wpList_dst 98 rfl ?_
                         refine wpList_load_box rfl 57 _ rfl v19.heap.size rfl _ _ YB.out _ Try.underlying57 Try.infoPx ?_)
                      | fail)
                    refine (rwith11_z k y3 HZ.out (by omega) (by rw [HDl.out]; exact hN9) (by rw [HDl.out]; exact HLt.out)).mono ?_
                    rintro e v24 ⟨q3, rfl, hz, hb⟩
                    have CB := hid (CB.out.belowAll hb)
                    have PB := hid (PB.out.belowAll hb)
                    have RB := hid (RB.out.belowAll hb)
                    have XB := hid (XB.out.belowAll hb)
                    have YB := hid (YB.out.belowAll hb)
                    have HZ := hid hz
                    have HB := hid (HB.out.trans (hb.mono HB.out.size))
                    have hsv24 : U.heap.size ≤ v24.heap.size := hb.size
                    clear hb
                    have FL22 := hid trivial
                    go_wp2_with (first
                      | (have hfl := FL22.out
                         refine wpList_store_whole rfl 39 _ _ rfl rfl v1.heap.size rfl (PaV.cells q3) rfl _ _ PB.out rfl Try.infoPa (PaV.one _) ?_
                         intro v25 b g z
                         have hsv25 : v24.heap.size ≤ v25.heap.size := by omega
                         have HZ := hid (HZ.out.put (by omega) (by omega) g PB.out b)
                         have PB := hid (show BoxAt v25 v1.heap.size 39 (PaV.cells q3).toArray from b)
                         have CB := hid (CB.out.grown g (fun e => by have := Option.some.inj e; omega))
                         have RB := hid (RB.out.grown g (fun e => by have := Option.some.inj e; omega))
                         have XB := hid (XB.out.grown g (fun e => by have := Option.some.inj e; omega))
                         have YB := hid (YB.out.grown g (fun e => by have := Option.some.inj e; omega))
                         have HB := hid (HB.out.trans (grown_below g (by omega) (by omega)))
                         clear b g z hfl FL22)
                      | fail)
                    have HE := hid (show { D.pr.getD k Px.zero with du := if 0 < (cc.pc.getD k Pc.zero).li then wrap64 (now + (cc.pc.getD k Pc.zero).li) else -1, ne := wrap64 (r.un + (cc.pc.getD k Pc.zero).pe) } = y3 from by rw [HY.out, HF.out, if_pos HLi.out, ← HY3.out, ← HY2.out, ← HY1.out])
                    go_roundw
                    case rel => exact ⟨k + 1, q3, by have := HLt.out; omega, by go_num, (show Hid (PaZ n _ _ (wakeS cc c now (k + 1))) from by rw [show wakeS cc c now (k + 1) = wakeOne cc now k C from by rw [← HCk.out]; rfl, wake_rel HR.out HOv.out HD.out ⟨HK2.out, HKc.out⟩ HE.out]; exact HZ), CB, PB, RB, HB, by omega⟩
                    case measure => have := HLt.out; simp [intOf]; omega
                  · have tl : decide (0 < f.li) = false := decide_eq_false hli
                    have HLi := hid hli
                    clear hli
                    have HZ0 := HZ
                    have HV := hid (Below.refl v19.heap.size v19)
                    clear HZ
                    obtain ⟨y1, hy1⟩ : ∃ x : Px, { y with du := -1 } = x := ⟨_, rfl⟩
                    have HY1 := hid hy1
                    clear hy1
                    have FL23 := hid trivial
                    have FL24 := hid trivial
                    have FL25 := hid trivial
                    go_wp2_with (first
                      | (refine wpList_load_px rfl _ rfl b3 (of3 + k * 18) rfl y HP3.out ?_)
                      | (have hfl := FL23.out
                         refine wpList_new rfl 57 rfl _ Try.zeroPx ?_
                         intro v26 b h z
                         have YB := hid (show BoxAt v26 v19.heap.size 57 (Px.cells Px.zero).toArray from b)
                         have CB := hid (CB.out.belowAll h)
                         have PB := hid (PB.out.belowAll h)
                         have RB := hid (RB.out.belowAll h)
                         have XB := hid (XB.out.belowAll h)
                         have HV := hid (HV.out.trans (h.mono HV.out.size))
                         have HB := hid (HB.out.trans (h.mono HB.out.size))
                         have hsv26 : v19.heap.size + 1 ≤ v26.heap.size := by omega
                         clear kCB2
                         have kCB2 : v26.cell? ⟨w.heap.size, 2, none⟩ = some (.slice (some ⟨b2, of2, none⟩) M cpc) := (BoxAt.cell CB.out 2).trans (by show some qc.v2.val = _; rw [HCv.out])
                         clear kPB4
                         have kPB4 : v26.cell? ⟨v1.heap.size, 4, none⟩ = some (.slice (some ⟨b3, of3, none⟩) N cp3) := (BoxAt.cell PB.out 4).trans (by show some q2.pr.val = _; rw [HV3.out])
                         clear kXB0
                         have kXB0 : v26.cell? ⟨wr.heap.size, 0, none⟩ = some (.int .i64 r.st) := (BoxAt.cell XB.out 0).trans rfl
                         clear kXB9
                         have kXB9 : v26.cell? ⟨wr.heap.size, 9, none⟩ = some (.int .i64 r.un) := (BoxAt.cell XB.out 9).trans rfl
                         clear kXB10
                         have kXB10 : v26.cell? ⟨wr.heap.size, 10, none⟩ = some (.int .i64 r.ki) := (BoxAt.cell XB.out 10).trans rfl
                         clear kL
                         have kL : v26.cell? ⟨b2, of2 + k * 5 + 2, none⟩ = some (.int .i64 f.li) := ((HB.out.cell (p := ⟨b2, of2 + k * 5 + 2, none⟩) hcw).trans HFl.out)
                         clear b h z hfl FL23)
                      | (have hfl := FL24.out
                         refine wpList_store_whole rfl 57 _ _ rfl rfl v19.heap.size rfl (Px.cells y) rfl _ _ YB.out rfl Try.infoPx (Px.one _) ?_
                         intro v27 b g z
                         have hsv27 : v26.heap.size ≤ v27.heap.size := by omega
                         have HV := hid (HV.out.trans (grown_below g (by omega) (by omega)))
                         have YB := hid (show BoxAt v27 v19.heap.size 57 (Px.cells y).toArray from b)
                         have CB := hid (CB.out.grown g (fun e => by have := Option.some.inj e; omega))
                         have PB := hid (PB.out.grown g (fun e => by have := Option.some.inj e; omega))
                         have RB := hid (RB.out.grown g (fun e => by have := Option.some.inj e; omega))
                         have XB := hid (XB.out.grown g (fun e => by have := Option.some.inj e; omega))
                         have HB := hid (HB.out.trans (grown_below g (by omega) (by omega)))
                         clear kCB2
                         have kCB2 : v27.cell? ⟨w.heap.size, 2, none⟩ = some (.slice (some ⟨b2, of2, none⟩) M cpc) := (BoxAt.cell CB.out 2).trans (by show some qc.v2.val = _; rw [HCv.out])
                         clear kPB4
                         have kPB4 : v27.cell? ⟨v1.heap.size, 4, none⟩ = some (.slice (some ⟨b3, of3, none⟩) N cp3) := (BoxAt.cell PB.out 4).trans (by show some q2.pr.val = _; rw [HV3.out])
                         clear kXB0
                         have kXB0 : v27.cell? ⟨wr.heap.size, 0, none⟩ = some (.int .i64 r.st) := (BoxAt.cell XB.out 0).trans rfl
                         clear kXB9
                         have kXB9 : v27.cell? ⟨wr.heap.size, 9, none⟩ = some (.int .i64 r.un) := (BoxAt.cell XB.out 9).trans rfl
                         clear kXB10
                         have kXB10 : v27.cell? ⟨wr.heap.size, 10, none⟩ = some (.int .i64 r.ki) := (BoxAt.cell XB.out 10).trans rfl
                         clear kL
                         have kL : v27.cell? ⟨b2, of2 + k * 5 + 2, none⟩ = some (.int .i64 f.li) := ((HB.out.cell (p := ⟨b2, of2 + k * 5 + 2, none⟩) hcw).trans HFl.out)
                         clear b g z hfl FL24)
                      | (have hfl := FL25.out
                         refine wpList_store_box rfl 3 _ _ rfl rfl v19.heap.size 12 (.int .i64 (-1)) rfl rfl rfl rfl (by kernel_rfl) _ _ YB.out (by simp [Px.cells]) ?_
                         intro v28 b g z
                         have hsv28 : v27.heap.size ≤ v28.heap.size := by omega
                         have HV := hid (HV.out.trans (grown_below g (by omega) (by omega)))
                         have YB := hid (show BoxAt v28 v19.heap.size 57 (Px.cells y1).toArray by rw [← HY1.out]; simpa [Px.cells] using b)
                         have CB := hid (CB.out.grown g (fun e => by have := Option.some.inj e; omega))
                         have PB := hid (PB.out.grown g (fun e => by have := Option.some.inj e; omega))
                         have RB := hid (RB.out.grown g (fun e => by have := Option.some.inj e; omega))
                         have XB := hid (XB.out.grown g (fun e => by have := Option.some.inj e; omega))
                         have HB := hid (HB.out.trans (grown_below g (by omega) (by omega)))
                         clear kCB2
                         have kCB2 : v28.cell? ⟨w.heap.size, 2, none⟩ = some (.slice (some ⟨b2, of2, none⟩) M cpc) := (BoxAt.cell CB.out 2).trans (by show some qc.v2.val = _; rw [HCv.out])
                         clear kPB4
                         have kPB4 : v28.cell? ⟨v1.heap.size, 4, none⟩ = some (.slice (some ⟨b3, of3, none⟩) N cp3) := (BoxAt.cell PB.out 4).trans (by show some q2.pr.val = _; rw [HV3.out])
                         clear kXB0
                         have kXB0 : v28.cell? ⟨wr.heap.size, 0, none⟩ = some (.int .i64 r.st) := (BoxAt.cell XB.out 0).trans rfl
                         clear kXB9
                         have kXB9 : v28.cell? ⟨wr.heap.size, 9, none⟩ = some (.int .i64 r.un) := (BoxAt.cell XB.out 9).trans rfl
                         clear kXB10
                         have kXB10 : v28.cell? ⟨wr.heap.size, 10, none⟩ = some (.int .i64 r.ki) := (BoxAt.cell XB.out 10).trans rfl
                         clear kL
                         have kL : v28.cell? ⟨b2, of2 + k * 5 + 2, none⟩ = some (.int .i64 f.li) := ((HB.out.cell (p := ⟨b2, of2 + k * 5 + 2, none⟩) hcw).trans HFl.out)
                         clear b g z hfl FL25)
                      | fail)
                    obtain ⟨y3, hy3⟩ : ∃ x : Px, { y1 with ne := wrap64 (r.un + f.pe) } = x := ⟨_, rfl⟩
                    have HY3 := hid hy3
                    clear hy3
                    have HV := hid (HV.out.trans ((Below.refl v28.heap.size v28).drew.mono HV.out.size))
                    have CB := hid (BoxAt.drew CB.out)
                    have PB := hid (BoxAt.drew PB.out)
                    have RB := hid (BoxAt.drew RB.out)
                    have XB := hid (BoxAt.drew XB.out)
                    have YB := hid (BoxAt.drew YB.out)
                    have HB := hid HB.out.drew
                    have hws : IntKind.i64.wrap (r.un + f.pe) = wrap64 (r.un + f.pe) := by unfold wrap64; exact IntKind.wrap_i64 _
                    have hyc : w.heap.size ≠ v19.heap.size := by omega
                    have hyx : wr.heap.size ≠ v19.heap.size := by omega
                    have hyp : v1.heap.size ≠ v19.heap.size := by omega
                    have hyr : v2.heap.size ≠ v19.heap.size := by omega
                    have hyz : v19.heap.size ≤ v19.heap.size := by omega
                    have hyw : w.heap.size ≤ v19.heap.size := by omega
                    clear kCB2 kL kPB4 kXB0 kXB10 kXB9
                    refine wp_region_held_drew (S := (fun W => W.cell? ⟨wr.heap.size, 9, none⟩ = some (.int .i64 r.un) ∧ W.cell? ⟨w.heap.size, 2, none⟩ = some (.slice (some ⟨b2, of2, none⟩) M cpc) ∧ W.cell? ⟨b2, of2 + k * 5 + 1, none⟩ = some (.int .i64 f.pe))) (by kernel_rfl) (⟨(BoxAt.cell XB.out 9).trans rfl, (BoxAt.cell CB.out 2).trans (by show some qc.v2.val = _; rw [HCv.out]), (HB.out.cell (p := ⟨b2, of2 + k * 5 + 1, none⟩) hcw).trans HFp.out⟩) (fun hHeld => ?_)
                    refine wpAnyH_take (i := 0) (oi := { dst := some 86, op := Op.fieldAddr 57 (Operand.tmp 8) 5, type := 0, pos := "ref.go:36", after := #[], guard := none }) (v := ?v601) rfl (by kernel_rfl) (by kernel_rfl) (by kernel_rfl) (fun _ _ _ h => h) (Or.inl ⟨by rfl, ?hy601⟩) (by assumption) ?rest601
                    case hy601 => (intro W hSw; obtain ⟨s0, s1, s2⟩ := hSw; go_simp; (try simp only [hws]); try with_reducible rfl)
                    simp only [Act.put, List.setIfInBounds_toArray, List.set_cons_zero, List.set_cons_succ]
                    refine wpAnyH_take (i := 1) (oi := { dst := some 87, op := Op.load 3 (Operand.tmp 86), type := 3, pos := "ref.go:36", after := #[{ on := 0, ground := Ground.data }], guard := none }) (v := ?v602) rfl (by kernel_rfl) (by kernel_rfl) (by kernel_rfl) (fun _ _ _ h => h) (Or.inl ⟨by rfl, ?hy602⟩) (by assumption) ?rest602
                    case hy602 => (intro W hSw; obtain ⟨s0, s1, s2⟩ := hSw; go_simp; (try simp only [hws]); try with_reducible rfl)
                    simp only [Act.put, List.setIfInBounds_toArray, List.set_cons_zero, List.set_cons_succ]
                    refine wpAnyH_take (i := 2) (oi := { dst := some 88, op := Op.fieldAddr 28 (Operand.tmp 3) 2, type := 0, pos := "ref.go:36", after := #[], guard := none }) (v := ?v603) rfl (by kernel_rfl) (by kernel_rfl) (by kernel_rfl) (fun _ _ _ h => h) (Or.inl ⟨by rfl, ?hy603⟩) (by assumption) ?rest603
                    case hy603 => (intro W hSw; obtain ⟨s0, s1, s2⟩ := hSw; go_simp; (try simp only [hws]); try with_reducible rfl)
                    simp only [Act.put, List.setIfInBounds_toArray, List.set_cons_zero, List.set_cons_succ]
                    refine wpAnyH_take (i := 3) (oi := { dst := some 89, op := Op.load 23 (Operand.tmp 88), type := 23, pos := "ref.go:36", after := #[{ on := 2, ground := Ground.data }], guard := none }) (v := ?v604) rfl (by kernel_rfl) (by kernel_rfl) (by kernel_rfl) (fun _ _ _ h => h) (Or.inl ⟨by rfl, ?hy604⟩) (by assumption) ?rest604
                    case hy604 => (intro W hSw; obtain ⟨s0, s1, s2⟩ := hSw; go_simp; (try simp only [hws]); try with_reducible rfl)
                    simp only [Act.put, List.setIfInBounds_toArray, List.set_cons_zero, List.set_cons_succ]
                    refine wpAnyH_take (i := 4) (oi := { dst := some 90, op := Op.move (Operand.tmp 7), type := 3, pos := "ref.go:36", after := #[], guard := none }) (v := ?v605) rfl (by kernel_rfl) (by kernel_rfl) (by kernel_rfl) (fun _ _ _ h => h) (Or.inl ⟨by rfl, ?hy605⟩) (by assumption) ?rest605
                    case hy605 => (intro W hSw; obtain ⟨s0, s1, s2⟩ := hSw; go_simp; (try simp only [hws]); try with_reducible rfl)
                    simp only [Act.put, List.setIfInBounds_toArray, List.set_cons_zero, List.set_cons_succ]
                    refine wpAnyH_take (i := 5) (oi := { dst := some 91, op := Op.indexAddr 23 (Operand.tmp 89) (Operand.tmp 90), type := 0, pos := "ref.go:36", after := #[{ on := 3, ground := Ground.data }, { on := 4, ground := Ground.data }], guard := none }) (v := ?v606) rfl (by kernel_rfl) (by kernel_rfl) (by kernel_rfl) (fun _ _ _ h => h) (Or.inl ⟨by rfl, ?hy606⟩) (by assumption) ?rest606
                    case hy606 => (intro W hSw; obtain ⟨s0, s1, s2⟩ := hSw; go_simp; (try simp only [hws]); try with_reducible rfl)
                    simp only [Act.put, List.setIfInBounds_toArray, List.set_cons_zero, List.set_cons_succ]
                    refine wpAnyH_take (i := 6) (oi := { dst := some 92, op := Op.fieldAddr 60 (Operand.tmp 91) 1, type := 0, pos := "ref.go:36", after := #[{ on := 5, ground := Ground.data }], guard := none }) (v := ?v607) rfl (by kernel_rfl) (by kernel_rfl) (by kernel_rfl) (fun _ _ _ h => h) (Or.inl ⟨by rfl, ?hy607⟩) (by assumption) ?rest607
                    case hy607 => (intro W hSw; obtain ⟨s0, s1, s2⟩ := hSw; go_simp; (try simp only [hws]); try with_reducible rfl)
                    simp only [Act.put, List.setIfInBounds_toArray, List.set_cons_zero, List.set_cons_succ]
                    refine wpAnyH_take (i := 7) (oi := { dst := some 93, op := Op.load 3 (Operand.tmp 92), type := 3, pos := "ref.go:36", after := #[{ on := 6, ground := Ground.data }], guard := none }) (v := ?v608) rfl (by kernel_rfl) (by kernel_rfl) (by kernel_rfl) (fun _ _ _ h => h) (Or.inl ⟨by rfl, ?hy608⟩) (by assumption) ?rest608
                    case hy608 => (intro W hSw; obtain ⟨s0, s1, s2⟩ := hSw; go_simp; (try simp only [hws]); try with_reducible rfl)
                    simp only [Act.put, List.setIfInBounds_toArray, List.set_cons_zero, List.set_cons_succ]
                    refine wpAnyH_take (i := 8) (oi := { dst := some 94, op := Op.binOp BinOp.add 3 (Operand.tmp 87) (Operand.tmp 93) 3, type := 3, pos := "ref.go:36", after := #[{ on := 1, ground := Ground.data }, { on := 7, ground := Ground.data }], guard := none }) (v := ?v609) rfl (by kernel_rfl) (by kernel_rfl) (by kernel_rfl) (fun _ _ _ h => h) (Or.inl ⟨by rfl, ?hy609⟩) (by assumption) ?rest609
                    case hy609 => (intro W hSw; obtain ⟨s0, s1, s2⟩ := hSw; go_simp; (try simp only [hws]); try with_reducible rfl)
                    simp only [Act.put, List.setIfInBounds_toArray, List.set_cons_zero, List.set_cons_succ]
                    refine wpAnyH_take (i := 9) (oi := { dst := some 95, op := Op.fieldAddr 57 (Operand.tmp 10) 9, type := 0, pos := "ref.go:36", after := #[{ on := 0, ground := Ground.phase }, { on := 1, ground := Ground.phase }, { on := 2, ground := Ground.phase }, { on := 3, ground := Ground.phase }, { on := 4, ground := Ground.phase }, { on := 5, ground := Ground.phase }, { on := 6, ground := Ground.phase }, { on := 7, ground := Ground.phase }, { on := 8, ground := Ground.phase }], guard := none }) (v := ?v610) rfl (by kernel_rfl) (by kernel_rfl) (by kernel_rfl) (fun _ _ _ h => h) (Or.inl ⟨by rfl, ?hy610⟩) (by assumption) ?rest610
                    case hy610 => (intro W hSw; obtain ⟨s0, s1, s2⟩ := hSw; go_simp; (try simp only [hws]); try with_reducible rfl)
                    simp only [Act.put, List.setIfInBounds_toArray, List.set_cons_zero, List.set_cons_succ]
                    refine wpAnyH_ready (rs := [10]) (by kernel_rfl) (by simp) (AllReadyH.cons (o := { dst := none, op := Op.store 3 (Operand.tmp 95) (Operand.tmp 94), type := 0, pos := "ref.go:36", after := #[{ on := 9, ground := Ground.data }, { on := 8, ground := Ground.data }, { on := 0, ground := Ground.phase }, { on := 1, ground := Ground.phase }, { on := 2, ground := Ground.phase }, { on := 3, ground := Ground.phase }, { on := 4, ground := Ground.phase }, { on := 5, ground := Ground.phase }, { on := 6, ground := Ground.phase }, { on := 7, ground := Ground.phase }, { on := 8, ground := Ground.phase }], guard := none }) rfl (fun K611 hK611 => ?_) AllReadyH.nil)
                    refine wp_store_box 3 _ _ rfl v19.heap.size 13 (.int .i64 (wrap64 (r.un + f.pe))) rfl rfl rfl rfl (by kernel_rfl) _ _ YB.out (by simp [Px.cells]) ?_
                    intro U b gr hz
                    have YB := hid (show BoxAt U v19.heap.size 57 (Px.cells y3).toArray by rw [← HY3.out]; simpa [Px.cells] using b)
                    have XB := hid (XB.out.grown gr (fun e => hyx (Option.some.inj e)))
                    have CB := hid (CB.out.grown gr (fun e => hyc (Option.some.inj e)))
                    have PB := hid (PB.out.grown gr (fun e => hyp (Option.some.inj e)))
                    have RB := hid (RB.out.grown gr (fun e => hyr (Option.some.inj e)))
                    have HV := hid (HV.out.trans (grown_below gr hyz (by have := HV.out.size; omega)))
                    have HB := hid (HB.out.trans (grown_below gr hyw (by have := HB.out.size; omega)))
                    have hsU : v28.heap.size ≤ U.heap.size := Nat.le_of_eq hz.symm
                    clear b gr hz
                    refine hK611.out _ _ (⟨(BoxAt.cell XB.out 9).trans rfl, (BoxAt.cell CB.out 2).trans (by show some qc.v2.val = _; rw [HCv.out]), (HB.out.cell (p := ⟨b2, of2 + k * 5 + 1, none⟩) hcw).trans HFp.out⟩) (fun hHeld611 => ?_)
                    clear hK611 K611
                    try simp only [Act.put]
                    refine wpAnyH_done (by kernel_rfl) ?_ _
                    clear hHeld hHeld611 hyc hyx hyp hyr hws
                    have HZ := hid (HZ0.out.below (by omega) HV.out)
                    clear HZ0 HV
                    go_wp2_with (first
                      | (with_reducible refine wpList_dst 96 rfl ?_
                         refine wpList_load_box rfl 39 _ rfl v1.heap.size rfl _ _ PB.out _ Try.underlying39 Try.infoPa ?_)
                      | (with_reducible refine wpList_dst 98 rfl ?_
                         refine wpList_load_box rfl 57 _ rfl v19.heap.size rfl _ _ YB.out _ Try.underlying57 Try.infoPx ?_)
                      | fail)
                    refine (rwith11_z k y3 HZ.out (by omega) (by rw [HDl.out]; exact hN9) (by rw [HDl.out]; exact HLt.out)).mono ?_
                    rintro e v29 ⟨q3, rfl, hz, hb⟩
                    have CB := hid (CB.out.belowAll hb)
                    have PB := hid (PB.out.belowAll hb)
                    have RB := hid (RB.out.belowAll hb)
                    have XB := hid (XB.out.belowAll hb)
                    have YB := hid (YB.out.belowAll hb)
                    have HZ := hid hz
                    have HB := hid (HB.out.trans (hb.mono HB.out.size))
                    have hsv29 : U.heap.size ≤ v29.heap.size := hb.size
                    clear hb
                    have FL26 := hid trivial
                    go_wp2_with (first
                      | (have hfl := FL26.out
                         refine wpList_store_whole rfl 39 _ _ rfl rfl v1.heap.size rfl (PaV.cells q3) rfl _ _ PB.out rfl Try.infoPa (PaV.one _) ?_
                         intro v30 b g z
                         have hsv30 : v29.heap.size ≤ v30.heap.size := by omega
                         have HZ := hid (HZ.out.put (by omega) (by omega) g PB.out b)
                         have PB := hid (show BoxAt v30 v1.heap.size 39 (PaV.cells q3).toArray from b)
                         have CB := hid (CB.out.grown g (fun e => by have := Option.some.inj e; omega))
                         have RB := hid (RB.out.grown g (fun e => by have := Option.some.inj e; omega))
                         have XB := hid (XB.out.grown g (fun e => by have := Option.some.inj e; omega))
                         have YB := hid (YB.out.grown g (fun e => by have := Option.some.inj e; omega))
                         have HB := hid (HB.out.trans (grown_below g (by omega) (by omega)))
                         clear b g z hfl FL26)
                      | fail)
                    have HE := hid (show { D.pr.getD k Px.zero with du := if 0 < (cc.pc.getD k Pc.zero).li then wrap64 (now + (cc.pc.getD k Pc.zero).li) else -1, ne := wrap64 (r.un + (cc.pc.getD k Pc.zero).pe) } = y3 from by rw [HY.out, HF.out, if_neg (show ¬ 0 < f.li by have := HLi.out; omega), ← HY3.out, ← HY1.out])
                    go_roundw
                    case rel => exact ⟨k + 1, q3, by have := HLt.out; omega, by go_num, (show Hid (PaZ n _ _ (wakeS cc c now (k + 1))) from by rw [show wakeS cc c now (k + 1) = wakeOne cc now k C from by rw [← HCk.out]; rfl, wake_rel HR.out HOv.out HD.out ⟨HK2.out, HKc.out⟩ HE.out]; exact HZ), CB, PB, RB, HB, by omega⟩
                    case measure => have := HLt.out; simp [intOf]; omega
                · have tc : decide ((k : Int) < (M : Int)) = false := decide_eq_false (by omega)
                  have tc2 : decide (k < M) = false := decide_eq_false hkc
                  have hkm : (M : Int) ≤ (k : Int) := by omega
                  have HNr := hid (show ¬ (r.ki = 2 ∧ k < cc.pc.length) from fun h => by have h1 := h.2; rw [HM.out] at h1; omega)
                  clear hkc
                  have kCB2 : v18.cell? ⟨w.heap.size, 2, none⟩ = some (.slice ac M cpc) := (BoxAt.cell CB.out 2).trans (by show some qc.v2.val = _; rw [HCv.out])
                  clear kXB0
                  have kXB0 : v18.cell? ⟨wr.heap.size, 0, none⟩ = some (.int .i64 r.st) := (BoxAt.cell XB.out 0).trans rfl
                  clear kXB9
                  have kXB9 : v18.cell? ⟨wr.heap.size, 9, none⟩ = some (.int .i64 r.un) := (BoxAt.cell XB.out 9).trans rfl
                  clear kXB10
                  have kXB10 : v18.cell? ⟨wr.heap.size, 10, none⟩ = some (.int .i64 r.ki) := (BoxAt.cell XB.out 10).trans rfl
                  have FL27 := hid trivial
                  go_wp2_with (first
                    | (have hfl := FL27.out
                       refine wpList_store_whole rfl 39 _ _ rfl rfl v1.heap.size rfl (PaV.cells q2) rfl _ _ PB.out rfl Try.infoPa (PaV.one _) ?_
                       intro v31 b g z
                       have hsv31 : v18.heap.size ≤ v31.heap.size := by omega
                       have HZ := hid (HZ.out.put (by omega) (by omega) g PB.out b)
                       have PB := hid (show BoxAt v31 v1.heap.size 39 (PaV.cells q2).toArray from b)
                       have CB := hid (CB.out.grown g (fun e => by have := Option.some.inj e; omega))
                       have RB := hid (RB.out.grown g (fun e => by have := Option.some.inj e; omega))
                       have XB := hid (XB.out.grown g (fun e => by have := Option.some.inj e; omega))
                       have HB := hid (HB.out.trans (grown_below g (by omega) (by omega)))
                       clear kCB2
                       have kCB2 : v31.cell? ⟨w.heap.size, 2, none⟩ = some (.slice ac M cpc) := (BoxAt.cell CB.out 2).trans (by show some qc.v2.val = _; rw [HCv.out])
                       clear kXB0
                       have kXB0 : v31.cell? ⟨wr.heap.size, 0, none⟩ = some (.int .i64 r.st) := (BoxAt.cell XB.out 0).trans rfl
                       clear kXB9
                       have kXB9 : v31.cell? ⟨wr.heap.size, 9, none⟩ = some (.int .i64 r.un) := (BoxAt.cell XB.out 9).trans rfl
                       clear kXB10
                       have kXB10 : v31.cell? ⟨wr.heap.size, 10, none⟩ = some (.int .i64 r.ki) := (BoxAt.cell XB.out 10).trans rfl
                       clear b g z hfl FL27)
                    | fail)
                  go_roundw
                  case rel => exact ⟨k + 1, q2, by have := HLt.out; omega, by go_num, (show Hid (PaZ n _ _ (wakeS cc c now (k + 1))) from by rw [show wakeS cc c now (k + 1) = wakeOne cc now k C from by rw [← HCk.out]; rfl, wake_yes HR.out HOv.out HD.out HNr.out]; exact HZ), CB, PB, RB, HB, by omega⟩
                  case measure => have := HLt.out; simp [intOf]; omega
              · have t2 : (r.ki != 2) = true := by simpa using k2
                have t3 : (r.ki == 2) = false := by simpa using k2
                have HTm := hid (show timed r = False from eq_false (fun h => h.elim k1 k2))
                have HNr := hid (show ¬ (r.ki = 2 ∧ k < cc.pc.length) from fun h => k2 h.1)
                clear k1 k2
                have HV := hid (Below.refl wr.heap.size wr)
                have FL28 := hid trivial
                have FL29 := hid trivial
                go_wp2_with (first
                  | (refine wpList_load_px rfl _ rfl b1 (off + k * 18) rfl r HP0.out ?_)
                  | (have hfl := FL28.out
                     refine wpList_new rfl 57 rfl _ Try.zeroPx ?_
                     intro v32 b h z
                     have XB := hid (show BoxAt v32 wr.heap.size 57 (Px.cells Px.zero).toArray from b)
                     have CB := hid (CB.out.belowAll h)
                     have PB := hid (PB.out.belowAll h)
                     have RB := hid (RB.out.belowAll h)
                     have HV := hid (HV.out.trans (h.mono HV.out.size))
                     have HB := hid (HB.out.trans (h.mono HB.out.size))
                     have hsv32 : wr.heap.size + 1 ≤ v32.heap.size := by omega
                     clear kPB4
                     have kPB4 : v32.cell? ⟨v1.heap.size, 4, none⟩ = some (.slice (some ⟨b1, off, none⟩) N cpp) := (BoxAt.cell PB.out 4).trans (by show some p.pr.val = _; rw [HPv.out])
                     clear b h z hfl FL28)
                  | (have hfl := FL29.out
                     refine wpList_store_whole rfl 57 _ _ rfl rfl wr.heap.size rfl (Px.cells r) rfl _ _ XB.out rfl Try.infoPx (Px.one _) ?_
                     intro v33 b g z
                     have hsv33 : v32.heap.size ≤ v33.heap.size := by omega
                     have HV := hid (HV.out.trans (grown_below g (by omega) (by omega)))
                     have XB := hid (show BoxAt v33 wr.heap.size 57 (Px.cells r).toArray from b)
                     have CB := hid (CB.out.grown g (fun e => by have := Option.some.inj e; omega))
                     have PB := hid (PB.out.grown g (fun e => by have := Option.some.inj e; omega))
                     have RB := hid (RB.out.grown g (fun e => by have := Option.some.inj e; omega))
                     have HB := hid (HB.out.trans (grown_below g (by omega) (by omega)))
                     clear kPB4
                     have kPB4 : v33.cell? ⟨v1.heap.size, 4, none⟩ = some (.slice (some ⟨b1, off, none⟩) N cpp) := (BoxAt.cell PB.out 4).trans (by show some p.pr.val = _; rw [HPv.out])
                     have kXB0 : v33.cell? ⟨wr.heap.size, 0, none⟩ = some (.int .i64 r.st) := (BoxAt.cell XB.out 0).trans rfl
                     have kXB9 : v33.cell? ⟨wr.heap.size, 9, none⟩ = some (.int .i64 r.un) := (BoxAt.cell XB.out 9).trans rfl
                     have kXB10 : v33.cell? ⟨wr.heap.size, 10, none⟩ = some (.int .i64 r.ki) := (BoxAt.cell XB.out 10).trans rfl
                     clear b g z hfl FL29
                     refine Hid.out ?_)
                  | fail)
                refine hid ?_
                have HZ := hid (HZ.out.below (by omega) HV.out)
                clear HV kPB4
                have FL30 := hid trivial
                have FL31 := hid trivial
                go_wp2_with (first
                  | (have hfl := FL30.out
                     refine wpList_new rfl 92 rfl _ Try.zeroWk ?_
                     intro v34 b h z
                     have WB := hid (show BoxAt v34 v33.heap.size 92 [.int .i64 0, .int .i64 0, .int .i64 0].toArray from b)
                     have CB := hid (CB.out.belowAll h)
                     have PB := hid (PB.out.belowAll h)
                     have RB := hid (RB.out.belowAll h)
                     have XB := hid (XB.out.belowAll h)
                     have HZ := hid (HZ.out.below (by omega) h)
                     have HB := hid (HB.out.trans (h.mono HB.out.size))
                     have hsv34 : v33.heap.size + 1 ≤ v34.heap.size := by omega
                     clear kXB0
                     have kXB0 : v34.cell? ⟨wr.heap.size, 0, none⟩ = some (.int .i64 r.st) := (BoxAt.cell XB.out 0).trans rfl
                     clear kXB9
                     have kXB9 : v34.cell? ⟨wr.heap.size, 9, none⟩ = some (.int .i64 r.un) := (BoxAt.cell XB.out 9).trans rfl
                     clear kXB10
                     have kXB10 : v34.cell? ⟨wr.heap.size, 10, none⟩ = some (.int .i64 r.ki) := (BoxAt.cell XB.out 10).trans rfl
                     clear b h z hfl FL30)
                  | (have hfl := FL31.out
                     refine wpList_store_whole rfl 92 _ _ rfl rfl v33.heap.size rfl [.int .i64 (k : Int), .int .i64 0, .int .i64 0] rfl _ _ WB.out rfl Try.infoWkC (wk_one _ _ _) ?_
                     intro v35 b g z
                     have hsv35 : v34.heap.size ≤ v35.heap.size := by omega
                     have HZ := hid (HZ.out.putw (by omega) (by omega) g WB.out b)
                     have WB := hid (show BoxAt v35 v33.heap.size 92 [.int .i64 (k : Int), .int .i64 0, .int .i64 0].toArray from b)
                     have CB := hid (CB.out.grown g (fun e => by have := Option.some.inj e; omega))
                     have PB := hid (PB.out.grown g (fun e => by have := Option.some.inj e; omega))
                     have RB := hid (RB.out.grown g (fun e => by have := Option.some.inj e; omega))
                     have XB := hid (XB.out.grown g (fun e => by have := Option.some.inj e; omega))
                     have HB := hid (HB.out.trans (grown_below g (by omega) (by omega)))
                     clear kXB0
                     have kXB0 : v35.cell? ⟨wr.heap.size, 0, none⟩ = some (.int .i64 r.st) := (BoxAt.cell XB.out 0).trans rfl
                     clear kXB9
                     have kXB9 : v35.cell? ⟨wr.heap.size, 9, none⟩ = some (.int .i64 r.un) := (BoxAt.cell XB.out 9).trans rfl
                     clear kXB10
                     have kXB10 : v35.cell? ⟨wr.heap.size, 10, none⟩ = some (.int .i64 r.ki) := (BoxAt.cell XB.out 10).trans rfl
                     clear b g z hfl FL31)
                  | (with_reducible refine wpList_dst 47 rfl ?_
                     refine wpList_load_box rfl 39 _ rfl v1.heap.size rfl _ _ PB.out _ Try.underlying39 Try.infoPa ?_)
                  | fail)
                refine (rleave_z (i := (k : Int)) HZ.out (by omega) HSk.out).mono ?_
                rintro e v36 ⟨q1, rfl, hz, hb⟩
                have CB := hid (CB.out.belowAll hb)
                have PB := hid (PB.out.belowAll hb)
                have RB := hid (RB.out.belowAll hb)
                have XB := hid (XB.out.belowAll hb)
                have WB := hid (WB.out.belowAll hb)
                have HZ := hid hz
                have HB := hid (HB.out.trans (hb.mono HB.out.size))
                have hsv36 : v35.heap.size ≤ v36.heap.size := hb.size
                clear kXB0
                have kXB0 : v36.cell? ⟨wr.heap.size, 0, none⟩ = some (.int .i64 r.st) := (BoxAt.cell XB.out 0).trans rfl
                clear kXB9
                have kXB9 : v36.cell? ⟨wr.heap.size, 9, none⟩ = some (.int .i64 r.un) := (BoxAt.cell XB.out 9).trans rfl
                clear kXB10
                have kXB10 : v36.cell? ⟨wr.heap.size, 10, none⟩ = some (.int .i64 r.ki) := (BoxAt.cell XB.out 10).trans rfl
                clear hb
                have FL32 := hid trivial
                have FL33 := hid trivial
                go_wp2_with (first
                  | (have hfl := FL32.out
                     refine wpList_store_whole rfl 39 _ _ rfl rfl v1.heap.size rfl (PaV.cells q1) rfl _ _ PB.out rfl Try.infoPa (PaV.one _) ?_
                     intro v37 b g z
                     have hsv37 : v36.heap.size ≤ v37.heap.size := by omega
                     have HZ := hid (HZ.out.put (by omega) (by omega) g PB.out b)
                     have PB := hid (show BoxAt v37 v1.heap.size 39 (PaV.cells q1).toArray from b)
                     have CB := hid (CB.out.grown g (fun e => by have := Option.some.inj e; omega))
                     have RB := hid (RB.out.grown g (fun e => by have := Option.some.inj e; omega))
                     have XB := hid (XB.out.grown g (fun e => by have := Option.some.inj e; omega))
                     have WB := hid (WB.out.grown g (fun e => by have := Option.some.inj e; omega))
                     have HB := hid (HB.out.trans (grown_below g (by omega) (by omega)))
                     clear kXB0
                     have kXB0 : v37.cell? ⟨wr.heap.size, 0, none⟩ = some (.int .i64 r.st) := (BoxAt.cell XB.out 0).trans rfl
                     clear kXB9
                     have kXB9 : v37.cell? ⟨wr.heap.size, 9, none⟩ = some (.int .i64 r.un) := (BoxAt.cell XB.out 9).trans rfl
                     clear kXB10
                     have kXB10 : v37.cell? ⟨wr.heap.size, 10, none⟩ = some (.int .i64 r.ki) := (BoxAt.cell XB.out 10).trans rfl
                     clear b g z hfl FL32)
                  | (have hfl := FL33.out
                     refine wpList_store_box rfl 3 _ _ rfl rfl v33.heap.size 1 (.int .i64 5) rfl rfl rfl rfl (by kernel_rfl) _ _ WB.out (by simp []) ?_
                     intro v38 b g z
                     have hsv38 : v37.heap.size ≤ v38.heap.size := by omega
                     have HZ := hid (HZ.out.putw (by omega) (by omega) g WB.out b)
                     have WB := hid (show BoxAt v38 v33.heap.size 92 [.int .i64 (k : Int), .int .i64 5, .int .i64 0].toArray by simpa [] using b)
                     have CB := hid (CB.out.grown g (fun e => by have := Option.some.inj e; omega))
                     have PB := hid (PB.out.grown g (fun e => by have := Option.some.inj e; omega))
                     have RB := hid (RB.out.grown g (fun e => by have := Option.some.inj e; omega))
                     have XB := hid (XB.out.grown g (fun e => by have := Option.some.inj e; omega))
                     have HB := hid (HB.out.trans (grown_below g (by omega) (by omega)))
                     clear kXB0
                     have kXB0 : v38.cell? ⟨wr.heap.size, 0, none⟩ = some (.int .i64 r.st) := (BoxAt.cell XB.out 0).trans rfl
                     clear kXB9
                     have kXB9 : v38.cell? ⟨wr.heap.size, 9, none⟩ = some (.int .i64 r.un) := (BoxAt.cell XB.out 9).trans rfl
                     clear kXB10
                     have kXB10 : v38.cell? ⟨wr.heap.size, 10, none⟩ = some (.int .i64 r.ki) := (BoxAt.cell XB.out 10).trans rfl
                     clear b g z hfl FL33)
                  | (with_reducible refine wpList_dst 51 rfl ?_
                     refine wpList_load_box rfl 39 _ rfl v1.heap.size rfl _ _ PB.out _ Try.underlying39 Try.infoPa ?_)
                  | (with_reducible refine wpList_dst 52 rfl ?_
                     refine wpList_load_box rfl 92 _ rfl v33.heap.size rfl _ _ WB.out _ Try.underlying92 Try.infoWkC ?_)
                  | fail)
                refine (rgo_z (kp := (k : Int)) (kc := 5) (kv := 0) HZ.out (by omega) (leave_small HSk.out _)).mono ?_
                rintro e v39 ⟨q2, rfl, hz, hb⟩
                have CB := hid (CB.out.belowAll hb)
                have PB := hid (PB.out.belowAll hb)
                have RB := hid (RB.out.belowAll hb)
                have XB := hid (XB.out.belowAll hb)
                have WB := hid (WB.out.belowAll hb)
                have HZ := hid hz
                have HB := hid (HB.out.trans (hb.mono HB.out.size))
                have hsv39 : v38.heap.size ≤ v39.heap.size := hb.size
                clear kXB0
                have kXB0 : v39.cell? ⟨wr.heap.size, 0, none⟩ = some (.int .i64 r.st) := (BoxAt.cell XB.out 0).trans rfl
                clear kXB9
                have kXB9 : v39.cell? ⟨wr.heap.size, 9, none⟩ = some (.int .i64 r.un) := (BoxAt.cell XB.out 9).trans rfl
                clear kXB10
                have kXB10 : v39.cell? ⟨wr.heap.size, 10, none⟩ = some (.int .i64 r.ki) := (BoxAt.cell XB.out 10).trans rfl
                clear hb
                skip
                obtain ⟨D, hD⟩ : ∃ D, goP (leaveP C (isW (k : Int))) (k : Int) 5 0 = D := ⟨_, rfl⟩
                rw [hD] at HZ
                have HD := hid (show wentP C k r = D from by rw [← hD]; unfold wentP codeX; simp only [HTm.out, if_false])
                clear hD
                have FL34 := hid trivial
                go_wp2_with (first
                  | (have hfl := FL34.out
                     refine wpList_store_whole rfl 39 _ _ rfl rfl v1.heap.size rfl (PaV.cells q2) rfl _ _ PB.out rfl Try.infoPa (PaV.one _) ?_
                     intro v40 b g z
                     have hsv40 : v39.heap.size ≤ v40.heap.size := by omega
                     have HZ := hid (HZ.out.put (by omega) (by omega) g PB.out b)
                     have PB := hid (show BoxAt v40 v1.heap.size 39 (PaV.cells q2).toArray from b)
                     have CB := hid (CB.out.grown g (fun e => by have := Option.some.inj e; omega))
                     have RB := hid (RB.out.grown g (fun e => by have := Option.some.inj e; omega))
                     have XB := hid (XB.out.grown g (fun e => by have := Option.some.inj e; omega))
                     have WB := hid (WB.out.grown g (fun e => by have := Option.some.inj e; omega))
                     have HB := hid (HB.out.trans (grown_below g (by omega) (by omega)))
                     clear kXB0
                     have kXB0 : v40.cell? ⟨wr.heap.size, 0, none⟩ = some (.int .i64 r.st) := (BoxAt.cell XB.out 0).trans rfl
                     clear kXB9
                     have kXB9 : v40.cell? ⟨wr.heap.size, 9, none⟩ = some (.int .i64 r.un) := (BoxAt.cell XB.out 9).trans rfl
                     clear kXB10
                     have kXB10 : v40.cell? ⟨wr.heap.size, 10, none⟩ = some (.int .i64 r.ki) := (BoxAt.cell XB.out 10).trans rfl
                     clear b g z hfl FL34)
                  | fail)
                go_roundw
                case rel => exact ⟨k + 1, q2, by have := HLt.out; omega, by go_num, (show Hid (PaZ n _ _ (wakeS cc c now (k + 1))) from by rw [show wakeS cc c now (k + 1) = wakeOne cc now k C from by rw [← HCk.out]; rfl, wake_yes HR.out HOv.out HD.out HNr.out]; exact HZ), CB, PB, RB, HB, by omega⟩
                case measure => have := HLt.out; simp [intOf]; omega
      · have t0 : (r.st != 2) = true := by simpa using e0
        have HT := hid (show ¬ overX now r from fun h => e0 h.1)
        clear e0
        have HV := hid (Below.refl wr.heap.size wr)
        have FL35 := hid trivial
        have FL36 := hid trivial
        go_wp2_with (first
          | (refine wpList_load_px rfl _ rfl b1 (off + k * 18) rfl r HP0.out ?_)
          | (have hfl := FL35.out
             refine wpList_new rfl 57 rfl _ Try.zeroPx ?_
             intro v41 b h z
             have XB := hid (show BoxAt v41 wr.heap.size 57 (Px.cells Px.zero).toArray from b)
             have CB := hid (CB.out.belowAll h)
             have PB := hid (PB.out.belowAll h)
             have RB := hid (RB.out.belowAll h)
             have HV := hid (HV.out.trans (h.mono HV.out.size))
             have HB := hid (HB.out.trans (h.mono HB.out.size))
             have hsv41 : wr.heap.size + 1 ≤ v41.heap.size := by omega
             clear kPB4
             have kPB4 : v41.cell? ⟨v1.heap.size, 4, none⟩ = some (.slice (some ⟨b1, off, none⟩) N cpp) := (BoxAt.cell PB.out 4).trans (by show some p.pr.val = _; rw [HPv.out])
             clear b h z hfl FL35)
          | (have hfl := FL36.out
             refine wpList_store_whole rfl 57 _ _ rfl rfl wr.heap.size rfl (Px.cells r) rfl _ _ XB.out rfl Try.infoPx (Px.one _) ?_
             intro v42 b g z
             have hsv42 : v41.heap.size ≤ v42.heap.size := by omega
             have HV := hid (HV.out.trans (grown_below g (by omega) (by omega)))
             have XB := hid (show BoxAt v42 wr.heap.size 57 (Px.cells r).toArray from b)
             have CB := hid (CB.out.grown g (fun e => by have := Option.some.inj e; omega))
             have PB := hid (PB.out.grown g (fun e => by have := Option.some.inj e; omega))
             have RB := hid (RB.out.grown g (fun e => by have := Option.some.inj e; omega))
             have HB := hid (HB.out.trans (grown_below g (by omega) (by omega)))
             clear kPB4
             have kPB4 : v42.cell? ⟨v1.heap.size, 4, none⟩ = some (.slice (some ⟨b1, off, none⟩) N cpp) := (BoxAt.cell PB.out 4).trans (by show some p.pr.val = _; rw [HPv.out])
             have kXB0 : v42.cell? ⟨wr.heap.size, 0, none⟩ = some (.int .i64 r.st) := (BoxAt.cell XB.out 0).trans rfl
             have kXB9 : v42.cell? ⟨wr.heap.size, 9, none⟩ = some (.int .i64 r.un) := (BoxAt.cell XB.out 9).trans rfl
             have kXB10 : v42.cell? ⟨wr.heap.size, 10, none⟩ = some (.int .i64 r.ki) := (BoxAt.cell XB.out 10).trans rfl
             clear b g z hfl FL36)
          | fail)
        have HZ := hid (HZ.out.below (by omega) HV.out)
        go_roundw
        case rel => exact ⟨k + 1, p, by have := HLt.out; omega, by go_num, (show Hid (PaZ n _ _ (wakeS cc c now (k + 1))) from by rw [show wakeS cc c now (k + 1) = wakeOne cc now k C from by rw [← HCk.out]; rfl, wakeOne_idle (by rw [HR.out]; exact HT.out)]; exact HZ), CB, PB, RB, HB, by omega⟩
        case measure => have := HLt.out; simp [intOf]; omega
    · obtain rfl : k = N := by omega
      clear hlt hpcell hln
      have kPB4 : wr.cell? ⟨v1.heap.size, 4, none⟩ = some (.slice ap k cpp) := (BoxAt.cell PB.out 4).trans (by show some p.pr.val = _; rw [HPv.out])
      have FL37 := hid trivial
      go_wp2_with (first
        | (with_reducible refine wpList_dst 100 rfl ?_
           refine wpList_load_box rfl 39 _ rfl v1.heap.size rfl _ _ PB.out _ Try.underlying39 Try.infoPa ?_)
        | (have hfl := FL37.out
           refine wpList_store_whole rfl 39 _ _ rfl rfl v2.heap.size rfl (PaV.cells p) rfl _ _ RB.out rfl Try.infoPa (PaV.one _) ?_
           intro v43 b g z
           have hsv43 : wr.heap.size ≤ v43.heap.size := by omega
           have HZ := hid (HZ.out.put (by omega) (by omega) g RB.out b)
           have RB := hid (show BoxAt v43 v2.heap.size 39 (PaV.cells p).toArray from b)
           have CB := hid (CB.out.grown g (fun e => by have := Option.some.inj e; omega))
           have PB := hid (PB.out.grown g (fun e => by have := Option.some.inj e; omega))
           have HB := hid (HB.out.trans (grown_below g (by omega) (by omega)))
           clear kPB4
           have kPB4 : v43.cell? ⟨v1.heap.size, 4, none⟩ = some (.slice ap k cpp) := (BoxAt.cell PB.out 4).trans (by show some p.pr.val = _; rw [HPv.out])
           clear b g z hfl FL37)
        | fail)
      refine bodyPost_ret (results_cell_row rfl _ _ (v2.heap.size) 39 _ (0, 0) _ rfl RB.out Try.underlying39 rfl Try.infoPa) rfl ?_
      refine ⟨p, rfl, ?_, HB.out⟩
      have e : wakeS cc c now k = wakeP cc c now := by unfold wakeP; rw [HN.out]
      rw [← e, HCk.out]
      exact HZ.out.pas
end Go.Proofs.Ytdanfnbclbiidaa
