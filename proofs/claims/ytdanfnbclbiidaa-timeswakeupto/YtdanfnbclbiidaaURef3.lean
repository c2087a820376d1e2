/-
  What reads as a partition in every world that keeps from n on; the document's Leave and Go over that.
-/
import Derived.Test.YtdanfnbclbiidaaQLeave
import Derived.Test.YtdanfnbclbiidaaURef1
namespace Go.Proofs.Ytdanfnbclbiidaa
open Go.RowKit
set_option linter.unusedVariables false

/-- The world W keeps of w what is from n on, but for blocks of partitions and of wakes. -/
abbrev SK (t : TypeId) : Prop := t = 39 ∨ t = 92
def Keep (n : Nat) (w W : World) : Prop := Below n w W ∧ Turns SK w W
theorem Keep.refl (n : Nat) (w : World) : Keep n w w := ⟨Below.refl n w, Turns.refl _ w⟩
theorem Keep.trans {n : Nat} {w w' W : World} (h : Keep n w w') (k : Keep n w' W) : Keep n w W := ⟨h.1.trans k.1, h.2.trans k.2⟩
theorem Keep.below {n : Nat} {w w' : World} (hn : n ≤ w.heap.size) (hb : Below w.heap.size w w') : Keep n w w' := ⟨hb.mono hn, Turns.below hb⟩
theorem Keep.put {n g : Nat} {w w' : World} {cs cs' : Array Value} (hn : n ≤ g) (hs : n ≤ w.heap.size) (hg : w.grownBy w' (some g)) (h1 : BoxAt w g 39 cs) (h2 : BoxAt w' g 39 cs') : Keep n w w' :=
  ⟨grown_below hg hn hs, Turns.grown (S := SK) h1 h2 (.inl rfl) hg⟩
theorem Keep.putw {n g : Nat} {w w' : World} {cs cs' : Array Value} (hn : n ≤ g) (hs : n ≤ w.heap.size) (hg : w.grownBy w' (some g)) (h1 : BoxAt w g 92 cs) (h2 : BoxAt w' g 92 cs') : Keep n w w' :=
  ⟨grown_below hg hn hs, Turns.grown (S := SK) h1 h2 (.inr rfl) hg⟩
/-- What reads as a partition in every world that keeps from n on: its buffers' rows are the same in all of them. -/
def PaZ (n : Nat) (w : World) (q : PaV) (c : Pa) : Prop := (∀ W, Keep n w W → PaAt W q c) ∧ ∃ rs : List BfV, rs.length = c.bu.length ∧ ∀ W, Keep n w W → SeesBfV W q.bu.val rs ∧ ∀ j, j < rs.length → BfAt W (rs.getD j BfV.zero) (c.bu.getD j Bf.zero)
theorem PaZ.from {w : World} {q : PaV} {c : Pa} (h : PaAt w q c) : PaZ w.heap.size w q c := by
  refine ⟨fun W hW => h.below hW.1, ?_⟩
  obtain ⟨rs, a, b, d⟩ := h.bu
  exact ⟨rs, b, fun W hW => ⟨a.below hW.1, fun j hj => (d j hj).below hW.1⟩⟩
theorem PaZ.at {n : Nat} {w : World} {q : PaV} {c : Pa} (h : PaZ n w q c) : PaAt w q c := h.1 w (Keep.refl n w)
theorem PaZ.pas {n : Nat} {w : World} {q : PaV} {c : Pa} (h : PaZ n w q c) : PaS n w q c := fun W hW hT => h.1 W ⟨hW, hT.os, hT.tape, hT.output, hT.size, fun k hk ht => hT.block k hk (fun t hta hst => ht t hta (.inl hst)), hT.tag⟩
theorem PaZ.go {n : Nat} {w w' : World} {q : PaV} {c : Pa} (h : PaZ n w q c) (k : Keep n w w') : PaZ n w' q c := by
  refine ⟨fun W hW => h.1 W (k.trans hW), ?_⟩
  obtain ⟨rs, a, b⟩ := h.2
  exact ⟨rs, a, fun W hW => b W (k.trans hW)⟩
theorem PaZ.below {n : Nat} {w w' : World} {q : PaV} {c : Pa} (h : PaZ n w q c) (hn : n ≤ w.heap.size) (hb : Below w.heap.size w w') : PaZ n w' q c := h.go (Keep.below hn hb)
theorem PaZ.put {n g : Nat} {w w' : World} {q : PaV} {c : Pa} {cs cs' : Array Value} (h : PaZ n w q c) (hn : n ≤ g) (hs : n ≤ w.heap.size) (hg : w.grownBy w' (some g)) (h1 : BoxAt w g 39 cs) (h2 : BoxAt w' g 39 cs') : PaZ n w' q c := h.go (Keep.put hn hs hg h1 h2)
theorem PaZ.putw {n g : Nat} {w w' : World} {q : PaV} {c : Pa} {cs cs' : Array Value} (h : PaZ n w q c) (hn : n ≤ g) (hs : n ≤ w.heap.size) (hg : w.grownBy w' (some g)) (h1 : BoxAt w g 92 cs) (h2 : BoxAt w' g 92 cs') : PaZ n w' q c := h.go (Keep.putw hn hs hg h1 h2)
theorem PaZ.pr {n base : Nat} {w w' : World} {q : PaV} {c : Pa} {s : Sl} {l : List Px} (h : PaZ n w q c) (hn : n ≤ w.heap.size) (hb : Below w.heap.size w w') (ho : OP w' base s.val l) : PaZ n w' { q with pr := s } { c with pr := l } :=
  ⟨fun W hW => by
    have h1 := (h.below hn hb).1 W hW
    exact ⟨h1.md, h1.bg, h1.nx, h1.me, (ho.turn (S := SK) (by decide) hW.2).sees, h1.bo, h1.bu, h1.se, h1.ev, h1.sa, h1.qu, h1.ld, h1.ll, h1.lx, h1.gi⟩, (h.below hn hb).2⟩
theorem PaZ.nx {n : Nat} {w : World} {q : PaV} {c : Pa} (x : Int) (h : PaZ n w q c) : PaZ n w { q with nx := x } { c with nx := x } :=
  ⟨fun W hW => by
    have h1 := h.1 W hW
    exact ⟨h1.md, h1.bg, rfl, h1.me, h1.pr, h1.bo, h1.bu, h1.se, h1.ev, h1.sa, h1.qu, h1.ld, h1.ll, h1.lx, h1.gi⟩, h.2⟩
theorem rwith_z {n : Nat} {q : PaV} {c : Pa} {w : World} (k : Nat) (r : Px) (hs : PaZ n w q c) (hn : n ≤ w.heap.size) (hlen : c.pr.length ≤ 900000) (hk : k < c.pr.length) :
    Calls Try.prog 57 #[q.val, .int .i64 k, r.val] w fun e w' => ∃ q', e = .returned (PaV.val q') ∧ PaZ n w' q' { c with pr := c.pr.set k r } ∧ Below w.heap.size w w' := by
  refine (rwith_own k r hs.at hlen hk).mono ?_
  rintro e w' ⟨s, rfl, ho, hb⟩
  exact ⟨_, rfl, hs.pr hn hb ho, hb⟩
theorem rwith11_z {n : Nat} {q : PaV} {c : Pa} {w : World} (k : Nat) (r : Px) (hs : PaZ n w q c) (hn : n ≤ w.heap.size) (hlen : c.pr.length ≤ 900000) (hk : k < c.pr.length) :
    Calls Try.prog 38 #[q.val, .int .i64 k, r.val] w fun e w' => ∃ q', e = .returned (PaV.val q') ∧ PaZ n w' q' { c with pr := c.pr.set k r } ∧ Below w.heap.size w w' := by
  refine (rwith11_own k r hs.at hlen hk).mono ?_
  rintro e w' ⟨s, rfl, ho, hb⟩
  exact ⟨_, rfl, hs.pr hn hb ho, hb⟩
theorem FBd.see {w0 w : World} {base : Nat} {v : Value} {l : List Bd} (h : FBd w0 w base v l) : LBd w v l := by
  obtain ⟨rs, a, b, c⟩ := h
  exact ⟨rs, a.sees, b, fun j hj => ⟨(c j hj).is, (c j hj).v, (c j hj).l.sees⟩⟩
theorem FSe.see {w0 w : World} {base : Nat} {v : Value} {l : List Se} (h : FSe w0 w base v l) : LSe w v l := by
  obtain ⟨rs, a, b, c⟩ := h
  exact ⟨rs, a.sees, b, fun j hj => ⟨(c j hj).c, (c j hj).m, (c j hj).k, (c j hj).l.sees⟩⟩
theorem FEv.see {w0 w : World} {base : Nat} {v : Value} {l : List Ev} (h : FEv w0 w base v l) : LEv w v l := by
  obtain ⟨rs, a, b, c⟩ := h
  exact ⟨rs, a.sees, b, fun j hj => ⟨(c j hj).u, (c j hj).l.sees⟩⟩

/-- One of these: its list is the call's own, the rest reads so in all of Z. -/
structure BfZ (Z : World → Prop) (w : World) (base : Nat) (q : BfV) (x : Bf) : Prop where
  d : q.d = x.d
  k : q.k = x.k
  vs : ∀ W, Z W → Sees W .i64 q.vs.val x.vs
  l : OWt w base q.l.val x.l
theorem BfZ.below {Z : World → Prop} {w w' : World} {base : Nat} {q : BfV} {x : Bf} (h : BfZ Z w base q x) (hb : Below w.heap.size w w') : BfZ Z w' base q x := ⟨h.d, h.k, h.vs, h.l.below hb⟩
theorem BfZ.turn {Z : World → Prop} {w w' : World} {base : Nat} {q : BfV} {x : Bf} (h : BfZ Z w base q x) {S : TypeId → Prop} (hw : ¬ S 104) (ht : Turns S w w') : BfZ Z w' base q x := ⟨h.d, h.k, h.vs, h.l.turn hw ht⟩
theorem BfZ.at {Z : World → Prop} {w : World} {base : Nat} {q : BfV} {x : Bf} (h : BfZ Z w base q x) (h0 : Z w) : BfAt w q x := ⟨h.d, h.k, h.vs _ h0, h.l.sees⟩
def FBfZ (Z : World → Prop) (w : World) (base : Nat) (v : Value) (l : List Bf) : Prop := ∃ rs : List BfV, OBfV w base v rs ∧ rs.length = l.length ∧ ∀ j, j < rs.length → BfZ Z w base (rs.getD j BfV.zero) (l.getD j Bf.zero)
theorem FBfZ.below {Z : World → Prop} {w w' : World} {base : Nat} {v : Value} {l : List Bf} (h : FBfZ Z w base v l) (hb : Below w.heap.size w w') : FBfZ Z w' base v l := by
  obtain ⟨rs, a, b, c⟩ := h
  exact ⟨rs, a.below hb, b, fun j hj => (c j hj).below hb⟩
theorem FBfZ.turn {Z : World → Prop} {w w' : World} {base : Nat} {v : Value} {l : List Bf} (h : FBfZ Z w base v l) {S : TypeId → Prop} (hs : ¬ S 69) (hw : ¬ S 104) (ht : Turns S w w') : FBfZ Z w' base v l := by
  obtain ⟨rs, a, b, c⟩ := h
  exact ⟨rs, a.turn hs ht, b, fun j hj => (c j hj).turn hw ht⟩
theorem FBfZ.at {Z : World → Prop} {w : World} {base : Nat} {v : Value} {l : List Bf} (h : FBfZ Z w base v l) (h0 : Z w) : LBf w v l := by
  obtain ⟨rs, a, b, c⟩ := h
  exact ⟨rs, a.sees, b, fun j hj => (c j hj).at h0⟩
/-- The first k are left. -/
def MBfZ (Z : World → Prop) (w : World) (base : Nat) (i : Int) (k : Nat) (v : Value) (l : List Bf) : Prop := ∃ rs : List BfV, OBfV w base v rs ∧ rs.length = l.length ∧ (∀ j, j < rs.length → j < k → BfZ Z w base (rs.getD j BfV.zero) (outBf i (l.getD j Bf.zero))) ∧ (∀ j, j < rs.length → k ≤ j → (∀ W, Z W → BfAt W (rs.getD j BfV.zero) (l.getD j Bf.zero)))
theorem MBfZ.start {Z : World → Prop} {w : World} {base : Nat} {v : Value} {l : List Bf} {rs : List BfV} (i : Int) (h : OBfV w base v rs) (hl : rs.length = l.length) (ha : ∀ j, j < rs.length → (∀ W, Z W → BfAt W (rs.getD j BfV.zero) (l.getD j Bf.zero))) : MBfZ Z w base i 0 v l :=
  ⟨rs, h, hl, fun j _ hj => absurd hj (Nat.not_lt_zero _), fun j hj _ => ha j hj⟩
theorem MBfZ.below {Z : World → Prop} {w w' : World} {base k : Nat} {i : Int} {v : Value} {l : List Bf} (h : MBfZ Z w base i k v l) (hb : Below w.heap.size w w') : MBfZ Z w' base i k v l := by
  obtain ⟨rs, a, b, c, d⟩ := h
  exact ⟨rs, a.below hb, b, fun j hj hk => (c j hj hk).below hb, d⟩
theorem MBfZ.turn {Z : World → Prop} {w w' : World} {base k : Nat} {i : Int} {v : Value} {l : List Bf} (h : MBfZ Z w base i k v l) {S : TypeId → Prop} (hs : ¬ S 69) (hw : ¬ S 104) (ht : Turns S w w') : MBfZ Z w' base i k v l := by
  obtain ⟨rs, a, b, c, d⟩ := h
  exact ⟨rs, a.turn hs ht, b, fun j hj hk => (c j hj hk).turn hw ht, d⟩
theorem MBfZ.done {Z : World → Prop} {w : World} {base : Nat} {i : Int} {v : Value} {l : List Bf} (h : MBfZ Z w base i l.length v l) : FBfZ Z w base v (l.map (outBf i)) := by
  obtain ⟨rs, a, b, c, d⟩ := h
  refine ⟨rs, a, by rw [b, List.length_map], fun j hj => ?_⟩
  have h1 := c j hj (by omega)
  have hj' : j < l.length := by omega
  have e : (l.map (outBf i)).getD j Bf.zero = outBf i (l.getD j Bf.zero) := by simp [List.getD, hj']
  rw [e]
  exact h1
theorem MBfZ.free {Z : World → Prop} {w : World} {base k g n cap : Nat} {i : Int} {l : List Bf} (h : MBfZ Z w base i k (.slice (some ⟨g, 0, none⟩) n cap) l) (hn : n = l.length) (j : Nat) : w.frozen? ⟨g, j, none⟩ = false := by
  obtain ⟨rs, a, b, _⟩ := h
  subst hn
  rw [← b] at a
  exact World.ownsRow.frozenAt a j
theorem MBfZ.get {Z : World → Prop} {w : World} {base k g n cap : Nat} {i : Int} {l : List Bf} (h : MBfZ Z w base i k (.slice (some ⟨g, 0, none⟩) n cap) l) {w1 : World} (hz : Z w1) (hn : n = l.length) (hk : k < l.length) : ∃ s : Sl, w.cell? ⟨g, k * 4 + 3, none⟩ = some (.slice s.a s.n s.c) ∧ SeesWt w1 (.slice s.a s.n s.c) (l.getD k Bf.zero).l := by
  obtain ⟨rs, a, b, _, d⟩ := h
  subst hn
  rw [← b] at a
  refine ⟨(rs.getD k BfV.zero).l, ?_, (d k (by omega) (Nat.le_refl _) w1 hz).l⟩
  rw [World.ownsRow.cellAt a (k * 4 + 3) (by omega), flat_get 4 _ (lensBfV rs) k 3 (by simp; omega) (by decide), cells_getDBfV rs k (by omega)]
  rfl
theorem MBfZ.turns {Z : World → Prop} {w : World} {base k g n cap j : Nat} {i : Int} {l : List Bf} (h : MBfZ Z w base i k (.slice (some ⟨g, 0, none⟩) n cap) l) (hn : n = l.length) (u : Value) : Turns (fun t => t = 69) w (w.setCell ⟨g, j, none⟩ u) := by
  obtain ⟨rs, a, b, _⟩ := h
  subst hn
  rw [← b] at a
  exact Turns.boxed (S := fun t => t = 69) a rfl u
theorem MBfZ.put {Z : World → Prop} {w : World} {base k g n cap : Nat} {i : Int} {l : List Bf} (h : MBfZ Z w base i k (.slice (some ⟨g, 0, none⟩) n cap) l) {w1 : World} (hz : Z w1) (hn : n = l.length) (hk : k < l.length) (s : Sl) (ho : OWt w base (.slice s.a s.n s.c) ((l.getD k Bf.zero).l.filter fun x => !isW i x)) :
    MBfZ Z (w.setCell ⟨g, k * 4 + 3, none⟩ (.slice s.a s.n s.c)) base i (k + 1) (.slice (some ⟨g, 0, none⟩) n cap) l := by
  have ht := h.turns (j := k * 4 + 3) hn (.slice s.a s.n s.c)
  obtain ⟨rs, a, b, c, d⟩ := h
  subst hn
  rw [← b] at a
  have hkr : k < rs.length := by omega
  have h1 := (World.ownsRow.stored a (k * 4 + 3) (.slice s.a s.n s.c)).1
  rw [flat_set 4 _ (lensBfV rs) k 3 _ (by simpa using hkr) (by decide), cells_getDBfV rs k hkr, show ((rs.getD k BfV.zero).cells.set 3 (.slice s.a s.n s.c)) = BfV.cells { rs.getD k BfV.zero with l := s } from rfl, ← List.map_set] at h1
  rw [← b]
  refine ⟨rs.set k { rs.getD k BfV.zero with l := s }, by unfold OBfV; rw [List.length_set]; exact h1, by rw [List.length_set]; exact b, fun j hj hj1 => ?_, fun j hj hj1 => ?_⟩
  · rw [List.length_set] at hj
    by_cases e : j = k
    · subst e
      have hd := d j hkr (Nat.le_refl _)
      have e1 : (rs.set j { rs.getD j BfV.zero with l := s }).getD j BfV.zero = { rs.getD j BfV.zero with l := s } := by simp [List.getD, hkr]
      rw [e1]
      exact ⟨(hd w1 hz).d, (hd w1 hz).k, fun W hW => (hd W hW).vs, OWt.turn (S := fun t => t = 69) ho (by decide) ht⟩
    · have e1 : (rs.set k { rs.getD k BfV.zero with l := s }).getD j BfV.zero = rs.getD j BfV.zero := by simp [List.getD, List.getElem?_set_ne (Ne.symm e)]
      rw [e1]
      exact (c j hj (by omega)).turn (S := fun t => t = 69) (by decide) ht
  · rw [List.length_set] at hj
    have e1 : (rs.set k { rs.getD k BfV.zero with l := s }).getD j BfV.zero = rs.getD j BfV.zero := by simp [List.getD, List.getElem?_set_ne (show k ≠ j by omega)]
    rw [e1]
    exact d j hj (by omega)

set_option maxRecDepth 100000 in
set_option maxHeartbeats 6400000 in
theorem rleave_z {n : Nat} {q : PaV} {c : Pa} {w : World} {i : Int} (hz : PaZ n w q c) (hn : n ≤ w.heap.size) (hsm : c.small) :
    Calls Try.prog 36 #[q.val, .int .i64 i] w fun e w' => ∃ q', e = .returned (PaV.val q') ∧ PaZ n w' q' (leaveP c (isW i)) ∧ Below w.heap.size w w' := by
  have ha := hz.at
  have HZ0 := hid hz.1
  have HN := hid hn
  have H0 := hid (Below.refl w.heap.size w)
  have h0s : w.heap.size ≤ w.heap.size := Nat.le_refl _
  have HSm := hid hsm
  have HB := hid (Below.refl w.heap.size w)
  have HKw := hid (Keep.refl n w)
  obtain ⟨rBd, hsBd, hlBd, haBd⟩ := ha.bo
  have HSBd := hid hsBd
  have HLBd := hid hlBd
  have HABd := hid haBd
  clear hsBd hlBd haBd
  obtain ⟨rBf, hlBf, hkBf⟩ := hz.2
  have HSBf := hid (hkBf w (Keep.refl n w)).1
  have HLBf := hid hlBf
  have HABf := hid (show ∀ j, j < rBf.length → ∀ W, Keep n w W → BfAt W (rBf.getD j BfV.zero) (c.bu.getD j Bf.zero) from fun j hj W hW => (hkBf W hW).2 j hj)
  clear hlBf hkBf hz hn
  obtain ⟨rSe, hsSe, hlSe, haSe⟩ := ha.se
  have HSSe := hid hsSe
  have HLSe := hid hlSe
  have HASe := hid haSe
  clear hsSe hlSe haSe
  obtain ⟨rEv, hsEv, hlEv, haEv⟩ := ha.ev
  have HSEv := hid hsEv
  have HLEv := hid hlEv
  have HAEv := hid haEv
  clear hsEv hlEv haEv
  clear ha hsm
  go_enter Try.func36, Try.ntmps36
  go_wp2_with (first
    | (refine wpList_box rfl 39 (.tmp 0) rfl (PaV.cells q).toArray rfl ?_
       intro v1 b h z
       have PB := hid (show BoxAt v1 w.heap.size 39 (PaV.cells q).toArray from b)
       have HB := hid (HB.out.trans (h.mono HB.out.size))
       have hsv1 : w.heap.size + 1 ≤ v1.heap.size := by omega
       clear b h z)
    | (refine wpList_new rfl 39 rfl _ Try.zeroPa ?_
       intro v2 b h z
       have RB := hid (show BoxAt v2 v1.heap.size 39 (PaV.cells PaV.zero).toArray from b)
       have PB := hid (PB.out.belowAll h)
       have HB := hid (HB.out.trans (h.mono HB.out.size))
       have hsv2 : v1.heap.size + 1 ≤ v2.heap.size := by omega
       have kA : v2.cell? ⟨w.heap.size, 5, none⟩ = some (.slice q.bo.a q.bo.n q.bo.c) := (BoxAt.cell PB.out 5).trans rfl
       clear b h z)
    | (at_builtin
       refine app_row 67 30 3 40 _ Try.underlying30 Try.infoOBdV rfl (by decide) (by decide) rfl _ _ rfl v2.heap.size _ 0 [] rfl (OBdV.nil _ _) _ (rBd.map BdV.cells) rfl (HSBd.out.below (H0.out.trans (HB.out.mono h0s))) (lensBdV _) (oneBdV _) (by have h1 := HSm.out.bo; have h2 := HLBd.out; simp only [List.length_map]; omega) (Nat.le_refl _) ?_
       intro u uBd ho hg hb
       have ho : OBdV uBd v2.heap.size u rBd := by simpa [OBdV] using ho
       obtain ⟨aBd, cBd, hu, hx1, hx2, hx3⟩ := row_form (show uBd.ownsRow v2.heap.size 67 3 u c.bo.length (rBd.map BdV.cells).flatten from by rw [← HLBd.out]; exact ho)
       subst hu
       have HM := hid (MBd.start (w0 := w) i ho HLBd.out HABd.out)
       have HGBd := hid hx3
       have hclBd : c.bo.length ≤ cBd := hx1
       have hcmBd : cBd ≤ 9223372036854775807 := hx2
       have PB := hid (PB.out.belowAll hb)
       have RB := hid (RB.out.belowAll hb)
       have HB := hid (HB.out.trans (hb.mono HB.out.size))
       have hsuBd : v2.heap.size ≤ uBd.heap.size := hb.size
       clear ho hg hb hx1 hx2 hx3 kA)
    | (refine wpList_store_box rfl 30 _ _ rfl rfl w.heap.size 5 (.slice aBd c.bo.length cBd) rfl rfl rfl rfl (by kernel_rfl) _ _ PB.out (by simp [PaV.cells]) ?_
       intro sBd b g z
       have HT := hid (Turns.grown (S := fun t => t = 39) PB.out b rfl g)
       have HM := hid (HM.out.turn (S := fun t => t = 39) (by decide) (by decide) HT.out)
       have hssBd : uBd.heap.size ≤ sBd.heap.size := by omega
       have PB := hid (show BoxAt sBd w.heap.size 39 (PaV.cells { q with bo := ⟨aBd, c.bo.length, cBd⟩ }).toArray by simpa [PaV.cells] using b)
       have RB := hid (RB.out.grown g (fun e => by have := Option.some.inj e; omega))
       have HB := hid (HB.out.trans (grown_below g (Nat.le_refl _) (by omega)))
       have kP : sBd.cell? ⟨w.heap.size, 5, none⟩ = some (.slice aBd c.bo.length cBd) := (BoxAt.cell PB.out 5).trans rfl
       clear b g z HT)
    | fail)
  go_loopw [5] (fun t wr => ∃ k : Nat, k ≤ c.bo.length ∧ t = .int .i64 k ∧ Hid (MBd w wr v2.heap.size i k (.slice aBd c.bo.length cBd) c.bo) ∧ Hid (BoxAt wr w.heap.size 39 (PaV.cells { q with bo := ⟨aBd, c.bo.length, cBd⟩ }).toArray) ∧ Hid (BoxAt wr v1.heap.size 39 (PaV.cells PaV.zero).toArray) ∧ Hid (Below w.heap.size w wr) ∧ sBd.heap.size ≤ wr.heap.size) (fun t _ => c.bo.length - (intOf t).toNat)
  case atStart => exact ⟨0, by omega, rfl, HM, PB, RB, HB, Nat.le_refl _⟩
  case round =>
    clear kP HM PB RB HB
    obtain ⟨k, hk, rfl, HM, PB, RB, HB, hsr⟩ := hrel
    have kP : wr.cell? ⟨w.heap.size, 5, none⟩ = some (.slice aBd c.bo.length cBd) := (BoxAt.cell PB.out 5).trans rfl
    by_cases hlt : k < c.bo.length
    · obtain ⟨g, rfl, hg1, hg2⟩ := HGBd.out (by omega)
      have HLt := hid hlt
      go_wp2_with fail
      have HM := hid (HM.out.below ((Below.refl _ _).drew))
      have PB := hid (BoxAt.drew PB.out)
      have RB := hid (BoxAt.drew RB.out)
      have HB := hid HB.out.drew
      have hsr : sBd.heap.size ≤ wr.drew.heap.size := hsr
      have kP : wr.drew.cell? ⟨w.heap.size, 5, none⟩ = some (.slice (some ⟨g, 0, none⟩) c.bo.length cBd) := (BoxAt.cell PB.out 5).trans rfl
      obtain ⟨sl, hsl1, hsl2⟩ := HM.out.get rfl hlt
      have HSl := hid hsl2
      clear hsl2
      refine wp_region_held_drew (S := (fun W => W.cell? ⟨w.heap.size, 5, none⟩ = some (.slice (some ⟨g, 0, none⟩) c.bo.length cBd))) (by kernel_rfl) (kP) (fun hHeld => ?_)
      refine wpAnyH_take (i := 0) (oi := { dst := some 20, op := Op.fieldAddr 39 (Operand.tmp 2) 5, type := 0, pos := "ref.go:53", after := #[], guard := none }) (v := ?v1) rfl (by kernel_rfl) (by kernel_rfl) (by kernel_rfl) (fun _ _ _ h => h) (Or.inl ⟨by rfl, ?hy1⟩) (by assumption) ?rest1
      case hy1 => (intro w hSw; (try dsimp only at hSw); go_simp; try with_reducible rfl)
      simp only [Act.put, List.setIfInBounds_toArray, List.set_cons_zero, List.set_cons_succ]
      refine wpAnyH_take (i := 1) (oi := { dst := some 21, op := Op.load 30 (Operand.tmp 20), type := 30, pos := "ref.go:53", after := #[{ on := 0, ground := Ground.data }], guard := none }) (v := ?v2) rfl (by kernel_rfl) (by kernel_rfl) (by kernel_rfl) (fun _ _ _ h => h) (Or.inl ⟨by rfl, ?hy2⟩) (by assumption) ?rest2
      case hy2 => (intro w hSw; (try dsimp only at hSw); go_simp; try with_reducible rfl)
      simp only [Act.put, List.setIfInBounds_toArray, List.set_cons_zero, List.set_cons_succ]
      refine wpAnyH_take (i := 2) (oi := { dst := some 22, op := Op.move (Operand.tmp 5), type := 3, pos := "ref.go:53", after := #[], guard := none }) (v := ?v3) rfl (by kernel_rfl) (by kernel_rfl) (by kernel_rfl) (fun _ _ _ h => h) (Or.inl ⟨by rfl, ?hy3⟩) (by assumption) ?rest3
      case hy3 => (intro w hSw; (try dsimp only at hSw); go_simp; try with_reducible rfl)
      simp only [Act.put, List.setIfInBounds_toArray, List.set_cons_zero, List.set_cons_succ]
      refine wpAnyH_take (i := 3) (oi := { dst := some 23, op := Op.fieldAddr 39 (Operand.tmp 2) 5, type := 0, pos := "ref.go:53", after := #[], guard := none }) (v := ?v4) rfl (by kernel_rfl) (by kernel_rfl) (by kernel_rfl) (fun _ _ _ h => h) (Or.inl ⟨by rfl, ?hy4⟩) (by assumption) ?rest4
      case hy4 => (intro w hSw; (try dsimp only at hSw); go_simp; try with_reducible rfl)
      simp only [Act.put, List.setIfInBounds_toArray, List.set_cons_zero, List.set_cons_succ]
      refine wpAnyH_take (i := 4) (oi := { dst := some 24, op := Op.load 30 (Operand.tmp 23), type := 30, pos := "ref.go:53", after := #[{ on := 3, ground := Ground.data }], guard := none }) (v := ?v5) rfl (by kernel_rfl) (by kernel_rfl) (by kernel_rfl) (fun _ _ _ h => h) (Or.inl ⟨by rfl, ?hy5⟩) (by assumption) ?rest5
      case hy5 => (intro w hSw; (try dsimp only at hSw); go_simp; try with_reducible rfl)
      simp only [Act.put, List.setIfInBounds_toArray, List.set_cons_zero, List.set_cons_succ]
      refine wpAnyH_take (i := 5) (oi := { dst := some 25, op := Op.move (Operand.tmp 5), type := 3, pos := "ref.go:53", after := #[], guard := none }) (v := ?v6) rfl (by kernel_rfl) (by kernel_rfl) (by kernel_rfl) (fun _ _ _ h => h) (Or.inl ⟨by rfl, ?hy6⟩) (by assumption) ?rest6
      case hy6 => (intro w hSw; (try dsimp only at hSw); go_simp; try with_reducible rfl)
      simp only [Act.put, List.setIfInBounds_toArray, List.set_cons_zero, List.set_cons_succ]
      refine wpAnyH_take (i := 6) (oi := { dst := some 26, op := Op.indexAddr 30 (Operand.tmp 24) (Operand.tmp 25), type := 0, pos := "ref.go:53", after := #[{ on := 4, ground := Ground.data }, { on := 5, ground := Ground.data }], guard := none }) (v := ?v7) rfl (by kernel_rfl) (by kernel_rfl) (by kernel_rfl) (fun _ _ _ h => h) (Or.inl ⟨by rfl, ?hy7⟩) (by assumption) ?rest7
      case hy7 => (intro w hSw; (try dsimp only at hSw); go_simp; try with_reducible rfl)
      simp only [Act.put, List.setIfInBounds_toArray, List.set_cons_zero, List.set_cons_succ]
      refine wpAnyH_take (i := 7) (oi := { dst := some 27, op := Op.fieldAddr 67 (Operand.tmp 26) 2, type := 0, pos := "ref.go:53", after := #[{ on := 6, ground := Ground.data }], guard := none }) (v := ?v8) rfl (by kernel_rfl) (by kernel_rfl) (by kernel_rfl) (fun _ _ _ h => h) (Or.inl ⟨by rfl, ?hy8⟩) (by assumption) ?rest8
      case hy8 => (intro w hSw; (try dsimp only at hSw); go_simp; try with_reducible rfl)
      simp only [Act.put, List.setIfInBounds_toArray, List.set_cons_zero, List.set_cons_succ]
      refine wpAnyH_take (i := 9) (oi := { dst := some 29, op := Op.move (Operand.tmp 1), type := 3, pos := "ref.go:53", after := #[], guard := none }) (v := ?v9) rfl (by kernel_rfl) (by kernel_rfl) (by kernel_rfl) (fun _ _ _ h => h) (Or.inl ⟨by rfl, ?hy9⟩) (by assumption) ?rest9
      case hy9 => (intro w hSw; (try dsimp only at hSw); go_simp; try with_reducible rfl)
      simp only [Act.put, List.setIfInBounds_toArray, List.set_cons_zero, List.set_cons_succ]
      refine wpAnyH_ready (rs := [8]) (by kernel_rfl) (by simp) (AllReadyH.cons (o := { dst := some 28, op := Op.load 65 (Operand.tmp 27), type := 65, pos := "ref.go:53", after := #[{ on := 7, ground := Ground.data }], guard := none }) rfl (fun K10 hK10 => ?_) AllReadyH.nil)
      go_simp
      refine hK10.out _ _ (hHeld) (fun hHeld10 => ?_)
      clear hK10 K10
      try simp only [Act.put, List.setIfInBounds_toArray, List.set_cons_zero, List.set_cons_succ]
      refine wpAnyH_ready (rs := [10]) (by kernel_rfl) (by simp) (AllReadyH.cons (o := { dst := some 30, op := Op.call { callee := Callee.value (Operand.func 54), args := #[Operand.tmp 28, Operand.tmp 29], argTypes := #[65, 3] }, type := 65, pos := "ref.go:53", after := #[{ on := 8, ground := Ground.data }, { on := 9, ground := Ground.data }], guard := none }) rfl (fun K11 hK11 => ?_) AllReadyH.nil)
      go_simp
      refine (rwithout_any i (HSl.out.below (H0.out.trans (HB.out.mono h0s))) (HSm.out.bol _ (mem_getD Bd.zero HLt.out))).mono ?_
      rintro e vc ⟨u, rfl, ho, hb⟩
      obtain ⟨s, rfl⟩ := OWt.sl ho
      have HO := hid (OWt.mono ho (show v2.heap.size ≤ wr.drew.heap.size by omega))
      have HM := hid (HM.out.below hb)
      have PB := hid (PB.out.belowAll hb)
      have RB := hid (RB.out.belowAll hb)
      have HB := hid (HB.out.trans (hb.mono HB.out.size))
      have hsc : wr.drew.heap.size ≤ vc.heap.size := hb.size
      obtain ⟨_, hsl3, _⟩ := HM.out.get rfl HLt.out
      have HC3 := hid hsl3
      clear ho hb hsl1 hsl3 kP
      refine hK11.out _ _ ((BoxAt.cell PB.out 5).trans rfl) (fun hHeld11 => ?_)
      clear hK11 K11
      try simp only [Act.put, List.setIfInBounds_toArray, List.set_cons_zero, List.set_cons_succ]
      refine wpAnyH_take (i := 11) (oi := { dst := some 31, op := Op.indexAddr 30 (Operand.tmp 21) (Operand.tmp 22), type := 0, pos := "ref.go:53", after := #[{ on := 1, ground := Ground.data }, { on := 2, ground := Ground.data }, { on := 0, ground := Ground.phase }, { on := 1, ground := Ground.phase }, { on := 2, ground := Ground.phase }, { on := 3, ground := Ground.phase }, { on := 4, ground := Ground.phase }, { on := 5, ground := Ground.phase }, { on := 6, ground := Ground.phase }, { on := 7, ground := Ground.phase }, { on := 8, ground := Ground.phase }, { on := 9, ground := Ground.phase }, { on := 10, ground := Ground.phase }], guard := none }) (v := ?v12) rfl (by kernel_rfl) (by kernel_rfl) (by kernel_rfl) (fun _ _ _ h => h) (Or.inl ⟨by rfl, ?hy12⟩) (by assumption) ?rest12
      case hy12 => (intro w hSw; (try dsimp only at hSw); go_simp; try with_reducible rfl)
      simp only [Act.put, List.setIfInBounds_toArray, List.set_cons_zero, List.set_cons_succ]
      refine wpAnyH_take (i := 12) (oi := { dst := some 32, op := Op.fieldAddr 67 (Operand.tmp 31) 2, type := 0, pos := "ref.go:53", after := #[{ on := 11, ground := Ground.data }, { on := 0, ground := Ground.phase }, { on := 1, ground := Ground.phase }, { on := 2, ground := Ground.phase }, { on := 3, ground := Ground.phase }, { on := 4, ground := Ground.phase }, { on := 5, ground := Ground.phase }, { on := 6, ground := Ground.phase }, { on := 7, ground := Ground.phase }, { on := 8, ground := Ground.phase }, { on := 9, ground := Ground.phase }, { on := 10, ground := Ground.phase }], guard := none }) (v := ?v13) rfl (by kernel_rfl) (by kernel_rfl) (by kernel_rfl) (fun _ _ _ h => h) (Or.inl ⟨by rfl, ?hy13⟩) (by assumption) ?rest13
      case hy13 => (intro w hSw; (try dsimp only at hSw); go_simp; try with_reducible rfl)
      simp only [Act.put, List.setIfInBounds_toArray, List.set_cons_zero, List.set_cons_succ]
      refine wpAnyH_ready (rs := [13]) (by kernel_rfl) (by simp) (AllReadyH.cons (o := { dst := none, op := Op.store 65 (Operand.tmp 32) (Operand.tmp 30), type := 0, pos := "ref.go:53", after := #[{ on := 12, ground := Ground.data }, { on := 10, ground := Ground.data }, { on := 10, ground := Ground.chain }, { on := 0, ground := Ground.phase }, { on := 1, ground := Ground.phase }, { on := 2, ground := Ground.phase }, { on := 3, ground := Ground.phase }, { on := 4, ground := Ground.phase }, { on := 5, ground := Ground.phase }, { on := 6, ground := Ground.phase }, { on := 7, ground := Ground.phase }, { on := 8, ground := Ground.phase }, { on := 9, ground := Ground.phase }, { on := 10, ground := Ground.phase }], guard := none }) rfl (fun K14 hK14 => ?_) AllReadyH.nil)
      refine wp_store_at 65 _ _ rfl g (k * 3 + 2) (.slice s.a s.n s.c) rfl rfl rfl rfl (by kernel_rfl) _ HC3.out (HM.out.free rfl _) ?_
      have HT := hid (HM.out.turns (j := k * 3 + 2) rfl (.slice s.a s.n s.c))
      have HM := hid (HM.out.put rfl HLt.out s HO.out)
      have PB := hid (PB.out.grown (grown_set vc g (k * 3 + 2) (.slice s.a s.n s.c)) (fun e => by have := Option.some.inj e; omega))
      have RB := hid (RB.out.grown (grown_set vc g (k * 3 + 2) (.slice s.a s.n s.c)) (fun e => by have := Option.some.inj e; omega))
      have HB := hid (HB.out.setCell (p := ⟨g, k * 3 + 2, none⟩) (show w.heap.size ≤ g by omega) (.slice s.a s.n s.c))
      have hsw : sBd.heap.size ≤ (vc.setCell ⟨g, k * 3 + 2, none⟩ (.slice s.a s.n s.c)).heap.size := by simp; omega
      obtain ⟨vs, hvs⟩ : ∃ W, vc.setCell ⟨g, k * 3 + 2, none⟩ (.slice s.a s.n s.c) = W := ⟨_, rfl⟩
      rw [hvs] at HM PB RB HB hsw ⊢
      clear hvs HT HC3
      refine hK14.out _ _ ((BoxAt.cell PB.out 5).trans rfl) (fun hHeld14 => ?_)
      clear hK14 K14
      try simp only [Act.put]
      refine wpAnyH_done (by kernel_rfl) ?_ _
      clear hHeld hHeld10 hHeld11 hHeld14
      go_wp2_with fail
      go_roundw
      case rel => exact ⟨k + 1, by have := HLt.out; omega, by go_num, HM, PB, RB, HB, by omega⟩
      case measure => have := HLt.out; simp [intOf]; omega
    · obtain rfl : k = c.bo.length := by omega
      have HFBd := hid HM.out.done
      clear HM
      have hsrBd := hsr
      clear hsr hk hlt
      obtain ⟨xBd, hxBd⟩ : ∃ W, W = wr := ⟨_, rfl⟩
      subst hxBd
      have kA : xBd.cell? ⟨w.heap.size, 6, none⟩ = some (.slice q.bu.a q.bu.n q.bu.c) := (BoxAt.cell PB.out 6).trans rfl
      go_wp2_with (first
        | (at_builtin
           refine app_row 69 31 4 64 _ Try.underlying31 Try.infoOBfV rfl (by decide) (by decide) rfl _ _ rfl xBd.heap.size _ 0 [] rfl (OBfV.nil _ _) _ (rBf.map BfV.cells) rfl (HSBf.out.below (H0.out.trans (HB.out.mono h0s))) (lensBfV _) (oneBfV _) (by have h1 := HSm.out.bu; have h2 := HLBf.out; simp only [List.length_map]; omega) (Nat.le_refl _) ?_
           intro u uBf ho hg hb
           have ho : OBfV uBf xBd.heap.size u rBf := by simpa [OBfV] using ho
           obtain ⟨aBf, cBf, hu, hx1, hx2, hx3⟩ := row_form (show uBf.ownsRow xBd.heap.size 69 4 u c.bu.length (rBf.map BfV.cells).flatten from by rw [← HLBf.out]; exact ho)
           subst hu
           have HM := hid (MBfZ.start (Z := Keep n w) i ho HLBf.out HABf.out)
           have HGBf := hid hx3
           have hclBf : c.bu.length ≤ cBf := hx1
           have hcmBf : cBf ≤ 9223372036854775807 := hx2
           have HFBd := hid (HFBd.out.below hb)
           have PB := hid (PB.out.belowAll hb)
           have RB := hid (RB.out.belowAll hb)
           have HB := hid (HB.out.trans (hb.mono HB.out.size))
           have hsuBf : xBd.heap.size ≤ uBf.heap.size := hb.size
           clear ho hg hb hx1 hx2 hx3 kA)
        | (refine wpList_store_box rfl 31 _ _ rfl rfl w.heap.size 6 (.slice aBf c.bu.length cBf) rfl rfl rfl rfl (by kernel_rfl) _ _ PB.out (by simp [PaV.cells]) ?_
           intro sBf b g z
           have HT := hid (Turns.grown (S := fun t => t = 39) PB.out b rfl g)
           have HM := hid (HM.out.turn (S := fun t => t = 39) (by decide) (by decide) HT.out)
           have HFBd := hid (HFBd.out.turn (S := fun t => t = 39) (by decide) (by decide) HT.out)
           have hssBf : uBf.heap.size ≤ sBf.heap.size := by omega
           have PB := hid (show BoxAt sBf w.heap.size 39 (PaV.cells { { q with bo := ⟨aBd, c.bo.length, cBd⟩ } with bu := ⟨aBf, c.bu.length, cBf⟩ }).toArray by simpa [PaV.cells] using b)
           have RB := hid (RB.out.grown g (fun e => by have := Option.some.inj e; omega))
           have HB := hid (HB.out.trans (grown_below g (Nat.le_refl _) (by omega)))
           have kP : sBf.cell? ⟨w.heap.size, 6, none⟩ = some (.slice aBf c.bu.length cBf) := (BoxAt.cell PB.out 6).trans rfl
           clear b g z HT)
        | fail)
      go_loopw [6] (fun t wr => ∃ k : Nat, k ≤ c.bu.length ∧ t = .int .i64 k ∧ Hid (MBfZ (Keep n w) wr xBd.heap.size i k (.slice aBf c.bu.length cBf) c.bu) ∧ Hid (BoxAt wr w.heap.size 39 (PaV.cells { { q with bo := ⟨aBd, c.bo.length, cBd⟩ } with bu := ⟨aBf, c.bu.length, cBf⟩ }).toArray) ∧ Hid (BoxAt wr v1.heap.size 39 (PaV.cells PaV.zero).toArray) ∧ Hid (FBd w wr v2.heap.size (.slice aBd c.bo.length cBd) (c.bo.map (outBd i))) ∧ Hid (Below w.heap.size w wr) ∧ sBf.heap.size ≤ wr.heap.size) (fun t _ => c.bu.length - (intOf t).toNat)
      case atStart => exact ⟨0, by omega, rfl, HM, PB, RB, HFBd, HB, Nat.le_refl _⟩
      case round =>
        clear kP HM PB RB HFBd HB
        obtain ⟨k, hk, rfl, HM, PB, RB, HFBd, HB, hsr⟩ := hrel
        have kP : wr.cell? ⟨w.heap.size, 6, none⟩ = some (.slice aBf c.bu.length cBf) := (BoxAt.cell PB.out 6).trans rfl
        by_cases hlt : k < c.bu.length
        · obtain ⟨g, rfl, hg1, hg2⟩ := HGBf.out (by omega)
          have HLt := hid hlt
          go_wp2_with fail
          have HM := hid (HM.out.below ((Below.refl _ _).drew))
          have PB := hid (BoxAt.drew PB.out)
          have RB := hid (BoxAt.drew RB.out)
          have HFBd := hid (HFBd.out.below ((Below.refl _ _).drew))
          have HB := hid HB.out.drew
          have hsr : sBf.heap.size ≤ wr.drew.heap.size := hsr
          have kP : wr.drew.cell? ⟨w.heap.size, 6, none⟩ = some (.slice (some ⟨g, 0, none⟩) c.bu.length cBf) := (BoxAt.cell PB.out 6).trans rfl
          obtain ⟨sl, hsl1, hsl2⟩ := HM.out.get HKw.out rfl hlt
          have HSl := hid hsl2
          clear hsl2
          refine wp_region_held_drew (S := (fun W => W.cell? ⟨w.heap.size, 6, none⟩ = some (.slice (some ⟨g, 0, none⟩) c.bu.length cBf))) (by kernel_rfl) (kP) (fun hHeld => ?_)
          refine wpAnyH_take (i := 0) (oi := { dst := some 44, op := Op.fieldAddr 39 (Operand.tmp 2) 6, type := 0, pos := "ref.go:57", after := #[], guard := none }) (v := ?v101) rfl (by kernel_rfl) (by kernel_rfl) (by kernel_rfl) (fun _ _ _ h => h) (Or.inl ⟨by rfl, ?hy101⟩) (by assumption) ?rest101
          case hy101 => (intro w hSw; (try dsimp only at hSw); go_simp; try with_reducible rfl)
          simp only [Act.put, List.setIfInBounds_toArray, List.set_cons_zero, List.set_cons_succ]
          refine wpAnyH_take (i := 1) (oi := { dst := some 45, op := Op.load 31 (Operand.tmp 44), type := 31, pos := "ref.go:57", after := #[{ on := 0, ground := Ground.data }], guard := none }) (v := ?v102) rfl (by kernel_rfl) (by kernel_rfl) (by kernel_rfl) (fun _ _ _ h => h) (Or.inl ⟨by rfl, ?hy102⟩) (by assumption) ?rest102
          case hy102 => (intro w hSw; (try dsimp only at hSw); go_simp; try with_reducible rfl)
          simp only [Act.put, List.setIfInBounds_toArray, List.set_cons_zero, List.set_cons_succ]
          refine wpAnyH_take (i := 2) (oi := { dst := some 46, op := Op.move (Operand.tmp 6), type := 3, pos := "ref.go:57", after := #[], guard := none }) (v := ?v103) rfl (by kernel_rfl) (by kernel_rfl) (by kernel_rfl) (fun _ _ _ h => h) (Or.inl ⟨by rfl, ?hy103⟩) (by assumption) ?rest103
          case hy103 => (intro w hSw; (try dsimp only at hSw); go_simp; try with_reducible rfl)
          simp only [Act.put, List.setIfInBounds_toArray, List.set_cons_zero, List.set_cons_succ]
          refine wpAnyH_take (i := 3) (oi := { dst := some 47, op := Op.fieldAddr 39 (Operand.tmp 2) 6, type := 0, pos := "ref.go:57", after := #[], guard := none }) (v := ?v104) rfl (by kernel_rfl) (by kernel_rfl) (by kernel_rfl) (fun _ _ _ h => h) (Or.inl ⟨by rfl, ?hy104⟩) (by assumption) ?rest104
          case hy104 => (intro w hSw; (try dsimp only at hSw); go_simp; try with_reducible rfl)
          simp only [Act.put, List.setIfInBounds_toArray, List.set_cons_zero, List.set_cons_succ]
          refine wpAnyH_take (i := 4) (oi := { dst := some 48, op := Op.load 31 (Operand.tmp 47), type := 31, pos := "ref.go:57", after := #[{ on := 3, ground := Ground.data }], guard := none }) (v := ?v105) rfl (by kernel_rfl) (by kernel_rfl) (by kernel_rfl) (fun _ _ _ h => h) (Or.inl ⟨by rfl, ?hy105⟩) (by assumption) ?rest105
          case hy105 => (intro w hSw; (try dsimp only at hSw); go_simp; try with_reducible rfl)
          simp only [Act.put, List.setIfInBounds_toArray, List.set_cons_zero, List.set_cons_succ]
          refine wpAnyH_take (i := 5) (oi := { dst := some 49, op := Op.move (Operand.tmp 6), type := 3, pos := "ref.go:57", after := #[], guard := none }) (v := ?v106) rfl (by kernel_rfl) (by kernel_rfl) (by kernel_rfl) (fun _ _ _ h => h) (Or.inl ⟨by rfl, ?hy106⟩) (by assumption) ?rest106
          case hy106 => (intro w hSw; (try dsimp only at hSw); go_simp; try with_reducible rfl)
          simp only [Act.put, List.setIfInBounds_toArray, List.set_cons_zero, List.set_cons_succ]
          refine wpAnyH_take (i := 6) (oi := { dst := some 50, op := Op.indexAddr 31 (Operand.tmp 48) (Operand.tmp 49), type := 0, pos := "ref.go:57", after := #[{ on := 4, ground := Ground.data }, { on := 5, ground := Ground.data }], guard := none }) (v := ?v107) rfl (by kernel_rfl) (by kernel_rfl) (by kernel_rfl) (fun _ _ _ h => h) (Or.inl ⟨by rfl, ?hy107⟩) (by assumption) ?rest107
          case hy107 => (intro w hSw; (try dsimp only at hSw); go_simp; try with_reducible rfl)
          simp only [Act.put, List.setIfInBounds_toArray, List.set_cons_zero, List.set_cons_succ]
          refine wpAnyH_take (i := 7) (oi := { dst := some 51, op := Op.fieldAddr 69 (Operand.tmp 50) 3, type := 0, pos := "ref.go:57", after := #[{ on := 6, ground := Ground.data }], guard := none }) (v := ?v108) rfl (by kernel_rfl) (by kernel_rfl) (by kernel_rfl) (fun _ _ _ h => h) (Or.inl ⟨by rfl, ?hy108⟩) (by assumption) ?rest108
          case hy108 => (intro w hSw; (try dsimp only at hSw); go_simp; try with_reducible rfl)
          simp only [Act.put, List.setIfInBounds_toArray, List.set_cons_zero, List.set_cons_succ]
          refine wpAnyH_take (i := 9) (oi := { dst := some 53, op := Op.move (Operand.tmp 1), type := 3, pos := "ref.go:57", after := #[], guard := none }) (v := ?v109) rfl (by kernel_rfl) (by kernel_rfl) (by kernel_rfl) (fun _ _ _ h => h) (Or.inl ⟨by rfl, ?hy109⟩) (by assumption) ?rest109
          case hy109 => (intro w hSw; (try dsimp only at hSw); go_simp; try with_reducible rfl)
          simp only [Act.put, List.setIfInBounds_toArray, List.set_cons_zero, List.set_cons_succ]
          refine wpAnyH_ready (rs := [8]) (by kernel_rfl) (by simp) (AllReadyH.cons (o := { dst := some 52, op := Op.load 65 (Operand.tmp 51), type := 65, pos := "ref.go:57", after := #[{ on := 7, ground := Ground.data }], guard := none }) rfl (fun K110 hK110 => ?_) AllReadyH.nil)
          go_simp
          refine hK110.out _ _ (hHeld) (fun hHeld110 => ?_)
          clear hK110 K110
          try simp only [Act.put, List.setIfInBounds_toArray, List.set_cons_zero, List.set_cons_succ]
          refine wpAnyH_ready (rs := [10]) (by kernel_rfl) (by simp) (AllReadyH.cons (o := { dst := some 54, op := Op.call { callee := Callee.value (Operand.func 54), args := #[Operand.tmp 52, Operand.tmp 53], argTypes := #[65, 3] }, type := 65, pos := "ref.go:57", after := #[{ on := 8, ground := Ground.data }, { on := 9, ground := Ground.data }], guard := none }) rfl (fun K111 hK111 => ?_) AllReadyH.nil)
          go_simp
          refine (rwithout_any i (HSl.out.below (H0.out.trans (HB.out.mono h0s))) ((HSm.out.bul _ (mem_getD Bf.zero HLt.out)).1)).mono ?_
          rintro e vc ⟨u, rfl, ho, hb⟩
          obtain ⟨s, rfl⟩ := OWt.sl ho
          have HO := hid (OWt.mono ho (show xBd.heap.size ≤ wr.drew.heap.size by omega))
          have HM := hid (HM.out.below hb)
          have PB := hid (PB.out.belowAll hb)
          have RB := hid (RB.out.belowAll hb)
          have HFBd := hid (HFBd.out.below hb)
          have HB := hid (HB.out.trans (hb.mono HB.out.size))
          have hsc : wr.drew.heap.size ≤ vc.heap.size := hb.size
          obtain ⟨_, hsl3, _⟩ := HM.out.get HKw.out rfl HLt.out
          have HC3 := hid hsl3
          clear ho hb hsl1 hsl3 kP
          refine hK111.out _ _ ((BoxAt.cell PB.out 6).trans rfl) (fun hHeld111 => ?_)
          clear hK111 K111
          try simp only [Act.put, List.setIfInBounds_toArray, List.set_cons_zero, List.set_cons_succ]
          refine wpAnyH_take (i := 11) (oi := { dst := some 55, op := Op.indexAddr 31 (Operand.tmp 45) (Operand.tmp 46), type := 0, pos := "ref.go:57", after := #[{ on := 1, ground := Ground.data }, { on := 2, ground := Ground.data }, { on := 0, ground := Ground.phase }, { on := 1, ground := Ground.phase }, { on := 2, ground := Ground.phase }, { on := 3, ground := Ground.phase }, { on := 4, ground := Ground.phase }, { on := 5, ground := Ground.phase }, { on := 6, ground := Ground.phase }, { on := 7, ground := Ground.phase }, { on := 8, ground := Ground.phase }, { on := 9, ground := Ground.phase }, { on := 10, ground := Ground.phase }], guard := none }) (v := ?v112) rfl (by kernel_rfl) (by kernel_rfl) (by kernel_rfl) (fun _ _ _ h => h) (Or.inl ⟨by rfl, ?hy112⟩) (by assumption) ?rest112
          case hy112 => (intro w hSw; (try dsimp only at hSw); go_simp; try with_reducible rfl)
          simp only [Act.put, List.setIfInBounds_toArray, List.set_cons_zero, List.set_cons_succ]
          refine wpAnyH_take (i := 12) (oi := { dst := some 56, op := Op.fieldAddr 69 (Operand.tmp 55) 3, type := 0, pos := "ref.go:57", after := #[{ on := 11, ground := Ground.data }, { on := 0, ground := Ground.phase }, { on := 1, ground := Ground.phase }, { on := 2, ground := Ground.phase }, { on := 3, ground := Ground.phase }, { on := 4, ground := Ground.phase }, { on := 5, ground := Ground.phase }, { on := 6, ground := Ground.phase }, { on := 7, ground := Ground.phase }, { on := 8, ground := Ground.phase }, { on := 9, ground := Ground.phase }, { on := 10, ground := Ground.phase }], guard := none }) (v := ?v113) rfl (by kernel_rfl) (by kernel_rfl) (by kernel_rfl) (fun _ _ _ h => h) (Or.inl ⟨by rfl, ?hy113⟩) (by assumption) ?rest113
          case hy113 => (intro w hSw; (try dsimp only at hSw); go_simp; try with_reducible rfl)
          simp only [Act.put, List.setIfInBounds_toArray, List.set_cons_zero, List.set_cons_succ]
          refine wpAnyH_ready (rs := [13]) (by kernel_rfl) (by simp) (AllReadyH.cons (o := { dst := none, op := Op.store 65 (Operand.tmp 56) (Operand.tmp 54), type := 0, pos := "ref.go:57", after := #[{ on := 12, ground := Ground.data }, { on := 10, ground := Ground.data }, { on := 10, ground := Ground.chain }, { on := 0, ground := Ground.phase }, { on := 1, ground := Ground.phase }, { on := 2, ground := Ground.phase }, { on := 3, ground := Ground.phase }, { on := 4, ground := Ground.phase }, { on := 5, ground := Ground.phase }, { on := 6, ground := Ground.phase }, { on := 7, ground := Ground.phase }, { on := 8, ground := Ground.phase }, { on := 9, ground := Ground.phase }, { on := 10, ground := Ground.phase }], guard := none }) rfl (fun K114 hK114 => ?_) AllReadyH.nil)
          refine wp_store_at 65 _ _ rfl g (k * 4 + 3) (.slice s.a s.n s.c) rfl rfl rfl rfl (by kernel_rfl) _ HC3.out (HM.out.free rfl _) ?_
          have HT := hid (HM.out.turns (j := k * 4 + 3) rfl (.slice s.a s.n s.c))
          have HM := hid (HM.out.put HKw.out rfl HLt.out s HO.out)
          have PB := hid (PB.out.grown (grown_set vc g (k * 4 + 3) (.slice s.a s.n s.c)) (fun e => by have := Option.some.inj e; omega))
          have RB := hid (RB.out.grown (grown_set vc g (k * 4 + 3) (.slice s.a s.n s.c)) (fun e => by have := Option.some.inj e; omega))
          have HFBd := hid (HFBd.out.turn (S := fun t => t = 69) (by decide) (by decide) HT.out)
          have HB := hid (HB.out.setCell (p := ⟨g, k * 4 + 3, none⟩) (show w.heap.size ≤ g by omega) (.slice s.a s.n s.c))
          have hsw : sBf.heap.size ≤ (vc.setCell ⟨g, k * 4 + 3, none⟩ (.slice s.a s.n s.c)).heap.size := by simp; omega
          obtain ⟨vs, hvs⟩ : ∃ W, vc.setCell ⟨g, k * 4 + 3, none⟩ (.slice s.a s.n s.c) = W := ⟨_, rfl⟩
          rw [hvs] at HM PB RB HB hsw HFBd ⊢
          clear hvs HT HC3
          refine hK114.out _ _ ((BoxAt.cell PB.out 6).trans rfl) (fun hHeld114 => ?_)
          clear hK114 K114
          try simp only [Act.put]
          refine wpAnyH_done (by kernel_rfl) ?_ _
          clear hHeld hHeld110 hHeld111 hHeld114
          go_wp2_with fail
          go_roundw
          case rel => exact ⟨k + 1, by have := HLt.out; omega, by go_num, HM, PB, RB, HFBd, HB, by omega⟩
          case measure => have := HLt.out; simp [intOf]; omega
        · obtain rfl : k = c.bu.length := by omega
          have HFBf := hid HM.out.done
          clear HM
          have hsrBf := hsr
          clear hsr hk hlt
          obtain ⟨xBf, hxBf⟩ : ∃ W, W = wr := ⟨_, rfl⟩
          subst hxBf
          have kA : xBf.cell? ⟨w.heap.size, 7, none⟩ = some (.slice q.se.a q.se.n q.se.c) := (BoxAt.cell PB.out 7).trans rfl
          go_wp2_with (first
            | (at_builtin
               refine app_row 71 32 4 48 _ Try.underlying32 Try.infoOSeV rfl (by decide) (by decide) rfl _ _ rfl xBf.heap.size _ 0 [] rfl (OSeV.nil _ _) _ (rSe.map SeV.cells) rfl (HSSe.out.below (H0.out.trans (HB.out.mono h0s))) (lensSeV _) (oneSeV _) (by have h1 := HSm.out.se; have h2 := HLSe.out; simp only [List.length_map]; omega) (Nat.le_refl _) ?_
               intro u uSe ho hg hb
               have ho : OSeV uSe xBf.heap.size u rSe := by simpa [OSeV] using ho
               obtain ⟨aSe, cSe, hu, hx1, hx2, hx3⟩ := row_form (show uSe.ownsRow xBf.heap.size 71 4 u c.se.length (rSe.map SeV.cells).flatten from by rw [← HLSe.out]; exact ho)
               subst hu
               have HM := hid (MSe.start (w0 := w) i ho HLSe.out HASe.out)
               have HGSe := hid hx3
               have hclSe : c.se.length ≤ cSe := hx1
               have hcmSe : cSe ≤ 9223372036854775807 := hx2
               have HFBd := hid (HFBd.out.below hb)
               have HFBf := hid (HFBf.out.below hb)
               have PB := hid (PB.out.belowAll hb)
               have RB := hid (RB.out.belowAll hb)
               have HB := hid (HB.out.trans (hb.mono HB.out.size))
               have hsuSe : xBf.heap.size ≤ uSe.heap.size := hb.size
               clear ho hg hb hx1 hx2 hx3 kA)
            | (refine wpList_store_box rfl 32 _ _ rfl rfl w.heap.size 7 (.slice aSe c.se.length cSe) rfl rfl rfl rfl (by kernel_rfl) _ _ PB.out (by simp [PaV.cells]) ?_
               intro sSe b g z
               have HT := hid (Turns.grown (S := fun t => t = 39) PB.out b rfl g)
               have HM := hid (HM.out.turn (S := fun t => t = 39) (by decide) (by decide) HT.out)
               have HFBd := hid (HFBd.out.turn (S := fun t => t = 39) (by decide) (by decide) HT.out)
               have HFBf := hid (HFBf.out.turn (S := fun t => t = 39) (by decide) (by decide) HT.out)
               have hssSe : uSe.heap.size ≤ sSe.heap.size := by omega
               have PB := hid (show BoxAt sSe w.heap.size 39 (PaV.cells { { { q with bo := ⟨aBd, c.bo.length, cBd⟩ } with bu := ⟨aBf, c.bu.length, cBf⟩ } with se := ⟨aSe, c.se.length, cSe⟩ }).toArray by simpa [PaV.cells] using b)
               have RB := hid (RB.out.grown g (fun e => by have := Option.some.inj e; omega))
               have HB := hid (HB.out.trans (grown_below g (Nat.le_refl _) (by omega)))
               have kP : sSe.cell? ⟨w.heap.size, 7, none⟩ = some (.slice aSe c.se.length cSe) := (BoxAt.cell PB.out 7).trans rfl
               clear b g z HT)
            | fail)
          go_loopw [7] (fun t wr => ∃ k : Nat, k ≤ c.se.length ∧ t = .int .i64 k ∧ Hid (MSe w wr xBf.heap.size i k (.slice aSe c.se.length cSe) c.se) ∧ Hid (BoxAt wr w.heap.size 39 (PaV.cells { { { q with bo := ⟨aBd, c.bo.length, cBd⟩ } with bu := ⟨aBf, c.bu.length, cBf⟩ } with se := ⟨aSe, c.se.length, cSe⟩ }).toArray) ∧ Hid (BoxAt wr v1.heap.size 39 (PaV.cells PaV.zero).toArray) ∧ Hid (FBd w wr v2.heap.size (.slice aBd c.bo.length cBd) (c.bo.map (outBd i))) ∧ Hid (FBfZ (Keep n w) wr xBd.heap.size (.slice aBf c.bu.length cBf) (c.bu.map (outBf i))) ∧ Hid (Below w.heap.size w wr) ∧ sSe.heap.size ≤ wr.heap.size) (fun t _ => c.se.length - (intOf t).toNat)
          case atStart => exact ⟨0, by omega, rfl, HM, PB, RB, HFBd, HFBf, HB, Nat.le_refl _⟩
          case round =>
            clear kP HM PB RB HFBd HFBf HB
            obtain ⟨k, hk, rfl, HM, PB, RB, HFBd, HFBf, HB, hsr⟩ := hrel
            have kP : wr.cell? ⟨w.heap.size, 7, none⟩ = some (.slice aSe c.se.length cSe) := (BoxAt.cell PB.out 7).trans rfl
            by_cases hlt : k < c.se.length
            · obtain ⟨g, rfl, hg1, hg2⟩ := HGSe.out (by omega)
              have HLt := hid hlt
              go_wp2_with fail
              have HM := hid (HM.out.below ((Below.refl _ _).drew))
              have PB := hid (BoxAt.drew PB.out)
              have RB := hid (BoxAt.drew RB.out)
              have HFBd := hid (HFBd.out.below ((Below.refl _ _).drew))
              have HFBf := hid (HFBf.out.below ((Below.refl _ _).drew))
              have HB := hid HB.out.drew
              have hsr : sSe.heap.size ≤ wr.drew.heap.size := hsr
              have kP : wr.drew.cell? ⟨w.heap.size, 7, none⟩ = some (.slice (some ⟨g, 0, none⟩) c.se.length cSe) := (BoxAt.cell PB.out 7).trans rfl
              obtain ⟨sl, hsl1, hsl2⟩ := HM.out.get rfl hlt
              have HSl := hid hsl2
              clear hsl2
              refine wp_region_held_drew (S := (fun W => W.cell? ⟨w.heap.size, 7, none⟩ = some (.slice (some ⟨g, 0, none⟩) c.se.length cSe))) (by kernel_rfl) (kP) (fun hHeld => ?_)
              refine wpAnyH_take (i := 0) (oi := { dst := some 68, op := Op.fieldAddr 39 (Operand.tmp 2) 7, type := 0, pos := "ref.go:61", after := #[], guard := none }) (v := ?v201) rfl (by kernel_rfl) (by kernel_rfl) (by kernel_rfl) (fun _ _ _ h => h) (Or.inl ⟨by rfl, ?hy201⟩) (by assumption) ?rest201
              case hy201 => (intro w hSw; (try dsimp only at hSw); go_simp; try with_reducible rfl)
              simp only [Act.put, List.setIfInBounds_toArray, List.set_cons_zero, List.set_cons_succ]
              refine wpAnyH_take (i := 1) (oi := { dst := some 69, op := Op.load 32 (Operand.tmp 68), type := 32, pos := "ref.go:61", after := #[{ on := 0, ground := Ground.data }], guard := none }) (v := ?v202) rfl (by kernel_rfl) (by kernel_rfl) (by kernel_rfl) (fun _ _ _ h => h) (Or.inl ⟨by rfl, ?hy202⟩) (by assumption) ?rest202
              case hy202 => (intro w hSw; (try dsimp only at hSw); go_simp; try with_reducible rfl)
              simp only [Act.put, List.setIfInBounds_toArray, List.set_cons_zero, List.set_cons_succ]
              refine wpAnyH_take (i := 2) (oi := { dst := some 70, op := Op.move (Operand.tmp 7), type := 3, pos := "ref.go:61", after := #[], guard := none }) (v := ?v203) rfl (by kernel_rfl) (by kernel_rfl) (by kernel_rfl) (fun _ _ _ h => h) (Or.inl ⟨by rfl, ?hy203⟩) (by assumption) ?rest203
              case hy203 => (intro w hSw; (try dsimp only at hSw); go_simp; try with_reducible rfl)
              simp only [Act.put, List.setIfInBounds_toArray, List.set_cons_zero, List.set_cons_succ]
              refine wpAnyH_take (i := 3) (oi := { dst := some 71, op := Op.fieldAddr 39 (Operand.tmp 2) 7, type := 0, pos := "ref.go:61", after := #[], guard := none }) (v := ?v204) rfl (by kernel_rfl) (by kernel_rfl) (by kernel_rfl) (fun _ _ _ h => h) (Or.inl ⟨by rfl, ?hy204⟩) (by assumption) ?rest204
              case hy204 => (intro w hSw; (try dsimp only at hSw); go_simp; try with_reducible rfl)
              simp only [Act.put, List.setIfInBounds_toArray, List.set_cons_zero, List.set_cons_succ]
              refine wpAnyH_take (i := 4) (oi := { dst := some 72, op := Op.load 32 (Operand.tmp 71), type := 32, pos := "ref.go:61", after := #[{ on := 3, ground := Ground.data }], guard := none }) (v := ?v205) rfl (by kernel_rfl) (by kernel_rfl) (by kernel_rfl) (fun _ _ _ h => h) (Or.inl ⟨by rfl, ?hy205⟩) (by assumption) ?rest205
              case hy205 => (intro w hSw; (try dsimp only at hSw); go_simp; try with_reducible rfl)
              simp only [Act.put, List.setIfInBounds_toArray, List.set_cons_zero, List.set_cons_succ]
              refine wpAnyH_take (i := 5) (oi := { dst := some 73, op := Op.move (Operand.tmp 7), type := 3, pos := "ref.go:61", after := #[], guard := none }) (v := ?v206) rfl (by kernel_rfl) (by kernel_rfl) (by kernel_rfl) (fun _ _ _ h => h) (Or.inl ⟨by rfl, ?hy206⟩) (by assumption) ?rest206
              case hy206 => (intro w hSw; (try dsimp only at hSw); go_simp; try with_reducible rfl)
              simp only [Act.put, List.setIfInBounds_toArray, List.set_cons_zero, List.set_cons_succ]
              refine wpAnyH_take (i := 6) (oi := { dst := some 74, op := Op.indexAddr 32 (Operand.tmp 72) (Operand.tmp 73), type := 0, pos := "ref.go:61", after := #[{ on := 4, ground := Ground.data }, { on := 5, ground := Ground.data }], guard := none }) (v := ?v207) rfl (by kernel_rfl) (by kernel_rfl) (by kernel_rfl) (fun _ _ _ h => h) (Or.inl ⟨by rfl, ?hy207⟩) (by assumption) ?rest207
              case hy207 => (intro w hSw; (try dsimp only at hSw); go_simp; try with_reducible rfl)
              simp only [Act.put, List.setIfInBounds_toArray, List.set_cons_zero, List.set_cons_succ]
              refine wpAnyH_take (i := 7) (oi := { dst := some 75, op := Op.fieldAddr 71 (Operand.tmp 74) 3, type := 0, pos := "ref.go:61", after := #[{ on := 6, ground := Ground.data }], guard := none }) (v := ?v208) rfl (by kernel_rfl) (by kernel_rfl) (by kernel_rfl) (fun _ _ _ h => h) (Or.inl ⟨by rfl, ?hy208⟩) (by assumption) ?rest208
              case hy208 => (intro w hSw; (try dsimp only at hSw); go_simp; try with_reducible rfl)
              simp only [Act.put, List.setIfInBounds_toArray, List.set_cons_zero, List.set_cons_succ]
              refine wpAnyH_take (i := 9) (oi := { dst := some 77, op := Op.move (Operand.tmp 1), type := 3, pos := "ref.go:61", after := #[], guard := none }) (v := ?v209) rfl (by kernel_rfl) (by kernel_rfl) (by kernel_rfl) (fun _ _ _ h => h) (Or.inl ⟨by rfl, ?hy209⟩) (by assumption) ?rest209
              case hy209 => (intro w hSw; (try dsimp only at hSw); go_simp; try with_reducible rfl)
              simp only [Act.put, List.setIfInBounds_toArray, List.set_cons_zero, List.set_cons_succ]
              refine wpAnyH_ready (rs := [8]) (by kernel_rfl) (by simp) (AllReadyH.cons (o := { dst := some 76, op := Op.load 65 (Operand.tmp 75), type := 65, pos := "ref.go:61", after := #[{ on := 7, ground := Ground.data }], guard := none }) rfl (fun K210 hK210 => ?_) AllReadyH.nil)
              go_simp
              refine hK210.out _ _ (hHeld) (fun hHeld210 => ?_)
              clear hK210 K210
              try simp only [Act.put, List.setIfInBounds_toArray, List.set_cons_zero, List.set_cons_succ]
              refine wpAnyH_ready (rs := [10]) (by kernel_rfl) (by simp) (AllReadyH.cons (o := { dst := some 78, op := Op.call { callee := Callee.value (Operand.func 54), args := #[Operand.tmp 76, Operand.tmp 77], argTypes := #[65, 3] }, type := 65, pos := "ref.go:61", after := #[{ on := 8, ground := Ground.data }, { on := 9, ground := Ground.data }], guard := none }) rfl (fun K211 hK211 => ?_) AllReadyH.nil)
              go_simp
              refine (rwithout_any i (HSl.out.below (H0.out.trans (HB.out.mono h0s))) (HSm.out.sel _ (mem_getD Se.zero HLt.out))).mono ?_
              rintro e vc ⟨u, rfl, ho, hb⟩
              obtain ⟨s, rfl⟩ := OWt.sl ho
              have HO := hid (OWt.mono ho (show xBf.heap.size ≤ wr.drew.heap.size by omega))
              have HM := hid (HM.out.below hb)
              have PB := hid (PB.out.belowAll hb)
              have RB := hid (RB.out.belowAll hb)
              have HFBd := hid (HFBd.out.below hb)
              have HFBf := hid (HFBf.out.below hb)
              have HB := hid (HB.out.trans (hb.mono HB.out.size))
              have hsc : wr.drew.heap.size ≤ vc.heap.size := hb.size
              obtain ⟨_, hsl3, _⟩ := HM.out.get rfl HLt.out
              have HC3 := hid hsl3
              clear ho hb hsl1 hsl3 kP
              refine hK211.out _ _ ((BoxAt.cell PB.out 7).trans rfl) (fun hHeld211 => ?_)
              clear hK211 K211
              try simp only [Act.put, List.setIfInBounds_toArray, List.set_cons_zero, List.set_cons_succ]
              refine wpAnyH_take (i := 11) (oi := { dst := some 79, op := Op.indexAddr 32 (Operand.tmp 69) (Operand.tmp 70), type := 0, pos := "ref.go:61", after := #[{ on := 1, ground := Ground.data }, { on := 2, ground := Ground.data }, { on := 0, ground := Ground.phase }, { on := 1, ground := Ground.phase }, { on := 2, ground := Ground.phase }, { on := 3, ground := Ground.phase }, { on := 4, ground := Ground.phase }, { on := 5, ground := Ground.phase }, { on := 6, ground := Ground.phase }, { on := 7, ground := Ground.phase }, { on := 8, ground := Ground.phase }, { on := 9, ground := Ground.phase }, { on := 10, ground := Ground.phase }], guard := none }) (v := ?v212) rfl (by kernel_rfl) (by kernel_rfl) (by kernel_rfl) (fun _ _ _ h => h) (Or.inl ⟨by rfl, ?hy212⟩) (by assumption) ?rest212
              case hy212 => (intro w hSw; (try dsimp only at hSw); go_simp; try with_reducible rfl)
              simp only [Act.put, List.setIfInBounds_toArray, List.set_cons_zero, List.set_cons_succ]
              refine wpAnyH_take (i := 12) (oi := { dst := some 80, op := Op.fieldAddr 71 (Operand.tmp 79) 3, type := 0, pos := "ref.go:61", after := #[{ on := 11, ground := Ground.data }, { on := 0, ground := Ground.phase }, { on := 1, ground := Ground.phase }, { on := 2, ground := Ground.phase }, { on := 3, ground := Ground.phase }, { on := 4, ground := Ground.phase }, { on := 5, ground := Ground.phase }, { on := 6, ground := Ground.phase }, { on := 7, ground := Ground.phase }, { on := 8, ground := Ground.phase }, { on := 9, ground := Ground.phase }, { on := 10, ground := Ground.phase }], guard := none }) (v := ?v213) rfl (by kernel_rfl) (by kernel_rfl) (by kernel_rfl) (fun _ _ _ h => h) (Or.inl ⟨by rfl, ?hy213⟩) (by assumption) ?rest213
              case hy213 => (intro w hSw; (try dsimp only at hSw); go_simp; try with_reducible rfl)
              simp only [Act.put, List.setIfInBounds_toArray, List.set_cons_zero, List.set_cons_succ]
              refine wpAnyH_ready (rs := [13]) (by kernel_rfl) (by simp) (AllReadyH.cons (o := { dst := none, op := Op.store 65 (Operand.tmp 80) (Operand.tmp 78), type := 0, pos := "ref.go:61", after := #[{ on := 12, ground := Ground.data }, { on := 10, ground := Ground.data }, { on := 10, ground := Ground.chain }, { on := 0, ground := Ground.phase }, { on := 1, ground := Ground.phase }, { on := 2, ground := Ground.phase }, { on := 3, ground := Ground.phase }, { on := 4, ground := Ground.phase }, { on := 5, ground := Ground.phase }, { on := 6, ground := Ground.phase }, { on := 7, ground := Ground.phase }, { on := 8, ground := Ground.phase }, { on := 9, ground := Ground.phase }, { on := 10, ground := Ground.phase }], guard := none }) rfl (fun K214 hK214 => ?_) AllReadyH.nil)
              refine wp_store_at 65 _ _ rfl g (k * 4 + 3) (.slice s.a s.n s.c) rfl rfl rfl rfl (by kernel_rfl) _ HC3.out (HM.out.free rfl _) ?_
              have HT := hid (HM.out.turns (j := k * 4 + 3) rfl (.slice s.a s.n s.c))
              have HM := hid (HM.out.put rfl HLt.out s HO.out)
              have PB := hid (PB.out.grown (grown_set vc g (k * 4 + 3) (.slice s.a s.n s.c)) (fun e => by have := Option.some.inj e; omega))
              have RB := hid (RB.out.grown (grown_set vc g (k * 4 + 3) (.slice s.a s.n s.c)) (fun e => by have := Option.some.inj e; omega))
              have HFBd := hid (HFBd.out.turn (S := fun t => t = 71) (by decide) (by decide) HT.out)
              have HFBf := hid (HFBf.out.turn (S := fun t => t = 71) (by decide) (by decide) HT.out)
              have HB := hid (HB.out.setCell (p := ⟨g, k * 4 + 3, none⟩) (show w.heap.size ≤ g by omega) (.slice s.a s.n s.c))
              have hsw : sSe.heap.size ≤ (vc.setCell ⟨g, k * 4 + 3, none⟩ (.slice s.a s.n s.c)).heap.size := by simp; omega
              obtain ⟨vs, hvs⟩ : ∃ W, vc.setCell ⟨g, k * 4 + 3, none⟩ (.slice s.a s.n s.c) = W := ⟨_, rfl⟩
              rw [hvs] at HM PB RB HB hsw HFBd HFBf ⊢
              clear hvs HT HC3
              refine hK214.out _ _ ((BoxAt.cell PB.out 7).trans rfl) (fun hHeld214 => ?_)
              clear hK214 K214
              try simp only [Act.put]
              refine wpAnyH_done (by kernel_rfl) ?_ _
              clear hHeld hHeld210 hHeld211 hHeld214
              go_wp2_with fail
              go_roundw
              case rel => exact ⟨k + 1, by have := HLt.out; omega, by go_num, HM, PB, RB, HFBd, HFBf, HB, by omega⟩
              case measure => have := HLt.out; simp [intOf]; omega
            · obtain rfl : k = c.se.length := by omega
              have HFSe := hid HM.out.done
              clear HM
              have hsrSe := hsr
              clear hsr hk hlt
              obtain ⟨xSe, hxSe⟩ : ∃ W, W = wr := ⟨_, rfl⟩
              subst hxSe
              have kA : xSe.cell? ⟨w.heap.size, 8, none⟩ = some (.slice q.ev.a q.ev.n q.ev.c) := (BoxAt.cell PB.out 8).trans rfl
              go_wp2_with (first
                | (at_builtin
                   refine app_row 73 33 2 32 _ Try.underlying33 Try.infoOEvV rfl (by decide) (by decide) rfl _ _ rfl xSe.heap.size _ 0 [] rfl (OEvV.nil _ _) _ (rEv.map EvV.cells) rfl (HSEv.out.below (H0.out.trans (HB.out.mono h0s))) (lensEvV _) (oneEvV _) (by have h1 := HSm.out.ev; have h2 := HLEv.out; simp only [List.length_map]; omega) (Nat.le_refl _) ?_
                   intro u uEv ho hg hb
                   have ho : OEvV uEv xSe.heap.size u rEv := by simpa [OEvV] using ho
                   obtain ⟨aEv, cEv, hu, hx1, hx2, hx3⟩ := row_form (show uEv.ownsRow xSe.heap.size 73 2 u c.ev.length (rEv.map EvV.cells).flatten from by rw [← HLEv.out]; exact ho)
                   subst hu
                   have HM := hid (MEv.start (w0 := w) i ho HLEv.out HAEv.out)
                   have HGEv := hid hx3
                   have hclEv : c.ev.length ≤ cEv := hx1
                   have hcmEv : cEv ≤ 9223372036854775807 := hx2
                   have HFBd := hid (HFBd.out.below hb)
                   have HFBf := hid (HFBf.out.below hb)
                   have HFSe := hid (HFSe.out.below hb)
                   have PB := hid (PB.out.belowAll hb)
                   have RB := hid (RB.out.belowAll hb)
                   have HB := hid (HB.out.trans (hb.mono HB.out.size))
                   have hsuEv : xSe.heap.size ≤ uEv.heap.size := hb.size
                   clear ho hg hb hx1 hx2 hx3 kA)
                | (refine wpList_store_box rfl 33 _ _ rfl rfl w.heap.size 8 (.slice aEv c.ev.length cEv) rfl rfl rfl rfl (by kernel_rfl) _ _ PB.out (by simp [PaV.cells]) ?_
                   intro sEv b g z
                   have HT := hid (Turns.grown (S := fun t => t = 39) PB.out b rfl g)
                   have HM := hid (HM.out.turn (S := fun t => t = 39) (by decide) (by decide) HT.out)
                   have HFBd := hid (HFBd.out.turn (S := fun t => t = 39) (by decide) (by decide) HT.out)
                   have HFBf := hid (HFBf.out.turn (S := fun t => t = 39) (by decide) (by decide) HT.out)
                   have HFSe := hid (HFSe.out.turn (S := fun t => t = 39) (by decide) (by decide) HT.out)
                   have hssEv : uEv.heap.size ≤ sEv.heap.size := by omega
                   have PB := hid (show BoxAt sEv w.heap.size 39 (PaV.cells { { { { q with bo := ⟨aBd, c.bo.length, cBd⟩ } with bu := ⟨aBf, c.bu.length, cBf⟩ } with se := ⟨aSe, c.se.length, cSe⟩ } with ev := ⟨aEv, c.ev.length, cEv⟩ }).toArray by simpa [PaV.cells] using b)
                   have RB := hid (RB.out.grown g (fun e => by have := Option.some.inj e; omega))
                   have HB := hid (HB.out.trans (grown_below g (Nat.le_refl _) (by omega)))
                   have kP : sEv.cell? ⟨w.heap.size, 8, none⟩ = some (.slice aEv c.ev.length cEv) := (BoxAt.cell PB.out 8).trans rfl
                   clear b g z HT)
                | fail)
              go_loopw [8] (fun t wr => ∃ k : Nat, k ≤ c.ev.length ∧ t = .int .i64 k ∧ Hid (MEv w wr xSe.heap.size i k (.slice aEv c.ev.length cEv) c.ev) ∧ Hid (BoxAt wr w.heap.size 39 (PaV.cells { { { { q with bo := ⟨aBd, c.bo.length, cBd⟩ } with bu := ⟨aBf, c.bu.length, cBf⟩ } with se := ⟨aSe, c.se.length, cSe⟩ } with ev := ⟨aEv, c.ev.length, cEv⟩ }).toArray) ∧ Hid (BoxAt wr v1.heap.size 39 (PaV.cells PaV.zero).toArray) ∧ Hid (FBd w wr v2.heap.size (.slice aBd c.bo.length cBd) (c.bo.map (outBd i))) ∧ Hid (FBfZ (Keep n w) wr xBd.heap.size (.slice aBf c.bu.length cBf) (c.bu.map (outBf i))) ∧ Hid (FSe w wr xBf.heap.size (.slice aSe c.se.length cSe) (c.se.map (outSe i))) ∧ Hid (Below w.heap.size w wr) ∧ sEv.heap.size ≤ wr.heap.size) (fun t _ => c.ev.length - (intOf t).toNat)
              case atStart => exact ⟨0, by omega, rfl, HM, PB, RB, HFBd, HFBf, HFSe, HB, Nat.le_refl _⟩
              case round =>
                clear kP HM PB RB HFBd HFBf HFSe HB
                obtain ⟨k, hk, rfl, HM, PB, RB, HFBd, HFBf, HFSe, HB, hsr⟩ := hrel
                have kP : wr.cell? ⟨w.heap.size, 8, none⟩ = some (.slice aEv c.ev.length cEv) := (BoxAt.cell PB.out 8).trans rfl
                by_cases hlt : k < c.ev.length
                · obtain ⟨g, rfl, hg1, hg2⟩ := HGEv.out (by omega)
                  have HLt := hid hlt
                  go_wp2_with fail
                  have HM := hid (HM.out.below ((Below.refl _ _).drew))
                  have PB := hid (BoxAt.drew PB.out)
                  have RB := hid (BoxAt.drew RB.out)
                  have HFBd := hid (HFBd.out.below ((Below.refl _ _).drew))
                  have HFBf := hid (HFBf.out.below ((Below.refl _ _).drew))
                  have HFSe := hid (HFSe.out.below ((Below.refl _ _).drew))
                  have HB := hid HB.out.drew
                  have hsr : sEv.heap.size ≤ wr.drew.heap.size := hsr
                  have kP : wr.drew.cell? ⟨w.heap.size, 8, none⟩ = some (.slice (some ⟨g, 0, none⟩) c.ev.length cEv) := (BoxAt.cell PB.out 8).trans rfl
                  obtain ⟨sl, hsl1, hsl2⟩ := HM.out.get rfl hlt
                  have HSl := hid hsl2
                  clear hsl2
                  refine wp_region_held_drew (S := (fun W => W.cell? ⟨w.heap.size, 8, none⟩ = some (.slice (some ⟨g, 0, none⟩) c.ev.length cEv))) (by kernel_rfl) (kP) (fun hHeld => ?_)
                  refine wpAnyH_take (i := 0) (oi := { dst := some 92, op := Op.fieldAddr 39 (Operand.tmp 2) 8, type := 0, pos := "ref.go:65", after := #[], guard := none }) (v := ?v301) rfl (by kernel_rfl) (by kernel_rfl) (by kernel_rfl) (fun _ _ _ h => h) (Or.inl ⟨by rfl, ?hy301⟩) (by assumption) ?rest301
                  case hy301 => (intro w hSw; (try dsimp only at hSw); go_simp; try with_reducible rfl)
                  simp only [Act.put, List.setIfInBounds_toArray, List.set_cons_zero, List.set_cons_succ]
                  refine wpAnyH_take (i := 1) (oi := { dst := some 93, op := Op.load 33 (Operand.tmp 92), type := 33, pos := "ref.go:65", after := #[{ on := 0, ground := Ground.data }], guard := none }) (v := ?v302) rfl (by kernel_rfl) (by kernel_rfl) (by kernel_rfl) (fun _ _ _ h => h) (Or.inl ⟨by rfl, ?hy302⟩) (by assumption) ?rest302
                  case hy302 => (intro w hSw; (try dsimp only at hSw); go_simp; try with_reducible rfl)
                  simp only [Act.put, List.setIfInBounds_toArray, List.set_cons_zero, List.set_cons_succ]
                  refine wpAnyH_take (i := 2) (oi := { dst := some 94, op := Op.move (Operand.tmp 8), type := 3, pos := "ref.go:65", after := #[], guard := none }) (v := ?v303) rfl (by kernel_rfl) (by kernel_rfl) (by kernel_rfl) (fun _ _ _ h => h) (Or.inl ⟨by rfl, ?hy303⟩) (by assumption) ?rest303
                  case hy303 => (intro w hSw; (try dsimp only at hSw); go_simp; try with_reducible rfl)
                  simp only [Act.put, List.setIfInBounds_toArray, List.set_cons_zero, List.set_cons_succ]
                  refine wpAnyH_take (i := 3) (oi := { dst := some 95, op := Op.fieldAddr 39 (Operand.tmp 2) 8, type := 0, pos := "ref.go:65", after := #[], guard := none }) (v := ?v304) rfl (by kernel_rfl) (by kernel_rfl) (by kernel_rfl) (fun _ _ _ h => h) (Or.inl ⟨by rfl, ?hy304⟩) (by assumption) ?rest304
                  case hy304 => (intro w hSw; (try dsimp only at hSw); go_simp; try with_reducible rfl)
                  simp only [Act.put, List.setIfInBounds_toArray, List.set_cons_zero, List.set_cons_succ]
                  refine wpAnyH_take (i := 4) (oi := { dst := some 96, op := Op.load 33 (Operand.tmp 95), type := 33, pos := "ref.go:65", after := #[{ on := 3, ground := Ground.data }], guard := none }) (v := ?v305) rfl (by kernel_rfl) (by kernel_rfl) (by kernel_rfl) (fun _ _ _ h => h) (Or.inl ⟨by rfl, ?hy305⟩) (by assumption) ?rest305
                  case hy305 => (intro w hSw; (try dsimp only at hSw); go_simp; try with_reducible rfl)
                  simp only [Act.put, List.setIfInBounds_toArray, List.set_cons_zero, List.set_cons_succ]
                  refine wpAnyH_take (i := 5) (oi := { dst := some 97, op := Op.move (Operand.tmp 8), type := 3, pos := "ref.go:65", after := #[], guard := none }) (v := ?v306) rfl (by kernel_rfl) (by kernel_rfl) (by kernel_rfl) (fun _ _ _ h => h) (Or.inl ⟨by rfl, ?hy306⟩) (by assumption) ?rest306
                  case hy306 => (intro w hSw; (try dsimp only at hSw); go_simp; try with_reducible rfl)
                  simp only [Act.put, List.setIfInBounds_toArray, List.set_cons_zero, List.set_cons_succ]
                  refine wpAnyH_take (i := 6) (oi := { dst := some 98, op := Op.indexAddr 33 (Operand.tmp 96) (Operand.tmp 97), type := 0, pos := "ref.go:65", after := #[{ on := 4, ground := Ground.data }, { on := 5, ground := Ground.data }], guard := none }) (v := ?v307) rfl (by kernel_rfl) (by kernel_rfl) (by kernel_rfl) (fun _ _ _ h => h) (Or.inl ⟨by rfl, ?hy307⟩) (by assumption) ?rest307
                  case hy307 => (intro w hSw; (try dsimp only at hSw); go_simp; try with_reducible rfl)
                  simp only [Act.put, List.setIfInBounds_toArray, List.set_cons_zero, List.set_cons_succ]
                  refine wpAnyH_take (i := 7) (oi := { dst := some 99, op := Op.fieldAddr 73 (Operand.tmp 98) 1, type := 0, pos := "ref.go:65", after := #[{ on := 6, ground := Ground.data }], guard := none }) (v := ?v308) rfl (by kernel_rfl) (by kernel_rfl) (by kernel_rfl) (fun _ _ _ h => h) (Or.inl ⟨by rfl, ?hy308⟩) (by assumption) ?rest308
                  case hy308 => (intro w hSw; (try dsimp only at hSw); go_simp; try with_reducible rfl)
                  simp only [Act.put, List.setIfInBounds_toArray, List.set_cons_zero, List.set_cons_succ]
                  refine wpAnyH_take (i := 9) (oi := { dst := some 101, op := Op.move (Operand.tmp 1), type := 3, pos := "ref.go:65", after := #[], guard := none }) (v := ?v309) rfl (by kernel_rfl) (by kernel_rfl) (by kernel_rfl) (fun _ _ _ h => h) (Or.inl ⟨by rfl, ?hy309⟩) (by assumption) ?rest309
                  case hy309 => (intro w hSw; (try dsimp only at hSw); go_simp; try with_reducible rfl)
                  simp only [Act.put, List.setIfInBounds_toArray, List.set_cons_zero, List.set_cons_succ]
                  refine wpAnyH_ready (rs := [8]) (by kernel_rfl) (by simp) (AllReadyH.cons (o := { dst := some 100, op := Op.load 65 (Operand.tmp 99), type := 65, pos := "ref.go:65", after := #[{ on := 7, ground := Ground.data }], guard := none }) rfl (fun K310 hK310 => ?_) AllReadyH.nil)
                  go_simp
                  refine hK310.out _ _ (hHeld) (fun hHeld310 => ?_)
                  clear hK310 K310
                  try simp only [Act.put, List.setIfInBounds_toArray, List.set_cons_zero, List.set_cons_succ]
                  refine wpAnyH_ready (rs := [10]) (by kernel_rfl) (by simp) (AllReadyH.cons (o := { dst := some 102, op := Op.call { callee := Callee.value (Operand.func 54), args := #[Operand.tmp 100, Operand.tmp 101], argTypes := #[65, 3] }, type := 65, pos := "ref.go:65", after := #[{ on := 8, ground := Ground.data }, { on := 9, ground := Ground.data }], guard := none }) rfl (fun K311 hK311 => ?_) AllReadyH.nil)
                  go_simp
                  refine (rwithout_any i (HSl.out.below (H0.out.trans (HB.out.mono h0s))) (HSm.out.evl _ (mem_getD Ev.zero HLt.out))).mono ?_
                  rintro e vc ⟨u, rfl, ho, hb⟩
                  obtain ⟨s, rfl⟩ := OWt.sl ho
                  have HO := hid (OWt.mono ho (show xSe.heap.size ≤ wr.drew.heap.size by omega))
                  have HM := hid (HM.out.below hb)
                  have PB := hid (PB.out.belowAll hb)
                  have RB := hid (RB.out.belowAll hb)
                  have HFBd := hid (HFBd.out.below hb)
                  have HFBf := hid (HFBf.out.below hb)
                  have HFSe := hid (HFSe.out.below hb)
                  have HB := hid (HB.out.trans (hb.mono HB.out.size))
                  have hsc : wr.drew.heap.size ≤ vc.heap.size := hb.size
                  obtain ⟨_, hsl3, _⟩ := HM.out.get rfl HLt.out
                  have HC3 := hid hsl3
                  clear ho hb hsl1 hsl3 kP
                  refine hK311.out _ _ ((BoxAt.cell PB.out 8).trans rfl) (fun hHeld311 => ?_)
                  clear hK311 K311
                  try simp only [Act.put, List.setIfInBounds_toArray, List.set_cons_zero, List.set_cons_succ]
                  refine wpAnyH_take (i := 11) (oi := { dst := some 103, op := Op.indexAddr 33 (Operand.tmp 93) (Operand.tmp 94), type := 0, pos := "ref.go:65", after := #[{ on := 1, ground := Ground.data }, { on := 2, ground := Ground.data }, { on := 0, ground := Ground.phase }, { on := 1, ground := Ground.phase }, { on := 2, ground := Ground.phase }, { on := 3, ground := Ground.phase }, { on := 4, ground := Ground.phase }, { on := 5, ground := Ground.phase }, { on := 6, ground := Ground.phase }, { on := 7, ground := Ground.phase }, { on := 8, ground := Ground.phase }, { on := 9, ground := Ground.phase }, { on := 10, ground := Ground.phase }], guard := none }) (v := ?v312) rfl (by kernel_rfl) (by kernel_rfl) (by kernel_rfl) (fun _ _ _ h => h) (Or.inl ⟨by rfl, ?hy312⟩) (by assumption) ?rest312
                  case hy312 => (intro w hSw; (try dsimp only at hSw); go_simp; try with_reducible rfl)
                  simp only [Act.put, List.setIfInBounds_toArray, List.set_cons_zero, List.set_cons_succ]
                  refine wpAnyH_take (i := 12) (oi := { dst := some 104, op := Op.fieldAddr 73 (Operand.tmp 103) 1, type := 0, pos := "ref.go:65", after := #[{ on := 11, ground := Ground.data }, { on := 0, ground := Ground.phase }, { on := 1, ground := Ground.phase }, { on := 2, ground := Ground.phase }, { on := 3, ground := Ground.phase }, { on := 4, ground := Ground.phase }, { on := 5, ground := Ground.phase }, { on := 6, ground := Ground.phase }, { on := 7, ground := Ground.phase }, { on := 8, ground := Ground.phase }, { on := 9, ground := Ground.phase }, { on := 10, ground := Ground.phase }], guard := none }) (v := ?v313) rfl (by kernel_rfl) (by kernel_rfl) (by kernel_rfl) (fun _ _ _ h => h) (Or.inl ⟨by rfl, ?hy313⟩) (by assumption) ?rest313
                  case hy313 => (intro w hSw; (try dsimp only at hSw); go_simp; try with_reducible rfl)
                  simp only [Act.put, List.setIfInBounds_toArray, List.set_cons_zero, List.set_cons_succ]
                  refine wpAnyH_ready (rs := [13]) (by kernel_rfl) (by simp) (AllReadyH.cons (o := { dst := none, op := Op.store 65 (Operand.tmp 104) (Operand.tmp 102), type := 0, pos := "ref.go:65", after := #[{ on := 12, ground := Ground.data }, { on := 10, ground := Ground.data }, { on := 10, ground := Ground.chain }, { on := 0, ground := Ground.phase }, { on := 1, ground := Ground.phase }, { on := 2, ground := Ground.phase }, { on := 3, ground := Ground.phase }, { on := 4, ground := Ground.phase }, { on := 5, ground := Ground.phase }, { on := 6, ground := Ground.phase }, { on := 7, ground := Ground.phase }, { on := 8, ground := Ground.phase }, { on := 9, ground := Ground.phase }, { on := 10, ground := Ground.phase }], guard := none }) rfl (fun K314 hK314 => ?_) AllReadyH.nil)
                  refine wp_store_at 65 _ _ rfl g (k * 2 + 1) (.slice s.a s.n s.c) rfl rfl rfl rfl (by kernel_rfl) _ HC3.out (HM.out.free rfl _) ?_
                  have HT := hid (HM.out.turns (j := k * 2 + 1) rfl (.slice s.a s.n s.c))
                  have HM := hid (HM.out.put rfl HLt.out s HO.out)
                  have PB := hid (PB.out.grown (grown_set vc g (k * 2 + 1) (.slice s.a s.n s.c)) (fun e => by have := Option.some.inj e; omega))
                  have RB := hid (RB.out.grown (grown_set vc g (k * 2 + 1) (.slice s.a s.n s.c)) (fun e => by have := Option.some.inj e; omega))
                  have HFBd := hid (HFBd.out.turn (S := fun t => t = 73) (by decide) (by decide) HT.out)
                  have HFBf := hid (HFBf.out.turn (S := fun t => t = 73) (by decide) (by decide) HT.out)
                  have HFSe := hid (HFSe.out.turn (S := fun t => t = 73) (by decide) (by decide) HT.out)
                  have HB := hid (HB.out.setCell (p := ⟨g, k * 2 + 1, none⟩) (show w.heap.size ≤ g by omega) (.slice s.a s.n s.c))
                  have hsw : sEv.heap.size ≤ (vc.setCell ⟨g, k * 2 + 1, none⟩ (.slice s.a s.n s.c)).heap.size := by simp; omega
                  obtain ⟨vs, hvs⟩ : ∃ W, vc.setCell ⟨g, k * 2 + 1, none⟩ (.slice s.a s.n s.c) = W := ⟨_, rfl⟩
                  rw [hvs] at HM PB RB HB hsw HFBd HFBf HFSe ⊢
                  clear hvs HT HC3
                  refine hK314.out _ _ ((BoxAt.cell PB.out 8).trans rfl) (fun hHeld314 => ?_)
                  clear hK314 K314
                  try simp only [Act.put]
                  refine wpAnyH_done (by kernel_rfl) ?_ _
                  clear hHeld hHeld310 hHeld311 hHeld314
                  go_wp2_with fail
                  go_roundw
                  case rel => exact ⟨k + 1, by have := HLt.out; omega, by go_num, HM, PB, RB, HFBd, HFBf, HFSe, HB, by omega⟩
                  case measure => have := HLt.out; simp [intOf]; omega
                · obtain rfl : k = c.ev.length := by omega
                  have HFEv := hid HM.out.done
                  clear HM
                  have kF := trivial
                  go_wp2_with (first
                    | (refine wpList_load_box rfl 39 _ rfl w.heap.size rfl _ _ PB.out _ Try.underlying39 Try.infoPa ?_)
                    | (refine wpList_store_whole rfl 39 _ _ rfl rfl v1.heap.size rfl (PaV.cells { { { { q with bo := ⟨aBd, c.bo.length, cBd⟩ } with bu := ⟨aBf, c.bu.length, cBf⟩ } with se := ⟨aSe, c.se.length, cSe⟩ } with ev := ⟨aEv, c.ev.length, cEv⟩ }) rfl _ _ RB.out rfl Try.infoPa (PaV.one _) ?_
                       intro vz b g z
                       have HT := hid (Turns.grown (S := fun t => t = 39) RB.out b rfl g)
                       have HFBd := hid (HFBd.out.turn (S := fun t => t = 39) (by decide) (by decide) HT.out)
                       have HFBf := hid (HFBf.out.turn (S := fun t => t = 39) (by decide) (by decide) HT.out)
                       have HFSe := hid (HFSe.out.turn (S := fun t => t = 39) (by decide) (by decide) HT.out)
                       have HFEv := hid (HFEv.out.turn (S := fun t => t = 39) (by decide) (by decide) HT.out)
                       have RB := hid (show BoxAt vz v1.heap.size 39 (PaV.cells { { { { q with bo := ⟨aBd, c.bo.length, cBd⟩ } with bu := ⟨aBf, c.bu.length, cBf⟩ } with se := ⟨aSe, c.se.length, cSe⟩ } with ev := ⟨aEv, c.ev.length, cEv⟩ }).toArray from b)
                       have HB := hid (HB.out.trans (grown_below g (by omega) (by omega)))
                       clear b g z HT)
                    | fail)
                  refine bodyPost_ret (results_cell_row rfl _ _ (v1.heap.size) 39 _ (0, 0) _ rfl RB.out Try.underlying39 rfl Try.infoPa) rfl ?_
                  obtain ⟨rs, hs1, hs2, hs3⟩ := HFBf.out
                  have HK1 := hid (Keep.below HN.out HB.out)
                  refine ⟨({ { { { q with bo := ⟨aBd, c.bo.length, cBd⟩ } with bu := ⟨aBf, c.bu.length, cBf⟩ } with se := ⟨aSe, c.se.length, cSe⟩ } with ev := ⟨aEv, c.ev.length, cEv⟩ } : PaV), rfl, ?_, HB.out⟩
                  refine ⟨fun W hW => ?_, rs, hs2, fun W hW => ⟨?_, fun j hj => ?_⟩⟩
                  · have hK : Keep n w W := HK1.out.trans hW
                    have hA := HZ0.out W hK
                    exact ⟨hA.md, hA.bg, hA.nx, hA.me, hA.pr, (FBd.turn HFBd.out (S := SK) (by decide) (by decide) hW.2).see, (FBfZ.turn HFBf.out (S := SK) (by decide) (by decide) hW.2).at hK, (FSe.turn HFSe.out (S := SK) (by decide) (by decide) hW.2).see, (FEv.turn HFEv.out (S := SK) (by decide) (by decide) hW.2).see, hA.sa, hA.qu, hA.ld, hA.ll, hA.lx, hA.gi⟩
                  · exact (hs1.turn (S := SK) (by decide) hW.2).sees
                  · exact ((hs3 j hj).turn (S := SK) (by decide) hW.2).at (HK1.out.trans hW)
end Go.Proofs.Ytdanfnbclbiidaa
