/-
  What frame.through does, whatever it is told to do: how often it calls. What frame.Share and frame.First return, whatever they are given, and that nothing that was there is written.
-/
import Derived.Test.YtfdoejdnhogepaaFAt
import Derived.Shelf.Abstract
import Derived.BigQuiet
import Derived.Deep.RegionHeld3
namespace Go.Proofs.Ytfdoejdnhogepaa
open Go.RowKit
set_option linter.unusedVariables false

/-- n calls are made, where the k-th one answers b k. -/
def Made (fr fo : Int) (b : Nat → Bool) (n : Nat) : Prop :=
  (4096 < fr ∧ n = 0) ∨ (fr ≤ 4096 ∧ (∀ k : Nat, k < n → (k : Int) < fr ∧ fo + k ≤ 9223372036854775807 ∧ (k + 1 < n → b k = true)) ∧
    (fr ≤ n ∨ 9223372036854775807 < fo + n ∨ ∃ m, n = m + 1 ∧ b m = false))

set_option maxRecDepth 100000 in
set_option maxHeartbeats 800000 in
theorem through_any (g : Nat) (x y z : Value) (eg : ∀ args w, (callFunc g args).run Try.prog w = .ok (.enter g args) w) (fr fo : Int) (hfr : fitI fr) (hfo : 0 ≤ fo ∧ fo ≤ 9223372036854775807) (S : Nat → World → Prop) (b : Nat → Bool) (w : World) (h0 : S 0 w)
    (hp : ∀ n : Nat, (n : Int) < fr → n ≤ 4096 → fo + n ≤ 9223372036854775807 → (∀ k : Nat, k < n → b k = true) → ∀ W, S n W → Calls Try.prog g #[.int .i64 (fo + n), x, y, z] W fun e w' => e = .returned (.bool (b n)) ∧ S (n + 1) w') :
    Calls Try.prog 56 #[.int .i64 fr, .int .i64 fo, .func (.func g) #[] #[x, y, z]] w fun e w' => e = .returned (.tuple #[]) ∧ ∃ n, Made fr fo b n ∧ S n w' := by
  simp only [fitI] at hfr
  have HP := hid hp
  have H0 := hid h0
  clear hp h0
  go_enter Try.func56, Try.ntmps56
  by_cases hf : 4096 < fr
  · go_wp2
    refine bodyPost_ret (results_none rfl _ _ _) rfl ?_
    exact ⟨rfl, 0, .inl ⟨hf, rfl⟩, H0.out⟩
  go_wp2
  go_loopw [10] (fun t wc => ∃ n : Nat, t = .int .i64 n ∧ S n wc ∧ n ≤ 4096 ∧ ∀ k : Nat, k < n → (k : Int) < fr ∧ fo + k ≤ 9223372036854775807 ∧ b k = true) (fun t _ => 4096 - (intOf t).toNat)
  case atStart => exact ⟨0, rfl, H0.out, by omega, by intro k hk; omega⟩
  case round =>
    obtain ⟨n, rfl, hs, hn, hk⟩ := hrel
    have HS := hid hs
    have HK := hid hk
    clear hs hk H0
    by_cases hlt : (n : Int) < fr
    · by_cases hmx : 9223372036854775807 - fo < n
      · clear HP
        go_wp2
        refine bodyPost_ret (results_none rfl _ _ _) rfl ?_
        exact ⟨rfl, n, .inr ⟨by omega, fun k hk => ⟨(HK.out k hk).1, (HK.out k hk).2.1, fun _ => (HK.out k hk).2.2⟩, .inr (.inl (by omega))⟩, HS.out⟩
      · have HC := hid (HP.out n hlt hn (by omega) (fun k hk => (HK.out k hk).2.2) _ HS.out)
        clear HP
        have hsum : fo + n ≤ 9223372036854775807 := by omega
        go_wp2_with fail
        refine HC.out.mono ?_
        rintro e w2 ⟨rfl, hs2⟩
        have HS2 := hid hs2
        clear hs2 HC HS
        rcases hb : b n
        · go_wp2
          refine bodyPost_ret (results_none rfl _ _ _) rfl ?_
          refine ⟨rfl, n + 1, .inr ⟨by omega, fun k hk => ?_, .inr (.inr ⟨n, rfl, hb⟩)⟩, HS2.out⟩
          by_cases hkn : k = n
          · subst hkn; exact ⟨hlt, hsum, fun h => by omega⟩
          · have := HK.out k (by omega); exact ⟨this.1, this.2.1, fun _ => this.2.2⟩
        · go_wp2
          go_roundw
          case rel =>
            refine ⟨n + 1, by go_num, HS2.out, by omega, fun k hk => ?_⟩
            by_cases hkn : k = n
            · subst hkn; exact ⟨hlt, hsum, hb⟩
            · exact HK.out k (by omega)
          case measure => simp [intOf]; omega
    · clear HP
      go_wp2
      refine bodyPost_end (results_none rfl _ _ _) rfl ?_
      exact ⟨rfl, n, .inr ⟨by omega, fun k hk => ⟨(HK.out k hk).1, (HK.out k hk).2.1, fun _ => (HK.out k hk).2.2⟩, .inl (by omega)⟩, HS.out⟩

theorem findW_wi (sw pl : Int) : ∀ (l : List Wn) (k : Nat), (findW sw pl k l).wi = -1 ∨ (k : Int) ≤ (findW sw pl k l).wi ∧ (findW sw pl k l).wi < k + l.length := by
  intro l
  induction l with
  | nil => intro k; exact .inl rfl
  | cons v l ih =>
    intro k
    have h := ih (k + 1)
    rw [findW]
    split
    · rcases h with h | h
      · exact .inl h
      · right; simp only [List.length_cons]; omega
    · split
      · right; simp only [List.length_cons]; omega
      · rcases h with h | h
        · exact .inl h
        · right; simp only [List.length_cons]; omega
theorem atS_wi (fr sw : Int) (l : List Wn) (t : Int) : (atS fr sw l t).wi = -1 ∨ 0 ≤ (atS fr sw l t).wi ∧ (atS fr sw l t).wi < l.length := by
  unfold atS
  split
  · exact .inl rfl
  · have := findW_wi sw (t % fr) l 0
    rcases this with h | h
    · exact .inl h
    · right; omega
theorem startS_wi (fr sw : Int) (l : List Wn) (t : Int) : startS fr sw l t = -1 ∨ 0 ≤ startS fr sw l t ∧ startS fr sw l t < l.length := by
  unfold startS
  split
  · exact .inl rfl
  · exact atS_wi fr sw l t

/-- How many numbers below n are told so. -/
def cntN (b : Nat → Bool) : Nat → Nat
  | 0 => 0
  | n + 1 => cntN b n + if b n then 1 else 0
theorem cntN_le (b : Nat → Bool) (n : Nat) : cntN b n ≤ n := by
  induction n with
  | zero => simp [cntN]
  | succ n ih => rw [cntN]; split <;> omega

/-- Does a tick run a part? -/
def runB (fr sw : Int) (l : List Wn) (p t : Int) : Bool := (atS fr sw l t).ru && ofB l (atS fr sw l t).wi p

def qCells (q : Cv) : Array Value := #[.int .i64 q.fr, .int .i64 q.sw, .slice q.l.a q.l.n q.l.c, .slice q.p.a q.p.n q.p.c, .slice q.w.a q.w.n q.w.c, .slice q.c.a q.c.n q.c.c]

set_option maxRecDepth 100000 in
set_option maxHeartbeats 800000 in
theorem share1_any (q : Cv) (l : List Wn) (p t : Int) (w W : World) (c : Nat) (hc : c ≤ 4096) (hv : SeesWn w q.w.val l) (ht : fitI t) (hfr : fitI q.fr) (hf : ∀ x ∈ l, x.fit)
    (hB : Below w.heap.size w W) (b0 : BoxAt W w.heap.size 27 (qCells q)) (b1 : BoxAt W (w.heap.size + 1) 3 #[.int .i64 p]) (b2 : BoxAt W (w.heap.size + 1 + 1) 3 #[.int .i64 c]) :
    Calls Try.prog 57 #[.int .i64 t, .pointer (some ⟨w.heap.size, 0, none⟩), .pointer (some ⟨w.heap.size + 1, 0, none⟩), .pointer (some ⟨w.heap.size + 1 + 1, 0, none⟩)] W fun e W' => e = .returned (.bool true) ∧
      Below w.heap.size w W' ∧ BoxAt W' w.heap.size 27 (qCells q) ∧ BoxAt W' (w.heap.size + 1) 3 #[.int .i64 p] ∧ BoxAt W' (w.heap.size + 1 + 1) 3 #[.int .i64 ((c + if runB q.fr q.sw l p t then 1 else 0 : Nat))] := by
  have HA := hid (at_any q l t W (hv.below hB) ht hfr hf)
  have HI := hid (fun W' (hW : Below w.heap.size w W') => isOf_any q l (atS q.fr q.sw l t).wi p W' (hv.below hW) (atS_wi q.fr q.sw l t))
  clear hv ht hfr hf
  obtain ⟨R, hR⟩ : ∃ r, runB q.fr q.sw l p t = r := ⟨_, rfl⟩
  rw [hR]
  unfold runB at hR
  obtain ⟨K, hK⟩ : ∃ k : Nat, (c + if R then 1 else 0 : Nat) = k := ⟨_, rfl⟩
  rw [hK]
  have HK := hid hK
  clear hK
  obtain ⟨fr, sw, ⟨a1, n1, k1⟩, ⟨a2, n2, k2⟩, ⟨a3, n3, k3⟩, ⟨a4, n4, k4⟩⟩ := q
  simp only at hR HA HI
  generalize atS fr sw l t = x at *
  obtain ⟨wi, into, ru⟩ := x
  simp only [Slt.val] at hR HA HI
  unfold Cv.val at HA HI
  unfold qCells at *
  simp only at b0 ⊢
  have HR := hid hR
  clear hR
  have q0 := (b0.cell 0).trans rfl
  have q1 := (b0.cell 1).trans rfl
  have q2 := (b0.cell 2).trans rfl
  have q3 := (b0.cell 3).trans rfl
  have q4 := (b0.cell 4).trans rfl
  have q5 := (b0.cell 5).trans rfl
  have B0 := hid b0
  have B1 := hid b1
  have B2 := hid b2
  have HB := hid hB
  clear b0 b1 b2 hB
  go_enter Try.func57, Try.ntmps57
  go_wp2_with fail
  refine HA.out.mono ?_
  rintro e w1 ⟨rfl, hb⟩
  clear q0 q1 q2 q3 q4 q5 HA
  replace HB := hid (HB.out.trans (hb.mono HB.out.size))
  replace B0 := hid (B0.out.belowAll hb)
  replace B1 := hid (B1.out.belowAll hb)
  replace B2 := hid (B2.out.belowAll hb)
  clear hb
  have hsz := B2.out.lt
  have hsz1 := B1.out.lt
  have hsz2 := B0.out.lt
  have q0 := (B0.out.cell 0).trans rfl
  have q1 := (B0.out.cell 1).trans rfl
  have q2 := (B0.out.cell 2).trans rfl
  have q3 := (B0.out.cell 3).trans rfl
  have q4 := (B0.out.cell 4).trans rfl
  have q5 := (B0.out.cell 5).trans rfl
  have p0 := (B1.out.cell 0).trans rfl
  have s0 := (B2.out.cell 0).trans rfl
  have f0 := B2.out.free
  cases ru
  · have HE := hid (show false = R by have := HR.out; simpa using this)
    clear HI HR
    go_wp2
    go_ret
    refine ⟨rfl, HB.out.alloc HB.out.size _, B0.out.alloc _, B1.out.alloc _, ?_⟩
    have hk := HK.out
    rw [← HE.out] at hk
    simp at hk
    rw [← hk]
    exact B2.out.alloc _
  · have HE := hid (show ofB l wi p = R by have := HR.out; simpa using this)
    clear HR
    go_wp2_with fail
    refine (HI.out _ (HB.out.alloc HB.out.size _)).mono ?_
    rintro e w2 ⟨rfl, hb⟩
    rw [HE.out]
    clear q0 q1 q2 q3 q4 q5 p0 s0 f0 HI HE
    replace HB := hid ((HB.out.alloc HB.out.size _).trans (hb.mono (by have := HB.out.size; simp; omega)))
    replace B0 := hid ((B0.out.alloc _).belowAll hb)
    replace B1 := hid ((B1.out.alloc _).belowAll hb)
    replace B2 := hid ((B2.out.alloc _).belowAll hb)
    clear hb
    have s0 := (B2.out.cell 0).trans rfl
    have f0 := B2.out.free
    cases R
    · go_wp2
      go_ret
      have hk := HK.out
      simp at hk
      rw [← hk]
      exact ⟨rfl, HB.out, B0.out, B1.out, B2.out⟩
    · go_wp2
      go_ret
      refine ⟨rfl, HB.out.setCell (by simp; omega) _, B0.out.other (by omega) _, B1.out.other (by omega) _, ?_⟩
      have := B2.out.set 0 (.int .i64 ((c : Int) + 1))
      have hk := HK.out
      simp at hk
      rw [← hk]
      simpa using this

/-- How many ticks of a frame a part runs. -/
def shareS (fr sw : Int) (l : List Wn) (p : Int) : Int := if 4096 < fr then 0 else cntN (fun n => runB fr sw l p n) fr.toNat

set_option maxRecDepth 100000 in
set_option maxHeartbeats 800000 in
theorem share_any (q : Cv) (l : List Wn) (p : Int) (w : World) (hv : SeesWn w q.w.val l) (hfr : fitI q.fr) (hf : ∀ x ∈ l, x.fit) :
    Calls Try.prog 27 #[q.val, .int .i64 p] w fun e w' => e = .returned (.int .i64 (shareS q.fr q.sw l p)) ∧ Below w.heap.size w w' := by
  have hmf : ∀ (fn : Fn) (first cap : Array Value) (w : World), (Instr.makeFunc fn first cap).run Try.prog w = .ok (.func fn first cap) w := fun _ _ _ _ => rfl
  have HT := hid (through_any 57 (.pointer (some ⟨w.heap.size, 0, none⟩)) (.pointer (some ⟨w.heap.size + 1, 0, none⟩)) (.pointer (some ⟨w.heap.size + 1 + 1, 0, none⟩)) (enters_of Try.func57 (by kernel_rfl) rfl) q.fr 0 hfr (by omega)
    (fun n W => Below w.heap.size w W ∧ BoxAt W w.heap.size 27 (qCells q) ∧ BoxAt W (w.heap.size + 1) 3 #[.int .i64 p] ∧ BoxAt W (w.heap.size + 1 + 1) 3 #[.int .i64 (cntN (fun n => runB q.fr q.sw l p n) n)]) (fun _ => true)
    (((w.alloc (.cells (qCells q) 27)).alloc (.cells #[.int .i64 p] 3)).alloc (.cells #[.int .i64 0] 3))
    ⟨(((Below.refl _ _).alloc (Nat.le_refl _) _).alloc (by simp) _).alloc (by simp; omega) _, ((BoxAt.new w _ _).alloc _).alloc _, (BoxAt.new1 w _ _ _).alloc _, BoxAt.new2 w _ _ _ _⟩
    (fun n hn hn2 hm _ W hS => by
      have h := share1_any q l p n w W (cntN (fun n => runB q.fr q.sw l p n) n) (by have := cntN_le (fun n => runB q.fr q.sw l p n) n; omega) hv (by simp only [fitI]; omega) hfr hf hS.1 hS.2.1 hS.2.2.1 hS.2.2.2
      rw [Int.zero_add]
      refine h.mono ?_
      rintro e W' ⟨rfl, h1, h2, h3, h4⟩
      exact ⟨rfl, h1, h2, h3, h4⟩))
  clear hv hf
  unfold qCells at HT
  obtain ⟨fr, sw, ⟨a1, n1, k1⟩, ⟨a2, n2, k2⟩, ⟨a3, n3, k3⟩, ⟨a4, n4, k4⟩⟩ := q
  simp only at HT hfr
  unfold Cv.val
  go_enter Try.func27, Try.ntmps27
  go_wp2_with fail
  refine HT.out.mono ?_
  rintro e w1 ⟨rfl, n, hm, hB, b0, b1, b2⟩
  have s0 := (b2.cell 0).trans rfl
  have HM := hid hm
  clear hm b0 b1 b2 HT hmf
  go_wp2
  go_ret
  refine ⟨?_, hB⟩
  have hn : shareS fr sw l p = (cntN (fun n => runB fr sw l p n) n : Int) := by
    unfold shareS
    rcases HM.out with ⟨h1, rfl⟩ | ⟨h1, h2, h3⟩
    · rw [if_pos h1]; rfl
    · rw [if_neg (by omega)]
      have : fr.toNat = n := by
        rcases h3 with h | h | ⟨m, _, h⟩
        · rcases Nat.eq_zero_or_pos n with h0 | h0
          · omega
          · have := (h2 (n - 1) (by omega)).1; omega
        · rcases Nat.eq_zero_or_pos n with h0 | h0
          · omega
          · have := (h2 (n - 1) (by omega)).1; omega
        · simp at h
      rw [this]
  rw [hn]
  rfl

/-- Does a window of a part begin at a tick? -/
def begB (fr sw : Int) (l : List Wn) (p t : Int) : Bool := ofB l (startS fr sw l t) p

set_option maxRecDepth 100000 in
set_option maxHeartbeats 800000 in
theorem first1_any (q : Cv) (l : List Wn) (p t : Int) (w W : World) (hv : SeesWn w q.w.val l) (ht : fitI t) (ht0 : 0 ≤ t) (hfr : fitI q.fr) (hf : ∀ x ∈ l, x.fit)
    (hB : Below w.heap.size w W) (b0 : BoxAt W w.heap.size 27 (qCells q)) (b1 : BoxAt W (w.heap.size + 1) 3 #[.int .i64 p]) (b2 : BoxAt W (w.heap.size + 1 + 1) 3 #[.int .i64 (-1)]) :
    Calls Try.prog 59 #[.int .i64 t, .pointer (some ⟨w.heap.size, 0, none⟩), .pointer (some ⟨w.heap.size + 1, 0, none⟩), .pointer (some ⟨w.heap.size + 1 + 1, 0, none⟩)] W fun e W' => e = .returned (.bool (!begB q.fr q.sw l p t)) ∧
      Below w.heap.size w W' ∧ BoxAt W' w.heap.size 27 (qCells q) ∧ BoxAt W' (w.heap.size + 1) 3 #[.int .i64 p] ∧ BoxAt W' (w.heap.size + 1 + 1) 3 #[.int .i64 (if begB q.fr q.sw l p t then t else -1)] := by
  have HA := hid (fun W' (hW : Below w.heap.size w W') => starts_any q l t W' (hv.below hW) ht hfr hf)
  have HI := hid (fun W' (hW : Below w.heap.size w W') => isOf_any q l (startS q.fr q.sw l t) p W' (hv.below hW) (startS_wi q.fr q.sw l t))
  simp only [fitI] at ht
  clear hv hfr hf
  obtain ⟨R, hR⟩ : ∃ r, begB q.fr q.sw l p t = r := ⟨_, rfl⟩
  rw [hR]
  unfold begB at hR
  rw [hR] at HI
  obtain ⟨fr, sw, ⟨a1, n1, k1⟩, ⟨a2, n2, k2⟩, ⟨a3, n3, k3⟩, ⟨a4, n4, k4⟩⟩ := q
  simp only at HA HI
  unfold Cv.val at HA HI
  generalize startS fr sw l t = st at *
  unfold qCells at *
  simp only at b0 ⊢
  have MK := hid (show ∀ w', Below W.heap.size W w' → Below W.heap.size W w' ∧ w'.cell? ⟨w.heap.size, 0, none⟩ = some (.int .i64 fr) ∧ w'.cell? ⟨w.heap.size, 1, none⟩ = some (.int .i64 sw) ∧ w'.cell? ⟨w.heap.size, 2, none⟩ = some (.slice a1 n1 k1) ∧ w'.cell? ⟨w.heap.size, 3, none⟩ = some (.slice a2 n2 k2) ∧ w'.cell? ⟨w.heap.size, 4, none⟩ = some (.slice a3 n3 k3) ∧ w'.cell? ⟨w.heap.size, 5, none⟩ = some (.slice a4 n4 k4) ∧ w'.cell? ⟨w.heap.size + 1, 0, none⟩ = some (.int .i64 p) from
    fun w' h => ⟨h, ((b0.belowAll h).cell 0).trans rfl, ((b0.belowAll h).cell 1).trans rfl, ((b0.belowAll h).cell 2).trans rfl, ((b0.belowAll h).cell 3).trans rfl, ((b0.belowAll h).cell 4).trans rfl, ((b0.belowAll h).cell 5).trans rfl, ((b1.belowAll h).cell 0).trans rfl⟩)
  have B0 := hid b0
  have B1 := hid b1
  have B2 := hid b2
  have HB := hid hB
  have HA2 := hid (fun W' (hW : Below W.heap.size W W') => HA.out W' (HB.out.trans (hW.mono HB.out.size)))
  have HI2 := hid (fun W' (hW : Below W.heap.size W W') => HI.out W' (HB.out.trans (hW.mono HB.out.size)))
  clear b0 b1 b2 hB hR HA HI
  go_enter Try.func59, Try.ntmps59
  go_wp2
  go_region_held3 (fun w' => Below W.heap.size W w' ∧ w'.cell? ⟨w.heap.size, 0, none⟩ = some (.int .i64 fr) ∧ w'.cell? ⟨w.heap.size, 1, none⟩ = some (.int .i64 sw) ∧ w'.cell? ⟨w.heap.size, 2, none⟩ = some (.slice a1 n1 k1) ∧ w'.cell? ⟨w.heap.size, 3, none⟩ = some (.slice a2 n2 k2) ∧ w'.cell? ⟨w.heap.size, 4, none⟩ = some (.slice a3 n3 k3) ∧ w'.cell? ⟨w.heap.size, 5, none⟩ = some (.slice a4 n4 k4) ∧ w'.cell? ⟨w.heap.size + 1, 0, none⟩ = some (.int .i64 p))
    ((go_split_ands; refine MK.out _ ?_; first
      | exact (Below.refl _ _).drew
      | exact Below.trans (by assumption) (Below.mono hb7 (Below.size (by assumption)))
      | exact Below.trans (by assumption) (Below.mono hb6 (Below.size (by assumption)))
      | assumption))
    ((go_split_ands; first
      | (go_at_call 26
         refine (HA2.out _ (by assumption)).mono ?_
         rintro e w6 ⟨rfl, hb6⟩)
      | (go_at_call 58
         refine (HI2.out _ (by assumption)).mono ?_
         rintro e w7 ⟨rfl, hb7⟩)))
  rename_i hq
  have hq1 := hq.1
  clear hq hb6 hb7 MK HA2 HI2
  replace HB := hid (HB.out.trans (hq1.mono HB.out.size))
  replace B0 := hid (B0.out.belowAll hq1)
  replace B1 := hid (B1.out.belowAll hq1)
  replace B2 := hid (B2.out.belowAll hq1)
  clear hq1
  have s0 := (B2.out.cell 0).trans rfl
  have f0 := B2.out.free
  have htn : (t == -1) = false := by simp; omega
  cases R
  · go_wp2
    go_ret
    exact ⟨rfl, HB.out, B0.out, B1.out, by simpa using B2.out⟩
  · go_wp2
    go_ret
    refine ⟨rfl, HB.out.setCell (by simp; omega) _, B0.out.other (by omega) _, B1.out.other (by omega) _, ?_⟩
    have := B2.out.set 0 (.int .i64 t)
    simpa using this

/-- The first tick from one on at which a window of a part begins. -/
def firstF (b : Nat → Bool) (fo : Int) : Nat → Int
  | 0 => -1
  | n + 1 => if firstF b fo n = -1 then (if b n then fo + n else -1) else firstF b fo n
theorem firstF_no (b : Nat → Bool) (fo : Int) (hfo : 0 ≤ fo) (n : Nat) : firstF b fo n = -1 ↔ ∀ k, k < n → b k = false := by
  induction n with
  | zero => simp [firstF]
  | succ n ih =>
    rw [firstF]
    constructor
    · intro h k hk
      by_cases h1 : firstF b fo n = -1
      · rw [if_pos h1] at h
        by_cases hkn : k = n
        · subst hkn
          rcases hb : b k
          · rfl
          · rw [if_pos hb] at h; omega
        · exact ih.1 h1 k (by omega)
      · rw [if_neg h1] at h; exact absurd h h1
    · intro h
      rw [if_pos (ih.2 fun k hk => h k (by omega)), if_neg (by rw [h n (by omega)]; simp)]

/-- What First answers: how many ticks are gone through is n. -/
def FirstIs (fr sw : Int) (l : List Wn) (p t r : Int) : Prop :=
  ∃ n, Made fr (max t 0) (fun n => !begB fr sw l p (max t 0 + n)) n ∧ r = firstF (fun n => begB fr sw l p (max t 0 + n)) (max t 0) n

set_option maxRecDepth 100000 in
set_option maxHeartbeats 800000 in
theorem first_any (q : Cv) (l : List Wn) (p t : Int) (w : World) (hv : SeesWn w q.w.val l) (ht : fitI t) (hfr : fitI q.fr) (hf : ∀ x ∈ l, x.fit) :
    Calls Try.prog 28 #[q.val, .int .i64 p, .int .i64 t] w fun e w' => (∃ r, e = .returned (.int .i64 r) ∧ FirstIs q.fr q.sw l p t r) ∧ Below w.heap.size w w' := by
  have hmf : ∀ (fn : Fn) (first cap : Array Value) (w : World), (Instr.makeFunc fn first cap).run Try.prog w = .ok (.func fn first cap) w := fun _ _ _ _ => rfl
  simp only [fitI] at ht
  have HT := hid (through_any 59 (.pointer (some ⟨w.heap.size, 0, none⟩)) (.pointer (some ⟨w.heap.size + 1, 0, none⟩)) (.pointer (some ⟨w.heap.size + 1 + 1, 0, none⟩)) (enters_of Try.func59 (by kernel_rfl) rfl) q.fr (max t 0) hfr (by omega)
    (fun n W => Below w.heap.size w W ∧ BoxAt W w.heap.size 27 (qCells q) ∧ BoxAt W (w.heap.size + 1) 3 #[.int .i64 p] ∧ BoxAt W (w.heap.size + 1 + 1) 3 #[.int .i64 (firstF (fun n => begB q.fr q.sw l p (max t 0 + n)) (max t 0) n)]) (fun n => !begB q.fr q.sw l p (max t 0 + n))
    (((w.alloc (.cells (qCells q) 27)).alloc (.cells #[.int .i64 p] 3)).alloc (.cells #[.int .i64 (-1)] 3))
    ⟨(((Below.refl _ _).alloc (Nat.le_refl _) _).alloc (by simp) _).alloc (by simp; omega) _, ((BoxAt.new w _ _).alloc _).alloc _, (BoxAt.new1 w _ _ _).alloc _, BoxAt.new2 w _ _ _ _⟩
    (fun n hn hn2 hm hk W hS => by
      have h1 : firstF (fun n => begB q.fr q.sw l p (max t 0 + n)) (max t 0) n = -1 := (firstF_no _ _ (by omega) n).2 fun k hkn => by have := hk k hkn; simpa using this
      obtain ⟨s1, s2, s3, s4⟩ := hS
      rw [h1] at s4
      refine (first1_any q l p (max t 0 + n) w W hv (by simp only [fitI]; omega) (by omega) hfr hf s1 s2 s3 s4).mono ?_
      rintro e W' ⟨rfl, h2, h3, h4, h5⟩
      refine ⟨rfl, h2, h3, h4, ?_⟩
      rw [firstF, if_pos h1]
      exact h5))
  clear hv hf
  have HX := hid (show ∀ n, Made q.fr (max t 0) (fun n => !begB q.fr q.sw l p (max t 0 + n)) n → FirstIs q.fr q.sw l p t (firstF (fun n => begB q.fr q.sw l p (max t 0 + n)) (max t 0) n) from fun n h => ⟨n, h, rfl⟩)
  unfold qCells at HT
  obtain ⟨fr, sw, ⟨a1, n1, k1⟩, ⟨a2, n2, k2⟩, ⟨a3, n3, k3⟩, ⟨a4, n4, k4⟩⟩ := q
  simp only at HT hfr HX
  generalize FirstIs fr sw l p t = FI at *
  unfold Cv.val
  rcases Int.lt_trichotomy t 0 with h | h | h
  · rw [show max t 0 = 0 by omega] at HT HX
    have HZ := hid HX
    clear HX
    go_enter Try.func28, Try.ntmps28
    go_wp2_with fail
    refine HT.out.mono ?_
    rintro e w1 ⟨rfl, n, hm, hB, b0, b1, b2⟩
    have s0 := (b2.cell 0).trans rfl
    have hres := HZ.out.out n hm
    generalize firstF (fun n => begB fr sw l p (0 + n)) 0 n = r at *
    have HR := hid hres
    clear hres hm b0 b1 b2 HT HZ hmf
    go_wp2
    go_ret
    exact ⟨⟨r, rfl, HR.out⟩, hB⟩
  · subst h
    rw [show max (0 : Int) 0 = 0 by omega] at HT HX
    have HZ := hid HX
    clear HX
    go_enter Try.func28, Try.ntmps28
    go_wp2_with fail
    refine HT.out.mono ?_
    rintro e w1 ⟨rfl, n, hm, hB, b0, b1, b2⟩
    have s0 := (b2.cell 0).trans rfl
    have hres := HZ.out.out n hm
    generalize firstF (fun n => begB fr sw l p (0 + n)) 0 n = r at *
    have HR := hid hres
    clear hres hm b0 b1 b2 HT HZ hmf
    go_wp2
    go_ret
    exact ⟨⟨r, rfl, HR.out⟩, hB⟩
  · rw [show max t 0 = t by omega] at HT HX
    have HZ := hid HX
    clear HX
    go_enter Try.func28, Try.ntmps28
    go_wp2_with fail
    refine HT.out.mono ?_
    rintro e w1 ⟨rfl, n, hm, hB, b0, b1, b2⟩
    have s0 := (b2.cell 0).trans rfl
    have hres := HZ.out.out n hm
    generalize firstF (fun n => begB fr sw l p (t + n)) t n = r at *
    have HR := hid hres
    clear hres hm b0 b1 b2 HT HZ hmf
    go_wp2
    go_ret
    exact ⟨⟨r, rfl, HR.out⟩, hB⟩
end Go.Proofs.Ytfdoejdnhogepaa
