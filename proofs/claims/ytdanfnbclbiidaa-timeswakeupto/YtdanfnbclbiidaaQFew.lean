/-
  What the law's own waits and Few return: that there is an answer, and that nothing is too long where it is yes.
-/
import Derived.Test.YtdanfnbclbiidaaQClone
import Derived.Test.YtdanfnbclbiidaaQWith
namespace Go.Proofs.Ytdanfnbclbiidaa
open Go.RowKit
set_option linter.unusedVariables false

/-- A bool is returned, and where it is true p holds. -/
def IfT (p : Prop) (e : Ending) : Prop := ∃ b, e = .returned (.bool b) ∧ (b = true → p)
theorem IfT.no (p : Prop) : IfT p (.returned (.bool false)) := ⟨false, rfl, fun h => by cases h⟩
theorem IfT.yes {p : Prop} (h : p) : IfT p (.returned (.bool true)) := ⟨true, rfl, fun _ => h⟩

theorem Try.infoSS : (Try.prog.info? 65).map (fun i => (i.zero, i.size, i.bytes)) = some (some (.slice none 0 0), 1, 24) := by kernel_rfl
def slE (l : List Sl) : List (List Value) := l.map fun s => [s.val]
theorem slE_lens (l : List Sl) : ∀ e ∈ slE l, e.length = 1 := fun e he => by obtain ⟨x, _, rfl⟩ := List.mem_map.1 he; rfl
theorem slE_one (l : List Sl) : ∀ u ∈ (slE l).flatten, u.oneCell' = true := by
  intro u hu
  obtain ⟨e, he, hu⟩ := List.mem_flatten.1 hu
  obtain ⟨x, _, rfl⟩ := List.mem_map.1 he
  simp at hu
  subst hu
  rfl
theorem slE_append (a b : List Sl) : (slE a).flatten ++ (slE b).flatten = (slE (a ++ b)).flatten := by simp [slE]
/-- Slices of waits, one behind the other, the call's own. -/
def OSS (w : World) (base : Nat) (v : Value) (l : List Sl) : Prop := w.ownsRow base 65 1 v l.length (slE l).flatten
theorem OSS.nil (w : World) (base : Nat) : OSS w base (.slice none 0 0) [] := ⟨rfl, .inl ⟨rfl, rfl⟩⟩
theorem OSS.below {w w' : World} {base : Nat} {v : Value} {l : List Sl} (h : OSS w base v l) (hb : Below w.heap.size w w') : OSS w' base v l := owns_below h hb
theorem OSS.sees {w : World} {base : Nat} {v : Value} {l : List Sl} (h : OSS w base v l) : SeesC w 1 v (slE l) := SeesC.of_owns (slE_lens l) (by simp [slE]) h
theorem seesC_box1 {w : World} {g : Nat} {t : TypeId} {v : Value} (h : BoxAt w g t #[v]) : SeesC w 1 (.slice (some ⟨g, 0, none⟩) 1 1) [[v]] := by
  refine .inr ⟨⟨g, 0, none⟩, 1, rfl, by simp, by decide, fun i hi j hj => ?_⟩
  have hi0 : i = 0 := by simp at hi; omega
  have hj0 : j = 0 := by omega
  subst hi0 hj0
  rw [add_none]
  simpa [List.getD] using h.cell 0

set_option maxRecDepth 100000 in
set_option maxHeartbeats 800000 in
theorem lwaits_any {v : Value} {l : List Sl} {w : World} (n : Nat) (hn : n ≤ 9223372036854775807) (hv : SeesC w 1 v (slE l)) (hl : l.length ≤ 1000000) :
    Calls Try.prog 25 #[.int .i64 n, v] w fun e w' => IfT (n ≤ 20 ∧ ∀ s ∈ l, s.n ≤ 20) e ∧ Below w.heap.size w w' := by
  obtain ⟨a, cap, rfl, h1, h2, hc⟩ := SeesC.form (by decide) hv
  have hlen : (slE l).length = l.length := by simp [slE]
  rw [hlen] at h1 hc ⊢
  have HC := hid hc
  clear hv hc h2 hlen
  by_cases hgt : 20 < n
  · go_enter Try.func25, Try.ntmps25
    go_wp2
    go_ret
    exact ⟨IfT.no _, Below.refl _ _⟩
  · go_enter Try.func25, Try.ntmps25
    go_wp2
    go_loopw [5] (fun i wr => ∃ k : Nat, k ≤ l.length ∧ i = .int .i64 k ∧ Hid (∀ j, j < k → (l.getD j ⟨none, 0, 0⟩).n ≤ 20) ∧ Below w.heap.size w wr) (fun i _ => l.length - (intOf i).toNat)
    case atStart => exact ⟨0, by omega, rfl, hid (fun j hj => by omega), Below.refl _ _⟩
    case round =>
      obtain ⟨k, hk, rfl, HG, hbel⟩ := hrel
      by_cases hlt : k < l.length
      · have HLt := hid hlt
        obtain ⟨b, off, rfl, hbw, hcell⟩ := HC.out (by omega)
        have c0 : wr.cell? ⟨b, off + k, none⟩ = some (.slice (l.getD k ⟨none, 0, 0⟩).a (l.getD k ⟨none, 0, 0⟩).n (l.getD k ⟨none, 0, 0⟩).c) := by
          have h := (hbel.cell (by exact hbw)).trans (hcell k hlt 0 (by decide))
          rw [Nat.mul_one, Nat.add_zero] at h
          rw [h]
          simp [slE, List.getD, List.getElem?_eq_getElem hlt, Sl.val]
        clear hcell HC
        obtain ⟨s, hs⟩ : ∃ s, l.getD k ⟨none, 0, 0⟩ = s := ⟨_, rfl⟩
        rw [hs] at c0
        have HS := hid hs
        clear hs
        obtain ⟨s1, s2, s3⟩ := s
        by_cases hs2 : (20 : Int) < (s2 : Int)
        · go_wp2
          go_ret
          exact ⟨IfT.no _, hbel⟩
        · have hN := hid (show s2 ≤ 20 by omega)
          go_wp2
          go_roundw
          case rel =>
            refine ⟨k + 1, by have := HLt.out; omega, by go_num, hid (fun j hj => ?_), hbel⟩
            by_cases e : j = k
            · subst e; rw [HS.out]; exact hN.out
            · exact HG.out j (by omega)
          case measure => have := HLt.out; simp [intOf]; omega
      · go_wp2
        go_ret
        refine ⟨IfT.yes ⟨by omega, fun s hs => ?_⟩, hbel⟩
        obtain ⟨j, hj, rfl⟩ := List.mem_iff_getElem.1 hs
        have h := HG.out j (by omega)
        simpa [List.getD, List.getElem?_eq_getElem hj] using h

/-- Nothing is too long. -/
structure Pa.tiny (c : Pa) : Prop where
  pr : c.pr.length ≤ 20
  sa : c.sa.length ≤ 20
  qu : c.qu.length ≤ 20
  me : c.me.length ≤ 100
  gi : c.gi.length ≤ 100
  ll : c.ll.length ≤ 100
  ob : c.bo.length + c.bu.length + c.se.length + c.ev.length ≤ 20
  bol : ∀ x ∈ c.bo, x.l.length ≤ 20
  bul : ∀ x ∈ c.bu, x.l.length ≤ 20 ∧ x.vs.length ≤ 20
  sel : ∀ x ∈ c.se, x.l.length ≤ 20
  evl : ∀ x ∈ c.ev, x.l.length ≤ 20
  qul : ∀ x ∈ c.qu, x.vs.length ≤ 20
theorem Pa.tiny.small {c : Pa} (h : c.tiny) : c.small := by
  have ho := h.ob
  refine ⟨by have := h.me; omega, by have := h.pr; omega, by omega, by omega, by omega, by omega, by have := h.sa; omega, by have := h.qu; omega, by have := h.ll; omega, by have := h.gi; omega, fun x hx => by have := h.bol x hx; omega, fun x hx => by have := h.bul x hx; omega, fun x hx => by have := h.sel x hx; omega, fun x hx => by have := h.evl x hx; omega, fun x hx => by have := h.qul x hx; omega⟩

theorem nest_n {w : World} {v : Sl} {l : List Wt} (h : SeesWt w v.val l) : v.n = l.length := by
  obtain ⟨a, cap, hv, _, _, _⟩ := h.form
  unfold Sl.val at hv
  simp only [Value.slice.injEq] at hv
  exact hv.2.1
theorem nest_ni {w : World} {v : Sl} {l : List Int} (h : Sees w .i64 v.val l) : v.n = l.length := by
  obtain ⟨a, cap, hv, _, _, _⟩ := h.form
  unfold Sl.val at hv
  simp only [Value.slice.injEq] at hv
  exact hv.2.1
theorem take_snoc {α β : Type} (f : α → β) (l : List α) (z : α) (k : Nat) (hk : k < l.length) : (l.take (k + 1)).map f = (l.take k).map f ++ [f (l.getD k z)] := by
  have h : l.take (k + 1) = l.take k ++ [l.getD k z] := by rw [List.take_add_one, List.getElem?_eq_getElem hk]; simp [List.getD, List.getElem?_eq_getElem hk]
  rw [h, List.map_append]; rfl

set_option maxRecDepth 100000 in
set_option maxHeartbeats 6400000 in
theorem few_tot {q : PaV} {c : Pa} {w : World} (h : PaAt w q c) (hN : c.bo.length + c.bu.length + c.se.length + c.ev.length ≤ 900000) :
    Calls Try.prog 10 #[q.val] w fun e w' => IfT c.tiny e ∧ Below w.heap.size w w' := by
  have H := hid h
  have HNm := hid hN
  clear h hN
  obtain ⟨rsbo, hsbo, hnbo, hatbo⟩ := H.out.bo
  obtain ⟨abo, cpbo, hvbo, hcbo, hmbo, hebo⟩ := hsbo.form
  unfold maxLen at hmbo
  have hbbo : rsbo.length ≤ 9223372036854775807 := by omega
  have HVbo := hid hvbo
  have HEbo := hid hebo
  have HAbo := hid hatbo
  have HNbo := hid hnbo
  clear hsbo hnbo hatbo hvbo hebo hcbo hmbo
  obtain ⟨rsbu, hsbu, hnbu, hatbu⟩ := H.out.bu
  obtain ⟨abu, cpbu, hvbu, hcbu, hmbu, hebu⟩ := hsbu.form
  unfold maxLen at hmbu
  have hbbu : rsbu.length ≤ 9223372036854775807 := by omega
  have HVbu := hid hvbu
  have HEbu := hid hebu
  have HAbu := hid hatbu
  have HNbu := hid hnbu
  clear hsbu hnbu hatbu hvbu hebu hcbu hmbu
  obtain ⟨rsse, hsse, hnse, hatse⟩ := H.out.se
  obtain ⟨ase, cpse, hvse, hcse, hmse, hese⟩ := hsse.form
  unfold maxLen at hmse
  have hbse : rsse.length ≤ 9223372036854775807 := by omega
  have HVse := hid hvse
  have HEse := hid hese
  have HAse := hid hatse
  have HNse := hid hnse
  clear hsse hnse hatse hvse hese hcse hmse
  obtain ⟨rsev, hsev, hnev, hatev⟩ := H.out.ev
  obtain ⟨aev, cpev, hvev, hcev, hmev, heev⟩ := hsev.form
  unfold maxLen at hmev
  have hbev : rsev.length ≤ 9223372036854775807 := by omega
  have HVev := hid hvev
  have HEev := hid heev
  have HAev := hid hatev
  have HNev := hid hnev
  clear hsev hnev hatev hvev heev hcev hmev
  obtain ⟨rsqu, hsqu, hnqu, hatqu⟩ := H.out.qu
  obtain ⟨aqu, cpqu, hvqu, hcqu, hmqu, hequ⟩ := hsqu.form
  unfold maxLen at hmqu
  have hbqu : rsqu.length ≤ 9223372036854775807 := by omega
  have HVqu := hid hvqu
  have HEqu := hid hequ
  have HAqu := hid hatqu
  have HNqu := hid hnqu
  clear hsqu hnqu hatqu hvqu hequ hcqu hmqu
  obtain ⟨apr, cppr, hvpr, hcpr, hmpr, hepr⟩ := H.out.pr.form
  have HVpr := hid hvpr
  clear hvpr hcpr hmpr hepr
  obtain ⟨asa, cpsa, hvsa, hcsa, hmsa, hesa⟩ := H.out.sa.form
  have HVsa := hid hvsa
  clear hvsa hcsa hmsa hesa
  obtain ⟨ame, cpme, hvme, hcme, hmme, heme⟩ := H.out.me.form
  have HVme := hid hvme
  clear hvme hcme hmme heme
  obtain ⟨agi, cpgi, hvgi, hcgi, hmgi, hegi⟩ := H.out.gi.form
  have HVgi := hid hvgi
  clear hvgi hcgi hmgi hegi
  obtain ⟨all, cpll, hvll, hcll, hmll, hell⟩ := H.out.ll.form
  have HVll := hid hvll
  clear hvll hcll hmll hell
  by_cases hc0 : (20 : Int) < (c.pr.length : Int)
  · go_enter Try.func10, Try.ntmps10
    go_wp2_with (first
      | (refine wpList_box rfl 39 (.tmp 0) rfl q.cells.toArray rfl ?_
         intro w1 b1 h1 z1
         have B1 := hid (show PaB w1 w.heap.size q from b1)
         have HB1 := hid h1
         have HW := hid (Below.refl w1.heap.size w1)
         have HHpr := hid (show ∀ W, Below w1.heap.size w1 W → W.cell? ⟨w.heap.size, 4, none⟩ = some (.slice apr c.pr.length cppr) from fun W hW => (BoxAt.cell (BoxAt.belowAll B1.out hW) 4).trans (by show some q.pr.val = _; rw [HVpr.out]))
         have kzpr := HHpr.out w1 (Below.refl _ _)
         have HHsa := hid (show ∀ W, Below w1.heap.size w1 W → W.cell? ⟨w.heap.size, 9, none⟩ = some (.slice asa c.sa.length cpsa) from fun W hW => (BoxAt.cell (BoxAt.belowAll B1.out hW) 9).trans (by show some q.sa.val = _; rw [HVsa.out]))
         have kzsa := HHsa.out w1 (Below.refl _ _)
         have HHqu := hid (show ∀ W, Below w1.heap.size w1 W → W.cell? ⟨w.heap.size, 10, none⟩ = some (.slice aqu rsqu.length cpqu) from fun W hW => (BoxAt.cell (BoxAt.belowAll B1.out hW) 10).trans (by show some q.qu.val = _; rw [HVqu.out]))
         have kzqu := HHqu.out w1 (Below.refl _ _)
         have HHme := hid (show ∀ W, Below w1.heap.size w1 W → W.cell? ⟨w.heap.size, 3, none⟩ = some (.slice ame c.me.length cpme) from fun W hW => (BoxAt.cell (BoxAt.belowAll B1.out hW) 3).trans (by show some q.me.val = _; rw [HVme.out]))
         have kzme := HHme.out w1 (Below.refl _ _)
         have HHgi := hid (show ∀ W, Below w1.heap.size w1 W → W.cell? ⟨w.heap.size, 14, none⟩ = some (.slice agi c.gi.length cpgi) from fun W hW => (BoxAt.cell (BoxAt.belowAll B1.out hW) 14).trans (by show some q.gi.val = _; rw [HVgi.out]))
         have kzgi := HHgi.out w1 (Below.refl _ _)
         have HHll := hid (show ∀ W, Below w1.heap.size w1 W → W.cell? ⟨w.heap.size, 12, none⟩ = some (.slice all c.ll.length cpll) from fun W hW => (BoxAt.cell (BoxAt.belowAll B1.out hW) 12).trans (by show some q.ll.val = _; rw [HVll.out]))
         have kzll := HHll.out w1 (Below.refl _ _)
         have HHbo := hid (show ∀ W, Below w1.heap.size w1 W → W.cell? ⟨w.heap.size, 5, none⟩ = some (.slice abo rsbo.length cpbo) from fun W hW => (BoxAt.cell (BoxAt.belowAll B1.out hW) 5).trans (by show some q.bo.val = _; rw [HVbo.out]))
         have kzbo := HHbo.out w1 (Below.refl _ _)
         have HHbu := hid (show ∀ W, Below w1.heap.size w1 W → W.cell? ⟨w.heap.size, 6, none⟩ = some (.slice abu rsbu.length cpbu) from fun W hW => (BoxAt.cell (BoxAt.belowAll B1.out hW) 6).trans (by show some q.bu.val = _; rw [HVbu.out]))
         have kzbu := HHbu.out w1 (Below.refl _ _)
         have HHse := hid (show ∀ W, Below w1.heap.size w1 W → W.cell? ⟨w.heap.size, 7, none⟩ = some (.slice ase rsse.length cpse) from fun W hW => (BoxAt.cell (BoxAt.belowAll B1.out hW) 7).trans (by show some q.se.val = _; rw [HVse.out]))
         have kzse := HHse.out w1 (Below.refl _ _)
         have HHev := hid (show ∀ W, Below w1.heap.size w1 W → W.cell? ⟨w.heap.size, 8, none⟩ = some (.slice aev rsev.length cpev) from fun W hW => (BoxAt.cell (BoxAt.belowAll B1.out hW) 8).trans (by show some q.ev.val = _; rw [HVev.out]))
         have kzev := HHev.out w1 (Below.refl _ _)
         clear b1 h1))
    go_ret
    exact ⟨IfT.no _, HB1.out⟩
  by_cases hc1 : (20 : Int) < (c.sa.length : Int)
  · go_enter Try.func10, Try.ntmps10
    go_wp2_with (first
      | (refine wpList_box rfl 39 (.tmp 0) rfl q.cells.toArray rfl ?_
         intro w1 b1 h1 z1
         have B1 := hid (show PaB w1 w.heap.size q from b1)
         have HB1 := hid h1
         have HW := hid (Below.refl w1.heap.size w1)
         have HHpr := hid (show ∀ W, Below w1.heap.size w1 W → W.cell? ⟨w.heap.size, 4, none⟩ = some (.slice apr c.pr.length cppr) from fun W hW => (BoxAt.cell (BoxAt.belowAll B1.out hW) 4).trans (by show some q.pr.val = _; rw [HVpr.out]))
         have kzpr := HHpr.out w1 (Below.refl _ _)
         have HHsa := hid (show ∀ W, Below w1.heap.size w1 W → W.cell? ⟨w.heap.size, 9, none⟩ = some (.slice asa c.sa.length cpsa) from fun W hW => (BoxAt.cell (BoxAt.belowAll B1.out hW) 9).trans (by show some q.sa.val = _; rw [HVsa.out]))
         have kzsa := HHsa.out w1 (Below.refl _ _)
         have HHqu := hid (show ∀ W, Below w1.heap.size w1 W → W.cell? ⟨w.heap.size, 10, none⟩ = some (.slice aqu rsqu.length cpqu) from fun W hW => (BoxAt.cell (BoxAt.belowAll B1.out hW) 10).trans (by show some q.qu.val = _; rw [HVqu.out]))
         have kzqu := HHqu.out w1 (Below.refl _ _)
         have HHme := hid (show ∀ W, Below w1.heap.size w1 W → W.cell? ⟨w.heap.size, 3, none⟩ = some (.slice ame c.me.length cpme) from fun W hW => (BoxAt.cell (BoxAt.belowAll B1.out hW) 3).trans (by show some q.me.val = _; rw [HVme.out]))
         have kzme := HHme.out w1 (Below.refl _ _)
         have HHgi := hid (show ∀ W, Below w1.heap.size w1 W → W.cell? ⟨w.heap.size, 14, none⟩ = some (.slice agi c.gi.length cpgi) from fun W hW => (BoxAt.cell (BoxAt.belowAll B1.out hW) 14).trans (by show some q.gi.val = _; rw [HVgi.out]))
         have kzgi := HHgi.out w1 (Below.refl _ _)
         have HHll := hid (show ∀ W, Below w1.heap.size w1 W → W.cell? ⟨w.heap.size, 12, none⟩ = some (.slice all c.ll.length cpll) from fun W hW => (BoxAt.cell (BoxAt.belowAll B1.out hW) 12).trans (by show some q.ll.val = _; rw [HVll.out]))
         have kzll := HHll.out w1 (Below.refl _ _)
         have HHbo := hid (show ∀ W, Below w1.heap.size w1 W → W.cell? ⟨w.heap.size, 5, none⟩ = some (.slice abo rsbo.length cpbo) from fun W hW => (BoxAt.cell (BoxAt.belowAll B1.out hW) 5).trans (by show some q.bo.val = _; rw [HVbo.out]))
         have kzbo := HHbo.out w1 (Below.refl _ _)
         have HHbu := hid (show ∀ W, Below w1.heap.size w1 W → W.cell? ⟨w.heap.size, 6, none⟩ = some (.slice abu rsbu.length cpbu) from fun W hW => (BoxAt.cell (BoxAt.belowAll B1.out hW) 6).trans (by show some q.bu.val = _; rw [HVbu.out]))
         have kzbu := HHbu.out w1 (Below.refl _ _)
         have HHse := hid (show ∀ W, Below w1.heap.size w1 W → W.cell? ⟨w.heap.size, 7, none⟩ = some (.slice ase rsse.length cpse) from fun W hW => (BoxAt.cell (BoxAt.belowAll B1.out hW) 7).trans (by show some q.se.val = _; rw [HVse.out]))
         have kzse := HHse.out w1 (Below.refl _ _)
         have HHev := hid (show ∀ W, Below w1.heap.size w1 W → W.cell? ⟨w.heap.size, 8, none⟩ = some (.slice aev rsev.length cpev) from fun W hW => (BoxAt.cell (BoxAt.belowAll B1.out hW) 8).trans (by show some q.ev.val = _; rw [HVev.out]))
         have kzev := HHev.out w1 (Below.refl _ _)
         clear b1 h1))
    go_ret
    exact ⟨IfT.no _, HB1.out⟩
  by_cases hc2 : (20 : Int) < (rsqu.length : Int)
  · go_enter Try.func10, Try.ntmps10
    go_wp2_with (first
      | (refine wpList_box rfl 39 (.tmp 0) rfl q.cells.toArray rfl ?_
         intro w1 b1 h1 z1
         have B1 := hid (show PaB w1 w.heap.size q from b1)
         have HB1 := hid h1
         have HW := hid (Below.refl w1.heap.size w1)
         have HHpr := hid (show ∀ W, Below w1.heap.size w1 W → W.cell? ⟨w.heap.size, 4, none⟩ = some (.slice apr c.pr.length cppr) from fun W hW => (BoxAt.cell (BoxAt.belowAll B1.out hW) 4).trans (by show some q.pr.val = _; rw [HVpr.out]))
         have kzpr := HHpr.out w1 (Below.refl _ _)
         have HHsa := hid (show ∀ W, Below w1.heap.size w1 W → W.cell? ⟨w.heap.size, 9, none⟩ = some (.slice asa c.sa.length cpsa) from fun W hW => (BoxAt.cell (BoxAt.belowAll B1.out hW) 9).trans (by show some q.sa.val = _; rw [HVsa.out]))
         have kzsa := HHsa.out w1 (Below.refl _ _)
         have HHqu := hid (show ∀ W, Below w1.heap.size w1 W → W.cell? ⟨w.heap.size, 10, none⟩ = some (.slice aqu rsqu.length cpqu) from fun W hW => (BoxAt.cell (BoxAt.belowAll B1.out hW) 10).trans (by show some q.qu.val = _; rw [HVqu.out]))
         have kzqu := HHqu.out w1 (Below.refl _ _)
         have HHme := hid (show ∀ W, Below w1.heap.size w1 W → W.cell? ⟨w.heap.size, 3, none⟩ = some (.slice ame c.me.length cpme) from fun W hW => (BoxAt.cell (BoxAt.belowAll B1.out hW) 3).trans (by show some q.me.val = _; rw [HVme.out]))
         have kzme := HHme.out w1 (Below.refl _ _)
         have HHgi := hid (show ∀ W, Below w1.heap.size w1 W → W.cell? ⟨w.heap.size, 14, none⟩ = some (.slice agi c.gi.length cpgi) from fun W hW => (BoxAt.cell (BoxAt.belowAll B1.out hW) 14).trans (by show some q.gi.val = _; rw [HVgi.out]))
         have kzgi := HHgi.out w1 (Below.refl _ _)
         have HHll := hid (show ∀ W, Below w1.heap.size w1 W → W.cell? ⟨w.heap.size, 12, none⟩ = some (.slice all c.ll.length cpll) from fun W hW => (BoxAt.cell (BoxAt.belowAll B1.out hW) 12).trans (by show some q.ll.val = _; rw [HVll.out]))
         have kzll := HHll.out w1 (Below.refl _ _)
         have HHbo := hid (show ∀ W, Below w1.heap.size w1 W → W.cell? ⟨w.heap.size, 5, none⟩ = some (.slice abo rsbo.length cpbo) from fun W hW => (BoxAt.cell (BoxAt.belowAll B1.out hW) 5).trans (by show some q.bo.val = _; rw [HVbo.out]))
         have kzbo := HHbo.out w1 (Below.refl _ _)
         have HHbu := hid (show ∀ W, Below w1.heap.size w1 W → W.cell? ⟨w.heap.size, 6, none⟩ = some (.slice abu rsbu.length cpbu) from fun W hW => (BoxAt.cell (BoxAt.belowAll B1.out hW) 6).trans (by show some q.bu.val = _; rw [HVbu.out]))
         have kzbu := HHbu.out w1 (Below.refl _ _)
         have HHse := hid (show ∀ W, Below w1.heap.size w1 W → W.cell? ⟨w.heap.size, 7, none⟩ = some (.slice ase rsse.length cpse) from fun W hW => (BoxAt.cell (BoxAt.belowAll B1.out hW) 7).trans (by show some q.se.val = _; rw [HVse.out]))
         have kzse := HHse.out w1 (Below.refl _ _)
         have HHev := hid (show ∀ W, Below w1.heap.size w1 W → W.cell? ⟨w.heap.size, 8, none⟩ = some (.slice aev rsev.length cpev) from fun W hW => (BoxAt.cell (BoxAt.belowAll B1.out hW) 8).trans (by show some q.ev.val = _; rw [HVev.out]))
         have kzev := HHev.out w1 (Below.refl _ _)
         clear b1 h1))
    go_ret
    exact ⟨IfT.no _, HB1.out⟩
  by_cases hc3 : (100 : Int) < (c.me.length : Int)
  · go_enter Try.func10, Try.ntmps10
    go_wp2_with (first
      | (refine wpList_box rfl 39 (.tmp 0) rfl q.cells.toArray rfl ?_
         intro w1 b1 h1 z1
         have B1 := hid (show PaB w1 w.heap.size q from b1)
         have HB1 := hid h1
         have HW := hid (Below.refl w1.heap.size w1)
         have HHpr := hid (show ∀ W, Below w1.heap.size w1 W → W.cell? ⟨w.heap.size, 4, none⟩ = some (.slice apr c.pr.length cppr) from fun W hW => (BoxAt.cell (BoxAt.belowAll B1.out hW) 4).trans (by show some q.pr.val = _; rw [HVpr.out]))
         have kzpr := HHpr.out w1 (Below.refl _ _)
         have HHsa := hid (show ∀ W, Below w1.heap.size w1 W → W.cell? ⟨w.heap.size, 9, none⟩ = some (.slice asa c.sa.length cpsa) from fun W hW => (BoxAt.cell (BoxAt.belowAll B1.out hW) 9).trans (by show some q.sa.val = _; rw [HVsa.out]))
         have kzsa := HHsa.out w1 (Below.refl _ _)
         have HHqu := hid (show ∀ W, Below w1.heap.size w1 W → W.cell? ⟨w.heap.size, 10, none⟩ = some (.slice aqu rsqu.length cpqu) from fun W hW => (BoxAt.cell (BoxAt.belowAll B1.out hW) 10).trans (by show some q.qu.val = _; rw [HVqu.out]))
         have kzqu := HHqu.out w1 (Below.refl _ _)
         have HHme := hid (show ∀ W, Below w1.heap.size w1 W → W.cell? ⟨w.heap.size, 3, none⟩ = some (.slice ame c.me.length cpme) from fun W hW => (BoxAt.cell (BoxAt.belowAll B1.out hW) 3).trans (by show some q.me.val = _; rw [HVme.out]))
         have kzme := HHme.out w1 (Below.refl _ _)
         have HHgi := hid (show ∀ W, Below w1.heap.size w1 W → W.cell? ⟨w.heap.size, 14, none⟩ = some (.slice agi c.gi.length cpgi) from fun W hW => (BoxAt.cell (BoxAt.belowAll B1.out hW) 14).trans (by show some q.gi.val = _; rw [HVgi.out]))
         have kzgi := HHgi.out w1 (Below.refl _ _)
         have HHll := hid (show ∀ W, Below w1.heap.size w1 W → W.cell? ⟨w.heap.size, 12, none⟩ = some (.slice all c.ll.length cpll) from fun W hW => (BoxAt.cell (BoxAt.belowAll B1.out hW) 12).trans (by show some q.ll.val = _; rw [HVll.out]))
         have kzll := HHll.out w1 (Below.refl _ _)
         have HHbo := hid (show ∀ W, Below w1.heap.size w1 W → W.cell? ⟨w.heap.size, 5, none⟩ = some (.slice abo rsbo.length cpbo) from fun W hW => (BoxAt.cell (BoxAt.belowAll B1.out hW) 5).trans (by show some q.bo.val = _; rw [HVbo.out]))
         have kzbo := HHbo.out w1 (Below.refl _ _)
         have HHbu := hid (show ∀ W, Below w1.heap.size w1 W → W.cell? ⟨w.heap.size, 6, none⟩ = some (.slice abu rsbu.length cpbu) from fun W hW => (BoxAt.cell (BoxAt.belowAll B1.out hW) 6).trans (by show some q.bu.val = _; rw [HVbu.out]))
         have kzbu := HHbu.out w1 (Below.refl _ _)
         have HHse := hid (show ∀ W, Below w1.heap.size w1 W → W.cell? ⟨w.heap.size, 7, none⟩ = some (.slice ase rsse.length cpse) from fun W hW => (BoxAt.cell (BoxAt.belowAll B1.out hW) 7).trans (by show some q.se.val = _; rw [HVse.out]))
         have kzse := HHse.out w1 (Below.refl _ _)
         have HHev := hid (show ∀ W, Below w1.heap.size w1 W → W.cell? ⟨w.heap.size, 8, none⟩ = some (.slice aev rsev.length cpev) from fun W hW => (BoxAt.cell (BoxAt.belowAll B1.out hW) 8).trans (by show some q.ev.val = _; rw [HVev.out]))
         have kzev := HHev.out w1 (Below.refl _ _)
         clear b1 h1))
    go_ret
    exact ⟨IfT.no _, HB1.out⟩
  by_cases hc4 : (100 : Int) < (c.gi.length : Int)
  · go_enter Try.func10, Try.ntmps10
    go_wp2_with (first
      | (refine wpList_box rfl 39 (.tmp 0) rfl q.cells.toArray rfl ?_
         intro w1 b1 h1 z1
         have B1 := hid (show PaB w1 w.heap.size q from b1)
         have HB1 := hid h1
         have HW := hid (Below.refl w1.heap.size w1)
         have HHpr := hid (show ∀ W, Below w1.heap.size w1 W → W.cell? ⟨w.heap.size, 4, none⟩ = some (.slice apr c.pr.length cppr) from fun W hW => (BoxAt.cell (BoxAt.belowAll B1.out hW) 4).trans (by show some q.pr.val = _; rw [HVpr.out]))
         have kzpr := HHpr.out w1 (Below.refl _ _)
         have HHsa := hid (show ∀ W, Below w1.heap.size w1 W → W.cell? ⟨w.heap.size, 9, none⟩ = some (.slice asa c.sa.length cpsa) from fun W hW => (BoxAt.cell (BoxAt.belowAll B1.out hW) 9).trans (by show some q.sa.val = _; rw [HVsa.out]))
         have kzsa := HHsa.out w1 (Below.refl _ _)
         have HHqu := hid (show ∀ W, Below w1.heap.size w1 W → W.cell? ⟨w.heap.size, 10, none⟩ = some (.slice aqu rsqu.length cpqu) from fun W hW => (BoxAt.cell (BoxAt.belowAll B1.out hW) 10).trans (by show some q.qu.val = _; rw [HVqu.out]))
         have kzqu := HHqu.out w1 (Below.refl _ _)
         have HHme := hid (show ∀ W, Below w1.heap.size w1 W → W.cell? ⟨w.heap.size, 3, none⟩ = some (.slice ame c.me.length cpme) from fun W hW => (BoxAt.cell (BoxAt.belowAll B1.out hW) 3).trans (by show some q.me.val = _; rw [HVme.out]))
         have kzme := HHme.out w1 (Below.refl _ _)
         have HHgi := hid (show ∀ W, Below w1.heap.size w1 W → W.cell? ⟨w.heap.size, 14, none⟩ = some (.slice agi c.gi.length cpgi) from fun W hW => (BoxAt.cell (BoxAt.belowAll B1.out hW) 14).trans (by show some q.gi.val = _; rw [HVgi.out]))
         have kzgi := HHgi.out w1 (Below.refl _ _)
         have HHll := hid (show ∀ W, Below w1.heap.size w1 W → W.cell? ⟨w.heap.size, 12, none⟩ = some (.slice all c.ll.length cpll) from fun W hW => (BoxAt.cell (BoxAt.belowAll B1.out hW) 12).trans (by show some q.ll.val = _; rw [HVll.out]))
         have kzll := HHll.out w1 (Below.refl _ _)
         have HHbo := hid (show ∀ W, Below w1.heap.size w1 W → W.cell? ⟨w.heap.size, 5, none⟩ = some (.slice abo rsbo.length cpbo) from fun W hW => (BoxAt.cell (BoxAt.belowAll B1.out hW) 5).trans (by show some q.bo.val = _; rw [HVbo.out]))
         have kzbo := HHbo.out w1 (Below.refl _ _)
         have HHbu := hid (show ∀ W, Below w1.heap.size w1 W → W.cell? ⟨w.heap.size, 6, none⟩ = some (.slice abu rsbu.length cpbu) from fun W hW => (BoxAt.cell (BoxAt.belowAll B1.out hW) 6).trans (by show some q.bu.val = _; rw [HVbu.out]))
         have kzbu := HHbu.out w1 (Below.refl _ _)
         have HHse := hid (show ∀ W, Below w1.heap.size w1 W → W.cell? ⟨w.heap.size, 7, none⟩ = some (.slice ase rsse.length cpse) from fun W hW => (BoxAt.cell (BoxAt.belowAll B1.out hW) 7).trans (by show some q.se.val = _; rw [HVse.out]))
         have kzse := HHse.out w1 (Below.refl _ _)
         have HHev := hid (show ∀ W, Below w1.heap.size w1 W → W.cell? ⟨w.heap.size, 8, none⟩ = some (.slice aev rsev.length cpev) from fun W hW => (BoxAt.cell (BoxAt.belowAll B1.out hW) 8).trans (by show some q.ev.val = _; rw [HVev.out]))
         have kzev := HHev.out w1 (Below.refl _ _)
         clear b1 h1))
    go_ret
    exact ⟨IfT.no _, HB1.out⟩
  by_cases hc5 : (100 : Int) < (c.ll.length : Int)
  · go_enter Try.func10, Try.ntmps10
    go_wp2_with (first
      | (refine wpList_box rfl 39 (.tmp 0) rfl q.cells.toArray rfl ?_
         intro w1 b1 h1 z1
         have B1 := hid (show PaB w1 w.heap.size q from b1)
         have HB1 := hid h1
         have HW := hid (Below.refl w1.heap.size w1)
         have HHpr := hid (show ∀ W, Below w1.heap.size w1 W → W.cell? ⟨w.heap.size, 4, none⟩ = some (.slice apr c.pr.length cppr) from fun W hW => (BoxAt.cell (BoxAt.belowAll B1.out hW) 4).trans (by show some q.pr.val = _; rw [HVpr.out]))
         have kzpr := HHpr.out w1 (Below.refl _ _)
         have HHsa := hid (show ∀ W, Below w1.heap.size w1 W → W.cell? ⟨w.heap.size, 9, none⟩ = some (.slice asa c.sa.length cpsa) from fun W hW => (BoxAt.cell (BoxAt.belowAll B1.out hW) 9).trans (by show some q.sa.val = _; rw [HVsa.out]))
         have kzsa := HHsa.out w1 (Below.refl _ _)
         have HHqu := hid (show ∀ W, Below w1.heap.size w1 W → W.cell? ⟨w.heap.size, 10, none⟩ = some (.slice aqu rsqu.length cpqu) from fun W hW => (BoxAt.cell (BoxAt.belowAll B1.out hW) 10).trans (by show some q.qu.val = _; rw [HVqu.out]))
         have kzqu := HHqu.out w1 (Below.refl _ _)
         have HHme := hid (show ∀ W, Below w1.heap.size w1 W → W.cell? ⟨w.heap.size, 3, none⟩ = some (.slice ame c.me.length cpme) from fun W hW => (BoxAt.cell (BoxAt.belowAll B1.out hW) 3).trans (by show some q.me.val = _; rw [HVme.out]))
         have kzme := HHme.out w1 (Below.refl _ _)
         have HHgi := hid (show ∀ W, Below w1.heap.size w1 W → W.cell? ⟨w.heap.size, 14, none⟩ = some (.slice agi c.gi.length cpgi) from fun W hW => (BoxAt.cell (BoxAt.belowAll B1.out hW) 14).trans (by show some q.gi.val = _; rw [HVgi.out]))
         have kzgi := HHgi.out w1 (Below.refl _ _)
         have HHll := hid (show ∀ W, Below w1.heap.size w1 W → W.cell? ⟨w.heap.size, 12, none⟩ = some (.slice all c.ll.length cpll) from fun W hW => (BoxAt.cell (BoxAt.belowAll B1.out hW) 12).trans (by show some q.ll.val = _; rw [HVll.out]))
         have kzll := HHll.out w1 (Below.refl _ _)
         have HHbo := hid (show ∀ W, Below w1.heap.size w1 W → W.cell? ⟨w.heap.size, 5, none⟩ = some (.slice abo rsbo.length cpbo) from fun W hW => (BoxAt.cell (BoxAt.belowAll B1.out hW) 5).trans (by show some q.bo.val = _; rw [HVbo.out]))
         have kzbo := HHbo.out w1 (Below.refl _ _)
         have HHbu := hid (show ∀ W, Below w1.heap.size w1 W → W.cell? ⟨w.heap.size, 6, none⟩ = some (.slice abu rsbu.length cpbu) from fun W hW => (BoxAt.cell (BoxAt.belowAll B1.out hW) 6).trans (by show some q.bu.val = _; rw [HVbu.out]))
         have kzbu := HHbu.out w1 (Below.refl _ _)
         have HHse := hid (show ∀ W, Below w1.heap.size w1 W → W.cell? ⟨w.heap.size, 7, none⟩ = some (.slice ase rsse.length cpse) from fun W hW => (BoxAt.cell (BoxAt.belowAll B1.out hW) 7).trans (by show some q.se.val = _; rw [HVse.out]))
         have kzse := HHse.out w1 (Below.refl _ _)
         have HHev := hid (show ∀ W, Below w1.heap.size w1 W → W.cell? ⟨w.heap.size, 8, none⟩ = some (.slice aev rsev.length cpev) from fun W hW => (BoxAt.cell (BoxAt.belowAll B1.out hW) 8).trans (by show some q.ev.val = _; rw [HVev.out]))
         have kzev := HHev.out w1 (Below.refl _ _)
         clear b1 h1))
    go_ret
    exact ⟨IfT.no _, HB1.out⟩
  have HC0 := hid (show c.pr.length ≤ 20 by omega)
  have HC1 := hid (show c.sa.length ≤ 20 by omega)
  have HC2 := hid (show rsqu.length ≤ 20 by omega)
  have HC3 := hid (show c.me.length ≤ 100 by omega)
  have HC4 := hid (show c.gi.length ≤ 100 by omega)
  have HC5 := hid (show c.ll.length ≤ 100 by omega)
  go_enter Try.func10, Try.ntmps10
  go_wp2_with (first
    | (refine wpList_box rfl 39 (.tmp 0) rfl q.cells.toArray rfl ?_
       intro w1 b1 h1 z1
       have B1 := hid (show PaB w1 w.heap.size q from b1)
       have HB1 := hid h1
       have HW := hid (Below.refl w1.heap.size w1)
       have HHpr := hid (show ∀ W, Below w1.heap.size w1 W → W.cell? ⟨w.heap.size, 4, none⟩ = some (.slice apr c.pr.length cppr) from fun W hW => (BoxAt.cell (BoxAt.belowAll B1.out hW) 4).trans (by show some q.pr.val = _; rw [HVpr.out]))
       have kzpr := HHpr.out w1 (Below.refl _ _)
       have HHsa := hid (show ∀ W, Below w1.heap.size w1 W → W.cell? ⟨w.heap.size, 9, none⟩ = some (.slice asa c.sa.length cpsa) from fun W hW => (BoxAt.cell (BoxAt.belowAll B1.out hW) 9).trans (by show some q.sa.val = _; rw [HVsa.out]))
       have kzsa := HHsa.out w1 (Below.refl _ _)
       have HHqu := hid (show ∀ W, Below w1.heap.size w1 W → W.cell? ⟨w.heap.size, 10, none⟩ = some (.slice aqu rsqu.length cpqu) from fun W hW => (BoxAt.cell (BoxAt.belowAll B1.out hW) 10).trans (by show some q.qu.val = _; rw [HVqu.out]))
       have kzqu := HHqu.out w1 (Below.refl _ _)
       have HHme := hid (show ∀ W, Below w1.heap.size w1 W → W.cell? ⟨w.heap.size, 3, none⟩ = some (.slice ame c.me.length cpme) from fun W hW => (BoxAt.cell (BoxAt.belowAll B1.out hW) 3).trans (by show some q.me.val = _; rw [HVme.out]))
       have kzme := HHme.out w1 (Below.refl _ _)
       have HHgi := hid (show ∀ W, Below w1.heap.size w1 W → W.cell? ⟨w.heap.size, 14, none⟩ = some (.slice agi c.gi.length cpgi) from fun W hW => (BoxAt.cell (BoxAt.belowAll B1.out hW) 14).trans (by show some q.gi.val = _; rw [HVgi.out]))
       have kzgi := HHgi.out w1 (Below.refl _ _)
       have HHll := hid (show ∀ W, Below w1.heap.size w1 W → W.cell? ⟨w.heap.size, 12, none⟩ = some (.slice all c.ll.length cpll) from fun W hW => (BoxAt.cell (BoxAt.belowAll B1.out hW) 12).trans (by show some q.ll.val = _; rw [HVll.out]))
       have kzll := HHll.out w1 (Below.refl _ _)
       have HHbo := hid (show ∀ W, Below w1.heap.size w1 W → W.cell? ⟨w.heap.size, 5, none⟩ = some (.slice abo rsbo.length cpbo) from fun W hW => (BoxAt.cell (BoxAt.belowAll B1.out hW) 5).trans (by show some q.bo.val = _; rw [HVbo.out]))
       have kzbo := HHbo.out w1 (Below.refl _ _)
       have HHbu := hid (show ∀ W, Below w1.heap.size w1 W → W.cell? ⟨w.heap.size, 6, none⟩ = some (.slice abu rsbu.length cpbu) from fun W hW => (BoxAt.cell (BoxAt.belowAll B1.out hW) 6).trans (by show some q.bu.val = _; rw [HVbu.out]))
       have kzbu := HHbu.out w1 (Below.refl _ _)
       have HHse := hid (show ∀ W, Below w1.heap.size w1 W → W.cell? ⟨w.heap.size, 7, none⟩ = some (.slice ase rsse.length cpse) from fun W hW => (BoxAt.cell (BoxAt.belowAll B1.out hW) 7).trans (by show some q.se.val = _; rw [HVse.out]))
       have kzse := HHse.out w1 (Below.refl _ _)
       have HHev := hid (show ∀ W, Below w1.heap.size w1 W → W.cell? ⟨w.heap.size, 8, none⟩ = some (.slice aev rsev.length cpev) from fun W hW => (BoxAt.cell (BoxAt.belowAll B1.out hW) 8).trans (by show some q.ev.val = _; rw [HVev.out]))
       have kzev := HHev.out w1 (Below.refl _ _)
       clear b1 h1))
  have HO := hid (OSS.nil w1 w1.heap.size)
  go_loopw [3, 4] (fun s i wr => ∃ k : Nat, k ≤ rsbo.length ∧ i = .int .i64 k ∧ Hid (OSS wr w1.heap.size s ([] ++ (rsbo.take k).map BdV.l)) ∧ Below w1.heap.size w1 wr) (fun _ i _ => rsbo.length - (intOf i).toNat)
  case atStart => exact ⟨0, by omega, rfl, hid (by simpa using HO.out), HW.out⟩
  case round =>
    obtain ⟨k, hk, rfl, HO2, hbel⟩ := hrel
    have kh := HHbo.out wr hbel
    by_cases hlt : k < rsbo.length
    · have HLt := hid hlt
      obtain ⟨b, off, rfl, hbw, hce⟩ := HEbo.out (by omega)
      have HX := hid (show ∀ W, Below w1.heap.size w1 W → ∀ j, j < 3 → W.cell? ⟨b, off + k * 3 + j, none⟩ = some ((rsbo.getD k BdV.zero).cells.getD j .nilIface) from fun W hW j hj => ((HB1.out.trans (hW.mono HB1.out.size)).cell (by exact hbw)).trans (hce k hlt j hj))
      clear hce
      obtain ⟨r, hr⟩ : ∃ r, rsbo.getD k BdV.zero = r := ⟨_, rfl⟩
      rw [hr] at HX
      have HR := hid hr
      clear hr
      have cl : wr.cell? ⟨b, off + k * 3 + 2, none⟩ = some (.slice r.l.a r.l.n r.l.c) := (HX.out wr hbel 2 (by decide)).trans rfl
      have HLen := hid (show ([] ++ (rsbo.take k).map BdV.l).length ≤ 900000 by have h1 := HNm.out; have h2 := HNbo.out; have h3 := HNbu.out; have h4 := HNse.out; have h5 := HNev.out; simp only [List.length_append, List.length_map, List.length_take, List.length_nil]; omega)
      have HLe := hid (show ([] ++ (rsbo.take k).map BdV.l).length + (slE [r.l]).length ≤ 1000000 by have h1 := HLen.out; have h2 : (slE [r.l]).length = 1 := rfl; omega)
      go_wp2_with (
        (at_builtin
         have hA := (Below.refl wr.heap.size wr).alloc (Nat.le_refl _) (.cells #[.slice r.l.a r.l.n r.l.c] 65)
         have HA2 := hid (hbel.trans (hA.mono hbel.size))
         have HSe := hid (seesC_box1 (BoxAt.new wr 65 #[.slice r.l.a r.l.n r.l.c]))
         have HO3 := hid (HO2.out.below hA)
         clear hA
         refine app_row 65 64 1 24 _ Try.underlying64 Try.infoSS rfl (by decide) (by decide) rfl _ _ rfl w1.heap.size _ _ _ rfl HO3.out _ (slE [r.l]) rfl HSe.out (slE_lens _) (slE_one _) HLe.out HA2.out.size ?_
         intro v' w3 ho hg hb3
         have HO4 := hid (show OSS w3 w1.heap.size v' ([] ++ (rsbo.take (k + 1)).map BdV.l) by
           rw [take_snoc BdV.l rsbo BdV.zero k HLt.out, HR.out, ← List.append_assoc]
           unfold OSS
           rw [← slE_append, List.length_append]
           exact ho)
         have HB3 := hid (HA2.out.trans hb3)
         clear ho hg hb3))
      go_roundw
      case rel => exact ⟨k + 1, by have := HLt.out; omega, by go_num, HO4, HB3.out⟩
      case measure => have := HLt.out; simp [intOf]; omega
    · have HW := hid hbel
      have hkl : k = rsbo.length := by omega
      subst hkl
      rw [List.take_length] at HO2
      have HO := HO2
      clear hbel
      go_wp2
      go_loopw [3, 5] (fun s i wr => ∃ k : Nat, k ≤ rsbu.length ∧ i = .int .i64 k ∧ Hid (OSS wr w1.heap.size s (([] ++ rsbo.map BdV.l) ++ (rsbu.take k).map BfV.l)) ∧ Hid (∀ j, j < k → (rsbu.getD j BfV.zero).vs.n ≤ 20) ∧ Below w1.heap.size w1 wr) (fun _ i _ => rsbu.length - (intOf i).toNat)
      case atStart => exact ⟨0, by omega, rfl, hid (by simpa using HO.out), hid (fun j hj => by omega), HW.out⟩
      case round =>
        obtain ⟨k, hk, rfl, HO2, HG, hbel⟩ := hrel
        have kh := HHbu.out wr hbel
        by_cases hlt : k < rsbu.length
        · have HLt := hid hlt
          obtain ⟨b, off, rfl, hbw, hce⟩ := HEbu.out (by omega)
          have HX := hid (show ∀ W, Below w1.heap.size w1 W → ∀ j, j < 4 → W.cell? ⟨b, off + k * 4 + j, none⟩ = some ((rsbu.getD k BfV.zero).cells.getD j .nilIface) from fun W hW j hj => ((HB1.out.trans (hW.mono HB1.out.size)).cell (by exact hbw)).trans (hce k hlt j hj))
          clear hce
          obtain ⟨r, hr⟩ : ∃ r, rsbu.getD k BfV.zero = r := ⟨_, rfl⟩
          rw [hr] at HX
          have HR := hid hr
          clear hr
          have cl : wr.cell? ⟨b, off + k * 4 + 3, none⟩ = some (.slice r.l.a r.l.n r.l.c) := (HX.out wr hbel 3 (by decide)).trans rfl
          have HLen := hid (show (([] ++ rsbo.map BdV.l) ++ (rsbu.take k).map BfV.l).length ≤ 900000 by have h1 := HNm.out; have h2 := HNbo.out; have h3 := HNbu.out; have h4 := HNse.out; have h5 := HNev.out; simp only [List.length_append, List.length_map, List.length_take, List.length_nil]; omega)
          have HLe := hid (show (([] ++ rsbo.map BdV.l) ++ (rsbu.take k).map BfV.l).length + (slE [r.l]).length ≤ 1000000 by have h1 := HLen.out; have h2 : (slE [r.l]).length = 1 := rfl; omega)
          by_cases hbig : (20 : Int) < (r.vs.n : Int)
          · go_wp2_with (
              (at_builtin
               have hA := (Below.refl wr.heap.size wr).alloc (Nat.le_refl _) (.cells #[.slice r.l.a r.l.n r.l.c] 65)
               have HA2 := hid (hbel.trans (hA.mono hbel.size))
               have HSe := hid (seesC_box1 (BoxAt.new wr 65 #[.slice r.l.a r.l.n r.l.c]))
               have HO3 := hid (HO2.out.below hA)
               clear hA
               refine app_row 65 64 1 24 _ Try.underlying64 Try.infoSS rfl (by decide) (by decide) rfl _ _ rfl w1.heap.size _ _ _ rfl HO3.out _ (slE [r.l]) rfl HSe.out (slE_lens _) (slE_one _) HLe.out HA2.out.size ?_
               intro v' w3 ho hg hb3
               have HO4 := hid (show OSS w3 w1.heap.size v' (([] ++ rsbo.map BdV.l) ++ (rsbu.take (k + 1)).map BfV.l) by
                 rw [take_snoc BfV.l rsbu BfV.zero k HLt.out, HR.out, ← List.append_assoc]
                 unfold OSS
                 rw [← slE_append, List.length_append]
                 exact ho)
               have HB3 := hid (HA2.out.trans hb3)
               have cv : w3.cell? ⟨b, off + k * 4 + 2, none⟩ = some (.slice r.vs.a r.vs.n r.vs.c) := (HX.out w3 HB3.out 2 (by decide)).trans rfl
               have kh3 := HHbu.out w3 HB3.out
               clear ho hg hb3))
            go_ret
            exact ⟨IfT.no _, HB1.out.trans (HB3.out.mono HB1.out.size)⟩
          · have HBig := hid (show r.vs.n ≤ 20 by omega)
            go_wp2_with (
              (at_builtin
               have hA := (Below.refl wr.heap.size wr).alloc (Nat.le_refl _) (.cells #[.slice r.l.a r.l.n r.l.c] 65)
               have HA2 := hid (hbel.trans (hA.mono hbel.size))
               have HSe := hid (seesC_box1 (BoxAt.new wr 65 #[.slice r.l.a r.l.n r.l.c]))
               have HO3 := hid (HO2.out.below hA)
               clear hA
               refine app_row 65 64 1 24 _ Try.underlying64 Try.infoSS rfl (by decide) (by decide) rfl _ _ rfl w1.heap.size _ _ _ rfl HO3.out _ (slE [r.l]) rfl HSe.out (slE_lens _) (slE_one _) HLe.out HA2.out.size ?_
               intro v' w3 ho hg hb3
               have HO4 := hid (show OSS w3 w1.heap.size v' (([] ++ rsbo.map BdV.l) ++ (rsbu.take (k + 1)).map BfV.l) by
                 rw [take_snoc BfV.l rsbu BfV.zero k HLt.out, HR.out, ← List.append_assoc]
                 unfold OSS
                 rw [← slE_append, List.length_append]
                 exact ho)
               have HB3 := hid (HA2.out.trans hb3)
               have cv : w3.cell? ⟨b, off + k * 4 + 2, none⟩ = some (.slice r.vs.a r.vs.n r.vs.c) := (HX.out w3 HB3.out 2 (by decide)).trans rfl
               have kh3 := HHbu.out w3 HB3.out
               clear ho hg hb3))
            go_roundw
            case rel =>
              refine ⟨k + 1, by have := HLt.out; omega, by go_num, HO4, hid (fun j hj => ?_), HB3.out⟩
              by_cases e : j = k
              · subst e; rw [HR.out]; exact HBig.out
              · exact HG.out j (by omega)
            case measure => have := HLt.out; simp [intOf]; omega
        · have HW := hid hbel
          have hkl : k = rsbu.length := by omega
          subst hkl
          rw [List.take_length] at HO2
          have HO := HO2
          have HGbu := HG
          clear hbel
          go_wp2
          go_loopw [3, 6] (fun s i wr => ∃ k : Nat, k ≤ rsse.length ∧ i = .int .i64 k ∧ Hid (OSS wr w1.heap.size s ((([] ++ rsbo.map BdV.l) ++ rsbu.map BfV.l) ++ (rsse.take k).map SeV.l)) ∧ Below w1.heap.size w1 wr) (fun _ i _ => rsse.length - (intOf i).toNat)
          case atStart => exact ⟨0, by omega, rfl, hid (by simpa using HO.out), HW.out⟩
          case round =>
            obtain ⟨k, hk, rfl, HO2, hbel⟩ := hrel
            have kh := HHse.out wr hbel
            by_cases hlt : k < rsse.length
            · have HLt := hid hlt
              obtain ⟨b, off, rfl, hbw, hce⟩ := HEse.out (by omega)
              have HX := hid (show ∀ W, Below w1.heap.size w1 W → ∀ j, j < 4 → W.cell? ⟨b, off + k * 4 + j, none⟩ = some ((rsse.getD k SeV.zero).cells.getD j .nilIface) from fun W hW j hj => ((HB1.out.trans (hW.mono HB1.out.size)).cell (by exact hbw)).trans (hce k hlt j hj))
              clear hce
              obtain ⟨r, hr⟩ : ∃ r, rsse.getD k SeV.zero = r := ⟨_, rfl⟩
              rw [hr] at HX
              have HR := hid hr
              clear hr
              have cl : wr.cell? ⟨b, off + k * 4 + 3, none⟩ = some (.slice r.l.a r.l.n r.l.c) := (HX.out wr hbel 3 (by decide)).trans rfl
              have HLen := hid (show ((([] ++ rsbo.map BdV.l) ++ rsbu.map BfV.l) ++ (rsse.take k).map SeV.l).length ≤ 900000 by have h1 := HNm.out; have h2 := HNbo.out; have h3 := HNbu.out; have h4 := HNse.out; have h5 := HNev.out; simp only [List.length_append, List.length_map, List.length_take, List.length_nil]; omega)
              have HLe := hid (show ((([] ++ rsbo.map BdV.l) ++ rsbu.map BfV.l) ++ (rsse.take k).map SeV.l).length + (slE [r.l]).length ≤ 1000000 by have h1 := HLen.out; have h2 : (slE [r.l]).length = 1 := rfl; omega)
              go_wp2_with (
                (at_builtin
                 have hA := (Below.refl wr.heap.size wr).alloc (Nat.le_refl _) (.cells #[.slice r.l.a r.l.n r.l.c] 65)
                 have HA2 := hid (hbel.trans (hA.mono hbel.size))
                 have HSe := hid (seesC_box1 (BoxAt.new wr 65 #[.slice r.l.a r.l.n r.l.c]))
                 have HO3 := hid (HO2.out.below hA)
                 clear hA
                 refine app_row 65 64 1 24 _ Try.underlying64 Try.infoSS rfl (by decide) (by decide) rfl _ _ rfl w1.heap.size _ _ _ rfl HO3.out _ (slE [r.l]) rfl HSe.out (slE_lens _) (slE_one _) HLe.out HA2.out.size ?_
                 intro v' w3 ho hg hb3
                 have HO4 := hid (show OSS w3 w1.heap.size v' ((([] ++ rsbo.map BdV.l) ++ rsbu.map BfV.l) ++ (rsse.take (k + 1)).map SeV.l) by
                   rw [take_snoc SeV.l rsse SeV.zero k HLt.out, HR.out, ← List.append_assoc]
                   unfold OSS
                   rw [← slE_append, List.length_append]
                   exact ho)
                 have HB3 := hid (HA2.out.trans hb3)
                 clear ho hg hb3))
              go_roundw
              case rel => exact ⟨k + 1, by have := HLt.out; omega, by go_num, HO4, HB3.out⟩
              case measure => have := HLt.out; simp [intOf]; omega
            · have HW := hid hbel
              have hkl : k = rsse.length := by omega
              subst hkl
              rw [List.take_length] at HO2
              have HO := HO2
              clear hbel
              go_wp2
              go_loopw [3, 7] (fun s i wr => ∃ k : Nat, k ≤ rsev.length ∧ i = .int .i64 k ∧ Hid (OSS wr w1.heap.size s (((([] ++ rsbo.map BdV.l) ++ rsbu.map BfV.l) ++ rsse.map SeV.l) ++ (rsev.take k).map EvV.l)) ∧ Below w1.heap.size w1 wr) (fun _ i _ => rsev.length - (intOf i).toNat)
              case atStart => exact ⟨0, by omega, rfl, hid (by simpa using HO.out), HW.out⟩
              case round =>
                obtain ⟨k, hk, rfl, HO2, hbel⟩ := hrel
                have kh := HHev.out wr hbel
                by_cases hlt : k < rsev.length
                · have HLt := hid hlt
                  obtain ⟨b, off, rfl, hbw, hce⟩ := HEev.out (by omega)
                  have HX := hid (show ∀ W, Below w1.heap.size w1 W → ∀ j, j < 2 → W.cell? ⟨b, off + k * 2 + j, none⟩ = some ((rsev.getD k EvV.zero).cells.getD j .nilIface) from fun W hW j hj => ((HB1.out.trans (hW.mono HB1.out.size)).cell (by exact hbw)).trans (hce k hlt j hj))
                  clear hce
                  obtain ⟨r, hr⟩ : ∃ r, rsev.getD k EvV.zero = r := ⟨_, rfl⟩
                  rw [hr] at HX
                  have HR := hid hr
                  clear hr
                  have cl : wr.cell? ⟨b, off + k * 2 + 1, none⟩ = some (.slice r.l.a r.l.n r.l.c) := (HX.out wr hbel 1 (by decide)).trans rfl
                  have HLen := hid (show (((([] ++ rsbo.map BdV.l) ++ rsbu.map BfV.l) ++ rsse.map SeV.l) ++ (rsev.take k).map EvV.l).length ≤ 900000 by have h1 := HNm.out; have h2 := HNbo.out; have h3 := HNbu.out; have h4 := HNse.out; have h5 := HNev.out; simp only [List.length_append, List.length_map, List.length_take, List.length_nil]; omega)
                  have HLe := hid (show (((([] ++ rsbo.map BdV.l) ++ rsbu.map BfV.l) ++ rsse.map SeV.l) ++ (rsev.take k).map EvV.l).length + (slE [r.l]).length ≤ 1000000 by have h1 := HLen.out; have h2 : (slE [r.l]).length = 1 := rfl; omega)
                  go_wp2_with (
                    (at_builtin
                     have hA := (Below.refl wr.heap.size wr).alloc (Nat.le_refl _) (.cells #[.slice r.l.a r.l.n r.l.c] 65)
                     have HA2 := hid (hbel.trans (hA.mono hbel.size))
                     have HSe := hid (seesC_box1 (BoxAt.new wr 65 #[.slice r.l.a r.l.n r.l.c]))
                     have HO3 := hid (HO2.out.below hA)
                     clear hA
                     refine app_row 65 64 1 24 _ Try.underlying64 Try.infoSS rfl (by decide) (by decide) rfl _ _ rfl w1.heap.size _ _ _ rfl HO3.out _ (slE [r.l]) rfl HSe.out (slE_lens _) (slE_one _) HLe.out HA2.out.size ?_
                     intro v' w3 ho hg hb3
                     have HO4 := hid (show OSS w3 w1.heap.size v' (((([] ++ rsbo.map BdV.l) ++ rsbu.map BfV.l) ++ rsse.map SeV.l) ++ (rsev.take (k + 1)).map EvV.l) by
                       rw [take_snoc EvV.l rsev EvV.zero k HLt.out, HR.out, ← List.append_assoc]
                       unfold OSS
                       rw [← slE_append, List.length_append]
                       exact ho)
                     have HB3 := hid (HA2.out.trans hb3)
                     clear ho hg hb3))
                  go_roundw
                  case rel => exact ⟨k + 1, by have := HLt.out; omega, by go_num, HO4, HB3.out⟩
                  case measure => have := HLt.out; simp [intOf]; omega
                · have HW := hid hbel
                  have hkl : k = rsev.length := by omega
                  subst hkl
                  rw [List.take_length] at HO2
                  have HO := HO2
                  clear hbel
                  obtain ⟨WL, hWL⟩ : ∃ WL, WL = (((([] ++ rsbo.map BdV.l) ++ rsbu.map BfV.l) ++ rsse.map SeV.l) ++ rsev.map EvV.l) := ⟨_, rfl⟩
                  rw [← hWL] at HO
                  obtain ⟨al, cl, hvl, hl1, hl2, _⟩ := SeesC.form (by decide) HO.out.sees
                  have hlen : (slE WL).length = WL.length := by simp [slE]
                  obtain ⟨m, hm⟩ : ∃ m, (slE WL).length = m := ⟨_, rfl⟩
                  rw [hm] at hvl hl1
                  subst hvl
                  have HTot := hid (show WL.length = c.bo.length + c.bu.length + c.se.length + c.ev.length by have h2 := HNbo.out; have h3 := HNbu.out; have h4 := HNse.out; have h5 := HNev.out; rw [hWL]; simp; omega)
                  have hcl : cl ≤ 9223372036854775807 := hl2
                  have hm2 : m ≤ 9223372036854775807 := by omega
                  have HLe := hid (show m = WL.length by omega)
                  have HWL := hid hWL
                  clear hl1 hl2 hWL hlen hm
                  go_wp2
                  go_loopw [8] (fun i wr => ∃ k : Nat, k ≤ rsqu.length ∧ i = .int .i64 k ∧ Hid (∀ j, j < k → (rsqu.getD j QuV.zero).vs.n ≤ 20) ∧ Hid (OSS wr w1.heap.size (.slice al m cl) WL) ∧ Below w1.heap.size w1 wr) (fun i _ => rsqu.length - (intOf i).toNat)
                  case atStart => exact ⟨0, by omega, rfl, hid (fun j hj => by omega), HO, HW.out⟩
                  case round =>
                    obtain ⟨k, hk, rfl, HG, HO2, hbel⟩ := hrel
                    have kh := HHqu.out wr hbel
                    by_cases hlt : k < rsqu.length
                    · have HLt := hid hlt
                      obtain ⟨b, off, rfl, hbw, hce⟩ := HEqu.out (by omega)
                      have HX := hid (show ∀ W, Below w1.heap.size w1 W → ∀ j, j < 3 → W.cell? ⟨b, off + k * 3 + j, none⟩ = some ((rsqu.getD k QuV.zero).cells.getD j .nilIface) from fun W hW j hj => ((HB1.out.trans (hW.mono HB1.out.size)).cell (by exact hbw)).trans (hce k hlt j hj))
                      clear hce
                      obtain ⟨r, hr⟩ : ∃ r, rsqu.getD k QuV.zero = r := ⟨_, rfl⟩
                      rw [hr] at HX
                      have HR := hid hr
                      clear hr
                      have cv : wr.cell? ⟨b, off + k * 3 + 1, none⟩ = some (.slice r.vs.a r.vs.n r.vs.c) := (HX.out wr hbel 1 (by decide)).trans rfl
                      by_cases hbig : (20 : Int) < (r.vs.n : Int)
                      · go_wp2
                        go_ret
                        exact ⟨IfT.no _, HB1.out.trans (hbel.mono HB1.out.size)⟩
                      · have HBig := hid (show r.vs.n ≤ 20 by omega)
                        go_wp2
                        go_roundw
                        case rel =>
                          refine ⟨k + 1, by have := HLt.out; omega, by go_num, hid (fun j hj => ?_), HO2, hbel⟩
                          by_cases e : j = k
                          · subst e; rw [HR.out]; exact HBig.out
                          · exact HG.out j (by omega)
                        case measure => have := HLt.out; simp [intOf]; omega
                    · have HW := hid hbel
                      have hkl : k = rsqu.length := by omega
                      subst hkl
                      have HGqu := HG
                      have HO := HO2
                      clear hbel
                      go_wp2_with fail
                      refine (lwaits_any (l := WL) m hm2 HO.out.sees (by have h1 := HTot.out; have h2 := HNm.out; omega)).mono ?_
                      rintro e w9 ⟨⟨d, rfl, hd⟩, hbl⟩
                      have HD := hid hd
                      clear hd
                      go_wp2
                      go_ret
                      refine ⟨⟨d, rfl, fun h => ?_⟩, HB1.out.trans ((HW.out.trans (hbl.mono HW.out.size)).mono HB1.out.size)⟩
                      obtain ⟨hn20, hall⟩ := HD.out h
                      have hin : ∀ (s : Sl), s ∈ (((([] ++ rsbo.map BdV.l) ++ rsbu.map BfV.l) ++ rsse.map SeV.l) ++ rsev.map EvV.l) → s.n ≤ 20 := fun s hs => hall s (by rw [HWL.out]; exact hs)
                      refine ⟨HC0.out, HC1.out, by have h1 := HC2.out; have h2 := HNqu.out; omega, HC3.out, HC4.out, HC5.out, by have h1 := HTot.out; have h2 := HLe.out; omega, ?_, ?_, ?_, ?_, ?_⟩
                      · intro x hx
                        obtain ⟨j, hj, rfl⟩ := List.mem_iff_getElem.1 hx
                        have hjr : j < rsbo.length := by have := HNbo.out; omega
                        have h4 : c.bo.getD j Bd.zero = c.bo[j] := by simp [List.getD, List.getElem?_eq_getElem hj]
                        have h1 := nest_n (HAbo.out j hjr).l
                        rw [h4] at h1
                        have hm : (rsbo.getD j BdV.zero).l ∈ rsbo.map BdV.l := List.mem_map_of_mem (by simp [List.getD, List.getElem?_eq_getElem hjr])
                        have h3 := hin _ (by simp only [List.mem_append]; exact .inl (.inl (.inl (.inr hm))))
                        omega
                      · intro x hx
                        obtain ⟨j, hj, rfl⟩ := List.mem_iff_getElem.1 hx
                        have hjr : j < rsbu.length := by have := HNbu.out; omega
                        have h4 : c.bu.getD j Bf.zero = c.bu[j] := by simp [List.getD, List.getElem?_eq_getElem hj]
                        have h1 := nest_n (HAbu.out j hjr).l
                        rw [h4] at h1
                        have hm : (rsbu.getD j BfV.zero).l ∈ rsbu.map BfV.l := List.mem_map_of_mem (by simp [List.getD, List.getElem?_eq_getElem hjr])
                        have h3 := hin _ (by simp only [List.mem_append]; exact .inl (.inl (.inr hm)))
                        have h5 := nest_ni (HAbu.out j hjr).vs
                        rw [h4] at h5
                        have h6 := HGbu.out j hjr
                        exact ⟨by omega, by omega⟩
                      · intro x hx
                        obtain ⟨j, hj, rfl⟩ := List.mem_iff_getElem.1 hx
                        have hjr : j < rsse.length := by have := HNse.out; omega
                        have h4 : c.se.getD j Se.zero = c.se[j] := by simp [List.getD, List.getElem?_eq_getElem hj]
                        have h1 := nest_n (HAse.out j hjr).l
                        rw [h4] at h1
                        have hm : (rsse.getD j SeV.zero).l ∈ rsse.map SeV.l := List.mem_map_of_mem (by simp [List.getD, List.getElem?_eq_getElem hjr])
                        have h3 := hin _ (by simp only [List.mem_append]; exact .inl (.inr hm))
                        omega
                      · intro x hx
                        obtain ⟨j, hj, rfl⟩ := List.mem_iff_getElem.1 hx
                        have hjr : j < rsev.length := by have := HNev.out; omega
                        have h4 : c.ev.getD j Ev.zero = c.ev[j] := by simp [List.getD, List.getElem?_eq_getElem hj]
                        have h1 := nest_n (HAev.out j hjr).l
                        rw [h4] at h1
                        have hm : (rsev.getD j EvV.zero).l ∈ rsev.map EvV.l := List.mem_map_of_mem (by simp [List.getD, List.getElem?_eq_getElem hjr])
                        have h3 := hin _ (by simp only [List.mem_append]; exact .inr hm)
                        omega
                      · intro x hx
                        obtain ⟨j, hj, rfl⟩ := List.mem_iff_getElem.1 hx
                        have hjr : j < rsqu.length := by have := HNqu.out; omega
                        have h4 : c.qu.getD j Qu.zero = c.qu[j] := by simp [List.getD, List.getElem?_eq_getElem hj]
                        have h5 := nest_ni (HAqu.out j hjr).vs
                        rw [h4] at h5
                        have h6 := HGqu.out j hjr
                        omega

end Go.Proofs.Ytdanfnbclbiidaa
