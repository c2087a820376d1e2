/-
  What ready.Order and ready.Pick return; nothing that was there is written.
-/
import Derived.Test.YtdhkchbmddacmaaYCls
namespace Go.Proofs.Ytdhkchbmddacmaa
open Go.RowKit Go.Shelf
open Go.Sort (grow alloc_eq_grow SWO)
set_option linter.unusedVariables false

/-- The order, as numbers of a machine. -/
def orderI (l : List Px) (mode : Int) : List Int := (orderS l mode).map (fun i : Nat => (i : Int))

/-- A place of the list, as a value. -/
def encF (n : Nat) (i : Fin n) : Value := .int .i64 ((i.val : Nat) : Int)
def cfF (l : List Px) (i j : Fin l.length) : Int := cfN l i.val j.val
theorem lt_cf (l : List Px) (i j : Fin l.length) : ltOf (cfF l) i j = aheadN l i.val j.val := by unfold ltOf cfF; exact cf_ahead l i.val j.val
theorem swo_cf (l : List Px) : SWO (ltOf (cfF l)) where
  irrefl x := by rw [lt_cf]; exact ahead_irrefl l _
  trans x y z h1 h2 := by rw [lt_cf] at *; exact ahead_trans l _ _ _ h1 h2
  ntrans x y z h1 h2 := by
    rw [lt_cf] at *
    by_cases hxy : x.val = y.val
    · rw [hxy]; exact h2
    · by_cases hyz : y.val = z.val
      · rw [← hyz]; exact h1
      · have h3 := (ahead_total l _ _ hxy).resolve_left (by rw [h1]; simp)
        have h4 := (ahead_total l _ _ hyz).resolve_left (by rw [h2]; simp)
        exact ahead_asymm l _ _ (ahead_trans l _ _ _ h4 h3)
theorem tot_cf (l : List Px) (x y : Fin l.length) (h1 : ltOf (cfF l) x y = false) (h2 : ltOf (cfF l) y x = false) : x = y := by
  rw [lt_cf] at *
  apply Fin.ext
  by_cases h : x.val = y.val
  · exact h
  · rcases ahead_total l _ _ h with h | h
    · rw [h] at h1; cases h1
    · rw [h] at h2; cases h2

/-- Those that could run, as places of the list. -/
def idxF (l : List Px) (mode : Int) : List (Fin l.length) := (idxS l mode).pmap (fun i h => ⟨i, h⟩) (fun i h => idx_lt l mode i h)
theorem idxF_val (l : List Px) (mode : Int) : (idxF l mode).map (fun i => i.val) = idxS l mode := by
  unfold idxF
  rw [List.map_pmap]
  simp
theorem idxF_len (l : List Px) (mode : Int) : (idxF l mode).length = (idxS l mode).length := by unfold idxF; simp
theorem sortF_val (l : List Px) (mode : Int) : ((idxF l mode).mergeSort (fun x y => !(ltOf (cfF l)) y x)).map (fun i => i.val) = orderS l mode := by
  unfold orderS
  rw [← idxF_val l mode]
  refine List.map_mergeSort (fun a _ b _ => ?_)
  rw [lt_cf]
theorem sortF_len (l : List Px) (mode : Int) : ((idxF l mode).mergeSort (fun x y => !(ltOf (cfF l)) y x)).length = (orderS l mode).length := by
  rw [← sortF_val l mode, List.length_map]

theorem sort_below {α : Type} [Inhabited α] (enc : α → Value) (w : World) (g off n : Nat) (d : Array α) (os : Array Obj) {B : Nat} (hB : B ≤ g) (hg : B ≤ w.heap.size) : Below B w (sortWorld enc w g off n d os) := by
  refine ⟨rfl, rfl, rfl, ?_, fun k hk => ?_⟩
  · unfold sortWorld Go.Sort.putRow Go.Sort.mapBlock Go.Sort.ahead grow; simp
  · unfold sortWorld Go.Sort.putRow Go.Sort.mapBlock Go.Sort.ahead grow
    show (w.heap.modify g _ ++ os)[k]? = _
    rw [Array.getElem?_append_left (by simp; omega), Array.getElem?_modify, if_neg (by omega)]
theorem sort_block {α : Type} [Inhabited α] (enc : α → Value) (w : World) (g off n : Nat) (d : Array α) (os : Array Obj) (cur : Array Value) (t : TypeId) (fr : Nat × Nat) (h : w.heap[g]? = some (.cells cur t fr)) :
    (sortWorld enc w g off n d os).heap[g]? = some (.cells (Go.Sort.putCells enc off d cur) t fr) := by
  have hg : g < w.heap.size := by
    rcases Nat.lt_or_ge g w.heap.size with h' | h'
    · exact h'
    · rw [Array.getElem?_eq_none h'] at h; cases h
  unfold sortWorld Go.Sort.putRow Go.Sort.mapBlock Go.Sort.ahead grow
  show (w.heap.modify g _ ++ os)[g]? = _
  rw [Array.getElem?_append_left (by simpa using hg), Array.getElem?_modify, if_pos rfl, h]
  rfl
theorem sort_cell {α : Type} [Inhabited α] (enc : α → Value) (w : World) (g off n : Nat) (d : Array α) (os : Array Obj) (a : Addr) (ha : a.block < w.heap.size) (hne : a.block ≠ g) : (sortWorld enc w g off n d os).cell? a = w.cell? a := by
  have hb : (sortWorld enc w g off n d os).heap[a.block]? = w.heap[a.block]? := by
    unfold sortWorld Go.Sort.putRow Go.Sort.mapBlock Go.Sort.ahead grow
    show (w.heap.modify g _ ++ os)[a.block]? = _
    rw [Array.getElem?_append_left (by simpa using ha), Array.getElem?_modify, if_neg (fun e => hne e.symm)]
  unfold World.cell?
  rw [hb]

theorem put_take {α : Type} [Inhabited α] (enc : α → Value) (d : List α) (cur : Array Value) (n : Nat) (hn : n = d.length) (hc : n ≤ cur.size) : (Go.Sort.putCells enc 0 d.toArray cur).toList.take n = d.map enc := by
  apply List.ext_getElem
  · simp [Go.Sort.putCells]; omega
  · intro i h1 h2
    simp only [List.length_map] at h2
    simp [Go.Sort.putCells, List.getElem_take, h2]

theorem idxI_S (l : List Px) (mode : Int) : idxI l (modeN mode l.length) = (idxS l mode).map (fun i : Nat => (i : Int)) := rfl

set_option maxRecDepth 100000 in
set_option maxHeartbeats 1600000 in
theorem order_any (vl : Value) (l : List Px) (mode : Int) (w : World) (hv : SeesPx w vl l) (hl : l.length ≤ 900000) :
    Calls Try.prog 11 #[vl, .int .i64 mode] w fun e w' => ∃ u, e = .returned u ∧ OI w' w.heap.size u (orderI l mode) ∧ Below w.heap.size w w' := by
  have hb0 : Below w.heap.size w (w.alloc (.cells #[vl] 22)) := (Below.refl _ _).alloc (Nat.le_refl _) _
  have HB0 := hid hb0
  have HCo := hid (could_any vl l mode (w.alloc (.cells #[vl] 22)) (hv.below hb0) hl)
  obtain ⟨al, cl, hvl, hl1, hl2, hlc⟩ := hv.form
  have HV := hid hvl
  have HC := hid hlc
  clear hb0 hlc hv hl2
  have BX := hid (BoxAt.new w 22 #[vl])
  have eg : ∀ args w, (callFunc 17 args).run Try.prog w = .ok (.enter 17 args) w := enters_of Try.func17 (by kernel_rfl) rfl
  obtain ⟨a0, cap0, hv0⟩ : ∃ a c, vl = .slice a l.length c := ⟨al, cl, hvl⟩
  clear hvl
  subst hv0
  go_enter Try.func11, Try.ntmps11
  go_wp2_with fail
  refine HCo.out.mono ?_
  rintro e w1 ⟨u, rfl, ho, hb1⟩
  have HO := hid ho
  have HB1 := hid hb1
  have hbx : w1.cell? ⟨w.heap.size, 0, none⟩ = some (.slice a0 l.length cap0) := ((BX.out.belowAll hb1).cell 0).trans rfl
  have HX := hid hbx
  have HB := hid (HB0.out.trans (hb1.mono (by simp)))
  have hz1 : w.heap.size < w1.heap.size := by have := hb1.size; simp at this; omega
  clear hb1 HCo BX
  by_cases hn : (idxS l mode).length = 0
  · have he : idxS l mode = [] := List.eq_nil_of_length_eq_zero hn
    have hoe : orderI l mode = [] := by unfold orderI orderS; rw [he]; simp
    rw [idxI_S, he] at ho
    have hoi : OI w1 w.heap.size u [] := ho.mono (by simp)
    have HOE := hid (show OI w1 w.heap.size u (orderI l mode) by rw [hoe]; exact hoi)
    obtain ⟨pu, cu, hu⟩ : ∃ p c, u = .slice p 0 c := by
      rcases ho.2 with ⟨h, _⟩ | ⟨g, cap, cur, h, _⟩
      · exact ⟨none, 0, h⟩
      · exact ⟨_, _, h⟩
    subst hu
    have HN := hid (fun fv W => Try.slices_SortFunc_none (α := Nat) pu cu fv W)
    clear ho hoi HO hoe he hn
    go_wp2_with fail
    refine (HN.out _ _).mono ?_
    rintro e w2 ⟨rfl, rfl⟩
    go_wp2
    go_ret
    exact ⟨_, rfl, HOE.out, HB.out⟩
  · have hlp : 0 < l.length := by have := idx_len l mode; omega
    obtain ⟨b, off, rfl, hbw, hcell⟩ : ∃ b off, a0 = some ⟨b, off, none⟩ ∧ b < w.heap.size ∧ ∀ i, i < l.length → PxAt w b (off + i * 18) (l.getD i Px.zero) := by
      obtain ⟨b, off, h1, h2, h3⟩ := HC.out hlp
      have := HV.out
      simp only [Value.slice.injEq] at this
      exact ⟨b, off, this.1.trans h1, h2, h3⟩
    haveI : Inhabited (Fin l.length) := ⟨⟨0, hlp⟩⟩
    have hlenI : (idxI l (modeN mode l.length)).length = (idxS l mode).length := by rw [idxI_S, List.length_map]
    obtain ⟨g, cap, cur, hu, hg0, hheap, hnc, hcm, hcs, htk⟩ : ∃ (g cap : Nat) (cur : Array Value), u = .slice (some ⟨g, 0, none⟩) (idxS l mode).length cap ∧ w.heap.size + 1 ≤ g ∧ w1.heap[g]? = some (.cells cur 3 (0, 0)) ∧ (idxS l mode).length ≤ cap ∧ cap ≤ maxLen ∧ cur.size = cap * 1 ∧ cur.toList.take (idxS l mode).length = (idxF l mode).map (encF l.length) := by
      have hh := ho.2
      rw [hlenI] at hh
      rcases hh with ⟨_, h⟩ | ⟨g, cap, cur, h1, h2, h3, h4, h5, h6, h7⟩
      · exact absurd h hn
      · refine ⟨g, cap, cur, h1, by simpa using h2, h3, h4, h5, h6, ?_⟩
        rw [Nat.mul_one] at h7
        rw [h7, idxI_S, ← idxF_val, List.map_map, List.map_map]
        rfl
    subst hu
    have hsz : (idxF l mode).toArray.size = (idxS l mode).length := by simp [idxF_len]
    have hgz : g < w1.heap.size := by
      rcases Nat.lt_or_ge g w1.heap.size with h' | h'
      · exact h'
      · rw [Array.getElem?_eq_none h'] at hheap; cases hheap
    have hH : Go.Sort.Holds (encF l.length) w1 g 0 (idxF l mode).toArray := by
      intro j hj
      refine ⟨?_, frozen_of_row w1 g (0 + j) cur _ hheap⟩
      rw [cell_of_row w1 g (0 + j) cur _ (0, 0) hheap, Nat.zero_add]
      have hj2 : j < (idxF l mode).length := by simpa using hj
      have hj3 : j < (idxS l mode).length := by rw [← idxF_len]; exact hj2
      have h1 : (cur.toList.take (idxS l mode).length)[j]? = ((idxF l mode).map (encF l.length))[j]? := by rw [htk]
      rw [List.getElem?_take_of_lt hj3] at h1
      simp only [Array.getElem?_toList] at h1
      rw [h1]
      simp [hj2]
    have hcmp : CmpLays1 Try.prog 17 #[.pointer (some ⟨w.heap.size, 0, none⟩)] (encF l.length) (cfF l) g 0 (idxF l mode).toArray.size w1 := by
      intro m os dk _ x y
      have hpx : ∀ i, i < l.length → PxAt (sortWorld (encF l.length) w1 g 0 m dk os) b (off + i * 18) (l.getD i Px.zero) := fun i hi j hj => by
        rw [sort_cell _ _ _ _ _ _ _ _ (by show b < w1.heap.size; omega) (by show b ≠ g; omega)]
        exact (HB.out.cell (by exact hbw)).trans (hcell i hi j hj)
      have hb : (sortWorld (encF l.length) w1 g 0 m dk os).cell? ⟨w.heap.size, 0, none⟩ = some (.slice (some ⟨b, off, none⟩) l.length cap0) := by
        rw [sort_cell _ _ _ _ _ _ _ _ (by show w.heap.size < w1.heap.size; omega) (by show w.heap.size ≠ g; omega)]
        exact HX.out
      exact cls_any l x.val y.val (sortWorld (encF l.length) w1 g 0 m dk os) w.heap.size b off cap0 hb x.isLt y.isLt hl (hpx _ x.isLt) (hpx _ y.isLt)
    have hS := Try.slices_SortFunc_total (encF l.length) (fun _ => rfl) (cfF l) (swo_cf l) 17 #[.pointer (some ⟨w.heap.size, 0, none⟩)] g 0 cap (idxF l mode).toArray w1 eg hcmp hH hgz (by rw [hsz]; have := idx_len l mode; omega) (tot_cf l)
    rw [hsz] at hS
    have HS := hid hS
    have HEnd := hid (fun (n : Nat) (os : Array Obj) => show OI (sortWorld (encF l.length) w1 g 0 n ((idxF l mode).toArray.toList.mergeSort fun x y => !(ltOf (cfF l)) y x).toArray os) w.heap.size (.slice (some ⟨g, 0, none⟩) (idxS l mode).length cap) (orderI l mode) ∧ Below w.heap.size w (sortWorld (encF l.length) w1 g 0 n ((idxF l mode).toArray.toList.mergeSort fun x y => !(ltOf (cfF l)) y x).toArray os) from by
      have hlo : (orderI l mode).length = (idxS l mode).length := by unfold orderI; rw [List.length_map, order_len]
      have hlm : (idxS l mode).length = ((idxF l mode).toArray.toList.mergeSort fun x y => !(ltOf (cfF l)) y x).length := by simp [idxF_len]
      refine ⟨⟨by rw [List.length_map, hlo, Nat.mul_one], .inr ⟨g, cap, _, by rw [hlo], by omega, sort_block _ w1 g 0 n _ os cur _ _ hheap, by rw [hlo]; exact hnc, hcm, by simp [Go.Sort.putCells, hcs], ?_⟩⟩, HB.out.trans (sort_below _ w1 g 0 n _ os (by omega) (by omega))⟩
      rw [Nat.mul_one, hlo, put_take _ _ cur _ hlm (by rw [hcs]; omega)]
      unfold orderI
      rw [← sortF_val l mode, List.map_map, List.map_map]
      rfl)
    clear hS hcmp hH htk hcs hheap ho HO HV HC hcell hlenI hsz
    go_wp2_with fail
    refine HS.out.mono ?_
    rintro e w2 ⟨rfl, n, os, hw⟩
    have hE := HEnd.out n os
    rw [← hw] at hE
    have HE := hid hE
    clear hE hw HEnd HS
    go_wp2
    go_ret
    exact ⟨_, rfl, HE.out.1, HE.out.2⟩

theorem pick_head (l : List Px) (mode : Int) : pickS l mode = match orderI l mode with | [] => -1 | x :: _ => x := by
  unfold pickS orderI
  cases orderS l mode <;> rfl

set_option maxRecDepth 100000 in
set_option maxHeartbeats 1600000 in
theorem pick_any (vl : Value) (l : List Px) (mode : Int) (w : World) (hv : SeesPx w vl l) (hl : l.length ≤ 900000) :
    Calls Try.prog 13 #[vl, .int .i64 mode] w fun e w' => e = .returned (.int .i64 (pickS l mode)) ∧ Below w.heap.size w w' := by
  have HO := hid (order_any vl l mode w hv hl)
  rw [pick_head]
  generalize orderI l mode = M at *
  obtain ⟨al, cl, rfl, _⟩ := hv.form
  clear hv
  go_enter Try.func13, Try.ntmps13
  go_wp2_with fail
  refine HO.out.mono ?_
  rintro e w1 ⟨u, rfl, ho, hb1⟩
  have HB := hid hb1
  clear HO hb1
  obtain ⟨pu, cu, rfl, h1, h2, h3⟩ := ho.sees.form
  clear ho
  cases M with
  | nil =>
    clear h3
    go_wp2
    go_ret
    exact ⟨rfl, HB.out⟩
  | cons x M =>
    obtain ⟨b, off, rfl, hbw, hc⟩ := h3 (by simp)
    have c0 : w1.cell? ⟨b, off, none⟩ = some (.int .i64 x) := hc 0 (by simp)
    have hne : ((((x :: M).length : Nat) : Int) == 0) = false := by first | (simp; done) | (simp; omega)
    have hlt : (0 : Int) < (((x :: M).length : Nat) : Int) := by first | (simp; done) | (simp; omega)
    have hlt2 : 0 < (x :: M).length := by simp
    generalize (x :: M).length = L at *
    clear hc
    go_wp2
    go_ret
    exact ⟨rfl, HB.out⟩
end Go.Proofs.Ytdhkchbmddacmaa
