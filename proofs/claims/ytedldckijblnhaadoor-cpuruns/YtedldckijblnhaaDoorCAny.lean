/-
  What an instruction that may be comes to on a machine: what the plain function says.
-/
import Derived.Test.YtedldckijblnhaaDoorCRunDo
namespace Go.Proofs.YtedldckijblnhaaDoor
open Go.RowKit
set_option linter.unusedVariables false

/-- How an instruction ends: by a fault, or with what the plain function says. -/
def RunPost (BB : Nat) (i : In) (c : Co) (m : List Int) (l : List Rg) (now : Int) (N : Nat) (w : World) (e : Ending) (w' : World) : Prop :=
  (∃ f, ¬ f = 0 ∧ e = faultE f ∧ stepI i c m l now = (c, m, faultO f) ∧ Below N w w') ∨
  ∃ M', e = .returned (.tuple #[]) ∧ MAt w' N M' ∧ M'.c = (stepI i c m l now).1 ∧ M'.o = (stepI i c m l now).2.2 ∧ w'.ownsRow BB 3 1 M'.wv (stepI i c m l now).2.1.length ((stepI i c m l now).2.1.map (Value.int .i64)) ∧ Below N w w'

theorem Co.at_self (c : Co) : c.at c.p = c := rfl

def mach (c : Co) (wv rv : Value) (now : Int) : Mc := ⟨c, c.p + 1, wv, rv, now, quietO⟩

theorem run_post_val (k K : Nat) (a b : Nat) (ha : a < 4) (hb : b < 4) (c : Co) (m : List Int) (l : List Rg) (now : Int) (N : Nat) (wv rv : Value) (w : World) (hc : c.fit) (hM : MAt w N (mach c wv rv now)) (BB : Nat) (hS : ∀ w', Below N w w' → w'.ownsRow BB 3 1 wv m.length (m.map (Value.int .i64)))
    (hidx : ∀ w, (Instr.index 73 rowsV (.int .i64 k)).run Tryd.prog w = .ok (.agg #[.func (.func K) #[] #[], .nilFunc]) w)
    (hcf : ∀ (x y : Int) (w : World), (callFunc K #[.int .i64 x, .int .i64 y]).run Tryd.prog w = .ok (.enter K #[.int .i64 x, .int .i64 y]) w)
    (HV : fit64 (c.reg a) → fit64 (c.reg b) → ∀ w', Calls Tryd.prog K #[.int .i64 (c.reg a), .int .i64 (c.reg b)] w' fun e w'' => e = .returned (.int .i64 (opV k (c.reg a) (c.reg b))) ∧ Below w'.heap.size w' w'')
    (hst : stepI ⟨k, a, b⟩ c m l now = ((c.set a (opV k (c.reg a) (c.reg b))).at (c.p + 1), m, quietO)) :
    Calls Tryd.prog 22 #[.pointer (some ⟨N, 0, none⟩), (⟨k, a, b⟩ : In).val] w (RunPost BB ⟨k, a, b⟩ c m l now N w) := by
  refine (run_val K k (c.reg a) (c.reg b) (opV k (c.reg a) (c.reg b)) a b ha hb hidx (hcf _ _) N _ w hM rfl rfl (HV (Co.reg_fit hc a) (Co.reg_fit hc b))).mono ?_
  rintro e w' ⟨rfl, h1, h2⟩
  refine .inr ⟨_, rfl, h1, ?_, ?_, ?_, h2⟩
  · rw [hst]; rfl
  · rw [hst]; rfl
  · rw [hst]; exact hS w' h2

theorem run_do1 (K : Nat) (o A B : Int) (hidx : ∀ w, (Instr.index 73 rowsV (.int .i64 o)).run Tryd.prog w = .ok (.agg #[.nilFunc, .func (.func K) #[] #[]]) w) (N : Nat) (M M1 : Mc) (w : World) (hM : MAt w N M)
    (hcf : ∀ (x y : Value) (w : World), (callFunc K #[x, y]).run Tryd.prog w = .ok (.enter K #[x, y]) w)
    (HF : ∀ w', MAt w' N M → Below N w w' → Calls Tryd.prog K #[.pointer (some ⟨N, 0, none⟩), (⟨o, A, B⟩ : In).val] w' fun e w'' => e = .returned (.tuple #[]) ∧ MAt w'' N M1 ∧ Below N w' w'') :
    Calls Tryd.prog 22 #[.pointer (some ⟨N, 0, none⟩), (⟨o, A, B⟩ : In).val] w fun e w' => e = .returned (.tuple #[]) ∧ MAt w' N { M1 with c := M1.c.at M1.nx } ∧ Below N w w' := by
  refine (run_do (fun M' _ => M' = M1) K o A B hidx N M w hM (fun w => hcf _ _ w) (fun _ _ _ h => h) (fun w' h1 h2 => (HF w' h1 h2).mono ?_)).mono ?_
  · rintro e w'' ⟨he, hm, hb⟩
    exact ⟨M1, he, hm, rfl, hb⟩
  · rintro e w' ⟨M', he, hm, rfl, hb⟩
    exact ⟨he, hm, hb⟩

theorem run_post_do (o A B : Int) (c : Co) (m : List Int) (l : List Rg) (now : Int) (N : Nat) (wv rv : Value) (w : World) (M1 : Mc) (BB : Nat) (hS : ∀ w', Below N w w' → w'.ownsRow BB 3 1 wv m.length (m.map (Value.int .i64))) (hw : M1.wv = wv)
    (H : Calls Tryd.prog 22 #[.pointer (some ⟨N, 0, none⟩), (⟨o, A, B⟩ : In).val] w fun e w' => e = .returned (.tuple #[]) ∧ MAt w' N { M1 with c := M1.c.at M1.nx } ∧ Below N w w')
    (hst : stepI ⟨o, A, B⟩ c m l now = (M1.c.at M1.nx, m, M1.o)) :
    Calls Tryd.prog 22 #[.pointer (some ⟨N, 0, none⟩), (⟨o, A, B⟩ : In).val] w (RunPost BB ⟨o, A, B⟩ c m l now N w) := by
  refine H.mono ?_
  rintro e w' ⟨rfl, h1, h2⟩
  refine .inr ⟨_, rfl, h1, ?_, ?_, ?_, h2⟩
  · rw [hst]
  · rw [hst]
  · rw [hst]; simp only [hw]; exact hS w' h2

theorem cf0 (x y : Value) (w : World) : (callFunc 47 #[x, y]).run Tryd.prog w = .ok (.enter 47 #[x, y]) w := by kernel_rfl
theorem cf1 (x y : Value) (w : World) : (callFunc 48 #[x, y]).run Tryd.prog w = .ok (.enter 48 #[x, y]) w := by kernel_rfl
theorem cf2 (x y : Value) (w : World) : (callFunc 49 #[x, y]).run Tryd.prog w = .ok (.enter 49 #[x, y]) w := by kernel_rfl
theorem cf3 (x y : Value) (w : World) : (callFunc 50 #[x, y]).run Tryd.prog w = .ok (.enter 50 #[x, y]) w := by kernel_rfl
theorem cf4 (x y : Value) (w : World) : (callFunc 51 #[x, y]).run Tryd.prog w = .ok (.enter 51 #[x, y]) w := by kernel_rfl
theorem cf5 (x y : Value) (w : World) : (callFunc 52 #[x, y]).run Tryd.prog w = .ok (.enter 52 #[x, y]) w := by kernel_rfl
theorem cf6 (x y : Value) (w : World) : (callFunc 53 #[x, y]).run Tryd.prog w = .ok (.enter 53 #[x, y]) w := by kernel_rfl
theorem cf7 (x y : Value) (w : World) : (callFunc 54 #[x, y]).run Tryd.prog w = .ok (.enter 54 #[x, y]) w := by kernel_rfl
theorem cf8 (x y : Value) (w : World) : (callFunc 56 #[x, y]).run Tryd.prog w = .ok (.enter 56 #[x, y]) w := by kernel_rfl
theorem cf9 (x y : Value) (w : World) : (callFunc 57 #[x, y]).run Tryd.prog w = .ok (.enter 57 #[x, y]) w := by kernel_rfl
theorem cf10 (x y : Value) (w : World) : (callFunc 58 #[x, y]).run Tryd.prog w = .ok (.enter 58 #[x, y]) w := by kernel_rfl
theorem cf11 (x y : Value) (w : World) : (callFunc 59 #[x, y]).run Tryd.prog w = .ok (.enter 59 #[x, y]) w := by kernel_rfl
theorem cf12 (x y : Value) (w : World) : (callFunc 60 #[x, y]).run Tryd.prog w = .ok (.enter 60 #[x, y]) w := by kernel_rfl
theorem cf13 (x y : Value) (w : World) : (callFunc 62 #[x, y]).run Tryd.prog w = .ok (.enter 62 #[x, y]) w := by kernel_rfl
theorem cf14 (x y : Value) (w : World) : (callFunc 64 #[x, y]).run Tryd.prog w = .ok (.enter 64 #[x, y]) w := by kernel_rfl
theorem cf15 (x y : Value) (w : World) : (callFunc 66 #[x, y]).run Tryd.prog w = .ok (.enter 66 #[x, y]) w := by kernel_rfl
theorem cf16 (x y : Value) (w : World) : (callFunc 68 #[x, y]).run Tryd.prog w = .ok (.enter 68 #[x, y]) w := by kernel_rfl
theorem cf17 (x y : Value) (w : World) : (callFunc 70 #[x, y]).run Tryd.prog w = .ok (.enter 70 #[x, y]) w := by kernel_rfl
theorem cf18 (x y : Value) (w : World) : (callFunc 72 #[x, y]).run Tryd.prog w = .ok (.enter 72 #[x, y]) w := by kernel_rfl
theorem cf19 (x y : Value) (w : World) : (callFunc 73 #[x, y]).run Tryd.prog w = .ok (.enter 73 #[x, y]) w := by kernel_rfl

theorem may_regs {o : Nat} {A B : Int} (h : mayI ⟨o, A, B⟩ = true) (hb : rowB o = 1 ∨ rowB o = 0) : ∃ a b : Nat, A = a ∧ B = b ∧ a < 4 ∧ b < 4 := by
  obtain ⟨h1, h2, h3, h4, _, _⟩ := mayI_bounds h
  simp only [mayI, Bool.and_eq_true, decide_eq_true_eq] at h
  have hw := h.2
  simp only [Int.toNat_natCast, wiB, Bool.and_eq_true, decide_eq_true_eq] at hw
  simp only at h1 h2 h3 h4
  refine ⟨A.toNat, B.toNat, by omega, ?_, by omega, ?_⟩
  · rcases hb with hb | hb <;> rw [hb] at hw <;> simp [rowLo, rowHi] at hw <;> omega
  · rcases hb with hb | hb <;> rw [hb] at hw <;> simp [rowLo, rowHi] at hw <;> omega
theorem may_a {o : Nat} {A B : Int} (h : mayI ⟨o, A, B⟩ = true) : ∃ a : Nat, A = a ∧ a < 4 := by
  obtain ⟨h1, h2, h3, h4, _, _⟩ := mayI_bounds h
  simp only at h1 h2 h3 h4
  exact ⟨A.toNat, by omega, by omega⟩

theorem run_any (i : In) (c : Co) (m : List Int) (l : List Rg) (now : Int) (N : Nat) (wv rv : Value) (w : World) (hmay : mayI i = true) (hc : c.fit) (hl : ∀ r ∈ l, r.fit) (hlen : m.length ≤ 100000)
    (hM : MAt w N (mach c wv rv now)) (BB : Nat) (hS : ∀ w', Below N w w' → w'.ownsRow BB 3 1 wv m.length (m.map (Value.int .i64))) (hR : ∀ w', Below N w w' → SeesR w' rv l) (hBB : BB ≤ N + 1) :
    Calls Tryd.prog 22 #[.pointer (some ⟨N, 0, none⟩), i.val] w (RunPost BB i c m l now N w) := by
  obtain ⟨o, A, B⟩ := i
  have hb := mayI_bounds hmay
  simp only at hb
  have hk : o = 0 ∨ o = 1 ∨ o = 2 ∨ o = 3 ∨ o = 4 ∨ o = 5 ∨ o = 6 ∨ o = 7 ∨ o = 8 ∨ o = 9 ∨ o = 10 ∨ o = 11 ∨ o = 12 ∨ o = 13 ∨ o = 14 ∨ o = 15 ∨ o = 16 ∨ o = 17 ∨ o = 18 ∨ o = 19 := by omega
  clear hb
  rcases hk with rfl | rfl | rfl | rfl | rfl | rfl | rfl | rfl | rfl | rfl | rfl | rfl | rfl | rfl | rfl | rfl | rfl | rfl | rfl | rfl
  · exact run_post_do 0 A B c m l now N wv rv w _ BB hS rfl (run_do1 47 0 A B idx_row0 N _ _ w hM cf0 (fun w' h _ => halt_any ⟨0, A, B⟩ N _ w' h)) rfl
  · obtain ⟨a, rfl, ha⟩ := may_a (o := 1) hmay
    exact run_post_do 1 a B c m l now N wv rv w _ BB hS rfl (run_do1 48 1 a B idx_row1 N _ _ w hM cf1 (fun w' h _ => set_any ⟨1, a, B⟩ a ha rfl N _ w' h)) rfl
  · obtain ⟨a, b, rfl, rfl, ha, hb⟩ := may_regs (o := 2) hmay (.inl rfl)
    exact run_post_val 2 49 a b ha hb c m l now N wv rv w hc hM BB hS idx_row2 (fun x y w => cf2 _ _ w) (fun h1 h2 w' => val2_any _ _ h1 h2 w') rfl
  · obtain ⟨a, b, rfl, rfl, ha, hb⟩ := may_regs (o := 3) hmay (.inl rfl)
    exact run_post_val 3 50 a b ha hb c m l now N wv rv w hc hM BB hS idx_row3 (fun x y w => cf3 _ _ w) (fun h1 h2 w' => val3_any _ _ h1 h2 w') rfl
  · obtain ⟨a, b, rfl, rfl, ha, hb⟩ := may_regs (o := 4) hmay (.inl rfl)
    exact run_post_val 4 51 a b ha hb c m l now N wv rv w hc hM BB hS idx_row4 (fun x y w => cf4 _ _ w) (fun h1 h2 w' => val4_any _ _ h1 h2 w') rfl
  · obtain ⟨a, b, rfl, rfl, ha, hb⟩ := may_regs (o := 5) hmay (.inl rfl)
    exact run_post_val 5 52 a b ha hb c m l now N wv rv w hc hM BB hS idx_row5 (fun x y w => cf5 _ _ w) (fun h1 h2 w' => val5_any _ _ h1 h2 w') rfl
  · obtain ⟨a, b, rfl, rfl, ha, hb⟩ := may_regs (o := 6) hmay (.inl rfl)
    by_cases hz : c.reg b = 0
    · refine (run_bad 53 3 6 (c.reg a) 0 a b ha hb idx_row6 (fun w => cf6 _ _ w) N _ w hM rfl hz (fun w' => val6_bad _ w')).mono ?_
      rintro e w' ⟨rfl, h2⟩
      exact .inl ⟨3, by decide, rfl, (show stepI ⟨6, a, b⟩ c m l now = if c.reg b = 0 then (c, m, faultO 3) else _ from rfl).trans (if_pos hz), h2⟩
    · exact run_post_val 6 53 a b ha hb c m l now N wv rv w hc hM BB hS idx_row6 (fun x y w => cf6 _ _ w) (fun h1 h2 w' => val6_any _ _ h1 h2 hz w') ((show stepI ⟨6, a, b⟩ c m l now = if c.reg b = 0 then _ else _ from rfl).trans (if_neg hz))
  · obtain ⟨a, b, rfl, rfl, ha, hb⟩ := may_regs (o := 7) hmay (.inl rfl)
    exact run_post_val 7 54 a b ha hb c m l now N wv rv w hc hM BB hS idx_row7 (fun x y w => cf7 _ _ w) (fun h1 h2 w' => val7_any _ _ h1 h2 w') rfl
  · obtain ⟨a, b, rfl, rfl, ha, hb⟩ := may_regs (o := 8) hmay (.inl rfl)
    by_cases hz : touchE m.length l (c.reg b) false = 0
    · exact run_post_do 8 a b c m l now N wv rv w _ BB hS rfl (run_do1 56 8 a b idx_row8 N _ _ w hM cf8 (fun w' h hbw => ld_ok ⟨8, a, b⟩ a b ha hb rfl rfl N _ m l w' h (fun w2 h2 => Sees.of_owns (hS w2 (hbw.trans h2))) (fun w2 h2 => hR w2 (hbw.trans h2)) hl (Co.reg_fit hc b) hz))
        ((show stepI ⟨8, a, b⟩ c m l now = if touchE m.length l (c.reg b) false = 0 then _ else _ from rfl).trans (if_pos hz))
    · refine (run_dobad 56 8 a b idx_row8 N _ w hM (fun w => cf8 _ _ w) 5 (fun w' h hbw => ld_bad ⟨8, a, b⟩ a b ha hb rfl rfl N _ m l w' h (fun w2 h2 => Sees.of_owns (hS w2 (hbw.trans h2))) (fun w2 h2 => hR w2 (hbw.trans h2)) hl (Co.reg_fit hc b) hz)).mono ?_
      rintro e w' ⟨rfl, h2⟩
      exact .inl ⟨5, by decide, rfl, (show stepI ⟨8, a, b⟩ c m l now = if touchE m.length l (c.reg b) false = 0 then _ else _ from rfl).trans (if_neg hz), h2⟩
  · obtain ⟨a, b, rfl, rfl, ha, hb⟩ := may_regs (o := 9) hmay (.inl rfl)
    by_cases hz : touchE m.length l (c.reg b) true = 0
    · have hst : stepI ⟨9, a, b⟩ c m l now = (c.at (c.p + 1), storeL m l (c.reg b) (c.reg a), quietO) := (show stepI ⟨9, a, b⟩ c m l now = if touchE m.length l (c.reg b) true = 0 then _ else _ from rfl).trans (if_pos hz)
      refine (run_do (fun M' w' => (∃ u, M' = { mach c wv rv now with wv := u }) ∧ w'.ownsRow (N + 1) 3 1 M'.wv (storeL m l (c.reg b) (c.reg a)).length ((storeL m l (c.reg b) (c.reg a)).map (Value.int .i64))) 57 9 a b idx_row9 N _ w hM (fun w => cf9 _ _ w)
        (fun M' w' v h => ⟨h.1, owns_set h.2 _ _⟩) (fun w' h hbw => (st_ok ⟨9, a, b⟩ a b ha hb rfl rfl N _ m l w' h (fun w2 h2 => Sees.of_owns (hS w2 (hbw.trans h2))) (fun w2 h2 => hR w2 (hbw.trans h2)) hl (Co.reg_fit hc b) hlen hz).mono ?_)).mono ?_
      · rintro e w'' ⟨u, he, hm, ho, hb2⟩
        exact ⟨_, he, hm, ⟨⟨u, rfl⟩, ho⟩, hb2⟩
      · rintro e w'' ⟨M', he, hm, ⟨⟨u, rfl⟩, ho⟩, hb2⟩
        refine .inr ⟨_, he, hm, ?_, ?_, ?_, hb2⟩
        · rw [hst]; rfl
        · rw [hst]; rfl
        · rw [hst]; exact owns_base ho hBB
    · refine (run_dobad 57 9 a b idx_row9 N _ w hM (fun w => cf9 _ _ w) 5 (fun w' h hbw => st_bad ⟨9, a, b⟩ a b ha hb rfl rfl N _ m l w' h (fun w2 h2 => Sees.of_owns (hS w2 (hbw.trans h2))) (fun w2 h2 => hR w2 (hbw.trans h2)) hl (Co.reg_fit hc b) hlen hz)).mono ?_
      rintro e w' ⟨rfl, h2⟩
      exact .inl ⟨5, by decide, rfl, (show stepI ⟨9, a, b⟩ c m l now = if touchE m.length l (c.reg b) true = 0 then _ else _ from rfl).trans (if_neg hz), h2⟩
  · exact run_post_do 10 A B c m l now N wv rv w _ BB hS rfl (run_do1 58 10 A B idx_row10 N _ _ w hM cf10 (fun w' h _ => jump_any ⟨10, A, B⟩ N _ w' h)) rfl
  · obtain ⟨a, rfl, ha⟩ := may_a (o := 11) hmay
    exact run_post_do 11 a B c m l now N wv rv w _ BB hS rfl (run_do1 59 11 a B idx_row11 N _ _ w hM cf11 (fun w' h _ => zero_any ⟨11, a, B⟩ a ha rfl N _ w' h)) rfl
  · obtain ⟨a, b, rfl, rfl, ha, hb⟩ := may_regs (o := 12) hmay (.inr rfl)
    exact run_post_val 12 60 a b ha hb c m l now N wv rv w hc hM BB hS idx_row12 (fun x y w => cf12 _ _ w) (fun h1 h2 w' => val12_any _ _ h1 h2 w') rfl
  · obtain ⟨a, b, rfl, rfl, ha, hb⟩ := may_regs (o := 13) hmay (.inr rfl)
    exact run_post_val 13 62 a b ha hb c m l now N wv rv w hc hM BB hS idx_row13 (fun x y w => cf13 _ _ w) (fun h1 h2 w' => val13_any _ _ h1 h2 w') rfl
  · obtain ⟨a, b, rfl, rfl, ha, hb⟩ := may_regs (o := 14) hmay (.inr rfl)
    exact run_post_val 14 64 a b ha hb c m l now N wv rv w hc hM BB hS idx_row14 (fun x y w => cf14 _ _ w) (fun h1 h2 w' => val14_any _ _ h1 h2 w') rfl
  · obtain ⟨a, b, rfl, rfl, ha, hb⟩ := may_regs (o := 15) hmay (.inl rfl)
    exact run_post_val 15 66 a b ha hb c m l now N wv rv w hc hM BB hS idx_row15 (fun x y w => cf15 _ _ w) (fun h1 h2 w' => val15_any _ _ h1 h2 w') rfl
  · obtain ⟨a, b, rfl, rfl, ha, hb⟩ := may_regs (o := 16) hmay (.inr rfl)
    exact run_post_val 16 68 a b ha hb c m l now N wv rv w hc hM BB hS idx_row16 (fun x y w => cf16 _ _ w) (fun h1 h2 w' => val16_any _ _ h1 h2 w') rfl
  · obtain ⟨a, b, rfl, rfl, ha, hb⟩ := may_regs (o := 17) hmay (.inr rfl)
    exact run_post_val 17 70 a b ha hb c m l now N wv rv w hc hM BB hS idx_row17 (fun x y w => cf17 _ _ w) (fun h1 h2 w' => val17_any _ _ h1 h2 w') rfl
  · obtain ⟨a, rfl, ha⟩ := may_a (o := 18) hmay
    exact run_post_do 18 a B c m l now N wv rv w _ BB hS rfl (run_do1 72 18 a B idx_row18 N _ _ w hM cf18 (fun w' h _ => clock_any ⟨18, a, B⟩ a ha rfl N _ w' h)) rfl
  · exact run_post_do 19 A B c m l now N wv rv w _ BB hS rfl (run_do1 73 19 A B idx_row19 N _ _ w hM cf19 (fun w' h _ => call_any ⟨19, A, B⟩ N _ w' h)) rfl
end Go.Proofs.YtedldckijblnhaaDoor
