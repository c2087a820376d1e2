/-
  What the document for one instruction returns, whatever it is given: what the plain function says.
-/
import Derived.Test.YtedldckijblnhaaDoorCRefD
import Derived.Test.YtedldckijblnhaaDoorCRefG
import Derived.Test.YtedldckijblnhaaDoorCRefH
import Derived.Test.YtedldckijblnhaaDoorCRefI
namespace Go.Proofs.YtedldckijblnhaaDoor
open Go.RowKit
set_option linter.unusedVariables false

theorem rstep_own (vc vm vl : Value) (code : List In) (c : Co) (m : List Int) (l : List Rg) (now : Int) (w : World) (hcv : SeesI w vc code) (hmv : Sees w .i64 vm m) (hlv : SeesR w vl l) (hc : c.fit) (hfew : l.all fewR = true) (hlen : m.length ≤ 100000) :
    Calls Tryd.prog 13 #[vc, c.val, vm, vl, .int .i64 now] w fun e w' => ∃ u, e = .returned (.tuple #[(stepS code c m l now).1.val, u, (stepS code c m l now).2.2.val]) ∧ SeesF w vm w' u (stepS code c m l now).2.1 ∧ Below w.heap.size w w' := by
  obtain ⟨p, r0, r1, r2, r3⟩ := c
  by_cases hin : 0 ≤ p ∧ p < code.length
  · obtain ⟨hp0, hp1⟩ := hin
    obtain ⟨k, rfl⟩ := Int.eq_ofNat_of_zero_le hp0
    have hk : k < code.length := by omega
    obtain ⟨i, hi⟩ : ∃ i, code.getD k In.zero = i := ⟨_, rfl⟩
    by_cases hmay : mayI i = true
    · have hst : stepS code ⟨k, r0, r1, r2, r3⟩ m l now = stepI i ⟨k, r0, r1, r2, r3⟩ m l now := by
        unfold stepS
        rw [if_pos ⟨hp0, hp1, by show mayI (code.getD k In.zero) = true; rw [hi]; exact hmay⟩]
        show stepI (code.getD k In.zero) _ m l now = _
        rw [hi]
      rw [hst]
      clear hst
      obtain ⟨o, A, B⟩ := i
      have hb := mayI_bounds hmay
      simp only at hb
      have hko : o = 0 ∨ o = 1 ∨ o = 2 ∨ o = 3 ∨ o = 4 ∨ o = 5 ∨ o = 6 ∨ o = 7 ∨ o = 8 ∨ o = 9 ∨ o = 10 ∨ o = 11 ∨ o = 12 ∨ o = 13 ∨ o = 14 ∨ o = 15 ∨ o = 16 ∨ o = 17 ∨ o = 18 ∨ o = 19 := by omega
      clear hb
      rcases hko with rfl | rfl | rfl | rfl | rfl | rfl | rfl | rfl | rfl | rfl | rfl | rfl | rfl | rfl | rfl | rfl | rfl | rfl | rfl | rfl
      · exact rs_halt vc vm vl code m l k r0 r1 r2 r3 now w hcv hmv hlv k rfl hk A B hi hmay
      · obtain ⟨a, rfl, ha⟩ := may_a (o := 1) hmay
        rcases (show B < 0 ∨ (0 ≤ B ∧ 4 ≤ B) ∨ (0 ≤ B ∧ B < 4) by omega) with hB | ⟨hB0, hB⟩ | ⟨hB0, hB⟩
        · exact rs_vneg vc vm vl code m l k r0 r1 r2 r3 now w hcv hmv hlv k rfl hk 1 a B ha hB hi hmay (by decide) (by decide) (by decide) (by decide) (by decide) (by decide) (by decide) B 0 (fun w' => reckon1 _ _ _ (Co.reg_fit hc a) ⟨by decide, by decide⟩ w') rfl
        · exact rs_vout vc vm vl code m l k r0 r1 r2 r3 now w hcv hmv hlv k rfl hk 1 a B ha hB0 hB hi hmay (by decide) (by decide) (by decide) (by decide) (by decide) (by decide) (by decide) B 0 (fun w' => reckon1 _ _ _ (Co.reg_fit hc a) ⟨by decide, by decide⟩ w') rfl
        · obtain ⟨b, rfl⟩ := Int.eq_ofNat_of_zero_le hB0
          exact rs_val vc vm vl code m l k r0 r1 r2 r3 now w hcv hmv hlv k rfl hk 1 a b ha (by omega) hi hmay (by decide) (by decide) (by decide) (by decide) (by decide) (by decide) (by decide) b 0 (fun w' => reckon1 _ _ _ (Co.reg_fit hc a) (Co.reg_fit hc b) w') rfl
      · obtain ⟨a, b, rfl, rfl, ha, hb⟩ := may_regs (o := 2) hmay (.inl rfl)
        exact rs_val vc vm vl code m l k r0 r1 r2 r3 now w hcv hmv hlv k rfl hk 2 a b ha hb hi hmay (by decide) (by decide) (by decide) (by decide) (by decide) (by decide) (by decide) _ _ (fun w' => reckon2 _ _ _ (Co.reg_fit hc a) (Co.reg_fit hc b) w') rfl
      · obtain ⟨a, b, rfl, rfl, ha, hb⟩ := may_regs (o := 3) hmay (.inl rfl)
        exact rs_val vc vm vl code m l k r0 r1 r2 r3 now w hcv hmv hlv k rfl hk 3 a b ha hb hi hmay (by decide) (by decide) (by decide) (by decide) (by decide) (by decide) (by decide) _ _ (fun w' => reckon3 _ _ _ (Co.reg_fit hc a) (Co.reg_fit hc b) w') rfl
      · obtain ⟨a, b, rfl, rfl, ha, hb⟩ := may_regs (o := 4) hmay (.inl rfl)
        exact rs_val vc vm vl code m l k r0 r1 r2 r3 now w hcv hmv hlv k rfl hk 4 a b ha hb hi hmay (by decide) (by decide) (by decide) (by decide) (by decide) (by decide) (by decide) _ _ (fun w' => reckon4 _ _ _ (Co.reg_fit hc a) (Co.reg_fit hc b) w') rfl
      · obtain ⟨a, b, rfl, rfl, ha, hb⟩ := may_regs (o := 5) hmay (.inl rfl)
        exact rs_val vc vm vl code m l k r0 r1 r2 r3 now w hcv hmv hlv k rfl hk 5 a b ha hb hi hmay (by decide) (by decide) (by decide) (by decide) (by decide) (by decide) (by decide) _ _ (fun w' => reckon5 _ _ _ (Co.reg_fit hc a) (Co.reg_fit hc b) w') rfl
      · obtain ⟨a, b, rfl, rfl, ha, hb⟩ := may_regs (o := 6) hmay (.inl rfl)
        by_cases hz : Co.reg ⟨k, r0, r1, r2, r3⟩ b = 0
        · rw [(show stepI ⟨6, a, b⟩ ⟨k, r0, r1, r2, r3⟩ m l now = if Co.reg ⟨k, r0, r1, r2, r3⟩ b = 0 then (⟨k, r0, r1, r2, r3⟩, m, faultO 3) else _ from rfl).trans (if_pos hz)]
          refine rs_vbad vc vm vl code m l k r0 r1 r2 r3 now w hcv hmv hlv k rfl hk 6 a b ha hb hi hmay (by decide) (by decide) (by decide) (by decide) (by decide) (by decide) (by decide) (dq (Co.reg ⟨k, r0, r1, r2, r3⟩ a) (Co.reg ⟨k, r0, r1, r2, r3⟩ b)) 3 (fun w' => (reckon6 _ _ _ (Co.reg_fit hc a) (Co.reg_fit hc b) w').mono ?_) (by decide)
          rintro e w'' ⟨he, hw⟩
          refine ⟨?_, hw⟩
          rw [he, show rkF 6 (Co.reg ⟨k, r0, r1, r2, r3⟩ b) = 3 by show df _ = 3; unfold df; rw [if_pos hz]]; rfl
        · rw [(show stepI ⟨6, a, b⟩ ⟨k, r0, r1, r2, r3⟩ m l now = if Co.reg ⟨k, r0, r1, r2, r3⟩ b = 0 then _ else ((Co.set ⟨k, r0, r1, r2, r3⟩ a (dq (Co.reg ⟨k, r0, r1, r2, r3⟩ a) (Co.reg ⟨k, r0, r1, r2, r3⟩ b))).at (k + 1), m, quietO) from rfl).trans (if_neg hz)]
          refine rs_val vc vm vl code m l k r0 r1 r2 r3 now w hcv hmv hlv k rfl hk 6 a b ha hb hi hmay (by decide) (by decide) (by decide) (by decide) (by decide) (by decide) (by decide) (dq (Co.reg ⟨k, r0, r1, r2, r3⟩ a) (Co.reg ⟨k, r0, r1, r2, r3⟩ b)) 0 (fun w' => (reckon6 _ _ _ (Co.reg_fit hc a) (Co.reg_fit hc b) w').mono ?_) rfl
          rintro e w'' ⟨he, hw⟩
          refine ⟨?_, hw⟩
          rw [he, show rkF 6 (Co.reg ⟨k, r0, r1, r2, r3⟩ b) = 0 by show df _ = 0; unfold df; rw [if_neg hz]]; rfl
      · obtain ⟨a, b, rfl, rfl, ha, hb⟩ := may_regs (o := 7) hmay (.inl rfl)
        exact rs_val vc vm vl code m l k r0 r1 r2 r3 now w hcv hmv hlv k rfl hk 7 a b ha hb hi hmay (by decide) (by decide) (by decide) (by decide) (by decide) (by decide) (by decide) _ _ (fun w' => reckon7 _ _ _ (Co.reg_fit hc a) (Co.reg_fit hc b) w') rfl
      · obtain ⟨a, b, rfl, rfl, ha, hb⟩ := may_regs (o := 8) hmay (.inl rfl)
        by_cases hz : touchE m.length l (Co.reg ⟨k, r0, r1, r2, r3⟩ b) false = 0
        · rw [(show stepI ⟨8, a, b⟩ ⟨k, r0, r1, r2, r3⟩ m l now = if touchE m.length l (Co.reg ⟨k, r0, r1, r2, r3⟩ b) false = 0 then _ else _ from rfl).trans (if_pos hz)]
          exact rs_load vc vm vl code m l k r0 r1 r2 r3 now w hcv hmv hlv k rfl hk a b ha hb hi hmay hfew hz
        · rw [(show stepI ⟨8, a, b⟩ ⟨k, r0, r1, r2, r3⟩ m l now = if touchE m.length l (Co.reg ⟨k, r0, r1, r2, r3⟩ b) false = 0 then _ else _ from rfl).trans (if_neg hz)]
          exact rs_nold vc vm vl code m l k r0 r1 r2 r3 now w hcv hmv hlv k rfl hk a b ha hb hi hmay hfew hz
      · obtain ⟨a, b, rfl, rfl, ha, hb⟩ := may_regs (o := 9) hmay (.inl rfl)
        by_cases hz : touchE m.length l (Co.reg ⟨k, r0, r1, r2, r3⟩ b) true = 0
        · rw [(show stepI ⟨9, a, b⟩ ⟨k, r0, r1, r2, r3⟩ m l now = if touchE m.length l (Co.reg ⟨k, r0, r1, r2, r3⟩ b) true = 0 then _ else _ from rfl).trans (if_pos hz)]
          exact rs_store vc vm vl code m l k r0 r1 r2 r3 now w hcv hmv hlv k rfl hk a b ha hb hi hmay hfew hlen hz
        · rw [(show stepI ⟨9, a, b⟩ ⟨k, r0, r1, r2, r3⟩ m l now = if touchE m.length l (Co.reg ⟨k, r0, r1, r2, r3⟩ b) true = 0 then _ else _ from rfl).trans (if_neg hz)]
          exact rs_nost vc vm vl code m l k r0 r1 r2 r3 now w hcv hmv hlv k rfl hk a b ha hb hi hmay hfew hlen hz
      · exact rs_jump vc vm vl code m l k r0 r1 r2 r3 now w hcv hmv hlv k rfl hk A B hi hmay
      · obtain ⟨a, rfl, ha⟩ := may_a (o := 11) hmay
        by_cases hz : Co.reg ⟨k, r0, r1, r2, r3⟩ a = 0
        · rw [show stepI ⟨11, a, B⟩ ⟨k, r0, r1, r2, r3⟩ m l now = (Co.at ⟨k, r0, r1, r2, r3⟩ B, m, quietO) from (show stepI ⟨11, a, B⟩ ⟨k, r0, r1, r2, r3⟩ m l now = (Co.at ⟨k, r0, r1, r2, r3⟩ (if Co.reg ⟨k, r0, r1, r2, r3⟩ a = 0 then B else (k : Int) + 1), m, quietO) from rfl).trans (by rw [if_pos hz])]
          exact rs_zero vc vm vl code m l k r0 r1 r2 r3 now w hcv hmv hlv k rfl hk a ha B hi hmay hz
        · rw [show stepI ⟨11, a, B⟩ ⟨k, r0, r1, r2, r3⟩ m l now = (Co.at ⟨k, r0, r1, r2, r3⟩ ((k : Int) + 1), m, quietO) from (show stepI ⟨11, a, B⟩ ⟨k, r0, r1, r2, r3⟩ m l now = (Co.at ⟨k, r0, r1, r2, r3⟩ (if Co.reg ⟨k, r0, r1, r2, r3⟩ a = 0 then B else (k : Int) + 1), m, quietO) from rfl).trans (by rw [if_neg hz])]
          exact rs_nonz vc vm vl code m l k r0 r1 r2 r3 now w hcv hmv hlv k rfl hk a ha B hi hmay hz
      · obtain ⟨a, b, rfl, rfl, ha, hb⟩ := may_regs (o := 12) hmay (.inr rfl)
        exact rs_val vc vm vl code m l k r0 r1 r2 r3 now w hcv hmv hlv k rfl hk 12 a b ha hb hi hmay (by decide) (by decide) (by decide) (by decide) (by decide) (by decide) (by decide) _ _ (fun w' => reckon12 _ _ _ (Co.reg_fit hc a) (Co.reg_fit hc b) w') rfl
      · obtain ⟨a, b, rfl, rfl, ha, hb⟩ := may_regs (o := 13) hmay (.inr rfl)
        exact rs_val vc vm vl code m l k r0 r1 r2 r3 now w hcv hmv hlv k rfl hk 13 a b ha hb hi hmay (by decide) (by decide) (by decide) (by decide) (by decide) (by decide) (by decide) _ _ (fun w' => reckon13 _ _ _ (Co.reg_fit hc a) (Co.reg_fit hc b) w') rfl
      · obtain ⟨a, b, rfl, rfl, ha, hb⟩ := may_regs (o := 14) hmay (.inr rfl)
        exact rs_val vc vm vl code m l k r0 r1 r2 r3 now w hcv hmv hlv k rfl hk 14 a b ha hb hi hmay (by decide) (by decide) (by decide) (by decide) (by decide) (by decide) (by decide) _ _ (fun w' => reckon14 _ _ _ (Co.reg_fit hc a) (Co.reg_fit hc b) w') rfl
      · obtain ⟨a, b, rfl, rfl, ha, hb⟩ := may_regs (o := 15) hmay (.inl rfl)
        exact rs_val vc vm vl code m l k r0 r1 r2 r3 now w hcv hmv hlv k rfl hk 15 a b ha hb hi hmay (by decide) (by decide) (by decide) (by decide) (by decide) (by decide) (by decide) _ _ (fun w' => reckon15 _ _ _ (Co.reg_fit hc a) (Co.reg_fit hc b) w') rfl
      · obtain ⟨a, b, rfl, rfl, ha, hb⟩ := may_regs (o := 16) hmay (.inr rfl)
        exact rs_val vc vm vl code m l k r0 r1 r2 r3 now w hcv hmv hlv k rfl hk 16 a b ha hb hi hmay (by decide) (by decide) (by decide) (by decide) (by decide) (by decide) (by decide) _ _ (fun w' => reckon16 _ _ _ (Co.reg_fit hc a) (Co.reg_fit hc b) w') rfl
      · obtain ⟨a, b, rfl, rfl, ha, hb⟩ := may_regs (o := 17) hmay (.inr rfl)
        exact rs_val vc vm vl code m l k r0 r1 r2 r3 now w hcv hmv hlv k rfl hk 17 a b ha hb hi hmay (by decide) (by decide) (by decide) (by decide) (by decide) (by decide) (by decide) _ _ (fun w' => reckon17 _ _ _ (Co.reg_fit hc a) (Co.reg_fit hc b) w') rfl
      · obtain ⟨a, rfl, ha⟩ := may_a (o := 18) hmay
        exact rs_clock vc vm vl code m l k r0 r1 r2 r3 now w hcv hmv hlv k rfl hk a ha B hi hmay
      · exact rs_call vc vm vl code m l k r0 r1 r2 r3 now w hcv hmv hlv k rfl hk A B hi hmay
    · have hst : stepS code ⟨k, r0, r1, r2, r3⟩ m l now = (⟨k, r0, r1, r2, r3⟩, m, faultO 4) := by
        unfold stepS
        rw [if_neg (fun h => hmay (by have h2 : mayI (code.getD k In.zero) = true := h.2.2; rw [hi] at h2; exact h2))]
      rw [hst]
      obtain ⟨o, A, B⟩ := i
      exact rs_bad vc vm vl code m l k r0 r1 r2 r3 now w hcv hmv hlv k rfl hk o A B hi (by simpa using hmay)
  · have hst : stepS code ⟨p, r0, r1, r2, r3⟩ m l now = (⟨p, r0, r1, r2, r3⟩, m, faultO 4) := by
      unfold stepS
      rw [if_neg (fun h => hin ⟨h.1, h.2.1⟩)]
    rw [hst]
    exact rs_out vc vm vl code m l p r0 r1 r2 r3 now w hcv hmv hlv hin

theorem rstep_any (vc vm vl : Value) (code : List In) (c : Co) (m : List Int) (l : List Rg) (now : Int) (w : World) (hcv : SeesI w vc code) (hmv : Sees w .i64 vm m) (hlv : SeesR w vl l) (hc : c.fit) (hfew : l.all fewR = true) (hlen : m.length ≤ 100000) :
    Calls Tryd.prog 13 #[vc, c.val, vm, vl, .int .i64 now] w fun e w' => ∃ u, e = .returned (.tuple #[(stepS code c m l now).1.val, u, (stepS code c m l now).2.2.val]) ∧ Sees w' .i64 u (stepS code c m l now).2.1 ∧ Below w.heap.size w w' := by
  refine (rstep_own vc vm vl code c m l now w hcv hmv hlv hc hfew hlen).mono ?_
  rintro e w' ⟨u, he, ho, hb⟩
  exact ⟨u, he, ho.1, hb⟩
end Go.Proofs.YtedldckijblnhaaDoor
