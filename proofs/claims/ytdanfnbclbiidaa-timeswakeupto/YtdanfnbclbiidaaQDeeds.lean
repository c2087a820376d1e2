/-
  What procs hands to change: what each of these does to a process, and to its partition.
-/
import Derived.Test.YtdanfnbclbiidaaQDo
import Derived.Deep.RegionHeld3
namespace Go.Proofs.Ytdanfnbclbiidaa
open Go.RowKit
set_option linter.unusedVariables false

/-- What queues a process, as a value. -/
def qv (P O : Nat) : Value := .func (.func 60) #[] #[.pointer (some ⟨P, 0, none⟩), .pointer (some ⟨O, 0, none⟩)]
theorem Try.qvEnters : ∀ args w, (callFunc 60 args).run Try.prog w = .ok (.enter 60 args) w := enters_of Try.func60 (by kernel_rfl) rfl

theorem wp_store_pd {o : Oper} {a : Act} {w : World} {K : Act → World → Prop} {Q : Exit → Act → World → Prop} (T : TypeId) (x y : Operand) (ho : o.op = .store T x y)
    {base g cap i : Nat} {L : List Px} {P O : Nat} {r : Px} {q : PaV} (hp : PD w base g cap i L P O r q) (k : Nat) (hk : k < 18) (u : Value) (hx : a.eval x = .pointer (some ⟨g, i * 18 + k, none⟩)) (hy : a.eval y = u) (hu : u.cells = #[u]) (h1 : u.oneCell' = true) (hi : (Try.prog.info? T).map (·.size) = some 1)
    (r' : Px) (hr : r'.cells = r.cells.set k u)
    (h : ∀ w', PD w' base g cap i L P O r' q → TwoT g P w w' → K (a.put o.dst undef) w') : Oper.wp Try.prog o a w K Q := by
  refine wp_store_at T x y ho g (i * 18 + k) u hx hy hu h1 hi _ (hp.pw.cell k hk) (hp.pw.free _) ?_
  have hd := hp.changed (hp.pw.set k hk u r' hr) (grown_set w g _ u)
  exact h _ hd.1 hd.2
theorem PD.drew {w : World} {base g cap i : Nat} {L : List Px} {P O : Nat} {r : Px} {q : PaV} (h : PD w base g cap i L P O r q) : PD w.drew base g cap i L P O r q := ⟨⟨h.pw.op, h.pw.lt⟩, BoxAt.drew h.pb, h.po.drew⟩
theorem TwoT.drew {g P : Nat} {w : World} : TwoT g P w w.drew := ⟨⟨rfl, World.tape_drew w, rfl, Nat.le_refl _, fun _ _ _ => rfl, fun _ _ _ h => h⟩, fun _ _ _ _ => rfl⟩

set_option maxRecDepth 100000 in
set_option maxHeartbeats 1600000 in
theorem start_any {w : World} {base g cap i : Nat} {L : List Px} {P O : Nat} {r : Px} {q : PaV} (hp : PD w base g cap i L P O r q) (f : Pc) (now : Int) (C : Nat) (N : Nat) (bC : BoxAt w C 60 #[.int .i64 f.pr, .int .i64 f.pe, .int .i64 f.li, .int .i64 f.en, .bool f.au]) (bN : BoxAt w N 3 #[.int .i64 now]) :
    Calls Try.prog 46 #[.pointer (some ⟨g, i * 18, none⟩), qv P O, .pointer (some ⟨C, 0, none⟩), .pointer (some ⟨N, 0, none⟩)] w fun e w' => e = .returned (.int .i64 (startD f now r).k) ∧ PD w' base g cap i L P O ((startD f now r).out q.nx) { q with nx := (startD f now r).nxt q.nx } ∧ TwoT g P w w' := by
  have eg := Try.qvEnters
  unfold qv
  have HD := hid hp
  have HT := hid (TwoT.refl g P w)
  have BC := hid bC
  have BN := hid bN
  have cst : w.cell? ⟨g, i * 18, none⟩ = some (.int .i64 r.st) := (HD.out.pw.cell 0 (by decide)).trans rfl
  have cpr : w.cell? ⟨g, i * 18 + 1, none⟩ = some (.int .i64 r.pr) := (HD.out.pw.cell 1 (by decide)).trans rfl
  have csu : w.cell? ⟨g, i * 18 + 2, none⟩ = some (.bool r.su) := (HD.out.pw.cell 2 (by decide)).trans rfl
  have kC0 : w.cell? ⟨C, 0, none⟩ = some (.int .i64 f.pr) := (BC.out.cell 0).trans rfl
  have kC1 : w.cell? ⟨C, 1, none⟩ = some (.int .i64 f.pe) := (BC.out.cell 1).trans rfl
  have kC2 : w.cell? ⟨C, 2, none⟩ = some (.int .i64 f.li) := (BC.out.cell 2).trans rfl
  have kC3 : w.cell? ⟨C, 3, none⟩ = some (.int .i64 f.en) := (BC.out.cell 3).trans rfl
  have kC4 : w.cell? ⟨C, 4, none⟩ = some (.bool f.au) := (BC.out.cell 4).trans rfl
  have kN0 : w.cell? ⟨N, 0, none⟩ = some (.int .i64 now) := (BN.out.cell 0).trans rfl
  clear hp bC bN
  go_enter Try.func46, Try.ntmps46
  by_cases h0 : r.st = 0
  · by_cases hl : 0 < f.li
    · by_cases hp : 0 < f.pe
      · have hs : startD f now r = ⟨{ Px.dorm f.pr with st := 1, pc := f.en, du := wrap64 (now + f.li), ne := wrap64 (now + f.pe) }, true, 0⟩ := by unfold startD; rw [if_pos h0, if_pos hl, if_pos hp]
        rw [hs]
        go_wp2_with (first
            | (go_at_call 47
               refine (dorm_any _ _).mono ?_
               rintro e w1 ⟨rfl, hb⟩
               have HD := hid (HD.out.below hb)
               have HT := hid (HT.out.trans (TwoT.below hb))
               have BC := hid (BC.out.belowAll hb)
               have BN := hid (BN.out.belowAll hb)
               have cst : w1.cell? ⟨g, i * 18, none⟩ = some (.int .i64 r.st) := (HD.out.pw.cell 0 (by decide)).trans rfl
               have cpr : w1.cell? ⟨g, i * 18 + 1, none⟩ = some (.int .i64 r.pr) := (HD.out.pw.cell 1 (by decide)).trans rfl
               have csu : w1.cell? ⟨g, i * 18 + 2, none⟩ = some (.bool r.su) := (HD.out.pw.cell 2 (by decide)).trans rfl
               have kC0 : w1.cell? ⟨C, 0, none⟩ = some (.int .i64 f.pr) := (BC.out.cell 0).trans rfl
               have kC1 : w1.cell? ⟨C, 1, none⟩ = some (.int .i64 f.pe) := (BC.out.cell 1).trans rfl
               have kC2 : w1.cell? ⟨C, 2, none⟩ = some (.int .i64 f.li) := (BC.out.cell 2).trans rfl
               have kC3 : w1.cell? ⟨C, 3, none⟩ = some (.int .i64 f.en) := (BC.out.cell 3).trans rfl
               have kC4 : w1.cell? ⟨C, 4, none⟩ = some (.bool f.au) := (BC.out.cell 4).trans rfl
               have kN0 : w1.cell? ⟨N, 0, none⟩ = some (.int .i64 now) := (BN.out.cell 0).trans rfl
               clear hb)
            | (refine wpList_stores_pd rfl _ _ rfl rfl HD.out rfl (Px.dorm f.pr) rfl ?_
               intro w2 hd ht
               have HD := hid hd
               have HT := hid (HT.out.trans ht)
               have BC := hid (BC.out.turn (by unfold SP; decide) ht.t)
               have BN := hid (BN.out.turn (by unfold SP; decide) ht.t)
               have cst : w2.cell? ⟨g, i * 18, none⟩ = some (.int .i64 (Px.dorm f.pr).st) := (HD.out.pw.cell 0 (by decide)).trans rfl
               have cpr : w2.cell? ⟨g, i * 18 + 1, none⟩ = some (.int .i64 (Px.dorm f.pr).pr) := (HD.out.pw.cell 1 (by decide)).trans rfl
               have csu : w2.cell? ⟨g, i * 18 + 2, none⟩ = some (.bool (Px.dorm f.pr).su) := (HD.out.pw.cell 2 (by decide)).trans rfl
               have kC0 : w2.cell? ⟨C, 0, none⟩ = some (.int .i64 f.pr) := (BC.out.cell 0).trans rfl
               have kC1 : w2.cell? ⟨C, 1, none⟩ = some (.int .i64 f.pe) := (BC.out.cell 1).trans rfl
               have kC2 : w2.cell? ⟨C, 2, none⟩ = some (.int .i64 f.li) := (BC.out.cell 2).trans rfl
               have kC3 : w2.cell? ⟨C, 3, none⟩ = some (.int .i64 f.en) := (BC.out.cell 3).trans rfl
               have kC4 : w2.cell? ⟨C, 4, none⟩ = some (.bool f.au) := (BC.out.cell 4).trans rfl
               have kN0 : w2.cell? ⟨N, 0, none⟩ = some (.int .i64 now) := (BN.out.cell 0).trans rfl
               clear hd ht)
            | (refine wpList_store_pd rfl _ _ _ rfl rfl HD.out 0 (by decide) (.int .i64 1) rfl rfl rfl rfl (by kernel_rfl) ({ Px.dorm f.pr with st := 1 }) rfl ?_
               intro w3 hd ht
               have HD := hid hd
               have HT := hid (HT.out.trans ht)
               have BC := hid (BC.out.turn (by unfold SP; decide) ht.t)
               have BN := hid (BN.out.turn (by unfold SP; decide) ht.t)
               have cst : w3.cell? ⟨g, i * 18, none⟩ = some (.int .i64 ({ Px.dorm f.pr with st := 1 }).st) := (HD.out.pw.cell 0 (by decide)).trans rfl
               have cpr : w3.cell? ⟨g, i * 18 + 1, none⟩ = some (.int .i64 ({ Px.dorm f.pr with st := 1 }).pr) := (HD.out.pw.cell 1 (by decide)).trans rfl
               have csu : w3.cell? ⟨g, i * 18 + 2, none⟩ = some (.bool ({ Px.dorm f.pr with st := 1 }).su) := (HD.out.pw.cell 2 (by decide)).trans rfl
               have kC0 : w3.cell? ⟨C, 0, none⟩ = some (.int .i64 f.pr) := (BC.out.cell 0).trans rfl
               have kC1 : w3.cell? ⟨C, 1, none⟩ = some (.int .i64 f.pe) := (BC.out.cell 1).trans rfl
               have kC2 : w3.cell? ⟨C, 2, none⟩ = some (.int .i64 f.li) := (BC.out.cell 2).trans rfl
               have kC3 : w3.cell? ⟨C, 3, none⟩ = some (.int .i64 f.en) := (BC.out.cell 3).trans rfl
               have kC4 : w3.cell? ⟨C, 4, none⟩ = some (.bool f.au) := (BC.out.cell 4).trans rfl
               have kN0 : w3.cell? ⟨N, 0, none⟩ = some (.int .i64 now) := (BN.out.cell 0).trans rfl
               clear hd ht)
            | (refine wpList_store_pd rfl _ _ _ rfl rfl HD.out 3 (by decide) (.int .i64 f.en) rfl rfl rfl rfl (by kernel_rfl) ({ Px.dorm f.pr with st := 1, pc := f.en }) rfl ?_
               intro w4 hd ht
               have HD := hid hd
               have HT := hid (HT.out.trans ht)
               have BC := hid (BC.out.turn (by unfold SP; decide) ht.t)
               have BN := hid (BN.out.turn (by unfold SP; decide) ht.t)
               have cst : w4.cell? ⟨g, i * 18, none⟩ = some (.int .i64 ({ Px.dorm f.pr with st := 1, pc := f.en }).st) := (HD.out.pw.cell 0 (by decide)).trans rfl
               have cpr : w4.cell? ⟨g, i * 18 + 1, none⟩ = some (.int .i64 ({ Px.dorm f.pr with st := 1, pc := f.en }).pr) := (HD.out.pw.cell 1 (by decide)).trans rfl
               have csu : w4.cell? ⟨g, i * 18 + 2, none⟩ = some (.bool ({ Px.dorm f.pr with st := 1, pc := f.en }).su) := (HD.out.pw.cell 2 (by decide)).trans rfl
               have kC0 : w4.cell? ⟨C, 0, none⟩ = some (.int .i64 f.pr) := (BC.out.cell 0).trans rfl
               have kC1 : w4.cell? ⟨C, 1, none⟩ = some (.int .i64 f.pe) := (BC.out.cell 1).trans rfl
               have kC2 : w4.cell? ⟨C, 2, none⟩ = some (.int .i64 f.li) := (BC.out.cell 2).trans rfl
               have kC3 : w4.cell? ⟨C, 3, none⟩ = some (.int .i64 f.en) := (BC.out.cell 3).trans rfl
               have kC4 : w4.cell? ⟨C, 4, none⟩ = some (.bool f.au) := (BC.out.cell 4).trans rfl
               have kN0 : w4.cell? ⟨N, 0, none⟩ = some (.int .i64 now) := (BN.out.cell 0).trans rfl
               clear hd ht)
            | (refine wpList_store_pd rfl _ _ _ rfl rfl HD.out 12 (by decide) (.int .i64 (wrap64 (now + f.li))) rfl rfl rfl rfl (by kernel_rfl) ({ Px.dorm f.pr with st := 1, pc := f.en, du := wrap64 (now + f.li) }) rfl ?_
               intro w5 hd ht
               have HD := hid hd
               have HT := hid (HT.out.trans ht)
               have BC := hid (BC.out.turn (by unfold SP; decide) ht.t)
               have BN := hid (BN.out.turn (by unfold SP; decide) ht.t)
               have cst : w5.cell? ⟨g, i * 18, none⟩ = some (.int .i64 ({ Px.dorm f.pr with st := 1, pc := f.en, du := wrap64 (now + f.li) }).st) := (HD.out.pw.cell 0 (by decide)).trans rfl
               have cpr : w5.cell? ⟨g, i * 18 + 1, none⟩ = some (.int .i64 ({ Px.dorm f.pr with st := 1, pc := f.en, du := wrap64 (now + f.li) }).pr) := (HD.out.pw.cell 1 (by decide)).trans rfl
               have csu : w5.cell? ⟨g, i * 18 + 2, none⟩ = some (.bool ({ Px.dorm f.pr with st := 1, pc := f.en, du := wrap64 (now + f.li) }).su) := (HD.out.pw.cell 2 (by decide)).trans rfl
               have kC0 : w5.cell? ⟨C, 0, none⟩ = some (.int .i64 f.pr) := (BC.out.cell 0).trans rfl
               have kC1 : w5.cell? ⟨C, 1, none⟩ = some (.int .i64 f.pe) := (BC.out.cell 1).trans rfl
               have kC2 : w5.cell? ⟨C, 2, none⟩ = some (.int .i64 f.li) := (BC.out.cell 2).trans rfl
               have kC3 : w5.cell? ⟨C, 3, none⟩ = some (.int .i64 f.en) := (BC.out.cell 3).trans rfl
               have kC4 : w5.cell? ⟨C, 4, none⟩ = some (.bool f.au) := (BC.out.cell 4).trans rfl
               have kN0 : w5.cell? ⟨N, 0, none⟩ = some (.int .i64 now) := (BN.out.cell 0).trans rfl
               clear hd ht)
            | (refine wpList_store_pd rfl _ _ _ rfl rfl HD.out 13 (by decide) (.int .i64 (wrap64 (now + f.pe))) rfl rfl rfl rfl (by kernel_rfl) ({ Px.dorm f.pr with st := 1, pc := f.en, du := wrap64 (now + f.li), ne := wrap64 (now + f.pe) }) rfl ?_
               intro w6 hd ht
               have HD := hid hd
               have HT := hid (HT.out.trans ht)
               have BC := hid (BC.out.turn (by unfold SP; decide) ht.t)
               have BN := hid (BN.out.turn (by unfold SP; decide) ht.t)
               have cst : w6.cell? ⟨g, i * 18, none⟩ = some (.int .i64 ({ Px.dorm f.pr with st := 1, pc := f.en, du := wrap64 (now + f.li), ne := wrap64 (now + f.pe) }).st) := (HD.out.pw.cell 0 (by decide)).trans rfl
               have cpr : w6.cell? ⟨g, i * 18 + 1, none⟩ = some (.int .i64 ({ Px.dorm f.pr with st := 1, pc := f.en, du := wrap64 (now + f.li), ne := wrap64 (now + f.pe) }).pr) := (HD.out.pw.cell 1 (by decide)).trans rfl
               have csu : w6.cell? ⟨g, i * 18 + 2, none⟩ = some (.bool ({ Px.dorm f.pr with st := 1, pc := f.en, du := wrap64 (now + f.li), ne := wrap64 (now + f.pe) }).su) := (HD.out.pw.cell 2 (by decide)).trans rfl
               have kC0 : w6.cell? ⟨C, 0, none⟩ = some (.int .i64 f.pr) := (BC.out.cell 0).trans rfl
               have kC1 : w6.cell? ⟨C, 1, none⟩ = some (.int .i64 f.pe) := (BC.out.cell 1).trans rfl
               have kC2 : w6.cell? ⟨C, 2, none⟩ = some (.int .i64 f.li) := (BC.out.cell 2).trans rfl
               have kC3 : w6.cell? ⟨C, 3, none⟩ = some (.int .i64 f.en) := (BC.out.cell 3).trans rfl
               have kC4 : w6.cell? ⟨C, 4, none⟩ = some (.bool f.au) := (BC.out.cell 4).trans rfl
               have kN0 : w6.cell? ⟨N, 0, none⟩ = some (.int .i64 now) := (BN.out.cell 0).trans rfl
               clear hd ht))
        refine (queue_any HD.out).mono ?_
        rintro e wq ⟨rfl, hd, ht⟩
        have HD := hid hd
        have HT := hid (HT.out.trans ht)
        clear hd ht
        go_wp2
        go_ret
        exact ⟨rfl, HD.out, HT.out⟩
      · have hs : startD f now r = ⟨{ Px.dorm f.pr with st := 1, pc := f.en, du := wrap64 (now + f.li), ne := -1 }, true, 0⟩ := by unfold startD; rw [if_pos h0, if_pos hl, if_neg hp]
        rw [hs]
        go_wp2_with (first
            | (go_at_call 47
               refine (dorm_any _ _).mono ?_
               rintro e w1 ⟨rfl, hb⟩
               have HD := hid (HD.out.below hb)
               have HT := hid (HT.out.trans (TwoT.below hb))
               have BC := hid (BC.out.belowAll hb)
               have BN := hid (BN.out.belowAll hb)
               have cst : w1.cell? ⟨g, i * 18, none⟩ = some (.int .i64 r.st) := (HD.out.pw.cell 0 (by decide)).trans rfl
               have cpr : w1.cell? ⟨g, i * 18 + 1, none⟩ = some (.int .i64 r.pr) := (HD.out.pw.cell 1 (by decide)).trans rfl
               have csu : w1.cell? ⟨g, i * 18 + 2, none⟩ = some (.bool r.su) := (HD.out.pw.cell 2 (by decide)).trans rfl
               have kC0 : w1.cell? ⟨C, 0, none⟩ = some (.int .i64 f.pr) := (BC.out.cell 0).trans rfl
               have kC1 : w1.cell? ⟨C, 1, none⟩ = some (.int .i64 f.pe) := (BC.out.cell 1).trans rfl
               have kC2 : w1.cell? ⟨C, 2, none⟩ = some (.int .i64 f.li) := (BC.out.cell 2).trans rfl
               have kC3 : w1.cell? ⟨C, 3, none⟩ = some (.int .i64 f.en) := (BC.out.cell 3).trans rfl
               have kC4 : w1.cell? ⟨C, 4, none⟩ = some (.bool f.au) := (BC.out.cell 4).trans rfl
               have kN0 : w1.cell? ⟨N, 0, none⟩ = some (.int .i64 now) := (BN.out.cell 0).trans rfl
               clear hb)
            | (refine wpList_stores_pd rfl _ _ rfl rfl HD.out rfl (Px.dorm f.pr) rfl ?_
               intro w2 hd ht
               have HD := hid hd
               have HT := hid (HT.out.trans ht)
               have BC := hid (BC.out.turn (by unfold SP; decide) ht.t)
               have BN := hid (BN.out.turn (by unfold SP; decide) ht.t)
               have cst : w2.cell? ⟨g, i * 18, none⟩ = some (.int .i64 (Px.dorm f.pr).st) := (HD.out.pw.cell 0 (by decide)).trans rfl
               have cpr : w2.cell? ⟨g, i * 18 + 1, none⟩ = some (.int .i64 (Px.dorm f.pr).pr) := (HD.out.pw.cell 1 (by decide)).trans rfl
               have csu : w2.cell? ⟨g, i * 18 + 2, none⟩ = some (.bool (Px.dorm f.pr).su) := (HD.out.pw.cell 2 (by decide)).trans rfl
               have kC0 : w2.cell? ⟨C, 0, none⟩ = some (.int .i64 f.pr) := (BC.out.cell 0).trans rfl
               have kC1 : w2.cell? ⟨C, 1, none⟩ = some (.int .i64 f.pe) := (BC.out.cell 1).trans rfl
               have kC2 : w2.cell? ⟨C, 2, none⟩ = some (.int .i64 f.li) := (BC.out.cell 2).trans rfl
               have kC3 : w2.cell? ⟨C, 3, none⟩ = some (.int .i64 f.en) := (BC.out.cell 3).trans rfl
               have kC4 : w2.cell? ⟨C, 4, none⟩ = some (.bool f.au) := (BC.out.cell 4).trans rfl
               have kN0 : w2.cell? ⟨N, 0, none⟩ = some (.int .i64 now) := (BN.out.cell 0).trans rfl
               clear hd ht)
            | (refine wpList_store_pd rfl _ _ _ rfl rfl HD.out 0 (by decide) (.int .i64 1) rfl rfl rfl rfl (by kernel_rfl) ({ Px.dorm f.pr with st := 1 }) rfl ?_
               intro w3 hd ht
               have HD := hid hd
               have HT := hid (HT.out.trans ht)
               have BC := hid (BC.out.turn (by unfold SP; decide) ht.t)
               have BN := hid (BN.out.turn (by unfold SP; decide) ht.t)
               have cst : w3.cell? ⟨g, i * 18, none⟩ = some (.int .i64 ({ Px.dorm f.pr with st := 1 }).st) := (HD.out.pw.cell 0 (by decide)).trans rfl
               have cpr : w3.cell? ⟨g, i * 18 + 1, none⟩ = some (.int .i64 ({ Px.dorm f.pr with st := 1 }).pr) := (HD.out.pw.cell 1 (by decide)).trans rfl
               have csu : w3.cell? ⟨g, i * 18 + 2, none⟩ = some (.bool ({ Px.dorm f.pr with st := 1 }).su) := (HD.out.pw.cell 2 (by decide)).trans rfl
               have kC0 : w3.cell? ⟨C, 0, none⟩ = some (.int .i64 f.pr) := (BC.out.cell 0).trans rfl
               have kC1 : w3.cell? ⟨C, 1, none⟩ = some (.int .i64 f.pe) := (BC.out.cell 1).trans rfl
               have kC2 : w3.cell? ⟨C, 2, none⟩ = some (.int .i64 f.li) := (BC.out.cell 2).trans rfl
               have kC3 : w3.cell? ⟨C, 3, none⟩ = some (.int .i64 f.en) := (BC.out.cell 3).trans rfl
               have kC4 : w3.cell? ⟨C, 4, none⟩ = some (.bool f.au) := (BC.out.cell 4).trans rfl
               have kN0 : w3.cell? ⟨N, 0, none⟩ = some (.int .i64 now) := (BN.out.cell 0).trans rfl
               clear hd ht)
            | (refine wpList_store_pd rfl _ _ _ rfl rfl HD.out 3 (by decide) (.int .i64 f.en) rfl rfl rfl rfl (by kernel_rfl) ({ Px.dorm f.pr with st := 1, pc := f.en }) rfl ?_
               intro w4 hd ht
               have HD := hid hd
               have HT := hid (HT.out.trans ht)
               have BC := hid (BC.out.turn (by unfold SP; decide) ht.t)
               have BN := hid (BN.out.turn (by unfold SP; decide) ht.t)
               have cst : w4.cell? ⟨g, i * 18, none⟩ = some (.int .i64 ({ Px.dorm f.pr with st := 1, pc := f.en }).st) := (HD.out.pw.cell 0 (by decide)).trans rfl
               have cpr : w4.cell? ⟨g, i * 18 + 1, none⟩ = some (.int .i64 ({ Px.dorm f.pr with st := 1, pc := f.en }).pr) := (HD.out.pw.cell 1 (by decide)).trans rfl
               have csu : w4.cell? ⟨g, i * 18 + 2, none⟩ = some (.bool ({ Px.dorm f.pr with st := 1, pc := f.en }).su) := (HD.out.pw.cell 2 (by decide)).trans rfl
               have kC0 : w4.cell? ⟨C, 0, none⟩ = some (.int .i64 f.pr) := (BC.out.cell 0).trans rfl
               have kC1 : w4.cell? ⟨C, 1, none⟩ = some (.int .i64 f.pe) := (BC.out.cell 1).trans rfl
               have kC2 : w4.cell? ⟨C, 2, none⟩ = some (.int .i64 f.li) := (BC.out.cell 2).trans rfl
               have kC3 : w4.cell? ⟨C, 3, none⟩ = some (.int .i64 f.en) := (BC.out.cell 3).trans rfl
               have kC4 : w4.cell? ⟨C, 4, none⟩ = some (.bool f.au) := (BC.out.cell 4).trans rfl
               have kN0 : w4.cell? ⟨N, 0, none⟩ = some (.int .i64 now) := (BN.out.cell 0).trans rfl
               clear hd ht)
            | (refine wpList_store_pd rfl _ _ _ rfl rfl HD.out 12 (by decide) (.int .i64 (wrap64 (now + f.li))) rfl rfl rfl rfl (by kernel_rfl) ({ Px.dorm f.pr with st := 1, pc := f.en, du := wrap64 (now + f.li) }) rfl ?_
               intro w5 hd ht
               have HD := hid hd
               have HT := hid (HT.out.trans ht)
               have BC := hid (BC.out.turn (by unfold SP; decide) ht.t)
               have BN := hid (BN.out.turn (by unfold SP; decide) ht.t)
               have cst : w5.cell? ⟨g, i * 18, none⟩ = some (.int .i64 ({ Px.dorm f.pr with st := 1, pc := f.en, du := wrap64 (now + f.li) }).st) := (HD.out.pw.cell 0 (by decide)).trans rfl
               have cpr : w5.cell? ⟨g, i * 18 + 1, none⟩ = some (.int .i64 ({ Px.dorm f.pr with st := 1, pc := f.en, du := wrap64 (now + f.li) }).pr) := (HD.out.pw.cell 1 (by decide)).trans rfl
               have csu : w5.cell? ⟨g, i * 18 + 2, none⟩ = some (.bool ({ Px.dorm f.pr with st := 1, pc := f.en, du := wrap64 (now + f.li) }).su) := (HD.out.pw.cell 2 (by decide)).trans rfl
               have kC0 : w5.cell? ⟨C, 0, none⟩ = some (.int .i64 f.pr) := (BC.out.cell 0).trans rfl
               have kC1 : w5.cell? ⟨C, 1, none⟩ = some (.int .i64 f.pe) := (BC.out.cell 1).trans rfl
               have kC2 : w5.cell? ⟨C, 2, none⟩ = some (.int .i64 f.li) := (BC.out.cell 2).trans rfl
               have kC3 : w5.cell? ⟨C, 3, none⟩ = some (.int .i64 f.en) := (BC.out.cell 3).trans rfl
               have kC4 : w5.cell? ⟨C, 4, none⟩ = some (.bool f.au) := (BC.out.cell 4).trans rfl
               have kN0 : w5.cell? ⟨N, 0, none⟩ = some (.int .i64 now) := (BN.out.cell 0).trans rfl
               clear hd ht))
        refine (queue_any HD.out).mono ?_
        rintro e wq ⟨rfl, hd, ht⟩
        have HD := hid hd
        have HT := hid (HT.out.trans ht)
        clear hd ht
        go_wp2
        go_ret
        exact ⟨rfl, HD.out, HT.out⟩
    · by_cases hp : 0 < f.pe
      · have hs : startD f now r = ⟨{ Px.dorm f.pr with st := 1, pc := f.en, du := -1, ne := wrap64 (now + f.pe) }, true, 0⟩ := by unfold startD; rw [if_pos h0, if_neg hl, if_pos hp]
        rw [hs]
        go_wp2_with (first
            | (go_at_call 47
               refine (dorm_any _ _).mono ?_
               rintro e w1 ⟨rfl, hb⟩
               have HD := hid (HD.out.below hb)
               have HT := hid (HT.out.trans (TwoT.below hb))
               have BC := hid (BC.out.belowAll hb)
               have BN := hid (BN.out.belowAll hb)
               have cst : w1.cell? ⟨g, i * 18, none⟩ = some (.int .i64 r.st) := (HD.out.pw.cell 0 (by decide)).trans rfl
               have cpr : w1.cell? ⟨g, i * 18 + 1, none⟩ = some (.int .i64 r.pr) := (HD.out.pw.cell 1 (by decide)).trans rfl
               have csu : w1.cell? ⟨g, i * 18 + 2, none⟩ = some (.bool r.su) := (HD.out.pw.cell 2 (by decide)).trans rfl
               have kC0 : w1.cell? ⟨C, 0, none⟩ = some (.int .i64 f.pr) := (BC.out.cell 0).trans rfl
               have kC1 : w1.cell? ⟨C, 1, none⟩ = some (.int .i64 f.pe) := (BC.out.cell 1).trans rfl
               have kC2 : w1.cell? ⟨C, 2, none⟩ = some (.int .i64 f.li) := (BC.out.cell 2).trans rfl
               have kC3 : w1.cell? ⟨C, 3, none⟩ = some (.int .i64 f.en) := (BC.out.cell 3).trans rfl
               have kC4 : w1.cell? ⟨C, 4, none⟩ = some (.bool f.au) := (BC.out.cell 4).trans rfl
               have kN0 : w1.cell? ⟨N, 0, none⟩ = some (.int .i64 now) := (BN.out.cell 0).trans rfl
               clear hb)
            | (refine wpList_stores_pd rfl _ _ rfl rfl HD.out rfl (Px.dorm f.pr) rfl ?_
               intro w2 hd ht
               have HD := hid hd
               have HT := hid (HT.out.trans ht)
               have BC := hid (BC.out.turn (by unfold SP; decide) ht.t)
               have BN := hid (BN.out.turn (by unfold SP; decide) ht.t)
               have cst : w2.cell? ⟨g, i * 18, none⟩ = some (.int .i64 (Px.dorm f.pr).st) := (HD.out.pw.cell 0 (by decide)).trans rfl
               have cpr : w2.cell? ⟨g, i * 18 + 1, none⟩ = some (.int .i64 (Px.dorm f.pr).pr) := (HD.out.pw.cell 1 (by decide)).trans rfl
               have csu : w2.cell? ⟨g, i * 18 + 2, none⟩ = some (.bool (Px.dorm f.pr).su) := (HD.out.pw.cell 2 (by decide)).trans rfl
               have kC0 : w2.cell? ⟨C, 0, none⟩ = some (.int .i64 f.pr) := (BC.out.cell 0).trans rfl
               have kC1 : w2.cell? ⟨C, 1, none⟩ = some (.int .i64 f.pe) := (BC.out.cell 1).trans rfl
               have kC2 : w2.cell? ⟨C, 2, none⟩ = some (.int .i64 f.li) := (BC.out.cell 2).trans rfl
               have kC3 : w2.cell? ⟨C, 3, none⟩ = some (.int .i64 f.en) := (BC.out.cell 3).trans rfl
               have kC4 : w2.cell? ⟨C, 4, none⟩ = some (.bool f.au) := (BC.out.cell 4).trans rfl
               have kN0 : w2.cell? ⟨N, 0, none⟩ = some (.int .i64 now) := (BN.out.cell 0).trans rfl
               clear hd ht)
            | (refine wpList_store_pd rfl _ _ _ rfl rfl HD.out 0 (by decide) (.int .i64 1) rfl rfl rfl rfl (by kernel_rfl) ({ Px.dorm f.pr with st := 1 }) rfl ?_
               intro w3 hd ht
               have HD := hid hd
               have HT := hid (HT.out.trans ht)
               have BC := hid (BC.out.turn (by unfold SP; decide) ht.t)
               have BN := hid (BN.out.turn (by unfold SP; decide) ht.t)
               have cst : w3.cell? ⟨g, i * 18, none⟩ = some (.int .i64 ({ Px.dorm f.pr with st := 1 }).st) := (HD.out.pw.cell 0 (by decide)).trans rfl
               have cpr : w3.cell? ⟨g, i * 18 + 1, none⟩ = some (.int .i64 ({ Px.dorm f.pr with st := 1 }).pr) := (HD.out.pw.cell 1 (by decide)).trans rfl
               have csu : w3.cell? ⟨g, i * 18 + 2, none⟩ = some (.bool ({ Px.dorm f.pr with st := 1 }).su) := (HD.out.pw.cell 2 (by decide)).trans rfl
               have kC0 : w3.cell? ⟨C, 0, none⟩ = some (.int .i64 f.pr) := (BC.out.cell 0).trans rfl
               have kC1 : w3.cell? ⟨C, 1, none⟩ = some (.int .i64 f.pe) := (BC.out.cell 1).trans rfl
               have kC2 : w3.cell? ⟨C, 2, none⟩ = some (.int .i64 f.li) := (BC.out.cell 2).trans rfl
               have kC3 : w3.cell? ⟨C, 3, none⟩ = some (.int .i64 f.en) := (BC.out.cell 3).trans rfl
               have kC4 : w3.cell? ⟨C, 4, none⟩ = some (.bool f.au) := (BC.out.cell 4).trans rfl
               have kN0 : w3.cell? ⟨N, 0, none⟩ = some (.int .i64 now) := (BN.out.cell 0).trans rfl
               clear hd ht)
            | (refine wpList_store_pd rfl _ _ _ rfl rfl HD.out 3 (by decide) (.int .i64 f.en) rfl rfl rfl rfl (by kernel_rfl) ({ Px.dorm f.pr with st := 1, pc := f.en }) rfl ?_
               intro w4 hd ht
               have HD := hid hd
               have HT := hid (HT.out.trans ht)
               have BC := hid (BC.out.turn (by unfold SP; decide) ht.t)
               have BN := hid (BN.out.turn (by unfold SP; decide) ht.t)
               have cst : w4.cell? ⟨g, i * 18, none⟩ = some (.int .i64 ({ Px.dorm f.pr with st := 1, pc := f.en }).st) := (HD.out.pw.cell 0 (by decide)).trans rfl
               have cpr : w4.cell? ⟨g, i * 18 + 1, none⟩ = some (.int .i64 ({ Px.dorm f.pr with st := 1, pc := f.en }).pr) := (HD.out.pw.cell 1 (by decide)).trans rfl
               have csu : w4.cell? ⟨g, i * 18 + 2, none⟩ = some (.bool ({ Px.dorm f.pr with st := 1, pc := f.en }).su) := (HD.out.pw.cell 2 (by decide)).trans rfl
               have kC0 : w4.cell? ⟨C, 0, none⟩ = some (.int .i64 f.pr) := (BC.out.cell 0).trans rfl
               have kC1 : w4.cell? ⟨C, 1, none⟩ = some (.int .i64 f.pe) := (BC.out.cell 1).trans rfl
               have kC2 : w4.cell? ⟨C, 2, none⟩ = some (.int .i64 f.li) := (BC.out.cell 2).trans rfl
               have kC3 : w4.cell? ⟨C, 3, none⟩ = some (.int .i64 f.en) := (BC.out.cell 3).trans rfl
               have kC4 : w4.cell? ⟨C, 4, none⟩ = some (.bool f.au) := (BC.out.cell 4).trans rfl
               have kN0 : w4.cell? ⟨N, 0, none⟩ = some (.int .i64 now) := (BN.out.cell 0).trans rfl
               clear hd ht)
            | (refine wpList_store_pd rfl _ _ _ rfl rfl HD.out 13 (by decide) (.int .i64 (wrap64 (now + f.pe))) rfl rfl rfl rfl (by kernel_rfl) ({ Px.dorm f.pr with st := 1, pc := f.en, du := -1, ne := wrap64 (now + f.pe) }) rfl ?_
               intro w5 hd ht
               have HD := hid hd
               have HT := hid (HT.out.trans ht)
               have BC := hid (BC.out.turn (by unfold SP; decide) ht.t)
               have BN := hid (BN.out.turn (by unfold SP; decide) ht.t)
               have cst : w5.cell? ⟨g, i * 18, none⟩ = some (.int .i64 ({ Px.dorm f.pr with st := 1, pc := f.en, du := -1, ne := wrap64 (now + f.pe) }).st) := (HD.out.pw.cell 0 (by decide)).trans rfl
               have cpr : w5.cell? ⟨g, i * 18 + 1, none⟩ = some (.int .i64 ({ Px.dorm f.pr with st := 1, pc := f.en, du := -1, ne := wrap64 (now + f.pe) }).pr) := (HD.out.pw.cell 1 (by decide)).trans rfl
               have csu : w5.cell? ⟨g, i * 18 + 2, none⟩ = some (.bool ({ Px.dorm f.pr with st := 1, pc := f.en, du := -1, ne := wrap64 (now + f.pe) }).su) := (HD.out.pw.cell 2 (by decide)).trans rfl
               have kC0 : w5.cell? ⟨C, 0, none⟩ = some (.int .i64 f.pr) := (BC.out.cell 0).trans rfl
               have kC1 : w5.cell? ⟨C, 1, none⟩ = some (.int .i64 f.pe) := (BC.out.cell 1).trans rfl
               have kC2 : w5.cell? ⟨C, 2, none⟩ = some (.int .i64 f.li) := (BC.out.cell 2).trans rfl
               have kC3 : w5.cell? ⟨C, 3, none⟩ = some (.int .i64 f.en) := (BC.out.cell 3).trans rfl
               have kC4 : w5.cell? ⟨C, 4, none⟩ = some (.bool f.au) := (BC.out.cell 4).trans rfl
               have kN0 : w5.cell? ⟨N, 0, none⟩ = some (.int .i64 now) := (BN.out.cell 0).trans rfl
               clear hd ht))
        refine (queue_any HD.out).mono ?_
        rintro e wq ⟨rfl, hd, ht⟩
        have HD := hid hd
        have HT := hid (HT.out.trans ht)
        clear hd ht
        go_wp2
        go_ret
        exact ⟨rfl, HD.out, HT.out⟩
      · have hs : startD f now r = ⟨{ Px.dorm f.pr with st := 1, pc := f.en, du := -1, ne := -1 }, true, 0⟩ := by unfold startD; rw [if_pos h0, if_neg hl, if_neg hp]
        rw [hs]
        go_wp2_with (first
            | (go_at_call 47
               refine (dorm_any _ _).mono ?_
               rintro e w1 ⟨rfl, hb⟩
               have HD := hid (HD.out.below hb)
               have HT := hid (HT.out.trans (TwoT.below hb))
               have BC := hid (BC.out.belowAll hb)
               have BN := hid (BN.out.belowAll hb)
               have cst : w1.cell? ⟨g, i * 18, none⟩ = some (.int .i64 r.st) := (HD.out.pw.cell 0 (by decide)).trans rfl
               have cpr : w1.cell? ⟨g, i * 18 + 1, none⟩ = some (.int .i64 r.pr) := (HD.out.pw.cell 1 (by decide)).trans rfl
               have csu : w1.cell? ⟨g, i * 18 + 2, none⟩ = some (.bool r.su) := (HD.out.pw.cell 2 (by decide)).trans rfl
               have kC0 : w1.cell? ⟨C, 0, none⟩ = some (.int .i64 f.pr) := (BC.out.cell 0).trans rfl
               have kC1 : w1.cell? ⟨C, 1, none⟩ = some (.int .i64 f.pe) := (BC.out.cell 1).trans rfl
               have kC2 : w1.cell? ⟨C, 2, none⟩ = some (.int .i64 f.li) := (BC.out.cell 2).trans rfl
               have kC3 : w1.cell? ⟨C, 3, none⟩ = some (.int .i64 f.en) := (BC.out.cell 3).trans rfl
               have kC4 : w1.cell? ⟨C, 4, none⟩ = some (.bool f.au) := (BC.out.cell 4).trans rfl
               have kN0 : w1.cell? ⟨N, 0, none⟩ = some (.int .i64 now) := (BN.out.cell 0).trans rfl
               clear hb)
            | (refine wpList_stores_pd rfl _ _ rfl rfl HD.out rfl (Px.dorm f.pr) rfl ?_
               intro w2 hd ht
               have HD := hid hd
               have HT := hid (HT.out.trans ht)
               have BC := hid (BC.out.turn (by unfold SP; decide) ht.t)
               have BN := hid (BN.out.turn (by unfold SP; decide) ht.t)
               have cst : w2.cell? ⟨g, i * 18, none⟩ = some (.int .i64 (Px.dorm f.pr).st) := (HD.out.pw.cell 0 (by decide)).trans rfl
               have cpr : w2.cell? ⟨g, i * 18 + 1, none⟩ = some (.int .i64 (Px.dorm f.pr).pr) := (HD.out.pw.cell 1 (by decide)).trans rfl
               have csu : w2.cell? ⟨g, i * 18 + 2, none⟩ = some (.bool (Px.dorm f.pr).su) := (HD.out.pw.cell 2 (by decide)).trans rfl
               have kC0 : w2.cell? ⟨C, 0, none⟩ = some (.int .i64 f.pr) := (BC.out.cell 0).trans rfl
               have kC1 : w2.cell? ⟨C, 1, none⟩ = some (.int .i64 f.pe) := (BC.out.cell 1).trans rfl
               have kC2 : w2.cell? ⟨C, 2, none⟩ = some (.int .i64 f.li) := (BC.out.cell 2).trans rfl
               have kC3 : w2.cell? ⟨C, 3, none⟩ = some (.int .i64 f.en) := (BC.out.cell 3).trans rfl
               have kC4 : w2.cell? ⟨C, 4, none⟩ = some (.bool f.au) := (BC.out.cell 4).trans rfl
               have kN0 : w2.cell? ⟨N, 0, none⟩ = some (.int .i64 now) := (BN.out.cell 0).trans rfl
               clear hd ht)
            | (refine wpList_store_pd rfl _ _ _ rfl rfl HD.out 0 (by decide) (.int .i64 1) rfl rfl rfl rfl (by kernel_rfl) ({ Px.dorm f.pr with st := 1 }) rfl ?_
               intro w3 hd ht
               have HD := hid hd
               have HT := hid (HT.out.trans ht)
               have BC := hid (BC.out.turn (by unfold SP; decide) ht.t)
               have BN := hid (BN.out.turn (by unfold SP; decide) ht.t)
               have cst : w3.cell? ⟨g, i * 18, none⟩ = some (.int .i64 ({ Px.dorm f.pr with st := 1 }).st) := (HD.out.pw.cell 0 (by decide)).trans rfl
               have cpr : w3.cell? ⟨g, i * 18 + 1, none⟩ = some (.int .i64 ({ Px.dorm f.pr with st := 1 }).pr) := (HD.out.pw.cell 1 (by decide)).trans rfl
               have csu : w3.cell? ⟨g, i * 18 + 2, none⟩ = some (.bool ({ Px.dorm f.pr with st := 1 }).su) := (HD.out.pw.cell 2 (by decide)).trans rfl
               have kC0 : w3.cell? ⟨C, 0, none⟩ = some (.int .i64 f.pr) := (BC.out.cell 0).trans rfl
               have kC1 : w3.cell? ⟨C, 1, none⟩ = some (.int .i64 f.pe) := (BC.out.cell 1).trans rfl
               have kC2 : w3.cell? ⟨C, 2, none⟩ = some (.int .i64 f.li) := (BC.out.cell 2).trans rfl
               have kC3 : w3.cell? ⟨C, 3, none⟩ = some (.int .i64 f.en) := (BC.out.cell 3).trans rfl
               have kC4 : w3.cell? ⟨C, 4, none⟩ = some (.bool f.au) := (BC.out.cell 4).trans rfl
               have kN0 : w3.cell? ⟨N, 0, none⟩ = some (.int .i64 now) := (BN.out.cell 0).trans rfl
               clear hd ht)
            | (refine wpList_store_pd rfl _ _ _ rfl rfl HD.out 3 (by decide) (.int .i64 f.en) rfl rfl rfl rfl (by kernel_rfl) ({ Px.dorm f.pr with st := 1, pc := f.en }) rfl ?_
               intro w4 hd ht
               have HD := hid hd
               have HT := hid (HT.out.trans ht)
               have BC := hid (BC.out.turn (by unfold SP; decide) ht.t)
               have BN := hid (BN.out.turn (by unfold SP; decide) ht.t)
               have cst : w4.cell? ⟨g, i * 18, none⟩ = some (.int .i64 ({ Px.dorm f.pr with st := 1, pc := f.en }).st) := (HD.out.pw.cell 0 (by decide)).trans rfl
               have cpr : w4.cell? ⟨g, i * 18 + 1, none⟩ = some (.int .i64 ({ Px.dorm f.pr with st := 1, pc := f.en }).pr) := (HD.out.pw.cell 1 (by decide)).trans rfl
               have csu : w4.cell? ⟨g, i * 18 + 2, none⟩ = some (.bool ({ Px.dorm f.pr with st := 1, pc := f.en }).su) := (HD.out.pw.cell 2 (by decide)).trans rfl
               have kC0 : w4.cell? ⟨C, 0, none⟩ = some (.int .i64 f.pr) := (BC.out.cell 0).trans rfl
               have kC1 : w4.cell? ⟨C, 1, none⟩ = some (.int .i64 f.pe) := (BC.out.cell 1).trans rfl
               have kC2 : w4.cell? ⟨C, 2, none⟩ = some (.int .i64 f.li) := (BC.out.cell 2).trans rfl
               have kC3 : w4.cell? ⟨C, 3, none⟩ = some (.int .i64 f.en) := (BC.out.cell 3).trans rfl
               have kC4 : w4.cell? ⟨C, 4, none⟩ = some (.bool f.au) := (BC.out.cell 4).trans rfl
               have kN0 : w4.cell? ⟨N, 0, none⟩ = some (.int .i64 now) := (BN.out.cell 0).trans rfl
               clear hd ht))
        refine (queue_any HD.out).mono ?_
        rintro e wq ⟨rfl, hd, ht⟩
        have HD := hid hd
        have HT := hid (HT.out.trans ht)
        clear hd ht
        go_wp2
        go_ret
        exact ⟨rfl, HD.out, HT.out⟩
  · have hs : startD f now r = ⟨r, false, 1⟩ := by unfold startD; rw [if_neg h0]
    have hb0 : (r.st == 0) = false := by simpa using h0
    rw [hs]
    go_wp2
    go_ret
    exact ⟨rfl, HD.out, HT.out⟩

end Go.Proofs.Ytdanfnbclbiidaa
