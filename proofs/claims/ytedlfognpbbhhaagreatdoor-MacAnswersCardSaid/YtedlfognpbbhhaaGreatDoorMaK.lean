/-
  What a mac goes on to: walked. Conditions: as each states.
-/
import Derived.Test.YtedlfognpbbhhaaGreatDoorMaJ
import Derived.ScopeJumps
import Derived.WalkMore
namespace Go.Proofs.YtedlfognpbbhhaaGreatDoor.Ma
open Go.RowKit
open Go.Proofs.YtedlfognpbbhhaaGreatDoor.Epo (Ep cmpE newB maxE numE numM)
open Go.Proofs.YtedlfognpbbhhaaGreatDoor.Mem (St withB woB hasB passB nextI turnI gapB sv)
open Go.Proofs.YtedlfognpbbhhaaGreatDoor.Frm (Fr world_cut)
attribute [local go_sem ↓] exec_ldF exec_stF exec_bdF
attribute [local go_sem] bdF_5 bdF_9 bdF_0 stF_new0

variable {b : Nat} {M : Mc} {w : World}
/-- Behind a goto to a label of a scope all goes well. -/
def Inn (P : Program) (c : Code) (Q : Exit → Act → World → Prop) (l : Nat) (a : Act) (w : World) : Prop :=
  ∃ rest, findLabel c l = some rest ∧ ∀ (b : Frame) (k : List Item) (cs : List Frame), ∃ e a' w', Q e a' w' ∧ Arrives P (lone (b.at a (.code rest :: .inScope c :: k)) cs w) b k cs e a' w'
def inn (P : Program) (c : Code) (Q : Exit → Act → World → Prop) : Exit → Act → World → Prop
  | .goto l, a, w => Inn P c Q l a w
  | e, a, w => Q e a w
theorem inn_of {P : Program} {c rest : Code} {Q : Exit → Act → World → Prop} {l : Nat} {a : Act} {w : World} (hf : findLabel c l = some rest) (h : rest.wp P (inn P c Q) a w) : Inn P c Q l a w := by
  refine ⟨rest, hf, fun b k cs => ?_⟩
  obtain ⟨e, a₁, w₁, hq, harr⟩ := h b (.inScope c :: k) cs
  cases e with
  | normal => exact ⟨.normal, a₁, w₁, hq, Steps.trans harr (.one step_inScope)⟩
  | exit id => exact ⟨.exit id, a₁, w₁, hq, fun k' hk => harr k' (by simp [exitTo, hk])⟩
  | goto l' =>
    obtain ⟨rest', hf', hk⟩ := hq
    obtain ⟨e₂, a₂, w₂, hq₂, harr₂⟩ := hk b k cs
    exact ⟨e₂, a₂, w₂, hq₂, .of_steps (harr _ (by simp [gotoIn, hf'])) harr₂⟩
  | ret => exact ⟨_, a₁, w₁, hq, harr⟩
  | panic ch => exact ⟨_, a₁, w₁, hq, harr⟩
  | outgrown => exact ⟨_, a₁, w₁, hq, harr⟩
theorem scope_inn {P : Program} {c : Code} {Q : Exit → Act → World → Prop} {a : Act} {w : World} (h : c.wp P (inn P c Q) a w) : (Code.scope c).wp P Q a w := by
  intro b k cs
  obtain ⟨e, a₁, w₁, hq, harr⟩ := h b (.inScope c :: k) cs
  cases e with
  | normal => exact ⟨.normal, a₁, w₁, hq, .head step_scope (Steps.trans harr (.one step_inScope))⟩
  | exit id => exact ⟨.exit id, a₁, w₁, hq, fun k' hk => .head step_scope (harr k' (by simp [exitTo, hk]))⟩
  | goto l' =>
    obtain ⟨rest', hf', hk⟩ := hq
    obtain ⟨e₂, a₂, w₂, hq₂, harr₂⟩ := hk b k cs
    exact ⟨e₂, a₂, w₂, hq₂, .of_steps (.head step_scope (harr _ (by simp [gotoIn, hf']))) harr₂⟩
  | ret => exact ⟨_, a₁, w₁, hq, .of_steps (.one step_scope) harr⟩
  | panic ch => exact ⟨_, a₁, w₁, hq, .of_steps (.one step_scope) harr⟩
  | outgrown => exact ⟨_, a₁, w₁, hq, .of_steps (.one step_scope) harr⟩
/-- A scope with labels: what the walk is handed is a letter for what is asked at its exits. -/
theorem scope_open {P : Program} {c : Code} {Q : Exit → Act → World → Prop} {a : Act} {w : World}
    (h : ∀ Q' : Exit → Act → World → Prop, (∀ a w, Q .ret a w → Q' .ret a w) → (∀ l rest, findLabel c l = some rest → ∀ a w, rest.wp P Q' a w → Q' (.goto l) a w) → c.wp P Q' a w) : (Code.scope c).wp P Q a w :=
  scope_inn (h (inn P c Q) (fun _ _ h => h) (fun _ _ hf _ _ h => inn_of hf h))
theorem chk_zero (M : Mc) (h l : Int) (hk : (chkR M h l).k = 0) : (chkR M h l).m = { M with st := 6 } := by
  have g : ∀ A : Mc, (gapR A).k = 0 → (gapR A).m = A := by
    intro A
    unfold gapR
    split
    · intro e; exact absurd (show (1 : Int) = 0 from e) (by decide)
    · intro _; rfl
  unfold chkR at *
  by_cases ht : timeB M = true
  · rw [if_pos ht] at *
    unfold timR at *
    by_cases h1 : 0 < h
    · rw [if_pos h1] at hk; exact absurd (show (2 : Int) = 0 from hk) (by decide)
    · rw [if_neg h1] at *
      by_cases h2 : 0 < l
      · rw [if_pos h2] at hk; exact absurd (show (3 : Int) = 0 from hk) (by decide)
      · rw [if_neg h2] at *
        by_cases h3 : M.ask = -1
        · rw [if_neg (fun k => k h3)] at *; exact g _ hk
        · rw [if_pos h3] at hk; exact absurd (show (1 : Int) = 0 from hk) (by decide)
  · rw [if_neg ht] at *; exact g _ hk
theorem go_wait (h l : Int) (hw : waitB M = true) : goOnR M h l = nothing M := by unfold goOnR; rw [if_pos hw]
theorem go_claim (h l : Int) (hw : waitB M = false) (hs : M.st = 1 ∨ M.st = 2) : goOnR M h l = claimR M := by unfold goOnR; rw [if_neg (by rw [hw]; decide), if_pos hs]
theorem go_use (h l : Int) (hw : waitB M = false) (hs : M.st = 4) : goOnR M h l = useR M h l := by unfold goOnR; rw [if_neg (by rw [hw]; decide), if_neg (by omega), if_pos hs]
theorem go_chp (h l : Int) (hw : waitB M = false) (hs : M.st = 6 ∨ M.st = 5) : goOnR M h l = chpR M h l := by unfold goOnR; rw [if_neg (by rw [hw]; decide), if_neg (by omega), if_neg (by omega), if_pos hs]
theorem go_pass (h l : Int) (hw : waitB M = false) (hs : M.st = 9) : goOnR M h l = passR M := by unfold goOnR; rw [if_neg (by rw [hw]; decide), if_neg (by omega), if_neg (by omega), if_neg (by omega), if_pos hs]
theorem go_cp (h l : Int) (hw : waitB M = false) (hs : M.st = 8) : goOnR M h l = cpR M := by unfold goOnR; rw [if_neg (by rw [hw]; decide), if_neg (by omega), if_neg (by omega), if_neg (by omega), if_neg (by omega), if_pos hs]
theorem go_none (h l : Int) (hw : waitB M = false) (h1 : M.st ≠ 1) (h2 : M.st ≠ 2) (h4 : M.st ≠ 4) (h6 : M.st ≠ 6) (h5 : M.st ≠ 5) (h9 : M.st ≠ 9) (h8 : M.st ≠ 8) : goOnR M h l = nothing M := by
  unfold goOnR; rw [if_neg (by rw [hw]; decide), if_neg (by omega), if_neg (by omega), if_neg (by omega), if_neg (by omega), if_neg (by omega)]
theorem chp_pass (h l : Int) (hk : (chkR M h l).k = 0) : chpR M h l = passR { M with st := 6 } := by unfold chpR; rw [if_pos hk, chk_zero M h l hk]
theorem chp_chk (h l : Int) (hk : (chkR M h l).k ≠ 0) : chpR M h l = chkR M h l := by unfold chpR; rw [if_neg hk]
theorem Gd.with6 (h : Gd M) : Gd { M with st := 6 } := ⟨h.ad, h.hop, h.high, h.arrived, h.clock, h.visits⟩
theorem Gd.left (h : Gd M) : Gd (leaveM M) := ⟨h.ad, h.hop, h.high, h.arrived, h.clock, h.visits⟩
theorem Gd.skip (h : Gd M) : Gd (skipM M) := ⟨h.ad, h.hop, h.high, h.arrived, h.clock, h.visits⟩
set_option maxRecDepth 100000 in
set_option maxHeartbeats 8000000 in
theorem cGoOn {n : Int} (h : Mw w b M) (ok : Ok n M) (hn : n ≤ 1000000000) (hi lo : Int) : Calls Tryz.prog 36 #[.pointer (some ⟨b, 0, none⟩), .int .i64 hi, .int .i64 lo] w (Gives w b (goOnR M hi lo)) := by
  have hgd := ok.gd hn
  have HX := Lib.hid (Px.first h noF)
  have HWt := Lib.hid (fun W (k : Mw W b M) => tells_of (cWaits k ⟨by have := ok.sl; omega, ok.sl.2⟩ ok.ad))
  cases hw : waitB M
  rotate_left 1
  · rw [hw] at HWt
    have HR := Lib.hid (go_wait hi lo hw)
    clear h ok hn hgd hw
    go_enter Tryz.func36, Tryz.ntmps36
    go_wp2
    refine scope_open (fun Q' hret hgo => ?_)
    have HRet := Lib.hid hret
    have H0 := Lib.hid (hgo 0 _ rfl)
    have H1 := Lib.hid (hgo 1 _ rfl)
    have H2 := Lib.hid (hgo 2 _ rfl)
    have H3 := Lib.hid (hgo 3 _ rfl)
    have H4 := Lib.hid (hgo 4 _ rfl)
    clear hret hgo
    go_wp2_with fail
    refine world_cut (G := fun W => Calls _ _ _ W _) (fun W => Px w W b M w.heap.size noF) (by exact HX.out) ?_
    rintro W hx
    generalize w.heap.size = R at *
    refine (HWt.out _ hx.mw).mono ?_
    rintro e w1 ⟨rfl, hb1⟩
    have HQ := Lib.hid (hx.below hb1)
    clear HX hx hb1 HWt
    have HY := Lib.hid (HQ.out.put noF)
    have hst := HQ.out.fx.box.st noF
    clear HQ
    go_wp2
    refine HRet.out _ _ ?_
    refine bodyPost_ret (results_F Tryz.results36 _ _ R (noF) (.int .i64 (0)) rfl rfl HY.out.fx.box.at) rfl ?_
    rw [HR.out]
    exact ⟨rfl, HY.out.does⟩
  rw [hw] at HWt
  by_cases s1 : M.st = 1
  · have HST := Lib.hid s1
    obtain ⟨q, hq⟩ : ∃ q, q = claimR M := ⟨_, rfl⟩
    have HR := Lib.hid ((go_claim hi lo hw (by omega)).trans hq.symm)
    have HC : Hid (∀ W, Mw W b M → Calls Tryz.prog 53 #[.pointer (some ⟨b, 0, none⟩)] W (Gives W b q)) := Lib.hid (fun W k => by rw [hq]; exact cClaim k hgd.ad hgd.high hgd.arrived hgd.clock hgd.visits)
    clear h ok hn hgd hw s1 hq
    go_enter Tryz.func36, Tryz.ntmps36
    go_wp2
    refine scope_open (fun Q' hret hgo => ?_)
    have HRet := Lib.hid hret
    have H0 := Lib.hid (hgo 0 _ rfl)
    have H1 := Lib.hid (hgo 1 _ rfl)
    have H2 := Lib.hid (hgo 2 _ rfl)
    have H3 := Lib.hid (hgo 3 _ rfl)
    have H4 := Lib.hid (hgo 4 _ rfl)
    clear hret hgo
    go_wp2_with fail
    refine world_cut (G := fun W => Calls _ _ _ W _) (fun W => Px w W b M w.heap.size noF) (by exact HX.out) ?_
    rintro W hx
    generalize w.heap.size = R at *
    refine (HWt.out _ hx.mw).mono ?_
    rintro e w1 ⟨rfl, hb1⟩
    have HQ := Lib.hid (hx.below hb1)
    clear HX hx hb1 HWt
    have c10 : w1.cell? ⟨b, 10, none⟩ = some (.int .i64 1) := by rw [HQ.out.mw.cell 10 rfl, HST.out]
    go_wp2_with fail
    refine wp_goto ?_
    refine H0.out _ _ ?_
    go_wp2_with fail
    refine (HC.out _ HQ.out.mw).mono ?_
    rintro e w9 ⟨rfl, hm9, ho9⟩
    have HY := Lib.hid ((HQ.out.turn hm9 ho9).put q.f)
    have hst := (HQ.out.turn hm9 ho9).fx.box.st q.f
    clear hm9 ho9
    go_wp2
    refine HRet.out _ _ ?_
    refine bodyPost_ret (results_F Tryz.results36 _ _ R (q.f) (.int .i64 (q.k)) rfl rfl HY.out.fx.box.at) rfl ?_
    rw [HR.out]
    exact ⟨rfl, HY.out.does⟩
  by_cases s2 : M.st = 2
  · have HST := Lib.hid s2
    obtain ⟨q, hq⟩ : ∃ q, q = claimR M := ⟨_, rfl⟩
    have HR := Lib.hid ((go_claim hi lo hw (by omega)).trans hq.symm)
    have HC : Hid (∀ W, Mw W b M → Calls Tryz.prog 53 #[.pointer (some ⟨b, 0, none⟩)] W (Gives W b q)) := Lib.hid (fun W k => by rw [hq]; exact cClaim k hgd.ad hgd.high hgd.arrived hgd.clock hgd.visits)
    clear h ok hn hgd hw s2 hq
    go_enter Tryz.func36, Tryz.ntmps36
    go_wp2
    refine scope_open (fun Q' hret hgo => ?_)
    have HRet := Lib.hid hret
    have H0 := Lib.hid (hgo 0 _ rfl)
    have H1 := Lib.hid (hgo 1 _ rfl)
    have H2 := Lib.hid (hgo 2 _ rfl)
    have H3 := Lib.hid (hgo 3 _ rfl)
    have H4 := Lib.hid (hgo 4 _ rfl)
    clear hret hgo
    go_wp2_with fail
    refine world_cut (G := fun W => Calls _ _ _ W _) (fun W => Px w W b M w.heap.size noF) (by exact HX.out) ?_
    rintro W hx
    generalize w.heap.size = R at *
    refine (HWt.out _ hx.mw).mono ?_
    rintro e w1 ⟨rfl, hb1⟩
    have HQ := Lib.hid (hx.below hb1)
    clear HX hx hb1 HWt
    have c10 : w1.cell? ⟨b, 10, none⟩ = some (.int .i64 2) := by rw [HQ.out.mw.cell 10 rfl, HST.out]
    go_wp2_with fail
    refine wp_goto ?_
    refine H0.out _ _ ?_
    go_wp2_with fail
    refine (HC.out _ HQ.out.mw).mono ?_
    rintro e w9 ⟨rfl, hm9, ho9⟩
    have HY := Lib.hid ((HQ.out.turn hm9 ho9).put q.f)
    have hst := (HQ.out.turn hm9 ho9).fx.box.st q.f
    clear hm9 ho9
    go_wp2
    refine HRet.out _ _ ?_
    refine bodyPost_ret (results_F Tryz.results36 _ _ R (q.f) (.int .i64 (q.k)) rfl rfl HY.out.fx.box.at) rfl ?_
    rw [HR.out]
    exact ⟨rfl, HY.out.does⟩
  by_cases s4 : M.st = 4
  · have HST := Lib.hid s4
    cases hwa : M.wants
    · have HWa := Lib.hid hwa
      obtain ⟨q, hq⟩ : ∃ q, q = passR (leaveM M) := ⟨_, rfl⟩
      have HR := Lib.hid ((go_use hi lo hw s4).trans ((show useR M hi lo = passR (leaveM M) by unfold useR; rw [if_neg (by rw [hwa]; decide)]).trans hq.symm))
      have HPs : Hid (∀ W, Mw W b (leaveM M) → Calls Tryz.prog 57 #[.pointer (some ⟨b, 0, none⟩)] W (Gives W b q)) := Lib.hid (fun W k => by rw [hq]; exact cPass k hgd.left)
      clear h ok hn hgd hw s4 hwa hq
      go_enter Tryz.func36, Tryz.ntmps36
      go_wp2
      refine scope_open (fun Q' hret hgo => ?_)
      have HRet := Lib.hid hret
      have H0 := Lib.hid (hgo 0 _ rfl)
      have H1 := Lib.hid (hgo 1 _ rfl)
      have H2 := Lib.hid (hgo 2 _ rfl)
      have H3 := Lib.hid (hgo 3 _ rfl)
      have H4 := Lib.hid (hgo 4 _ rfl)
      clear hret hgo
      go_wp2_with fail
      refine world_cut (G := fun W => Calls _ _ _ W _) (fun W => Px w W b M w.heap.size noF) (by exact HX.out) ?_
      rintro W hx
      generalize w.heap.size = R at *
      refine (HWt.out _ hx.mw).mono ?_
      rintro e w1 ⟨rfl, hb1⟩
      have HQ := Lib.hid (hx.below hb1)
      clear HX hx hb1 HWt
      have c10 : w1.cell? ⟨b, 10, none⟩ = some (.int .i64 4) := by rw [HQ.out.mw.cell 10 rfl, HST.out]
      have c11 : w1.cell? ⟨b, 11, none⟩ = some (.bool false) := by rw [HQ.out.mw.cell 11 rfl, HWa.out]
      go_wp2_with fail
      refine wp_goto ?_
      refine H1.out _ _ ?_
      go_wp2_with fail
      refine (cLeave HQ.out.mw).mono ?_
      rintro e w8 ⟨rfl, hm8, ho8⟩
      have HQ3 := Lib.hid (HQ.out.turn hm8 ho8)
      clear hm8 ho8 HQ c10 c11
      go_wp2_with fail
      refine wp_goto ?_
      refine H3.out _ _ ?_
      go_wp2_with fail
      refine (HPs.out _ HQ3.out.mw).mono ?_
      rintro e w9 ⟨rfl, hm9, ho9⟩
      have HY := Lib.hid ((HQ3.out.turn hm9 ho9).put q.f)
      have hst := (HQ3.out.turn hm9 ho9).fx.box.st q.f
      clear hm9 ho9
      go_wp2
      refine HRet.out _ _ ?_
      refine bodyPost_ret (results_F Tryz.results36 _ _ R (q.f) (.int .i64 (q.k)) rfl rfl HY.out.fx.box.at) rfl ?_
      rw [HR.out]
      exact ⟨rfl, HY.out.does⟩
    · have HWa := Lib.hid hwa
      by_cases h1 : 0 < hi
      · have d1 : decide (0 < hi) = true := decide_eq_true h1
        have HR := Lib.hid ((go_use hi lo hw s4).trans (show useR M hi lo = ⟨{ M with st := 6 }, plF { M with st := 6 } 4, 2⟩ by unfold useR; rw [if_pos hwa, if_pos h1]; rfl))
        have HP := Lib.hid (fun W (k : Mw W b { M with st := 6 }) => cPlain k hgd.ad 4)
        clear h ok hn hgd hw s4 hwa h1
        go_enter Tryz.func36, Tryz.ntmps36
        go_wp2
        refine scope_open (fun Q' hret hgo => ?_)
        have HRet := Lib.hid hret
        have H0 := Lib.hid (hgo 0 _ rfl)
        have H1 := Lib.hid (hgo 1 _ rfl)
        have H2 := Lib.hid (hgo 2 _ rfl)
        have H3 := Lib.hid (hgo 3 _ rfl)
        have H4 := Lib.hid (hgo 4 _ rfl)
        clear hret hgo
        go_wp2_with fail
        refine world_cut (G := fun W => Calls _ _ _ W _) (fun W => Px w W b M w.heap.size noF) (by exact HX.out) ?_
        rintro W hx
        generalize w.heap.size = R at *
        refine (HWt.out _ hx.mw).mono ?_
        rintro e w1 ⟨rfl, hb1⟩
        have HQ := Lib.hid (hx.below hb1)
        clear HX hx hb1 HWt
        have c10 : w1.cell? ⟨b, 10, none⟩ = some (.int .i64 4) := by rw [HQ.out.mw.cell 10 rfl, HST.out]
        have c11 : w1.cell? ⟨b, 11, none⟩ = some (.bool true) := by rw [HQ.out.mw.cell 11 rfl, HWa.out]
        have f10 := HQ.out.mw.free 10
        go_wp2_with fail
        refine wp_goto ?_
        refine H1.out _ _ ?_
        go_wp2_with fail
        refine world_cut (G := fun W => Calls _ _ _ W _) (fun W => Px w W b { M with st := 6 } R noF) (by exact HQ.out.sets [(10, _)] rfl) ?_
        rintro W2 hx2
        refine (HP.out _ hx2.mw).mono ?_
        rintro e w9 ⟨rfl, hb9⟩
        have HY := Lib.hid ((hx2.below hb9).put (plF { M with st := 6 } 4))
        have hst := (hx2.below hb9).fx.box.st (plF { M with st := 6 } 4)
        clear hx2 hb9 HQ c10 c11
        go_wp2
        refine HRet.out _ _ ?_
        refine bodyPost_ret (results_F Tryz.results36 _ _ R (plF { M with st := 6 } 4) (.int .i64 (2)) rfl rfl HY.out.fx.box.at) rfl ?_
        rw [HR.out]
        exact ⟨rfl, HY.out.does⟩
      · have d1 : decide (0 < hi) = false := decide_eq_false h1
        have hrc := (go_use hi lo hw s4).trans (show useR M hi lo = chpR M hi lo by unfold useR; rw [if_pos hwa, if_neg h1])
        obtain ⟨r, hr⟩ : ∃ r, r = chkR M hi lo := ⟨_, rfl⟩
        obtain ⟨q, hq⟩ : ∃ q, q = passR { M with st := 6 } := ⟨_, rfl⟩
        have HCk : Hid (∀ W, Mw W b M → Calls Tryz.prog 56 #[.pointer (some ⟨b, 0, none⟩), .int .i64 hi, .int .i64 lo] W (Gives W b r)) := Lib.hid (fun W k => by rw [hr]; exact cCheckM k ok hn hi lo)
        have HPs : Hid (∀ W, Mw W b { M with st := 6 } → Calls Tryz.prog 57 #[.pointer (some ⟨b, 0, none⟩)] W (Gives W b q)) := Lib.hid (fun W k => by rw [hq]; exact cPass k hgd.with6)
        have HRz : Hid (r.k = 0 → goOnR M hi lo = q) := Lib.hid (fun k => by rw [hq]; rw [hr] at k; exact hrc.trans (chp_pass hi lo k))
        have HRn : Hid (r.k ≠ 0 → goOnR M hi lo = r) := Lib.hid (fun k => by rw [hr]; rw [hr] at k; exact hrc.trans (chp_chk hi lo k))
        have HRm : Hid (r.k = 0 → r.m = { M with st := 6 }) := Lib.hid (fun k => by rw [hr]; rw [hr] at k; exact chk_zero M hi lo k)
        clear hr hq hrc
        clear h ok hn hgd hw s4 hwa h1
        go_enter Tryz.func36, Tryz.ntmps36
        go_wp2
        refine scope_open (fun Q' hret hgo => ?_)
        have HRet := Lib.hid hret
        have H0 := Lib.hid (hgo 0 _ rfl)
        have H1 := Lib.hid (hgo 1 _ rfl)
        have H2 := Lib.hid (hgo 2 _ rfl)
        have H3 := Lib.hid (hgo 3 _ rfl)
        have H4 := Lib.hid (hgo 4 _ rfl)
        clear hret hgo
        go_wp2_with fail
        refine world_cut (G := fun W => Calls _ _ _ W _) (fun W => Px w W b M w.heap.size noF) (by exact HX.out) ?_
        rintro W hx
        generalize w.heap.size = R at *
        refine (HWt.out _ hx.mw).mono ?_
        rintro e w1 ⟨rfl, hb1⟩
        have HQ := Lib.hid (hx.below hb1)
        clear HX hx hb1 HWt
        have c10 : w1.cell? ⟨b, 10, none⟩ = some (.int .i64 4) := by rw [HQ.out.mw.cell 10 rfl, HST.out]
        have c11 : w1.cell? ⟨b, 11, none⟩ = some (.bool true) := by rw [HQ.out.mw.cell 11 rfl, HWa.out]
        go_wp2_with fail
        refine wp_goto ?_
        refine H1.out _ _ ?_
        go_wp2_with fail
        refine wp_goto ?_
        refine H2.out _ _ ?_
        go_wp2_with fail
        refine (HCk.out _ HQ.out.mw).mono ?_
        rintro e w9 ⟨rfl, hm9, ho9⟩
        have HQ2 := Lib.hid (HQ.out.turn hm9 ho9)
        clear hm9 ho9 HQ
        have HQ3 := Lib.hid (HQ2.out.alloc (.cells (frA r.f) 38))
        have hRlt := HQ2.out.fx.box.lt
        by_cases hk : r.k = 0
        · have e1 : (r.k != 0) = false := by rw [hk]; rfl
          have HR := Lib.hid (HRz.out hk)
          rw [(HRm.out hk)] at HQ3
          clear hk
          go_wp2_with fail
          refine wp_goto ?_
          refine H3.out _ _ ?_
          go_wp2_with fail
          refine (HPs.out _ HQ3.out.mw).mono ?_
          rintro e w9 ⟨rfl, hm9, ho9⟩
          have HY := Lib.hid ((HQ3.out.turn hm9 ho9).put q.f)
          have hst := (HQ3.out.turn hm9 ho9).fx.box.st q.f
          clear hm9 ho9
          go_wp2
          refine HRet.out _ _ ?_
          refine bodyPost_ret (results_F Tryz.results36 _ _ R (q.f) (.int .i64 (q.k)) rfl rfl HY.out.fx.box.at) rfl ?_
          rw [HR.out]
          exact ⟨rfl, HY.out.does⟩
        · have e1 : (r.k != 0) = true := by rw [bne_iff_ne]; exact hk
          have HR := Lib.hid (HRn.out hk)
          clear hk
          have hld := (FrOwn.new w9 r.f).at.ld
          have HY := Lib.hid (HQ3.out.put r.f)
          have hst := HQ3.out.fx.box.st r.f
          clear HQ3 HQ2
          go_wp2
          refine HRet.out _ _ ?_
          refine bodyPost_ret (results_F Tryz.results36 _ _ R (r.f) (.int .i64 (r.k)) rfl rfl HY.out.fx.box.at) rfl ?_
          rw [HR.out]
          exact ⟨rfl, HY.out.does⟩
  by_cases s6 : M.st = 6
  · have HST := Lib.hid s6
    have hrc := go_chp hi lo hw (by omega)
    obtain ⟨r, hr⟩ : ∃ r, r = chkR M hi lo := ⟨_, rfl⟩
    obtain ⟨q, hq⟩ : ∃ q, q = passR { M with st := 6 } := ⟨_, rfl⟩
    have HCk : Hid (∀ W, Mw W b M → Calls Tryz.prog 56 #[.pointer (some ⟨b, 0, none⟩), .int .i64 hi, .int .i64 lo] W (Gives W b r)) := Lib.hid (fun W k => by rw [hr]; exact cCheckM k ok hn hi lo)
    have HPs : Hid (∀ W, Mw W b { M with st := 6 } → Calls Tryz.prog 57 #[.pointer (some ⟨b, 0, none⟩)] W (Gives W b q)) := Lib.hid (fun W k => by rw [hq]; exact cPass k hgd.with6)
    have HRz : Hid (r.k = 0 → goOnR M hi lo = q) := Lib.hid (fun k => by rw [hq]; rw [hr] at k; exact hrc.trans (chp_pass hi lo k))
    have HRn : Hid (r.k ≠ 0 → goOnR M hi lo = r) := Lib.hid (fun k => by rw [hr]; rw [hr] at k; exact hrc.trans (chp_chk hi lo k))
    have HRm : Hid (r.k = 0 → r.m = { M with st := 6 }) := Lib.hid (fun k => by rw [hr]; rw [hr] at k; exact chk_zero M hi lo k)
    clear hr hq hrc
    clear h ok hn hgd hw s6
    go_enter Tryz.func36, Tryz.ntmps36
    go_wp2
    refine scope_open (fun Q' hret hgo => ?_)
    have HRet := Lib.hid hret
    have H0 := Lib.hid (hgo 0 _ rfl)
    have H1 := Lib.hid (hgo 1 _ rfl)
    have H2 := Lib.hid (hgo 2 _ rfl)
    have H3 := Lib.hid (hgo 3 _ rfl)
    have H4 := Lib.hid (hgo 4 _ rfl)
    clear hret hgo
    go_wp2_with fail
    refine world_cut (G := fun W => Calls _ _ _ W _) (fun W => Px w W b M w.heap.size noF) (by exact HX.out) ?_
    rintro W hx
    generalize w.heap.size = R at *
    refine (HWt.out _ hx.mw).mono ?_
    rintro e w1 ⟨rfl, hb1⟩
    have HQ := Lib.hid (hx.below hb1)
    clear HX hx hb1 HWt
    have c10 : w1.cell? ⟨b, 10, none⟩ = some (.int .i64 6) := by rw [HQ.out.mw.cell 10 rfl, HST.out]
    go_wp2_with fail
    refine wp_goto ?_
    refine H2.out _ _ ?_
    go_wp2_with fail
    refine (HCk.out _ HQ.out.mw).mono ?_
    rintro e w9 ⟨rfl, hm9, ho9⟩
    have HQ2 := Lib.hid (HQ.out.turn hm9 ho9)
    clear hm9 ho9 HQ
    have HQ3 := Lib.hid (HQ2.out.alloc (.cells (frA r.f) 38))
    have hRlt := HQ2.out.fx.box.lt
    by_cases hk : r.k = 0
    · have e1 : (r.k != 0) = false := by rw [hk]; rfl
      have HR := Lib.hid (HRz.out hk)
      rw [(HRm.out hk)] at HQ3
      clear hk
      go_wp2_with fail
      refine wp_goto ?_
      refine H3.out _ _ ?_
      go_wp2_with fail
      refine (HPs.out _ HQ3.out.mw).mono ?_
      rintro e w9 ⟨rfl, hm9, ho9⟩
      have HY := Lib.hid ((HQ3.out.turn hm9 ho9).put q.f)
      have hst := (HQ3.out.turn hm9 ho9).fx.box.st q.f
      clear hm9 ho9
      go_wp2
      refine HRet.out _ _ ?_
      refine bodyPost_ret (results_F Tryz.results36 _ _ R (q.f) (.int .i64 (q.k)) rfl rfl HY.out.fx.box.at) rfl ?_
      rw [HR.out]
      exact ⟨rfl, HY.out.does⟩
    · have e1 : (r.k != 0) = true := by rw [bne_iff_ne]; exact hk
      have HR := Lib.hid (HRn.out hk)
      clear hk
      have hld := (FrOwn.new w9 r.f).at.ld
      have HY := Lib.hid (HQ3.out.put r.f)
      have hst := HQ3.out.fx.box.st r.f
      clear HQ3 HQ2
      go_wp2
      refine HRet.out _ _ ?_
      refine bodyPost_ret (results_F Tryz.results36 _ _ R (r.f) (.int .i64 (r.k)) rfl rfl HY.out.fx.box.at) rfl ?_
      rw [HR.out]
      exact ⟨rfl, HY.out.does⟩
  by_cases s5 : M.st = 5
  · have HST := Lib.hid s5
    have hrc := go_chp hi lo hw (by omega)
    obtain ⟨r, hr⟩ : ∃ r, r = chkR M hi lo := ⟨_, rfl⟩
    obtain ⟨q, hq⟩ : ∃ q, q = passR { M with st := 6 } := ⟨_, rfl⟩
    have HCk : Hid (∀ W, Mw W b M → Calls Tryz.prog 56 #[.pointer (some ⟨b, 0, none⟩), .int .i64 hi, .int .i64 lo] W (Gives W b r)) := Lib.hid (fun W k => by rw [hr]; exact cCheckM k ok hn hi lo)
    have HPs : Hid (∀ W, Mw W b { M with st := 6 } → Calls Tryz.prog 57 #[.pointer (some ⟨b, 0, none⟩)] W (Gives W b q)) := Lib.hid (fun W k => by rw [hq]; exact cPass k hgd.with6)
    have HRz : Hid (r.k = 0 → goOnR M hi lo = q) := Lib.hid (fun k => by rw [hq]; rw [hr] at k; exact hrc.trans (chp_pass hi lo k))
    have HRn : Hid (r.k ≠ 0 → goOnR M hi lo = r) := Lib.hid (fun k => by rw [hr]; rw [hr] at k; exact hrc.trans (chp_chk hi lo k))
    have HRm : Hid (r.k = 0 → r.m = { M with st := 6 }) := Lib.hid (fun k => by rw [hr]; rw [hr] at k; exact chk_zero M hi lo k)
    clear hr hq hrc
    clear h ok hn hgd hw s5
    go_enter Tryz.func36, Tryz.ntmps36
    go_wp2
    refine scope_open (fun Q' hret hgo => ?_)
    have HRet := Lib.hid hret
    have H0 := Lib.hid (hgo 0 _ rfl)
    have H1 := Lib.hid (hgo 1 _ rfl)
    have H2 := Lib.hid (hgo 2 _ rfl)
    have H3 := Lib.hid (hgo 3 _ rfl)
    have H4 := Lib.hid (hgo 4 _ rfl)
    clear hret hgo
    go_wp2_with fail
    refine world_cut (G := fun W => Calls _ _ _ W _) (fun W => Px w W b M w.heap.size noF) (by exact HX.out) ?_
    rintro W hx
    generalize w.heap.size = R at *
    refine (HWt.out _ hx.mw).mono ?_
    rintro e w1 ⟨rfl, hb1⟩
    have HQ := Lib.hid (hx.below hb1)
    clear HX hx hb1 HWt
    have c10 : w1.cell? ⟨b, 10, none⟩ = some (.int .i64 5) := by rw [HQ.out.mw.cell 10 rfl, HST.out]
    go_wp2_with fail
    refine wp_goto ?_
    refine H2.out _ _ ?_
    go_wp2_with fail
    refine (HCk.out _ HQ.out.mw).mono ?_
    rintro e w9 ⟨rfl, hm9, ho9⟩
    have HQ2 := Lib.hid (HQ.out.turn hm9 ho9)
    clear hm9 ho9 HQ
    have HQ3 := Lib.hid (HQ2.out.alloc (.cells (frA r.f) 38))
    have hRlt := HQ2.out.fx.box.lt
    by_cases hk : r.k = 0
    · have e1 : (r.k != 0) = false := by rw [hk]; rfl
      have HR := Lib.hid (HRz.out hk)
      rw [(HRm.out hk)] at HQ3
      clear hk
      go_wp2_with fail
      refine wp_goto ?_
      refine H3.out _ _ ?_
      go_wp2_with fail
      refine (HPs.out _ HQ3.out.mw).mono ?_
      rintro e w9 ⟨rfl, hm9, ho9⟩
      have HY := Lib.hid ((HQ3.out.turn hm9 ho9).put q.f)
      have hst := (HQ3.out.turn hm9 ho9).fx.box.st q.f
      clear hm9 ho9
      go_wp2
      refine HRet.out _ _ ?_
      refine bodyPost_ret (results_F Tryz.results36 _ _ R (q.f) (.int .i64 (q.k)) rfl rfl HY.out.fx.box.at) rfl ?_
      rw [HR.out]
      exact ⟨rfl, HY.out.does⟩
    · have e1 : (r.k != 0) = true := by rw [bne_iff_ne]; exact hk
      have HR := Lib.hid (HRn.out hk)
      clear hk
      have hld := (FrOwn.new w9 r.f).at.ld
      have HY := Lib.hid (HQ3.out.put r.f)
      have hst := HQ3.out.fx.box.st r.f
      clear HQ3 HQ2
      go_wp2
      refine HRet.out _ _ ?_
      refine bodyPost_ret (results_F Tryz.results36 _ _ R (r.f) (.int .i64 (r.k)) rfl rfl HY.out.fx.box.at) rfl ?_
      rw [HR.out]
      exact ⟨rfl, HY.out.does⟩
  by_cases s9 : M.st = 9
  · have HST := Lib.hid s9
    obtain ⟨q, hq⟩ : ∃ q, q = passR M := ⟨_, rfl⟩
    have HR := Lib.hid ((go_pass hi lo hw s9).trans hq.symm)
    have HPs : Hid (∀ W, Mw W b M → Calls Tryz.prog 57 #[.pointer (some ⟨b, 0, none⟩)] W (Gives W b q)) := Lib.hid (fun W k => by rw [hq]; exact cPass k hgd)
    clear h ok hn hgd hw s9 hq
    go_enter Tryz.func36, Tryz.ntmps36
    go_wp2
    refine scope_open (fun Q' hret hgo => ?_)
    have HRet := Lib.hid hret
    have H0 := Lib.hid (hgo 0 _ rfl)
    have H1 := Lib.hid (hgo 1 _ rfl)
    have H2 := Lib.hid (hgo 2 _ rfl)
    have H3 := Lib.hid (hgo 3 _ rfl)
    have H4 := Lib.hid (hgo 4 _ rfl)
    clear hret hgo
    go_wp2_with fail
    refine world_cut (G := fun W => Calls _ _ _ W _) (fun W => Px w W b M w.heap.size noF) (by exact HX.out) ?_
    rintro W hx
    generalize w.heap.size = R at *
    refine (HWt.out _ hx.mw).mono ?_
    rintro e w1 ⟨rfl, hb1⟩
    have HQ := Lib.hid (hx.below hb1)
    clear HX hx hb1 HWt
    have c10 : w1.cell? ⟨b, 10, none⟩ = some (.int .i64 9) := by rw [HQ.out.mw.cell 10 rfl, HST.out]
    go_wp2_with fail
    refine wp_goto ?_
    refine H3.out _ _ ?_
    go_wp2_with fail
    refine (HPs.out _ HQ.out.mw).mono ?_
    rintro e w9 ⟨rfl, hm9, ho9⟩
    have HY := Lib.hid ((HQ.out.turn hm9 ho9).put q.f)
    have hst := (HQ.out.turn hm9 ho9).fx.box.st q.f
    clear hm9 ho9
    go_wp2
    refine HRet.out _ _ ?_
    refine bodyPost_ret (results_F Tryz.results36 _ _ R (q.f) (.int .i64 (q.k)) rfl rfl HY.out.fx.box.at) rfl ?_
    rw [HR.out]
    exact ⟨rfl, HY.out.does⟩
  by_cases s8 : M.st = 8
  · have HST := Lib.hid s8
    obtain ⟨p, hp⟩ := Int.eq_ofNat_of_zero_le (ok.p8 s8)
    have hp2 : p < 256 := by have := ok.part; omega
    by_cases ht : M.tries < M.rt
    · have d1 : decide (M.tries < M.rt) = true := decide_eq_true ht
      have HR := Lib.hid ((go_cp hi lo hw s8).trans (show cpR M = ⟨{ M with tries := M.tries + 1, timer := 0 }, passF M, 1⟩ by unfold cpR; rw [if_pos ht]))
      have HA := Lib.hid (fun W (k : Mw W b M) => cPassAnew k hgd.ad p hp hp2 ⟨ok.tries.1, by have := ok.tries; omega⟩)
      clear h ok hn hgd hw s8 hp hp2 ht
      go_enter Tryz.func36, Tryz.ntmps36
      go_wp2
      refine scope_open (fun Q' hret hgo => ?_)
      have HRet := Lib.hid hret
      have H0 := Lib.hid (hgo 0 _ rfl)
      have H1 := Lib.hid (hgo 1 _ rfl)
      have H2 := Lib.hid (hgo 2 _ rfl)
      have H3 := Lib.hid (hgo 3 _ rfl)
      have H4 := Lib.hid (hgo 4 _ rfl)
      clear hret hgo
      go_wp2_with fail
      refine world_cut (G := fun W => Calls _ _ _ W _) (fun W => Px w W b M w.heap.size noF) (by exact HX.out) ?_
      rintro W hx
      generalize w.heap.size = R at *
      refine (HWt.out _ hx.mw).mono ?_
      rintro e w1 ⟨rfl, hb1⟩
      have HQ := Lib.hid (hx.below hb1)
      clear HX hx hb1 HWt
      have c10 : w1.cell? ⟨b, 10, none⟩ = some (.int .i64 8) := by rw [HQ.out.mw.cell 10 rfl, HST.out]
      have c5 := HQ.out.mw.cell 5 rfl
      have c70 := HQ.out.mw.cell 70 rfl
      go_wp2_with fail
      refine wp_goto ?_
      refine H4.out _ _ ?_
      go_wp2
      go_quiet (fail)
      refine world_cut (G := fun W => Exit.then _ _ Exit.normal _ W) (fun W => Px w W b M R noF) (by exact HQ.out.drewN _) ?_
      rintro W9 hx9
      replace HQ := Lib.hid hx9
      clear hx9 c10 c5 c70
      go_wp2_with fail
      refine (HA.out _ HQ.out.mw).mono ?_
      rintro e w9 ⟨rfl, hm9, ho9⟩
      have HY := Lib.hid ((HQ.out.turn hm9 ho9).put (passF M))
      have hst := (HQ.out.turn hm9 ho9).fx.box.st (passF M)
      clear hm9 ho9 HQ
      go_wp2
      refine HRet.out _ _ ?_
      refine bodyPost_ret (results_F Tryz.results36 _ _ R (passF M) (.int .i64 (1)) rfl rfl HY.out.fx.box.at) rfl ?_
      rw [HR.out]
      exact ⟨rfl, HY.out.does⟩
    · have d1 : decide (M.tries < M.rt) = false := decide_eq_false ht
      cases hm : mintB M
      · have HR := Lib.hid ((go_cp hi lo hw s8).trans (show cpR M = nothing (offM (skipM M)) by unfold cpR; rw [if_neg ht, if_neg (by rw [hm]; decide)]))
        have HA := Lib.hid (fun W (k : Mw W b M) => cSkip_no k hgd.ad hgd.high hm)
        clear h ok hn hgd hw s8 hp hp2 ht hm
        go_enter Tryz.func36, Tryz.ntmps36
        go_wp2
        refine scope_open (fun Q' hret hgo => ?_)
        have HRet := Lib.hid hret
        have H0 := Lib.hid (hgo 0 _ rfl)
        have H1 := Lib.hid (hgo 1 _ rfl)
        have H2 := Lib.hid (hgo 2 _ rfl)
        have H3 := Lib.hid (hgo 3 _ rfl)
        have H4 := Lib.hid (hgo 4 _ rfl)
        clear hret hgo
        go_wp2_with fail
        refine world_cut (G := fun W => Calls _ _ _ W _) (fun W => Px w W b M w.heap.size noF) (by exact HX.out) ?_
        rintro W hx
        generalize w.heap.size = R at *
        refine (HWt.out _ hx.mw).mono ?_
        rintro e w1 ⟨rfl, hb1⟩
        have HQ := Lib.hid (hx.below hb1)
        clear HX hx hb1 HWt
        have c10 : w1.cell? ⟨b, 10, none⟩ = some (.int .i64 8) := by rw [HQ.out.mw.cell 10 rfl, HST.out]
        have c5 := HQ.out.mw.cell 5 rfl
        have c70 := HQ.out.mw.cell 70 rfl
        go_wp2_with fail
        refine wp_goto ?_
        refine H4.out _ _ ?_
        go_wp2
        go_quiet (fail)
        refine world_cut (G := fun W => Exit.then _ _ Exit.normal _ W) (fun W => Px w W b M R noF) (by exact HQ.out.drewN _) ?_
        rintro W9 hx9
        replace HQ := Lib.hid hx9
        clear hx9 c10 c5 c70
        go_wp2_with fail
        refine (HA.out _ HQ.out.mw).mono ?_
        rintro e w9 ⟨rfl, hm9, ho9⟩
        replace HQ := Lib.hid (HQ.out.turn hm9 ho9)
        clear hm9 ho9
        have HY := Lib.hid (HQ.out.put noF)
        have hst := HQ.out.fx.box.st noF
        clear HQ
        go_wp2
        refine HRet.out _ _ ?_
        refine bodyPost_ret (results_F Tryz.results36 _ _ R (noF) (.int .i64 (0)) rfl rfl HY.out.fx.box.at) rfl ?_
        rw [HR.out]
        exact ⟨rfl, HY.out.does⟩
      · obtain ⟨q, hq⟩ : ∃ q, q = passR (newM (skipM M)) := ⟨_, rfl⟩
        have HR := Lib.hid ((go_cp hi lo hw s8).trans ((show cpR M = passR (newM (skipM M)) by unfold cpR; rw [if_neg ht, if_pos hm]).trans hq.symm))
        have HA := Lib.hid (fun W (k : Mw W b M) => cSkip_yes k hgd.ad hm)
        have HPs : Hid (∀ W, Mw W b (newM (skipM M)) → Calls Tryz.prog 57 #[.pointer (some ⟨b, 0, none⟩)] W (Gives W b q)) := Lib.hid (fun W k => by rw [hq]; exact cPass k (hgd.skip.new hm))
        clear h ok hn hgd hw s8 hp hp2 ht hm hq
        go_enter Tryz.func36, Tryz.ntmps36
        go_wp2
        refine scope_open (fun Q' hret hgo => ?_)
        have HRet := Lib.hid hret
        have H0 := Lib.hid (hgo 0 _ rfl)
        have H1 := Lib.hid (hgo 1 _ rfl)
        have H2 := Lib.hid (hgo 2 _ rfl)
        have H3 := Lib.hid (hgo 3 _ rfl)
        have H4 := Lib.hid (hgo 4 _ rfl)
        clear hret hgo
        go_wp2_with fail
        refine world_cut (G := fun W => Calls _ _ _ W _) (fun W => Px w W b M w.heap.size noF) (by exact HX.out) ?_
        rintro W hx
        generalize w.heap.size = R at *
        refine (HWt.out _ hx.mw).mono ?_
        rintro e w1 ⟨rfl, hb1⟩
        have HQ := Lib.hid (hx.below hb1)
        clear HX hx hb1 HWt
        have c10 : w1.cell? ⟨b, 10, none⟩ = some (.int .i64 8) := by rw [HQ.out.mw.cell 10 rfl, HST.out]
        have c5 := HQ.out.mw.cell 5 rfl
        have c70 := HQ.out.mw.cell 70 rfl
        go_wp2_with fail
        refine wp_goto ?_
        refine H4.out _ _ ?_
        go_wp2
        go_quiet (fail)
        refine world_cut (G := fun W => Exit.then _ _ Exit.normal _ W) (fun W => Px w W b M R noF) (by exact HQ.out.drewN _) ?_
        rintro W9 hx9
        replace HQ := Lib.hid hx9
        clear hx9 c10 c5 c70
        go_wp2_with fail
        refine (HA.out _ HQ.out.mw).mono ?_
        rintro e w9 ⟨rfl, hm9, ho9⟩
        have HQ3 := Lib.hid (HQ.out.turn hm9 ho9)
        clear hm9 ho9 HQ
        go_wp2_with fail
        refine wp_goto ?_
        refine H3.out _ _ ?_
        go_wp2_with fail
        refine (HPs.out _ HQ3.out.mw).mono ?_
        rintro e w9 ⟨rfl, hm9, ho9⟩
        have HY := Lib.hid ((HQ3.out.turn hm9 ho9).put q.f)
        have hst := (HQ3.out.turn hm9 ho9).fx.box.st q.f
        clear hm9 ho9
        go_wp2
        refine HRet.out _ _ ?_
        refine bodyPost_ret (results_F Tryz.results36 _ _ R (q.f) (.int .i64 (q.k)) rfl rfl HY.out.fx.box.at) rfl ?_
        rw [HR.out]
        exact ⟨rfl, HY.out.does⟩
  have HR := Lib.hid (go_none hi lo hw s1 s2 s4 s6 s5 s9 s8)
  have e1 : (M.st == 1) = false := by simpa using s1
  have e2 : (M.st == 2) = false := by simpa using s2
  have e4 : (M.st == 4) = false := by simpa using s4
  have e6 : (M.st == 6) = false := by simpa using s6
  have e5 : (M.st == 5) = false := by simpa using s5
  have e9 : (M.st == 9) = false := by simpa using s9
  have e8 : (M.st == 8) = false := by simpa using s8
  clear h ok hn hgd hw s1 s2 s4 s6 s5 s9 s8
  go_enter Tryz.func36, Tryz.ntmps36
  go_wp2
  refine scope_open (fun Q' hret hgo => ?_)
  have HRet := Lib.hid hret
  have H0 := Lib.hid (hgo 0 _ rfl)
  have H1 := Lib.hid (hgo 1 _ rfl)
  have H2 := Lib.hid (hgo 2 _ rfl)
  have H3 := Lib.hid (hgo 3 _ rfl)
  have H4 := Lib.hid (hgo 4 _ rfl)
  clear hret hgo
  go_wp2_with fail
  refine world_cut (G := fun W => Calls _ _ _ W _) (fun W => Px w W b M w.heap.size noF) (by exact HX.out) ?_
  rintro W hx
  generalize w.heap.size = R at *
  refine (HWt.out _ hx.mw).mono ?_
  rintro e w1 ⟨rfl, hb1⟩
  have HQ := Lib.hid (hx.below hb1)
  clear HX hx hb1 HWt
  have c10 := HQ.out.mw.cell 10 rfl
  have HY := Lib.hid (HQ.out.put noF)
  have hst := HQ.out.fx.box.st noF
  clear HQ
  go_wp2
  refine HRet.out _ _ ?_
  refine bodyPost_ret (results_F Tryz.results36 _ _ R (noF) (.int .i64 (0)) rfl rfl HY.out.fx.box.at) rfl ?_
  rw [HR.out]
  exact ⟨rfl, HY.out.does⟩
end Go.Proofs.YtedlfognpbbhhaaGreatDoor.Ma
