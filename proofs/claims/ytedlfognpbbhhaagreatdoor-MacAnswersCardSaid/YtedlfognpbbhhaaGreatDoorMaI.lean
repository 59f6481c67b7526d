/-
  Check: walked. Conditions: as each states.
-/
import Derived.Test.YtedlfognpbbhhaaGreatDoorMaH
namespace Go.Proofs.YtedlfognpbbhhaaGreatDoor.Ma
open Go.RowKit
open Go.Proofs.YtedlfognpbbhhaaGreatDoor.Epo (Ep cmpE newB maxE numE numM)
open Go.Proofs.YtedlfognpbbhhaaGreatDoor.Mem (St withB woB hasB passB nextI turnI gapB sv)
open Go.Proofs.YtedlfognpbbhhaaGreatDoor.Frm (Fr world_cut)
attribute [local go_sem ↓] exec_ldF exec_stF exec_bdF
attribute [local go_sem] bdF_5 bdF_9 bdF_0 stF_new0

variable {b : Nat} {M : Mc} {w : World}
theorem newM_ok (hm : mintB M = true) : (newM M).high.c ≤ 65535 ∧ (newM M).tok.h ≤ 65535 := by
  unfold mintB at hm
  simp only [Bool.and_eq_true, decide_eq_true_iff] at hm
  constructor
  · show M.high.c + 1 ≤ 65535
    omega
  · show (0 : Nat) ≤ 65535
    omega
theorem hop_keeps (M : Mc) : (hopM M).ad = M.ad ∧ (hopM M).inc = M.inc ∧ (hopM M).arrived = M.arrived ∧ (hopM M).clock = M.clock ∧ (hopM M).visits = M.visits := by
  unfold hopM
  split
  · split <;> exact ⟨rfl, rfl, rfl, rfl, rfl⟩
  · exact ⟨rfl, rfl, rfl, rfl, rfl⟩
theorem turn_nat (M : Mc) : ∃ p : Nat, turnM M = p ∧ p < 32 := by
  have h := Mem.turnI_range (gapM M) M.last
  unfold turnM
  exact ⟨(max (turnI (gapM M) M.last) 0).toNat, by omega, by omega⟩
theorem gapR_no (A : Mc) (h : ¬ (A.visits % A.gp = 0 ∧ gapM A ≠ 0#32)) : gapR A = nothing A := by unfold gapR; rw [if_neg h]
theorem gapR_yes (A : Mc) (h : A.visits % A.gp = 0 ∧ gapM A ≠ 0#32) : gapR A = askR { A with last := turnM A } (turnM A) 9 := by unfold gapR; rw [if_pos h]
/-- What the way from Pass on wants. -/
structure Gd (M : Mc) : Prop where
  ad : M.ad < 32
  hop : M.tok.h ≤ 65535
  high : M.high.c ≤ 65535
  arrived : 0 ≤ M.arrived ∧ M.arrived ≤ M.clock
  clock : M.clock ≤ 1000000000
  visits : 0 ≤ M.visits ∧ M.visits ≤ 1000000000
theorem Ok.gd {n : Int} (h : Ok n M) (hn : n ≤ 1000000000) : Gd M :=
  ⟨h.ad, h.tok.2, h.high.1, h.arrived, by have := h.clock; omega, by have := h.visits; omega⟩
theorem Gd.new (h : Gd M) (hm : mintB M = true) : Gd (newM M) := ⟨h.ad, (newM_ok hm).2, (newM_ok hm).1, h.arrived, h.clock, h.visits⟩
set_option maxRecDepth 100000 in
set_option maxHeartbeats 4000000 in
theorem cCheckM {n : Int} (h : Mw w b M) (ok : Ok n M) (hn : n ≤ 1000000000) (hi lo : Int) : Calls Tryz.prog 56 #[.pointer (some ⟨b, 0, none⟩), .int .i64 hi, .int .i64 lo] w (Gives w b (chkR M hi lo)) := by
  obtain ⟨A, hA⟩ : ∃ A, A = { M with st := 6 } := ⟨_, rfl⟩
  have had : A.ad < 32 := by rw [hA]; exact ok.ad
  have hv0 : 0 ≤ A.visits := by rw [hA]; exact ok.visits.1
  have hgp : ¬ A.gp = 0 := by rw [hA]; have := ok.gp; show ¬ M.gp = 0; omega
  have hask : -1 ≤ A.ask ∧ A.ask < 32 := by rw [hA]; exact ok.ask
  have HA : Hid (Px w ((setL w b [(10, .int .i64 6)]).alloc (.cells (frA noF) 38)) b A w.heap.size noF) := Lib.hid (Px.firstS h _ (h.sets [(10, .int .i64 6)] (by rw [hA]; rfl)) noF)
  have HT := Lib.hid (fun W (k : Mw W b A) => tells_of (cHasTime k (by rw [hA]; have := ok.rot; exact ⟨this.1, by show M.rot ≤ _; omega⟩) (by rw [hA]; have := ok.clock; exact ⟨this.1, by show M.clock ≤ _; omega⟩) (by rw [hA]; have := ok.arrived; have := ok.clock; exact ⟨ok.arrived.1, by show M.arrived ≤ _; omega⟩)))
  have HP := Lib.hid (fun W (k : Mw W b A) => cPlain k had 4)
  have hlt := h.lt
  have c10 := h.cell 10 rfl
  have f10 := h.free 10
  have HD : Hid (timeB A = timeB M) := Lib.hid (by rw [hA]; rfl)
  have HE : Hid (chkR M hi lo = if timeB M = true then timR A hi lo else gapR A) := Lib.hid (by rw [hA]; rfl)
  clear h ok hn hA
  cases ht : timeB M
  · have HR0 := Lib.hid (HE.out.trans (if_neg (by rw [ht]; decide)))
    rw [ht] at HD
    clear ht
    go_enter Tryz.func56, Tryz.ntmps56
    go_wp2_with fail
    refine world_cut (G := fun W => Calls _ _ _ W _) (fun W => Px w W b A w.heap.size noF) (by exact HA.out) ?_
    rintro W hx
    clear hlt c10 f10
    generalize w.heap.size = R at *
    refine (HT.out _ hx.mw).mono ?_
    rintro e w1 ⟨rfl, hb1⟩
    rw [HD.out]
    have HQ := Lib.hid (hx.below hb1)
    clear HA hx hb1 HT HD
    have c4 : w1.cell? ⟨b, 4, none⟩ = some (.int .i64 A.gp) := HQ.out.mw.cell 4 rfl
    have c17 : w1.cell? ⟨b, 17, none⟩ = some (.int .i64 A.visits) := HQ.out.mw.cell 17 rfl
    have HGn := Lib.hid (fun n => cGap (HQ.out.drewN n).mw)
    by_cases hz : A.visits % A.gp = 0
    · have e1 : (A.visits % A.gp == 0) = true := by simpa using hz
      have e1t : (A.visits.tmod A.gp == 0) = true := by rw [Int.tmod_eq_emod_of_nonneg hv0]; exact e1
      by_cases hg : gapM A = 0#32
      · have e2 : (((gapM A).toNat : Int) != 0) = false := by rw [hg]; rfl
        have HR := Lib.hid (HR0.out.trans (gapR_no A (fun k => k.2 hg)))
        clear hz hg e1t
        go_wp2
        go_quiet (exact Calls.quiet_of (HGn.out _))
        refine world_cut (G := fun W => Exit.then _ _ Exit.normal _ W) (fun W => Px w W b A R noF) (by exact HQ.out.drewN _) ?_
        rintro W9 hx9
        replace HQ := Lib.hid hx9
        clear hx9 c4 c17 HGn
        have HY := Lib.hid (HQ.out.put noF)
        have hst := HQ.out.fx.box.st noF
        clear HQ
        go_wp2
        refine bodyPost_ret (results_F Tryz.results56 _ _ R (noF) (.int .i64 0) rfl rfl HY.out.fx.box.at) rfl ?_
        rw [HR.out]
        exact ⟨rfl, HY.out.does⟩
      · have e2 : (((gapM A).toNat : Int) != 0) = true := by
          rw [bne_iff_ne]
          intro e
          exact hg (BitVec.eq_of_toNat_eq (by simpa using e))
        have HR := Lib.hid (HR0.out.trans (gapR_yes A ⟨hz, hg⟩))
        obtain ⟨p, hp, hp2⟩ := turn_nat A
        rw [hp] at HR
        have HC := Lib.hid (fun W (k : Mw W b A) => cAskInGap k had p hp hp2)
        clear hz hg e1t
        go_wp2
        go_quiet (exact Calls.quiet_of (HGn.out _))
        refine world_cut (G := fun W => Exit.then _ _ Exit.normal _ W) (fun W => Px w W b A R noF) (by exact HQ.out.drewN _) ?_
        rintro W9 hx9
        replace HQ := Lib.hid hx9
        clear hx9 c4 c17 HGn
        go_wp2_with fail
        refine (HC.out _ HQ.out.mw).mono ?_
        rintro e w9 ⟨rfl, hm9, ho9⟩
        have HY := Lib.hid ((HQ.out.turn hm9 ho9).put (toF A 2 p (A.kn p)))
        have hst := (HQ.out.turn hm9 ho9).fx.box.st (toF A 2 p (A.kn p))
        clear hm9 ho9 HQ
        go_wp2
        refine bodyPost_ret (results_F Tryz.results56 _ _ R (toF A 2 p (A.kn p)) (.int .i64 1) rfl rfl HY.out.fx.box.at) rfl ?_
        rw [HR.out]
        exact ⟨rfl, HY.out.does⟩
    · have e1 : (A.visits % A.gp == 0) = false := by simpa using hz
      have e1t : (A.visits.tmod A.gp == 0) = false := by rw [Int.tmod_eq_emod_of_nonneg hv0]; exact e1
      have HR := Lib.hid (HR0.out.trans (gapR_no A (fun k => hz k.1)))
      clear hz e1t
      go_wp2
      go_quiet (exact Calls.quiet_of (HGn.out _))
      refine world_cut (G := fun W => Exit.then _ _ Exit.normal _ W) (fun W => Px w W b A R noF) (by exact HQ.out.drewN _) ?_
      rintro W9 hx9
      replace HQ := Lib.hid hx9
      clear hx9 c4 c17 HGn
      have HY := Lib.hid (HQ.out.put noF)
      have hst := HQ.out.fx.box.st noF
      clear HQ
      go_wp2
      refine bodyPost_ret (results_F Tryz.results56 _ _ R (noF) (.int .i64 0) rfl rfl HY.out.fx.box.at) rfl ?_
      rw [HR.out]
      exact ⟨rfl, HY.out.does⟩
  · have HR1 := Lib.hid (HE.out.trans (if_pos ht))
    rw [ht] at HD
    clear ht
    by_cases h1 : 0 < hi
    · have d1 : decide (0 < hi) = true := decide_eq_true h1
      have HR := Lib.hid (HR1.out.trans (if_pos h1))
      clear h1
      go_enter Tryz.func56, Tryz.ntmps56
      go_wp2_with fail
      refine world_cut (G := fun W => Calls _ _ _ W _) (fun W => Px w W b A w.heap.size noF) (by exact HA.out) ?_
      rintro W hx
      clear hlt c10 f10
      generalize w.heap.size = R at *
      refine (HT.out _ hx.mw).mono ?_
      rintro e w1 ⟨rfl, hb1⟩
      rw [HD.out]
      have HQ := Lib.hid (hx.below hb1)
      clear HA hx hb1 HT HD
      go_wp2_with fail
      refine (HP.out _ HQ.out.mw).mono ?_
      rintro e w9 ⟨rfl, hb9⟩
      have HY := Lib.hid ((HQ.out.below hb9).put (plF A 4))
      have hst := (HQ.out.below hb9).fx.box.st (plF A 4)
      clear hb9 HQ
      go_wp2
      refine bodyPost_ret (results_F Tryz.results56 _ _ R (plF A 4) (.int .i64 2) rfl rfl HY.out.fx.box.at) rfl ?_
      rw [HR.out]
      exact ⟨rfl, HY.out.does⟩
    · have d1 : decide (0 < hi) = false := decide_eq_false h1
      by_cases h2 : 0 < lo
      · have d2 : decide (0 < lo) = true := decide_eq_true h2
        have HR := Lib.hid (HR1.out.trans ((if_neg h1).trans (if_pos h2)))
        clear h1 h2
        go_enter Tryz.func56, Tryz.ntmps56
        go_wp2_with fail
        refine world_cut (G := fun W => Calls _ _ _ W _) (fun W => Px w W b A w.heap.size noF) (by exact HA.out) ?_
        rintro W hx
        clear hlt c10 f10
        generalize w.heap.size = R at *
        refine (HT.out _ hx.mw).mono ?_
        rintro e w1 ⟨rfl, hb1⟩
        rw [HD.out]
        have HQ := Lib.hid (hx.below hb1)
        clear HA hx hb1 HT HD
        go_wp2_with fail
        refine (HP.out _ HQ.out.mw).mono ?_
        rintro e w9 ⟨rfl, hb9⟩
        have HY := Lib.hid ((HQ.out.below hb9).put (plF A 4))
        have hst := (HQ.out.below hb9).fx.box.st (plF A 4)
        clear hb9 HQ
        go_wp2
        refine bodyPost_ret (results_F Tryz.results56 _ _ R (plF A 4) (.int .i64 3) rfl rfl HY.out.fx.box.at) rfl ?_
        rw [HR.out]
        exact ⟨rfl, HY.out.does⟩
      · have d2 : decide (0 < lo) = false := decide_eq_false h2
        by_cases h3 : A.ask = -1
        · have HR0 := Lib.hid (HR1.out.trans ((if_neg h1).trans ((if_neg h2).trans (if_neg (fun k => k h3)))))
          have HK := Lib.hid h3
          clear h1 h2 h3
          go_enter Tryz.func56, Tryz.ntmps56
          go_wp2_with fail
          refine world_cut (G := fun W => Calls _ _ _ W _) (fun W => Px w W b A w.heap.size noF) (by exact HA.out) ?_
          rintro W hx
          clear hlt c10 f10
          generalize w.heap.size = R at *
          refine (HT.out _ hx.mw).mono ?_
          rintro e w1 ⟨rfl, hb1⟩
          rw [HD.out]
          have HQ := Lib.hid (hx.below hb1)
          have c73 : w1.cell? ⟨b, 73, none⟩ = some (.int .i64 (-1)) := by rw [HQ.out.mw.cell 73 rfl]; rw [HK.out]
          clear HA hx hb1 HT HD HK
          have c4 : w1.cell? ⟨b, 4, none⟩ = some (.int .i64 A.gp) := HQ.out.mw.cell 4 rfl
          have c17 : w1.cell? ⟨b, 17, none⟩ = some (.int .i64 A.visits) := HQ.out.mw.cell 17 rfl
          have HGn := Lib.hid (fun n => cGap (HQ.out.drewN n).mw)
          by_cases hz : A.visits % A.gp = 0
          · have e1 : (A.visits % A.gp == 0) = true := by simpa using hz
            have e1t : (A.visits.tmod A.gp == 0) = true := by rw [Int.tmod_eq_emod_of_nonneg hv0]; exact e1
            by_cases hg : gapM A = 0#32
            · have e2 : (((gapM A).toNat : Int) != 0) = false := by rw [hg]; rfl
              have HR := Lib.hid (HR0.out.trans (gapR_no A (fun k => k.2 hg)))
              clear hz hg e1t
              go_wp2
              go_quiet (exact Calls.quiet_of (HGn.out _))
              refine world_cut (G := fun W => Exit.then _ _ Exit.normal _ W) (fun W => Px w W b A R noF) (by exact HQ.out.drewN _) ?_
              rintro W9 hx9
              replace HQ := Lib.hid hx9
              clear hx9 c4 c17 HGn
              have HY := Lib.hid (HQ.out.put noF)
              have hst := HQ.out.fx.box.st noF
              clear HQ
              go_wp2
              refine bodyPost_ret (results_F Tryz.results56 _ _ R (noF) (.int .i64 0) rfl rfl HY.out.fx.box.at) rfl ?_
              rw [HR.out]
              exact ⟨rfl, HY.out.does⟩
            · have e2 : (((gapM A).toNat : Int) != 0) = true := by
                rw [bne_iff_ne]
                intro e
                exact hg (BitVec.eq_of_toNat_eq (by simpa using e))
              have HR := Lib.hid (HR0.out.trans (gapR_yes A ⟨hz, hg⟩))
              obtain ⟨p, hp, hp2⟩ := turn_nat A
              rw [hp] at HR
              have HC := Lib.hid (fun W (k : Mw W b A) => cAskInGap k had p hp hp2)
              clear hz hg e1t
              go_wp2
              go_quiet (exact Calls.quiet_of (HGn.out _))
              refine world_cut (G := fun W => Exit.then _ _ Exit.normal _ W) (fun W => Px w W b A R noF) (by exact HQ.out.drewN _) ?_
              rintro W9 hx9
              replace HQ := Lib.hid hx9
              clear hx9 c4 c17 HGn
              go_wp2_with fail
              refine (HC.out _ HQ.out.mw).mono ?_
              rintro e w9 ⟨rfl, hm9, ho9⟩
              have HY := Lib.hid ((HQ.out.turn hm9 ho9).put (toF A 2 p (A.kn p)))
              have hst := (HQ.out.turn hm9 ho9).fx.box.st (toF A 2 p (A.kn p))
              clear hm9 ho9 HQ
              go_wp2
              refine bodyPost_ret (results_F Tryz.results56 _ _ R (toF A 2 p (A.kn p)) (.int .i64 1) rfl rfl HY.out.fx.box.at) rfl ?_
              rw [HR.out]
              exact ⟨rfl, HY.out.does⟩
          · have e1 : (A.visits % A.gp == 0) = false := by simpa using hz
            have e1t : (A.visits.tmod A.gp == 0) = false := by rw [Int.tmod_eq_emod_of_nonneg hv0]; exact e1
            have HR := Lib.hid (HR0.out.trans (gapR_no A (fun k => hz k.1)))
            clear hz e1t
            go_wp2
            go_quiet (exact Calls.quiet_of (HGn.out _))
            refine world_cut (G := fun W => Exit.then _ _ Exit.normal _ W) (fun W => Px w W b A R noF) (by exact HQ.out.drewN _) ?_
            rintro W9 hx9
            replace HQ := Lib.hid hx9
            clear hx9 c4 c17 HGn
            have HY := Lib.hid (HQ.out.put noF)
            have hst := HQ.out.fx.box.st noF
            clear HQ
            go_wp2
            refine bodyPost_ret (results_F Tryz.results56 _ _ R (noF) (.int .i64 0) rfl rfl HY.out.fx.box.at) rfl ?_
            rw [HR.out]
            exact ⟨rfl, HY.out.does⟩
        · obtain ⟨p, hp⟩ := Int.eq_ofNat_of_zero_le (show 0 ≤ A.ask by omega)
          have hp2 : p < 32 := by omega
          have d3 : ((p : Int) != -1) = true := by rw [bne_iff_ne]; omega
          have HR := Lib.hid (HR1.out.trans ((if_neg h1).trans ((if_neg h2).trans (if_pos h3))))
          rw [hp] at HR
          have HC := Lib.hid (fun W (k : Mw W b A) => cAskWished k had p hp hp2)
          have HK := Lib.hid hp
          clear h1 h2 h3 hp
          go_enter Tryz.func56, Tryz.ntmps56
          go_wp2_with fail
          refine world_cut (G := fun W => Calls _ _ _ W _) (fun W => Px w W b A w.heap.size noF) (by exact HA.out) ?_
          rintro W hx
          clear hlt c10 f10
          generalize w.heap.size = R at *
          refine (HT.out _ hx.mw).mono ?_
          rintro e w1 ⟨rfl, hb1⟩
          rw [HD.out]
          have HQ := Lib.hid (hx.below hb1)
          have c73 : w1.cell? ⟨b, 73, none⟩ = some (.int .i64 p) := by rw [HQ.out.mw.cell 73 rfl]; rw [HK.out]
          clear HA hx hb1 HT HD HK
          go_wp2_with fail
          refine (HC.out _ HQ.out.mw).mono ?_
          rintro e w9 ⟨rfl, hm9, ho9⟩
          have HY := Lib.hid ((HQ.out.turn hm9 ho9).put (toF A 2 p (A.kn p)))
          have hst := (HQ.out.turn hm9 ho9).fx.box.st (toF A 2 p (A.kn p))
          clear hm9 ho9 HQ
          go_wp2
          refine bodyPost_ret (results_F Tryz.results56 _ _ R (toF A 2 p (A.kn p)) (.int .i64 1) rfl rfl HY.out.fx.box.at) rfl ?_
          rw [HR.out]
          exact ⟨rfl, HY.out.does⟩
end Go.Proofs.YtedlfognpbbhhaaGreatDoor.Ma
