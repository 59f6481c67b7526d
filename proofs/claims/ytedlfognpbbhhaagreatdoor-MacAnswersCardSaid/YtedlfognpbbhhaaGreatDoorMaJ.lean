/-
  Pass: walked. Conditions: as each states.
-/
import Derived.Test.YtedlfognpbbhhaaGreatDoorMaI
import Derived.Deep.DeepCutAuto
namespace Go.Proofs.YtedlfognpbbhhaaGreatDoor.Ma
open Go.RowKit
open Go.Proofs.YtedlfognpbbhhaaGreatDoor.Epo (Ep cmpE newB maxE numE numM)
open Go.Proofs.YtedlfognpbbhhaaGreatDoor.Mem (St withB woB hasB passB nextI turnI gapB sv)
open Go.Proofs.YtedlfognpbbhhaaGreatDoor.Frm (Fr world_cut)
attribute [local go_sem ↓] exec_ldF exec_stF exec_bdF
attribute [local go_sem] bdF_5 bdF_9 bdF_0 stF_new0

variable {b : Nat} {M : Mc} {w : World}
set_option maxRecDepth 100000 in
set_option maxHeartbeats 8000000 in
theorem nextI_range (s : St) (a : Int) : -1 ≤ nextI s a ∧ nextI s a < 32 := Mem.turnI_range _ _
set_option maxRecDepth 100000 in
set_option maxHeartbeats 8000000 in
theorem cPass (h : Mw w b M) (hgd : Gd M) : Calls Tryz.prog 57 #[.pointer (some ⟨b, 0, none⟩)] w (Gives w b (passR M)) := by
  have HX := Lib.hid (Px.first h noF)
  obtain ⟨q, hq⟩ : ∃ q : Bool, q = (decide (0 < cmpE M.high M.tok.e) && !mintB M) := ⟨_, rfl⟩
  have HF := Lib.hid hgd
  clear h hgd
  go_enter Tryz.func57, Tryz.ntmps57
  go_wp2
  refine world_cut (G := fun W => Code.wp _ _ _ _ W) (fun W => Px w W b M w.heap.size noF) (by exact HX.out) ?_
  rintro W hx
  generalize w.heap.size = R at *
  have c53 := hx.mw.cell 53 rfl
  have c54 := hx.mw.cell 54 rfl
  have c55 := hx.mw.cell 55 rfl
  have c56 := hx.mw.cell 56 rfl
  have c57 := hx.mw.cell 57 rfl
  have c58 := hx.mw.cell 58 rfl
  have HP := Lib.hid hx.drew
  clear HX hx
  go_cut [21] (fun s wx => s = .bool q ∧ Hid (∃ M1, Px w wx b M1 R noF ∧ (q = false → Gd M1 ∧ goR M1 = passR M) ∧ (q = true → passR M = nothing M1)))
  case first =>
    by_cases hd : 0 < cmpE M.high M.tok.e
    · have d1 : decide (0 < cmpE M.high M.tok.e) = true := decide_eq_true hd
      cases hm : mintB M
      · have HM := Lib.hid (fun W (k : Mw W b M) => cMint_no k HF.out.ad HF.out.high hm)
        have HK := Lib.hid (⟨by rw [hq, d1, hm]; rfl, by unfold passR; rw [if_pos hd, if_neg (by rw [hm]; decide)]⟩ : q = true ∧ passR M = nothing (offM M))
        clear hd hm hq
        go_region_with ((first | (go_at_call 31; refine (Epo.cmpE_any M.high M.tok.e _).mono ?_; rintro e w1 ⟨rfl, hb1⟩; have HQ1 := Lib.hid (HP.out.below hb1)) | (go_at_call 75; refine (HM.out _ HQ1.out.mw).mono ?_; rintro e w2 ⟨rfl, hm2, ho2⟩; have HQ2 := Lib.hid (HQ1.out.turn hm2 ho2))))
        all_goals
          go_wp2
          go_meet
          exact ⟨by rw [HK.out.1], Lib.hid ⟨_, HQ2.out, fun k => absurd (HK.out.1.symm.trans k) (by decide), fun _ => HK.out.2⟩⟩
      · have HM := Lib.hid (fun W (k : Mw W b M) => cMint_yes k HF.out.ad hm)
        have HK := Lib.hid (⟨by rw [hq, d1, hm]; rfl, HF.out.new hm, by unfold passR; rw [if_pos hd, if_pos hm]⟩ : q = false ∧ Gd (newM M) ∧ goR (newM M) = passR M)
        clear hd hm hq
        go_region_with ((first | (go_at_call 31; refine (Epo.cmpE_any M.high M.tok.e _).mono ?_; rintro e w1 ⟨rfl, hb1⟩; have HQ1 := Lib.hid (HP.out.below hb1)) | (go_at_call 75; refine (HM.out _ HQ1.out.mw).mono ?_; rintro e w2 ⟨rfl, hm2, ho2⟩; have HQ2 := Lib.hid (HQ1.out.turn hm2 ho2))))
        all_goals
          go_wp2
          go_meet
          exact ⟨by rw [HK.out.1], Lib.hid ⟨_, HQ2.out, fun _ => HK.out.2, fun k => absurd (HK.out.1.symm.trans k) (by decide)⟩⟩
    · have d1 : decide (0 < cmpE M.high M.tok.e) = false := decide_eq_false hd
      have HK := Lib.hid (⟨by rw [hq, d1]; rfl, HF.out, by unfold passR; rw [if_neg hd]⟩ : q = false ∧ Gd M ∧ goR M = passR M)
      clear hd hq
      first | go_region_with ((go_at_call 31; refine (Epo.cmpE_any M.high M.tok.e _).mono ?_; rintro e w1 ⟨rfl, hb1⟩; have HQ1 := Lib.hid (HP.out.below hb1))) | fail
      all_goals
        go_wp2
        go_meet
        exact ⟨by rw [HK.out.1], Lib.hid ⟨_, HQ1.out, fun _ => HK.out.2, fun k => absurd (HK.out.1.symm.trans k) (by decide)⟩⟩
  case rest =>
    obtain ⟨rfl, hr⟩ := hcut
    obtain ⟨M1, hx1, hk0, hk1⟩ := hr.out
    have HQ := Lib.hid hx1
    clear hx1 hr c53 c54 c55 c56 c57 c58 HP
    cases q
    · obtain ⟨hg, he⟩ := hk0 rfl
      have HGd := Lib.hid hg
      have HE := Lib.hid he
      clear hk0 hk1 hg he hq HF
      have c0 := HQ.out.mw.cell 0 rfl
      have c12 := HQ.out.mw.cell 12 rfl
      have c20 := HQ.out.mw.cell 20 rfl
      have HN := Lib.hid (fun m => Mem.Next_any M1.list M1.ad (World.drewN _ m) (HQ.out.drewN m).mw.tz)
      have hnr := nextI_range M1.list M1.ad
      have HO := Lib.hid (fun W (k : Mw W b M1) => cHop k HGd.out.ad HGd.out.hop HGd.out.high)
      by_cases hneg : nextI M1.list M1.ad < 0
      · have HAn : Hid (Mem.ans (nextI M1.list M1.ad) = .tuple #[.int .i64 0, .bool false]) := Lib.hid (by unfold Mem.ans; rw [decide_eq_false (by omega), show max (nextI M1.list M1.ad) 0 = 0 by omega])
        rw [HAn.out] at HN
        cases hl : M1.leaving
        · rw [hl] at c12
          cases hh : hopB M1
          · have HR := Lib.hid (HE.out.symm.trans (show goR M1 = nothing (hopM M1) from (if_neg (fun k => by rw [hl] at k; exact absurd k.2 (by decide))).trans (if_neg (by rw [hh]; decide))))
            rw [hh] at HO
            go_wp2
            go_quiet (exact Calls.quiet_of_same (Epo.still_of (HN.out _)))
            refine world_cut (G := fun W => Exit.then _ _ Exit.normal _ W) (fun W => Px w W b M1 R noF) (by exact HQ.out.drewN _) ?_
            rintro W9 hx9
            replace HQ := Lib.hid hx9
            clear hx9 c0 c20 c12 HN
            have c12 := HQ.out.mw.cell 12 rfl
            rw [hl] at c12
            clear hl
            go_wp2_with fail
            refine (HO.out _ HQ.out.mw).mono ?_
            rintro e w8 ⟨rfl, hm8, ho8⟩
            replace HQ := Lib.hid (HQ.out.turn hm8 ho8)
            clear hm8 ho8 c12
            have HY := Lib.hid (HQ.out.put noF)
            have hst := HQ.out.fx.box.st noF
            clear HQ
            go_wp2
            refine bodyPost_ret (results_F Tryz.results57 _ _ R (noF) (.int .i64 0) rfl rfl HY.out.fx.box.at) rfl ?_
            rw [HR.out]
            exact ⟨rfl, HY.out.does⟩
          · have HR := Lib.hid (HE.out.symm.trans (show goR M1 = selfR (hopM M1) from (if_neg (fun k => by rw [hl] at k; exact absurd k.2 (by decide))).trans ((if_pos hh).trans (if_pos hneg))))
            rw [hh] at HO
            have hk := hop_keeps M1
            have HS := Lib.hid (fun W (k : Mw W b (hopM M1)) => cSelf k (by rw [hk.1]; exact HGd.out.ad) (by rw [hk.2.2.1, hk.2.2.2.1]; exact HGd.out.arrived) (by rw [hk.2.2.2.1]; exact HGd.out.clock) (by rw [hk.2.2.2.2]; exact HGd.out.visits))
            clear hk
            go_wp2
            go_quiet (exact Calls.quiet_of_same (Epo.still_of (HN.out _)))
            refine world_cut (G := fun W => Exit.then _ _ Exit.normal _ W) (fun W => Px w W b M1 R noF) (by exact HQ.out.drewN _) ?_
            rintro W9 hx9
            replace HQ := Lib.hid hx9
            clear hx9 c0 c20 c12 HN
            have c12 := HQ.out.mw.cell 12 rfl
            rw [hl] at c12
            clear hl
            go_wp2_with fail
            refine (HO.out _ HQ.out.mw).mono ?_
            rintro e w8 ⟨rfl, hm8, ho8⟩
            replace HQ := Lib.hid (HQ.out.turn hm8 ho8)
            clear hm8 ho8 c12
            go_wp2_with fail
            refine (HS.out _ HQ.out.mw).mono ?_
            rintro e w9 ⟨rfl, hm9, ho9⟩
            have HY := Lib.hid ((HQ.out.turn hm9 ho9).put (toF (selfM (hopM M1)) 1 (hopM M1).ad (hopM M1).inc))
            have hst := (HQ.out.turn hm9 ho9).fx.box.st (toF (selfM (hopM M1)) 1 (hopM M1).ad (hopM M1).inc)
            clear hm9 ho9 HQ
            go_wp2
            refine bodyPost_ret (results_F Tryz.results57 _ _ R (toF (selfM (hopM M1)) 1 (hopM M1).ad (hopM M1).inc) (.int .i64 1) rfl rfl HY.out.fx.box.at) rfl ?_
            rw [HR.out]
            exact ⟨rfl, HY.out.does⟩
        · have HR := Lib.hid (HE.out.symm.trans (show goR M1 = nothing { M1 with st := 1, leaving := false } from if_pos ⟨hneg, hl⟩))
          go_wp2
          go_quiet (exact Calls.quiet_of_same (Epo.still_of (HN.out _)))
          refine world_cut (G := fun W => Exit.then _ _ Exit.normal _ W) (fun W => Px w W b M1 R noF) (by exact HQ.out.drewN _) ?_
          rintro W9 hx9
          replace HQ := Lib.hid hx9
          clear hx9 c0 c20 c12 HN
          have c12 := HQ.out.mw.cell 12 rfl
          rw [hl] at c12
          clear hl
          have c10 := HQ.out.mw.cell 10 rfl
          have f10 := HQ.out.mw.free 10
          have f12 := HQ.out.mw.free 12
          have HY0 := Lib.hid (HQ.out.sets (M' := { M1 with st := 1, leaving := false }) [(10, .int .i64 1), (12, .bool false)] rfl)
          have HY := Lib.hid (HY0.out.put noF)
          have hst := HY0.out.fx.box.st noF
          clear HQ HY0
          unfold setL at hst
          unfold setL at hst
          unfold setL at hst
          go_wp2
          refine bodyPost_ret (results_F Tryz.results57 _ _ R (noF) (.int .i64 0) rfl rfl HY.out.fx.box.at) rfl ?_
          rw [HR.out]
          exact ⟨rfl, HY.out.does⟩
      · obtain ⟨p, hp⟩ := Int.eq_ofNat_of_zero_le (show 0 ≤ nextI M1.list M1.ad by omega)
        have hp2 : p < 32 := by omega
        have HAn : Hid (Mem.ans (nextI M1.list M1.ad) = .tuple #[.int .i64 p, .bool true]) := Lib.hid (by unfold Mem.ans; rw [decide_eq_true (by omega), show max (nextI M1.list M1.ad) 0 = p by omega])
        rw [HAn.out] at HN
        cases hh : hopB M1
        · have HR := Lib.hid (HE.out.symm.trans (show goR M1 = nothing (hopM M1) from (if_neg (fun k => hneg k.1)).trans (if_neg (by rw [hh]; decide))))
          rw [hh] at HO
          clear hneg hnr hp
          go_wp2
          go_quiet (exact Calls.quiet_of_same (Epo.still_of (HN.out _)))
          refine world_cut (G := fun W => Exit.then _ _ Exit.normal _ W) (fun W => Px w W b M1 R noF) (by exact HQ.out.drewN _) ?_
          rintro W9 hx9
          replace HQ := Lib.hid hx9
          clear hx9 c0 c20 c12 HN
          have c12 := HQ.out.mw.cell 12 rfl
          go_wp2_with fail
          refine (HO.out _ HQ.out.mw).mono ?_
          rintro e w8 ⟨rfl, hm8, ho8⟩
          replace HQ := Lib.hid (HQ.out.turn hm8 ho8)
          clear hm8 ho8 c12
          have HY := Lib.hid (HQ.out.put noF)
          have hst := HQ.out.fx.box.st noF
          clear HQ
          go_wp2
          refine bodyPost_ret (results_F Tryz.results57 _ _ R (noF) (.int .i64 0) rfl rfl HY.out.fx.box.at) rfl ?_
          rw [HR.out]
          exact ⟨rfl, HY.out.does⟩
        · have HR := Lib.hid (HE.out.symm.trans (show goR M1 = toR (hopM M1) (nextI M1.list M1.ad) from (if_neg (fun k => hneg k.1)).trans ((if_pos hh).trans (if_neg hneg))))
          rw [hp] at HR
          rw [hh] at HO
          have HS := Lib.hid (fun W (k : Mw W b (hopM M1)) => cPassTo k (by rw [(hop_keeps M1).1]; exact HGd.out.ad) p hp2)
          clear hneg hnr hp
          go_wp2
          go_quiet (exact Calls.quiet_of_same (Epo.still_of (HN.out _)))
          refine world_cut (G := fun W => Exit.then _ _ Exit.normal _ W) (fun W => Px w W b M1 R noF) (by exact HQ.out.drewN _) ?_
          rintro W9 hx9
          replace HQ := Lib.hid hx9
          clear hx9 c0 c20 c12 HN
          have c12 := HQ.out.mw.cell 12 rfl
          go_wp2_with fail
          refine (HO.out _ HQ.out.mw).mono ?_
          rintro e w8 ⟨rfl, hm8, ho8⟩
          replace HQ := Lib.hid (HQ.out.turn hm8 ho8)
          clear hm8 ho8 c12
          go_wp2_with fail
          refine (HS.out _ HQ.out.mw).mono ?_
          rintro e w9 ⟨rfl, hm9, ho9⟩
          have HY := Lib.hid ((HQ.out.turn hm9 ho9).put (passF (toM (hopM M1) p)))
          have hst := (HQ.out.turn hm9 ho9).fx.box.st (passF (toM (hopM M1) p))
          clear hm9 ho9 HQ
          go_wp2
          refine bodyPost_ret (results_F Tryz.results57 _ _ R (passF (toM (hopM M1) p)) (.int .i64 1) rfl rfl HY.out.fx.box.at) rfl ?_
          rw [HR.out]
          exact ⟨rfl, HY.out.does⟩
    · have HR := Lib.hid (hk1 rfl)
      clear hk0 hk1 hq HF
      have HY := Lib.hid (HQ.out.put noF)
      have hst := HQ.out.fx.box.st noF
      clear HQ
      go_wp2
      refine bodyPost_ret (results_F Tryz.results57 _ _ R (noF) (.int .i64 0) rfl rfl HY.out.fx.box.at) rfl ?_
      rw [HR.out]
      exact ⟨rfl, HY.out.does⟩
end Go.Proofs.YtedlfognpbbhhaaGreatDoor.Ma
