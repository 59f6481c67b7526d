/-
  Hearing a Status: walked. Conditions: as each states.
-/
import Derived.Test.YtedlfognpbbhhaaGreatDoorMaJ
import Derived.Deep.DeepCutAuto
namespace Go.Proofs.YtedlfognpbbhhaaGreatDoor.Ma
open Go.RowKit
open Go.Proofs.YtedlfognpbbhhaaGreatDoor.Epo (Ep cmpE newB maxE numE numM)
open Go.Proofs.YtedlfognpbbhhaaGreatDoor.Mem (St withB woB hasB passB nextI turnI gapB sv)
open Go.Proofs.YtedlfognpbbhhaaGreatDoor.Frm (Fr world_cut)
attribute [local go_sem ↓] exec_ldF exec_stF exec_bdF
attribute [local go_sem] bdF_5 bdF_9 bdF_0 stF_new0

variable {b : Nat} {M : Mc} {w : World}
theorem hs_no (f : Fr) (h : askedB M f = false) : hearSM M f = statusM M f := by unfold hearSM; rw [if_neg (by rw [h]; decide)]
theorem hs_yes (f : Fr) (h : askedB M f = true) : hearSM M f = answerM (statusM M f) f := by unfold hearSM; rw [if_pos h]
theorem asked_st (f : Fr) (h5 : M.st ≠ 5) (h9 : M.st ≠ 9) : askedB M f = false := by
  unfold askedB
  rw [beq_eq_false_iff_ne.2 h5, beq_eq_false_iff_ne.2 h9]; rfl
theorem asked_src (f : Fr) (h : ¬ (f.src : Int) = M.partner) : askedB M f = false := by
  unfold askedB
  rw [decide_eq_false h, Bool.false_and, Bool.and_false]
theorem asked_to (f : Fr) (h : isToB M f = false) : askedB M f = false := by
  unfold askedB
  rw [h, Bool.and_false, Bool.and_false]
theorem asked_all (f : Fr) (hs : M.st = 5 ∨ M.st = 9) (hp : (f.src : Int) = M.partner) (h : isToB M f = true) : askedB M f = true := by
  unfold askedB
  rw [h, decide_eq_true hp]
  rcases hs with e | e <;> rw [e] <;> rfl
set_option maxRecDepth 100000 in
set_option maxHeartbeats 4000000 in
theorem cHearStatus (h : Mw w b M) (f : Fr) (hf : f.fit) : Calls Tryz.prog 29 #[.pointer (some ⟨b, 0, none⟩), .agg (frA f)] w (Turns w b (hearSM M f)) := by
  have HX := Lib.hid (Px.first h f)
  have HM := Lib.hid (fun W => Epo.max_any M.high (hiF f) W)
  obtain ⟨A, hA⟩ : ∃ A, A = statusM M f := ⟨_, rfl⟩
  have HA : Hid (∀ W R, Px w W b M R f → Px w (setL W b [(53, .int .u16 (maxE M.high (hiF f)).c), (54, .int .u8 (maxE M.high (hiF f)).a), (55, .int .u16 (maxE M.high (hiF f)).i)]) b A R f) := Lib.hid (fun W R k => by rw [hA]; exact k.sets _ rfl)
  have ew : IntKind.i64.wrap (f.src : Int) = f.src := by rw [IntKind.wrap_i64]; have := hf.1; omega
  have HI : Hid (∀ W, Mw W b A → Calls Tryz.prog 39 #[.pointer (some ⟨b, 0, none⟩), .agg (frA f)] W (Tells (.bool (isToB A f)) W)) := Lib.hid (fun W k => cIsTo k f hf)
  have HF := Lib.hid (⟨by rw [hA]; rfl, by rw [hA]; rfl, by rw [hA]; rfl⟩ : A.st = M.st ∧ A.partner = M.partner ∧ isToB A f = isToB M f)
  have HAA := Lib.hid hA
  clear h hf hA
  go_enter Tryz.func29, Tryz.ntmps29
  go_wp2
  refine world_cut (G := fun W => Code.wp _ _ _ _ W) (fun W => Px w W b M w.heap.size f) (by exact HX.out) ?_
  rintro W hx
  generalize w.heap.size = R at *
  have x9 := hx.fx.box.at.at 9 rfl
  have x10 := hx.fx.box.at.at 10 rfl
  have x11 := hx.fx.box.at.at 11 rfl
  have c53 := hx.mw.cell 53 rfl
  have c54 := hx.mw.cell 54 rfl
  have c55 := hx.mw.cell 55 rfl
  have HQ := Lib.hid hx.drew
  clear HX hx
  go_cut [] (fun wx => Hid (Px w wx b A R f))
  case first =>
    go_region_with ((go_at_call 38; refine (HM.out _).mono ?_; rintro e w1 ⟨rfl, hb1⟩; have HQ1 := Lib.hid (HQ.out.below hb1); have k53 := HQ1.out.mw.cell 53 rfl; have k54 := HQ1.out.mw.cell 54 rfl; have k55 := HQ1.out.mw.cell 55 rfl; have f53 := HQ1.out.mw.free 53; have f54 := HQ1.out.mw.free 54; have f55 := HQ1.out.mw.free 55))
    all_goals
      go_wp2
      go_meet
      exact Lib.hid (HA.out _ _ HQ1.out)
  case rest =>
    have HP := Lib.hid hcut.out
    clear hcut x9 x10 x11 c53 c54 c55 HQ HM HA
    have hRb : R ≠ b := by have := HP.out.fx.le; have := HP.out.blt; omega
    by_cases h5 : M.st = 5
    · have c10 : wc.cell? ⟨b, 10, none⟩ = some (.int .i64 5) := by rw [HP.out.mw.cell 10 rfl, HF.out.1, h5]
      have c68 : wc.cell? ⟨b, 68, none⟩ = some (.int .i64 M.partner) := by rw [HP.out.mw.cell 68 rfl, HF.out.2.1]
      have x1 := HP.out.fx.box.at.at 1 rfl
      by_cases hp : (f.src : Int) = M.partner
      · have ep : ((f.src : Int) != M.partner) = false := by rw [bne_eq_false_iff_eq]; exact hp
        cases ht : isToB M f
        · have HV := Lib.hid ((hs_no f (asked_to f ht)).trans HAA.out.symm)
          rw [HF.out.2.2, ht] at HI
          have hld := HP.out.drew.fx.box.at.ld
          have HPd := Lib.hid HP.out.drew
          clear hp ht h5 HP
          go_wp2
          go_region_held3 (fun W' => ldF (.pointer (some ⟨R, 0, none⟩)) W' = .ok (.value (.agg (frA f))) W' ∧ W'.cell? ⟨R, 1, none⟩ = some (.int .u8 f.src) ∧ W'.cell? ⟨b, 68, none⟩ = some (.int .i64 M.partner)) (first | exact ⟨hld, x1, c68⟩ | exact ⟨HP1.out.fx.box.at.ld, HP1.out.fx.box.at.at 1 rfl, k68⟩) ((go_at_call 39; refine (HI.out _ HPd.out.mw).mono ?_; rintro e w1 ⟨rfl, hb1⟩; have HP1 := Lib.hid (HPd.out.below hb1); have k68 : w1.cell? ⟨b, 68, none⟩ = some (.int .i64 M.partner) := by rw [HP1.out.mw.cell 68 rfl, HF.out.2.1]))
          go_wp2
          go_end0
          exact ⟨rfl, by rw [HV.out]; exact (HP1.out).does⟩
        · rw [HF.out.2.2, ht] at HI
          have hld := HP.out.drew.fx.box.at.ld
          have HPd := Lib.hid HP.out.drew
          cases hw : f.wants
          · have HV := Lib.hid ((hs_yes f (asked_all f (.inl h5) hp ht)).trans (show answerM (statusM M f) f = { A with answered := true, list := woB A.list A.partner } by rw [← HAA.out]; unfold answerM; rw [if_neg (by rw [hw]; decide)]))
            have HWn := Lib.hid hw
            have HC := Lib.hid (fun W => Mem.Without_any A.list A.partner W)
            clear hp ht hw h5 HP
            go_wp2
            go_region_held3 (fun W' => ldF (.pointer (some ⟨R, 0, none⟩)) W' = .ok (.value (.agg (frA f))) W' ∧ W'.cell? ⟨R, 1, none⟩ = some (.int .u8 f.src) ∧ W'.cell? ⟨b, 68, none⟩ = some (.int .i64 M.partner)) (first | exact ⟨hld, x1, c68⟩ | exact ⟨HP1.out.fx.box.at.ld, HP1.out.fx.box.at.at 1 rfl, k68⟩) ((go_at_call 39; refine (HI.out _ HPd.out.mw).mono ?_; rintro e w1 ⟨rfl, hb1⟩; have HP1 := Lib.hid (HPd.out.below hb1); have k68 : w1.cell? ⟨b, 68, none⟩ = some (.int .i64 M.partner) := by rw [HP1.out.mw.cell 68 rfl, HF.out.2.1]))
            have q71 := HP1.out.mw.cell 71 rfl
            have g71 := HP1.out.mw.free 71
            have x12 : w1.cell? ⟨R, 12, none⟩ = some (.bool false) := by rw [HP1.out.fx.box.at.at 12 rfl, HWn.out]
            have HB : Hid (Px w (setL w1 b [(71, .bool true)]) b { A with answered := true } R f) := Lib.hid (HP1.out.sets [(71, .bool true)] rfl)
            go_wp2
            refine world_cut (G := fun W => Code.wp _ _ _ _ W) (fun W => Px w W b { A with answered := true } R f) (by exact HB.out) ?_
            rintro W5 hx5
            have q20 : W5.cell? ⟨b, 20, none⟩ = some (sv A.list) := hx5.mw.cell 20 rfl
            have q68 : W5.cell? ⟨b, 68, none⟩ = some (.int .i64 A.partner) := hx5.mw.cell 68 rfl
            have g20 := hx5.mw.free 20
            have HZ := Lib.hid hx5
            clear hx5 HB HP1 HPd HI q71 g71 x12 hld c10 c68 x1
            go_region_with ((go_at_call 40; refine (HC.out _).mono ?_; rintro e w6 ⟨rfl, rfl⟩))
            all_goals
              go_wp2
              go_end0
              exact ⟨rfl, by rw [HV.out]; exact ((HZ.out.sets (M' := { A with answered := true, list := woB A.list A.partner }) [(20, _)] rfl).drew).does⟩
          · have HV := Lib.hid ((hs_yes f (asked_all f (.inl h5) hp ht)).trans (show answerM (statusM M f) f = { A with answered := true } by rw [← HAA.out]; unfold answerM; rw [if_pos hw, if_neg (by rw [HF.out.1, h5]; decide)]))
            have HWn := Lib.hid hw
            have H9 := Lib.hid (HF.out.1.trans h5)
            clear hp ht hw h5 HP
            go_wp2
            go_region_held3 (fun W' => ldF (.pointer (some ⟨R, 0, none⟩)) W' = .ok (.value (.agg (frA f))) W' ∧ W'.cell? ⟨R, 1, none⟩ = some (.int .u8 f.src) ∧ W'.cell? ⟨b, 68, none⟩ = some (.int .i64 M.partner)) (first | exact ⟨hld, x1, c68⟩ | exact ⟨HP1.out.fx.box.at.ld, HP1.out.fx.box.at.at 1 rfl, k68⟩) ((go_at_call 39; refine (HI.out _ HPd.out.mw).mono ?_; rintro e w1 ⟨rfl, hb1⟩; have HP1 := Lib.hid (HPd.out.below hb1); have k68 : w1.cell? ⟨b, 68, none⟩ = some (.int .i64 M.partner) := by rw [HP1.out.mw.cell 68 rfl, HF.out.2.1]))
            have q71 := HP1.out.mw.cell 71 rfl
            have g71 := HP1.out.mw.free 71
            have x12 : w1.cell? ⟨R, 12, none⟩ = some (.bool true) := by rw [HP1.out.fx.box.at.at 12 rfl, HWn.out]
            have q10 : w1.cell? ⟨b, 10, none⟩ = some (.int .i64 5) := by rw [HP1.out.mw.cell 10 rfl, H9.out]
            go_wp2
            go_end0
            exact ⟨rfl, by rw [HV.out]; exact (HP1.out.sets (M' := { A with answered := true }) [(71, .bool true)] rfl).does⟩
      · have ep : ((f.src : Int) != M.partner) = true := by rw [bne_iff_ne]; exact hp
        have HV := Lib.hid ((hs_no f (asked_src f hp)).trans HAA.out.symm)
        clear hp h5
        go_wp2
        go_quiet (fail)
        go_wp2
        go_end0
        exact ⟨rfl, by rw [HV.out]; exact (HP.out.drewN _).does⟩
    · by_cases h9 : M.st = 9
      · have c10 : wc.cell? ⟨b, 10, none⟩ = some (.int .i64 9) := by rw [HP.out.mw.cell 10 rfl, HF.out.1, h9]
        have c68 : wc.cell? ⟨b, 68, none⟩ = some (.int .i64 M.partner) := by rw [HP.out.mw.cell 68 rfl, HF.out.2.1]
        have x1 := HP.out.fx.box.at.at 1 rfl
        by_cases hp : (f.src : Int) = M.partner
        · have ep : ((f.src : Int) != M.partner) = false := by rw [bne_eq_false_iff_eq]; exact hp
          cases ht : isToB M f
          · have HV := Lib.hid ((hs_no f (asked_to f ht)).trans HAA.out.symm)
            rw [HF.out.2.2, ht] at HI
            have hld := HP.out.drew.fx.box.at.ld
            have HPd := Lib.hid HP.out.drew
            clear hp ht h5 h9 HP
            go_wp2
            go_region_held3 (fun W' => ldF (.pointer (some ⟨R, 0, none⟩)) W' = .ok (.value (.agg (frA f))) W' ∧ W'.cell? ⟨R, 1, none⟩ = some (.int .u8 f.src) ∧ W'.cell? ⟨b, 68, none⟩ = some (.int .i64 M.partner)) (first | exact ⟨hld, x1, c68⟩ | exact ⟨HP1.out.fx.box.at.ld, HP1.out.fx.box.at.at 1 rfl, k68⟩) ((go_at_call 39; refine (HI.out _ HPd.out.mw).mono ?_; rintro e w1 ⟨rfl, hb1⟩; have HP1 := Lib.hid (HPd.out.below hb1); have k68 : w1.cell? ⟨b, 68, none⟩ = some (.int .i64 M.partner) := by rw [HP1.out.mw.cell 68 rfl, HF.out.2.1]))
            go_wp2
            go_end0
            exact ⟨rfl, by rw [HV.out]; exact (HP1.out).does⟩
          · rw [HF.out.2.2, ht] at HI
            have hld := HP.out.drew.fx.box.at.ld
            have HPd := Lib.hid HP.out.drew
            cases hw : f.wants
            · have HV := Lib.hid ((hs_yes f (asked_all f (.inr h9) hp ht)).trans (show answerM (statusM M f) f = { A with answered := true, list := woB A.list A.partner } by rw [← HAA.out]; unfold answerM; rw [if_neg (by rw [hw]; decide)]))
              have HWn := Lib.hid hw
              have HC := Lib.hid (fun W => Mem.Without_any A.list A.partner W)
              clear hp ht hw h5 h9 HP
              go_wp2
              go_region_held3 (fun W' => ldF (.pointer (some ⟨R, 0, none⟩)) W' = .ok (.value (.agg (frA f))) W' ∧ W'.cell? ⟨R, 1, none⟩ = some (.int .u8 f.src) ∧ W'.cell? ⟨b, 68, none⟩ = some (.int .i64 M.partner)) (first | exact ⟨hld, x1, c68⟩ | exact ⟨HP1.out.fx.box.at.ld, HP1.out.fx.box.at.at 1 rfl, k68⟩) ((go_at_call 39; refine (HI.out _ HPd.out.mw).mono ?_; rintro e w1 ⟨rfl, hb1⟩; have HP1 := Lib.hid (HPd.out.below hb1); have k68 : w1.cell? ⟨b, 68, none⟩ = some (.int .i64 M.partner) := by rw [HP1.out.mw.cell 68 rfl, HF.out.2.1]))
              have q71 := HP1.out.mw.cell 71 rfl
              have g71 := HP1.out.mw.free 71
              have x12 : w1.cell? ⟨R, 12, none⟩ = some (.bool false) := by rw [HP1.out.fx.box.at.at 12 rfl, HWn.out]
              have HB : Hid (Px w (setL w1 b [(71, .bool true)]) b { A with answered := true } R f) := Lib.hid (HP1.out.sets [(71, .bool true)] rfl)
              go_wp2
              refine world_cut (G := fun W => Code.wp _ _ _ _ W) (fun W => Px w W b { A with answered := true } R f) (by exact HB.out) ?_
              rintro W5 hx5
              have q20 : W5.cell? ⟨b, 20, none⟩ = some (sv A.list) := hx5.mw.cell 20 rfl
              have q68 : W5.cell? ⟨b, 68, none⟩ = some (.int .i64 A.partner) := hx5.mw.cell 68 rfl
              have g20 := hx5.mw.free 20
              have HZ := Lib.hid hx5
              clear hx5 HB HP1 HPd HI q71 g71 x12 hld c10 c68 x1
              go_region_with ((go_at_call 40; refine (HC.out _).mono ?_; rintro e w6 ⟨rfl, rfl⟩))
              all_goals
                go_wp2
                go_end0
                exact ⟨rfl, by rw [HV.out]; exact ((HZ.out.sets (M' := { A with answered := true, list := woB A.list A.partner }) [(20, _)] rfl).drew).does⟩
            · have HV := Lib.hid ((hs_yes f (asked_all f (.inr h9) hp ht)).trans (show answerM (statusM M f) f = { A with answered := true, list := withB A.list A.partner } by rw [← HAA.out]; unfold answerM; rw [if_pos hw, if_pos (HF.out.1.trans h9)]))
              have HWn := Lib.hid hw
              have HC := Lib.hid (fun W => Mem.With_any A.list A.partner W)
              have H9 := Lib.hid (HF.out.1.trans h9)
              clear hp ht hw h5 h9 HP
              go_wp2
              go_region_held3 (fun W' => ldF (.pointer (some ⟨R, 0, none⟩)) W' = .ok (.value (.agg (frA f))) W' ∧ W'.cell? ⟨R, 1, none⟩ = some (.int .u8 f.src) ∧ W'.cell? ⟨b, 68, none⟩ = some (.int .i64 M.partner)) (first | exact ⟨hld, x1, c68⟩ | exact ⟨HP1.out.fx.box.at.ld, HP1.out.fx.box.at.at 1 rfl, k68⟩) ((go_at_call 39; refine (HI.out _ HPd.out.mw).mono ?_; rintro e w1 ⟨rfl, hb1⟩; have HP1 := Lib.hid (HPd.out.below hb1); have k68 : w1.cell? ⟨b, 68, none⟩ = some (.int .i64 M.partner) := by rw [HP1.out.mw.cell 68 rfl, HF.out.2.1]))
              have q71 := HP1.out.mw.cell 71 rfl
              have g71 := HP1.out.mw.free 71
              have x12 : w1.cell? ⟨R, 12, none⟩ = some (.bool true) := by rw [HP1.out.fx.box.at.at 12 rfl, HWn.out]
              have q10 : w1.cell? ⟨b, 10, none⟩ = some (.int .i64 9) := by rw [HP1.out.mw.cell 10 rfl, H9.out]
              have HB : Hid (Px w (setL w1 b [(71, .bool true)]) b { A with answered := true } R f) := Lib.hid (HP1.out.sets [(71, .bool true)] rfl)
              go_wp2
              refine world_cut (G := fun W => Code.wp _ _ _ _ W) (fun W => Px w W b { A with answered := true } R f) (by exact HB.out) ?_
              rintro W5 hx5
              have q20 : W5.cell? ⟨b, 20, none⟩ = some (sv A.list) := hx5.mw.cell 20 rfl
              have q68 : W5.cell? ⟨b, 68, none⟩ = some (.int .i64 A.partner) := hx5.mw.cell 68 rfl
              have g20 := hx5.mw.free 20
              have HZ := Lib.hid hx5
              clear hx5 HB HP1 HPd HI q71 g71 x12 q10 hld c10 c68 x1
              go_region_with ((go_at_call 41; refine (HC.out _).mono ?_; rintro e w6 ⟨rfl, rfl⟩))
              all_goals
                go_wp2
                go_end0
                exact ⟨rfl, by rw [HV.out]; exact ((HZ.out.sets (M' := { A with answered := true, list := withB A.list A.partner }) [(20, _)] rfl).drew).does⟩
        · have ep : ((f.src : Int) != M.partner) = true := by rw [bne_iff_ne]; exact hp
          have HV := Lib.hid ((hs_no f (asked_src f hp)).trans HAA.out.symm)
          clear hp h5 h9
          go_wp2
          go_quiet (fail)
          go_wp2
          go_end0
          exact ⟨rfl, by rw [HV.out]; exact (HP.out.drewN _).does⟩
      · have HV := Lib.hid ((hs_no f (asked_st f h5 h9)).trans HAA.out.symm)
        have c10 : wc.cell? ⟨b, 10, none⟩ = some (.int .i64 M.st) := by rw [HP.out.mw.cell 10 rfl, HF.out.1]
        have e5 : (M.st == 5) = false := by rw [beq_eq_false_iff_ne]; exact h5
        have e9 : (M.st == 9) = false := by rw [beq_eq_false_iff_ne]; exact h9
        clear h5 h9
        go_wp2
        go_quiet (fail)
        go_wp2
        go_end0
        exact ⟨rfl, by rw [HV.out]; exact (HP.out.drewN _).does⟩
end Go.Proofs.YtedlfognpbbhhaaGreatDoor.Ma
