/-
  Claiming, and what is waited for: walked. Conditions: as each states.
-/
import Derived.Test.YtedlfognpbbhhaaGreatDoorMaG
namespace Go.Proofs.YtedlfognpbbhhaaGreatDoor.Ma
open Go.RowKit
open Go.Proofs.YtedlfognpbbhhaaGreatDoor.Epo (Ep cmpE newB maxE numE numM)
open Go.Proofs.YtedlfognpbbhhaaGreatDoor.Mem (St withB woB hasB passB nextI turnI gapB sv)
open Go.Proofs.YtedlfognpbbhhaaGreatDoor.Frm (Fr world_cut)
attribute [local go_sem ↓] exec_ldF exec_stF exec_bdF
attribute [local go_sem] bdF_5 bdF_9 bdF_0 stF_new0

/-- What a step gives. -/
def Gives (w : World) (b : Nat) (r : Out) (e : Ending) (w' : World) : Prop := e = .returned (.tuple #[.agg (frA r.f), .int .i64 r.k]) ∧ Mw w' b r.m ∧ OnlyL [b] w w'
variable {b : Nat} {M : Mc} {w : World}
set_option maxRecDepth 100000 in
set_option maxHeartbeats 2000000 in
theorem cClaim (h : Mw w b M) (had : M.ad < 32) (hc : M.high.c ≤ 65535) (h1 : 0 ≤ M.arrived ∧ M.arrived ≤ M.clock) (h2 : M.clock ≤ 1000000000) (h3 : 0 ≤ M.visits ∧ M.visits ≤ 1000000000) : Calls Tryz.prog 53 #[.pointer (some ⟨b, 0, none⟩)] w (Gives w b (claimR M)) := by
  have HX := Lib.hid (Px.first h noF)
  have hlt := h.lt
  unfold claimR
  cases hm : mintB M
  · rw [if_neg (by decide)]
    have HM := Lib.hid (fun W (k : Mw W b M) => cMint_no k had hc hm)
    clear h had hc h1 h2 h3 hm
    go_enter Tryz.func53, Tryz.ntmps53
    go_wp2_with fail
    refine world_cut (G := fun W => Calls _ _ _ W _) (fun W => Px w W b M w.heap.size noF) (by exact HX.out) ?_
    rintro W hx
    clear hlt
    generalize w.heap.size = R at *
    refine (HM.out _ hx.mw).mono ?_
    rintro e w1 ⟨rfl, hm1, ho1⟩
    have HQ := Lib.hid (hx.turn hm1 ho1)
    have hst := HQ.out.fx.box.st noF
    clear HX hx hm1 ho1 HM
    go_wp2
    exact bodyPost_ret (results_F Tryz.results53 _ _ R noF (.int .i64 0) rfl rfl (HQ.out.put noF).fx.box.at) rfl ⟨rfl, (HQ.out.put noF).does⟩
  · rw [if_pos rfl]
    have HM := Lib.hid (fun W (k : Mw W b M) => cMint_yes k had hm)
    have HA := Lib.hid (fun W => show Calls Tryz.prog 41 #[.int .u32 0, .int .i64 M.ad] W fun e w' => e = .returned (sv (withB 0#32 M.ad)) ∧ W = w' from Mem.With_any 0#32 M.ad W)
    have HS := Lib.hid (fun W (k : Mw W b { newM M with list := withB 0#32 M.ad }) => cSelf k had h1 h2 h3)
    have HG : Hid (∀ W R, Px w W b (newM M) R noF → Px w (setL W b [(20, sv (withB 0#32 M.ad))]) b { newM M with list := withB 0#32 M.ad } R noF) := Lib.hid (fun W R k => k.sets _ rfl)
    have HF := Lib.hid (show selfR { newM M with list := withB 0#32 M.ad } = ⟨selfM { newM M with list := withB 0#32 M.ad }, toF (selfM { newM M with list := withB 0#32 M.ad }) 1 M.ad M.inc, 1⟩ from rfl)
    rw [HF.out]
    clear h had hc h1 h2 h3 hm HF
    generalize hA : { newM M with list := withB 0#32 M.ad } = A at *
    replace HS : Hid (∀ W (k : Mw W b A), Calls Tryz.prog 76 #[.pointer (some ⟨b, 0, none⟩)] W (Does W b (.agg (frA (toF (selfM A) 1 M.ad M.inc))) (selfM A))) := Lib.hid (fun W k => by
      have := HS.out W k
      rw [← hA] at this ⊢
      exact this)
    clear hA
    generalize toF (selfM A) 1 M.ad M.inc = F at *
    go_enter Tryz.func53, Tryz.ntmps53
    go_wp2_with fail
    refine world_cut (G := fun W => Calls _ _ _ W _) (fun W => Px w W b M w.heap.size noF) (by exact HX.out) ?_
    rintro W hx
    clear hlt
    generalize w.heap.size = R at *
    refine (HM.out _ hx.mw).mono ?_
    rintro e w1 ⟨rfl, hm1, ho1⟩
    have HQ := Lib.hid (hx.turn hm1 ho1)
    have c0 : w1.cell? ⟨b, 0, none⟩ = some (.int .i64 M.ad) := hm1.cell 0 rfl
    have c20 := hm1.cell 20 rfl
    have f20 := hm1.free 20
    clear HX hx hm1 ho1 HM
    go_wp2_with fail
    refine (HA.out _).mono ?_
    rintro e w2 ⟨rfl, rfl⟩
    go_wp2_with fail
    refine world_cut (G := fun W => Calls _ _ _ W _) (fun W => Px w W b A R noF) (by exact HG.out _ _ HQ.out) ?_
    rintro W2 hx2
    refine (HS.out _ hx2.mw).mono ?_
    rintro e w3 ⟨rfl, hm3, ho3⟩
    have HY := Lib.hid ((hx2.turn hm3 ho3).put F)
    have hst := (hx2.turn hm3 ho3).fx.box.st F
    clear hx2 hm3 ho3 HQ
    go_wp2
    exact bodyPost_ret (results_F Tryz.results53 _ _ R F (.int .i64 1) rfl rfl HY.out.fx.box.at) rfl ⟨rfl, HY.out.does⟩
set_option maxRecDepth 100000 in
set_option maxHeartbeats 2000000 in
theorem cWaits (h : Mw w b M) (hsl : 0 ≤ M.sl ∧ M.sl ≤ 50) (had : M.ad < 32) : Calls Tryz.prog 52 #[.pointer (some ⟨b, 0, none⟩)] w (fun e w' => e = .returned (.bool (waitB M)) ∧ ∃ m, w' = w.drewN m) := by
  have c2 := h.cell 2 rfl
  have c10 := h.cell 10 rfl
  have c11 := h.cell 11 rfl
  have c15 := h.cell 15 rfl
  have c16 := h.cell 16 rfl
  have c71 := h.cell 71 rfl
  have HP := Lib.hid (fun n => cPatience (h.drewN n) hsl had)
  clear h hsl had
  by_cases s1 : M.st = 1
  · rw [s1] at c10
    cases hw : M.wants
    · have HV := Lib.hid (show waitB M = true by unfold waitB; rw [if_pos (by omega), hw]; rfl)
      rw [HV.out]
      rw [hw] at c11
      clear HV hw
      go_enter Tryz.func52, Tryz.ntmps52
      go_wp2
      go_quiet (exact Calls.quiet_of (HP.out _))
      go_wp2
      go_ret
      exact ⟨rfl, _, rfl⟩
    · have HV := Lib.hid (show waitB M = decide (M.silence < patM M) by unfold waitB; rw [if_pos (by omega), hw]; rfl)
      rw [HV.out]
      rw [hw] at c11
      clear HV hw
      go_enter Tryz.func52, Tryz.ntmps52
      go_wp2
      go_quiet (exact Calls.quiet_of (HP.out _))
      go_wp2
      go_ret
      exact ⟨rfl, _, rfl⟩
  by_cases s2 : M.st = 2
  · rw [s2] at c10
    cases hw : M.wants
    · have HV := Lib.hid (show waitB M = true by unfold waitB; rw [if_pos (by omega), hw]; rfl)
      rw [HV.out]
      rw [hw] at c11
      clear HV hw
      go_enter Tryz.func52, Tryz.ntmps52
      go_wp2
      go_quiet (exact Calls.quiet_of (HP.out _))
      go_wp2
      go_ret
      exact ⟨rfl, _, rfl⟩
    · have HV := Lib.hid (show waitB M = decide (M.silence < patM M) by unfold waitB; rw [if_pos (by omega), hw]; rfl)
      rw [HV.out]
      rw [hw] at c11
      clear HV hw
      go_enter Tryz.func52, Tryz.ntmps52
      go_wp2
      go_quiet (exact Calls.quiet_of (HP.out _))
      go_wp2
      go_ret
      exact ⟨rfl, _, rfl⟩
  by_cases s5 : M.st = 5
  · rw [s5] at c10
    cases hw : M.answered
    · have HV := Lib.hid (show waitB M = decide (M.timer < M.sl) by unfold waitB; rw [if_neg (by omega), if_pos (by omega), hw]; rfl)
      rw [HV.out]
      rw [hw] at c71
      clear HV hw
      go_enter Tryz.func52, Tryz.ntmps52
      go_wp2
      go_quiet (fail)
      go_wp2
      go_ret
      exact ⟨rfl, _, rfl⟩
    · have HV := Lib.hid (show waitB M = false by unfold waitB; rw [if_neg (by omega), if_pos (by omega), hw]; rfl)
      rw [HV.out]
      rw [hw] at c71
      clear HV hw
      go_enter Tryz.func52, Tryz.ntmps52
      go_wp2
      go_quiet (fail)
      go_wp2
      go_ret
      exact ⟨rfl, _, rfl⟩
  by_cases s9 : M.st = 9
  · rw [s9] at c10
    cases hw : M.answered
    · have HV := Lib.hid (show waitB M = decide (M.timer < M.sl) by unfold waitB; rw [if_neg (by omega), if_pos (by omega), hw]; rfl)
      rw [HV.out]
      rw [hw] at c71
      clear HV hw
      go_enter Tryz.func52, Tryz.ntmps52
      go_wp2
      go_quiet (fail)
      go_wp2
      go_ret
      exact ⟨rfl, _, rfl⟩
    · have HV := Lib.hid (show waitB M = false by unfold waitB; rw [if_neg (by omega), if_pos (by omega), hw]; rfl)
      rw [HV.out]
      rw [hw] at c71
      clear HV hw
      go_enter Tryz.func52, Tryz.ntmps52
      go_wp2
      go_quiet (fail)
      go_wp2
      go_ret
      exact ⟨rfl, _, rfl⟩
  by_cases s8 : M.st = 8
  · rw [s8] at c10
    have HV := Lib.hid (show waitB M = decide (M.timer < M.sl) by unfold waitB; rw [if_neg (by omega), if_neg (by omega), if_pos s8])
    rw [HV.out]
    clear HV
    go_enter Tryz.func52, Tryz.ntmps52
    go_wp2
    go_quiet (fail)
    go_wp2
    go_ret
    exact ⟨rfl, _, rfl⟩
  have HV := Lib.hid (show waitB M = false by unfold waitB; rw [if_neg (by omega), if_neg (by omega), if_neg s8])
  rw [HV.out]
  have e1 : (M.st == 1) = false := by simpa using s1
  have e2 : (M.st == 2) = false := by simpa using s2
  have e5 : (M.st == 5) = false := by simpa using s5
  have e9 : (M.st == 9) = false := by simpa using s9
  have e8 : (M.st == 8) = false := by simpa using s8
  clear HV s1 s2 s5 s9 s8
  go_enter Tryz.func52, Tryz.ntmps52
  go_wp2
  go_ret
  exact ⟨rfl, 0, rfl⟩
end Go.Proofs.YtedlfognpbbhhaaGreatDoor.Ma
