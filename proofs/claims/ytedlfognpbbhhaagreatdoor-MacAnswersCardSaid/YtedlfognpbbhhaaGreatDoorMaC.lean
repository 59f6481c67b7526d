/-
  Passing, asking, answering, minting, hopping: walked. Conditions: as each states.
-/
import Derived.Test.YtedlfognpbbhhaaGreatDoorMaB
namespace Go.Proofs.YtedlfognpbbhhaaGreatDoor.Ma
open Go.RowKit
open Go.Proofs.YtedlfognpbbhhaaGreatDoor.Epo (Ep cmpE newB maxE numE numM)
open Go.Proofs.YtedlfognpbbhhaaGreatDoor.Mem (St withB woB hasB passB nextI turnI gapB sv)
open Go.Proofs.YtedlfognpbbhhaaGreatDoor.Frm (Fr world_cut)
attribute [local go_sem ↓] exec_ldF exec_stF exec_bdF
attribute [local go_sem] bdF_5 bdF_9 bdF_0 stF_new0

variable {b : Nat} {M : Mc} {w : World}
set_option maxRecDepth 100000 in
set_option maxHeartbeats 2000000 in
theorem cPassing (h : Mw w b M) (had : M.ad < 32) (p : Nat) (hp : M.partner = p) (hp2 : p < 256) : Calls Tryz.prog 84 #[.pointer (some ⟨b, 0, none⟩)] w (Does w b (.agg (frA (passF M))) M) := by
  have HX := Lib.hid (Px.first h noF)
  have HT := Lib.hid (fun W k (hm : Mw W b M) => cTo hm had k p M.pinc hp2)
  have hlt := h.lt
  have c12 := h.cell 12 rfl
  cases hl : M.leaving
  · have HF := Lib.hid (show passF M = toF M 1 p M.pinc by unfold passF; rw [hl, hp]; rfl)
    rw [HF.out]
    rw [hl] at c12
    have HU := Lib.hid (fun W (hm : Mw W b M) => HT.out W 1 hm)
    clear h had hp2 HF hl HT
    generalize toF M 1 p M.pinc = F at *
    go_enter Tryz.func84, Tryz.ntmps84
    go_wp2
    refine world_cut (G := fun W => Code.wp _ _ _ _ W) (fun W => Px w W b M w.heap.size noF) (by exact HX.out) ?_
    rintro W hx
    clear hlt c12
    generalize w.heap.size = R at *
    have c68 := hx.mw.cell 68 rfl
    rw [hp] at c68
    have c69 := hx.mw.cell 69 rfl
    have HQ := Lib.hid hx.drew
    clear HX hx hp
    go_region_with ((go_at_call 92; refine (HU.out _ HQ.out.mw).mono ?_; rintro e w2 ⟨rfl, hb2⟩; have HY := Lib.hid ((HQ.out.below hb2).put F); have hst := (HQ.out.below hb2).fx.box.stc F))
    all_goals
      go_wp2
      refine bodyPost_ret (results_F1 Tryz.results84 _ _ R _ rfl HY.out.fx.box.at) rfl ⟨rfl, HY.out.does⟩
  · have HF := Lib.hid (show passF M = toF M 5 p M.pinc by unfold passF; rw [hl, hp]; rfl)
    rw [HF.out]
    rw [hl] at c12
    have HU := Lib.hid (fun W (hm : Mw W b M) => HT.out W 5 hm)
    clear h had hp2 HF hl HT
    generalize toF M 5 p M.pinc = F at *
    go_enter Tryz.func84, Tryz.ntmps84
    go_wp2
    refine world_cut (G := fun W => Code.wp _ _ _ _ W) (fun W => Px w W b M w.heap.size noF) (by exact HX.out) ?_
    rintro W hx
    clear hlt c12
    generalize w.heap.size = R at *
    have c68 := hx.mw.cell 68 rfl
    rw [hp] at c68
    have c69 := hx.mw.cell 69 rfl
    have HQ := Lib.hid hx.drew
    clear HX hx hp
    go_region_with ((go_at_call 92; refine (HU.out _ HQ.out.mw).mono ?_; rintro e w2 ⟨rfl, hb2⟩; have HY := Lib.hid ((HQ.out.below hb2).put F); have hst := (HQ.out.below hb2).fx.box.stc F))
    all_goals
      go_wp2
      refine bodyPost_ret (results_F1 Tryz.results84 _ _ R _ rfl HY.out.fx.box.at) rfl ⟨rfl, HY.out.does⟩
set_option maxRecDepth 100000 in
set_option maxHeartbeats 2000000 in
theorem cPassTo (h : Mw w b M) (had : M.ad < 32) (p : Nat) (hp2 : p < 32) : Calls Tryz.prog 83 #[.pointer (some ⟨b, 0, none⟩), .int .i64 p] w (Does w b (.agg (frA (passF (toM M p)))) (toM M p)) := by
  have HX := Lib.hid (Px.first h noF)
  have HT := Lib.hid (fun W (hm : Mw W b (toM M p)) => cPassing hm had p rfl (by omega))
  have HK := Lib.hid (macL_known (marksM M) p hp2)
  clear h had
  generalize hF : passF (toM M p) = F at *
  clear hF
  go_enter Tryz.func83, Tryz.ntmps83
  go_wp2_with fail
  refine world_cut (G := fun W => Calls _ _ _ W _) (fun W => Px w W b M w.heap.size noF) (by exact HX.out) ?_
  rintro W hx
  generalize w.heap.size = R at *
  refine (cMarks hx.mw).mono ?_
  rintro e w1 ⟨rfl, hm1, ho1⟩
  have hy := hx.turn hm1 ho1
  have c10 := hm1.cell 10 rfl
  have c16 := hm1.cell 16 rfl
  have c68 := hm1.cell 68 rfl
  have c69 := hm1.cell 69 rfl
  have c70 := hm1.cell 70 rfl
  have f10 := hm1.free 10
  have f16 := hm1.free 16
  have f68 := hm1.free 68
  have f69 := hm1.free 69
  have f70 := hm1.free 70
  have ck := hm1.cell (21 + p) HK.out
  have HQ := Lib.hid hy
  clear HX hx hm1 ho1 hy HK
  go_wp2_with fail
  refine world_cut (G := fun W => Calls _ _ _ W _) (fun W => Px w W b (toM M p) R noF) (by exact HQ.out.sets [(10, _), (16, _), (70, _), (68, _), (69, _)] rfl) ?_
  rintro W2 hx2
  refine (HT.out _ hx2.mw).mono ?_
  rintro e w2 ⟨rfl, hm2, ho2⟩
  have HY := Lib.hid ((hx2.turn hm2 ho2).put F)
  have hst := (hx2.turn hm2 ho2).fx.box.st F
  clear hx2 hm2 ho2 HQ
  go_wp2
  refine bodyPost_ret (results_F1 Tryz.results83 _ _ R _ rfl HY.out.fx.box.at) rfl ⟨rfl, HY.out.does⟩
end Go.Proofs.YtedlfognpbbhhaaGreatDoor.Ma
