/-
  The law ConfigChecks, walked: it returns true. Conditions: none.
-/
import Derived.Test.YtmlopacekoghkaaCfLaw
import Derived.Test.YtmlopacekoghkaaCfQx
namespace Go.Proofs.Ytmlopacekoghkaa.Cf
open Go.RowKit
open Go.Proofs.Ytmlopacekoghkaa.Bl (Blk Spt findB layO noS Tells I64 one_S cell_of_row kept_own blkV spV Own2 Own4)
open Go.Proofs.Ytmlopacekoghkaa.Il (In)

set_option maxRecDepth 100000 in
set_option maxHeartbeats 4000000 in
theorem checks_walk (c : Clu) (w : World) (hL : CluL w w.heap.size c) (hF : FitC c) :
    Calls Try.prog 3 #[.agg (cluC c)] w (Tells (.bool true) w) := by
  have hA := Cw.first hL
  obtain ⟨g0, g1, g2, g3, g4, g5, g6, g7⟩ := hA.ow.cells
  have HA := Lib.hid hA
  have HK := Lib.hid wake_any
  have HS := Lib.hid (fun W (h : Ca w W c) => small_any c W h.self.lies hF)
  have HC := Lib.hid (fun W (h : Ca w W c) => cCheck_any c W h.self.lies hF)
  have HQ := Lib.hid (fun W (h : Ca w W c) => qCheck_any c W h.self.lies hF)
  obtain ⟨⟨R1, R2⟩, hR⟩ : ∃ R, R = chkC c := ⟨_, rfl⟩
  obtain ⟨b, hb⟩ : ∃ b, b = smallC c := ⟨_, rfl⟩
  rw [← hR] at HC HQ
  rw [← hb] at HS
  unfold Bl.errV at HC HQ
  dsimp only at HC HQ
  clear hA hL hF hR hb
  unfold cluC at *
  go_enter Try.func3, Try.ntmps3
  go_wp2_with fail
  refine (HK.out _).mono ?_
  rintro e w1 ⟨rfl, hb⟩
  have HA1 := Lib.hid (HA.out.next hb)
  clear hb HA
  obtain ⟨g0, g1, g2, g3, g4, g5, g6, g7⟩ := HA1.out.ow.cells
  go_wp2_with fail
  refine (HS.out _ HA1.out.ca).mono ?_
  rintro e w2 ⟨rfl, hb⟩
  have HA2 := Lib.hid (HA1.out.next hb)
  clear hb HA1
  obtain ⟨g0, g1, g2, g3, g4, g5, g6, g7⟩ := HA2.out.ow.cells
  cases b
  · go_wp2
    go_ret
    exact ⟨rfl, HA2.out.ca.below⟩
  · go_wp2_with fail
    refine (HC.out _ HA2.out.ca).mono ?_
    rintro e w3 ⟨rfl, hb⟩
    have HA3 := Lib.hid (HA2.out.next hb)
    clear hb HA2
    obtain ⟨g0, g1, g2, g3, g4, g5, g6, g7⟩ := HA3.out.ow.cells
    have e1 : (R1 == R1) = true := beq_self_eq_true R1
    have e2 : (R2 == R2) = true := beq_self_eq_true R2
    go_wp2_with fail
    refine (HQ.out _ HA3.out.ca).mono ?_
    rintro e w4 ⟨rfl, hb⟩
    have HA4 := Lib.hid (HA3.out.next hb)
    clear hb HA3
    go_wp2
    go_ret
    exact ⟨rfl, HA4.out.ca.below⟩
end Go.Proofs.Ytmlopacekoghkaa.Cf
