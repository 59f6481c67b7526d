/-
  Check and the reference's, walked. Conditions: as each states.
-/
import Derived.Test.YtmlopacekoghkaaCfFault
namespace Go.Proofs.Ytmlopacekoghkaa.Cf
open Go.RowKit
open Go.Proofs.Ytmlopacekoghkaa.Bl (Blk Spt findB layO noS Tells I64 one_S cell_of_row kept_own blkV spV Own2 Own4)
open Go.Proofs.Ytmlopacekoghkaa.Il (In)

theorem chkF_le (l : List Blk) : ∀ (n i : Nat), (Bl.chkF l i n).2 ≤ i + n
  | 0, i => Nat.zero_le _
  | n + 1, i => by
    unfold Bl.chkF
    split
    · have := chkF_le l n (i + 1)
      omega
    · show i ≤ _
      omega
theorem chkB_le (l : List Blk) : (Bl.chkB l).2 ≤ 16 := by
  unfold Bl.chkB
  split
  · have := chkF_le l l.length 0
    omega
  · exact Nat.le_refl _

set_option maxRecDepth 100000 in
set_option maxHeartbeats 8000000 in
theorem cCheck_any (c : Clu) (w : World) (hL : CluL w w.heap.size c) (hF : FitC c) :
    Calls Try.prog 8 #[.agg (cluC c)] w (Tells (Bl.errV (chkC c)) w) := by
  obtain ⟨⟨R1, R2⟩, hR⟩ : ∃ R, R = chkC c := ⟨_, rfl⟩
  rw [← hR]
  unfold chkC at hR
  unfold Bl.errV
  dsimp only
  have hml : (c.st.length : Int) ≤ 9223372036854775807 := by have h1 := hF.2.1.1; have := hF.2.1.2.1; unfold maxLen at this; omega
  have hC := Cw.first hL
  obtain ⟨g0, g1, g2, g3, g4, g5, g6, g7⟩ := hC.ow.cells
  have HC := Lib.hid hC
  have HTi := Lib.hid (fun W => timed_any c W)
  have HBl := Lib.hid (fun W (h : Ca w W c) => Bl.cCheck_any c.bl c.bo.ao c.bo.cap W h.self.lies.bl hF.1.1 hF.1.2.1)
  have HFa := Lib.hid (fun (i : Nat) (hi : i < c.st.length) W (h : Ca w W c) => fault_any c i W h.self.lies hF hi)
  obtain ⟨⟨r1, r2⟩, hr⟩ : ∃ r, r = Bl.chkB c.bl := ⟨_, rfl⟩
  rw [← hr] at hR HBl
  unfold Bl.chkV at HBl
  dsimp only at HBl hR
  have hr2 : r2 ≤ 16 := by have := chkB_le c.bl; rw [← hr] at this; exact this
  clear hC hr hL hF
  unfold cluC at *
  generalize hbb : w.heap.size = bb at *
  cases b1 : timB c
  · rw [b1] at HTi
    rw [b1, if_neg (by decide)] at hR
    obtain ⟨rfl, rfl⟩ : R1 = 3 ∧ R2 = 0 := by injection hR with h1 h2; exact ⟨h1, h2⟩
    clear hR
    go_enter Try.func8, Try.ntmps8
    go_wp2_with fail
    refine (HTi.out _).mono ?_
    rintro e w1 ⟨rfl, hb⟩
    have HC1 := Lib.hid (HC.out.next hb)
    clear hb
    go_wp2
    go_ret2
    exact ⟨rfl, HC1.out.ca.below⟩
  rw [b1] at HTi
  rw [b1, if_pos rfl] at hR
  clear b1
  by_cases hz : r1 = 0
  · rw [if_pos hz] at hR
    subst hz
    by_cases h32 : 1 ≤ c.st.length ∧ c.st.length ≤ 32
    · rw [if_pos h32] at hR
      have e2 : decide ((c.st.length : Int) < 1) = false := by simp; omega
      have e3 : decide ((32 : Int) < (c.st.length : Int)) = false := by simp; omega
      have HR := Lib.hid (show (R1, R2) = chkF c 0 (c.st.length - 0) from hR)
      clear hR
      go_enter Try.func8, Try.ntmps8
      go_wp2_with fail
      refine (HTi.out _).mono ?_
      rintro e w1 ⟨rfl, hb⟩
      have HC1 := Lib.hid (HC.out.next hb)
      clear hb HC
      obtain ⟨g0, g1, g2, g3, g4, g5, g6, g7⟩ := HC1.out.ow.cells
      go_wp2_with fail
      refine (HBl.out _ HC1.out.ca).mono ?_
      rintro e w2 ⟨rfl, hb⟩
      have HC2 := Lib.hid (HC1.out.next hb)
      clear hb HC1
      obtain ⟨g0, g1, g2, g3, g4, g5, g6, g7⟩ := HC2.out.ow.cells
      go_wp2
      clear g0 g1 g2 g3 g4 g5 g6 g7
      go_loopw [35] (fun j W => ∃ k : Nat, k ≤ c.st.length ∧ j = .int .i64 k ∧ Hid ((R1, R2) = chkF c k (c.st.length - k)) ∧ Hid (Cw w W c bb)) (fun j _ => c.st.length - (intOf j).toNat)
      case atStart => exact ⟨0, Nat.zero_le _, rfl, HR, HC2⟩
      case round =>
        obtain ⟨k, hk, rfl, hR, hC⟩ := hrel
        clear HR HC2
        by_cases hlt : k < c.st.length
        · have e1 : decide ((k : Int) < (c.st.length : Int)) = true := by simp; omega
          obtain ⟨g0, g1, g2, g3, g4, g5, g6, g7⟩ := hC.out.ow.cells
          have HFk := Lib.hid (HFa.out k hlt)
          have hgo := hR.out
          rw [chkF_go hlt] at hgo
          by_cases h0 : fauB c k = 0
          · rw [if_pos h0] at hgo
            rw [h0] at HFk
            have HR2 := Lib.hid hgo
            clear hgo hR h0
            go_wp2_with fail
            refine (HFk.out _ hC.out.ca).mono ?_
            rintro e w3 ⟨rfl, hb⟩
            have HC3 := Lib.hid (hC.out.next hb)
            clear hb hC
            go_wp2
            go_roundw
            case rel => exact ⟨k + 1, by omega, by go_num, HR2, HC3⟩
            case measure => simp [intOf]; omega
          · rw [if_neg h0] at hgo
            obtain ⟨h5, h2⟩ : R1 = fauB c k ∧ R2 = 100 + (k : Int) := by injection hgo with h1 h2; exact ⟨h1, h2⟩
            have hw : IntKind.i64.wrap (100 + (k : Int)) = R2 := by rw [IntKind.wrap_i64]; omega
            have e4 : (R1 != 0) = true := by rw [h5]; simpa [bne_iff_ne] using h0
            rw [← h5] at HFk
            clear hgo hR h0 h5 h2
            go_wp2_with fail
            refine (HFk.out _ hC.out.ca).mono ?_
            rintro e w3 ⟨rfl, hb⟩
            have HC3 := Lib.hid (hC.out.next hb)
            clear hb hC
            go_wp2
            go_ret2
            exact ⟨rfl, HC3.out.ca.below⟩
        · obtain rfl : k = c.st.length := by omega
          obtain ⟨rfl, rfl⟩ : R1 = 0 ∧ R2 = 0 := by have := hR.out; rw [chkF_end] at this; injection this with h1 h2; exact ⟨h1, h2⟩
          clear hR
          go_wp2
          go_ret2
          exact ⟨rfl, hC.out.ca.below⟩
    · rw [if_neg h32] at hR
      obtain ⟨rfl, rfl⟩ : R1 = 2 ∧ R2 = 100 := by injection hR with h1 h2; exact ⟨h1, h2⟩
      clear hR
      go_enter Try.func8, Try.ntmps8
      go_wp2_with fail
      refine (HTi.out _).mono ?_
      rintro e w1 ⟨rfl, hb⟩
      have HC1 := Lib.hid (HC.out.next hb)
      clear hb HC
      obtain ⟨g0, g1, g2, g3, g4, g5, g6, g7⟩ := HC1.out.ow.cells
      go_wp2_with fail
      refine (HBl.out _ HC1.out.ca).mono ?_
      rintro e w2 ⟨rfl, hb⟩
      have HC2 := Lib.hid (HC1.out.next hb)
      clear hb HC1
      obtain ⟨g0, g1, g2, g3, g4, g5, g6, g7⟩ := HC2.out.ow.cells
      by_cases h1 : (c.st.length : Int) < 1
      · have e2 : decide ((c.st.length : Int) < 1) = true := decide_eq_true h1
        clear h1 h32
        go_wp2
        go_ret2
        exact ⟨rfl, HC2.out.ca.below⟩
      · have e2 : decide ((c.st.length : Int) < 1) = false := decide_eq_false h1
        have e3 : decide ((32 : Int) < (c.st.length : Int)) = true := by simp; omega
        clear h1 h32
        go_wp2
        go_ret2
        exact ⟨rfl, HC2.out.ca.below⟩
  · rw [if_neg hz] at hR
    obtain ⟨rfl, h2⟩ : R1 = r1 ∧ R2 = (r2 : Int) + 1 := by injection hR with h1 h2; exact ⟨h1, h2⟩
    have hw : IntKind.i64.wrap ((r2 : Int) + 1) = R2 := by rw [IntKind.wrap_i64]; omega
    have e4 : (R1 != 0) = true := by simpa [bne_iff_ne] using hz
    clear hR hz h2
    go_enter Try.func8, Try.ntmps8
    go_wp2_with fail
    refine (HTi.out _).mono ?_
    rintro e w1 ⟨rfl, hb⟩
    have HC1 := Lib.hid (HC.out.next hb)
    clear hb HC
    obtain ⟨g0, g1, g2, g3, g4, g5, g6, g7⟩ := HC1.out.ow.cells
    go_wp2_with fail
    refine (HBl.out _ HC1.out.ca).mono ?_
    rintro e w2 ⟨rfl, hb⟩
    have HC2 := Lib.hid (HC1.out.next hb)
    clear hb HC1
    go_wp2
    go_ret2
    exact ⟨rfl, HC2.out.ca.below⟩
end Go.Proofs.Ytmlopacekoghkaa.Cf
