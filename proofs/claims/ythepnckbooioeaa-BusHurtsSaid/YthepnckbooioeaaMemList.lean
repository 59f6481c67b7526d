/-
  Lists of a set's addresses, the program's and the reference's, walked. Conditions: none.
-/
import Derived.Test.YthepnckbooioeaaMemPop
namespace Go.Proofs.Ythepnckbooioeaa.Mem
open Go.RowKit

set_option maxRecDepth 100000 in
set_option maxHeartbeats 2000000 in
theorem rList_any (s : St) (w : World) : Calls Try.prog 44 #[sv s] w fun e w' => ∃ v, e = .returned v ∧ Lst w' v (listB s) ∧ Below w.heap.size w w' := by
  obtain ⟨i0, hi, hz0, hz1, hz2⟩ := info_parts Try.infoInt
  have HI := Lib.hid hi
  have H0 := Lib.hid hz0
  have H1 := Lib.hid hz1
  have H2 := Lib.hid hz2
  clear hi hz0 hz1 hz2
  have HS := Lib.hid (show w.ownsRow w.heap.size 3 1 (.slice none 0 0) (upto s 0).length (ivals (upto s 0)) ∧ Below w.heap.size w w from ⟨⟨rfl, .inl ⟨rfl, rfl⟩⟩, Below.refl _ _⟩)
  go_enter Try.func44, Try.ntmps44
  go_wp2
  generalize hN : w.heap.size = N at *
  go_loopw [3, 4] (fun v i wr => ∃ k : Nat, k ≤ 32 ∧ i = .int .i64 k ∧ Hid (wr.ownsRow N 3 1 v (upto s k).length (ivals (upto s k)) ∧ Below N w wr)) (fun _ i _ => 32 - (intOf i).toNat)
  case atStart => exact ⟨0, Nat.zero_le _, rfl, HS⟩
  case round =>
    obtain ⟨k, hk, rfl, hS⟩ := hrel
    obtain ⟨A, c, rfl⟩ := own_form hS.out.1
    by_cases hlt : k < 32
    · have e1 : decide ((k : Int) < 32) = true := by simp; omega
      go_wp2_with fail
      refine (rHas_any s k wr).mono ?_
      rintro e w1 ⟨rfl, rfl⟩
      rw [hasB_nat]
      by_cases hb : s.getLsbD k = true
      · rw [hb]
        have hlen := upto_len s k
        have hsz : N ≤ wr.heap.size := by have := hS.out.2.size; omega
        have HO := Lib.hid (hS.out.1.alloc (.cells #[.int .i64 (k : Int)] 3))
        go_wp2_with (at_builtin; refine wpList_append_own _ rfl (.tmp 12) (.tmp 14) 79 rfl N 3 i0 (.int .i64 0) 1 8 Try.underlying79 HI.out H0.out H1.out H2.out rfl (by decide) _ (upto s k).length (ivals (upto s k)) rfl HO.out ⟨wr.heap.size, 0, none⟩ 1 1 [.int .i64 (k : Int)] rfl rfl (cell_one_new _ _ _) (by intro u hu; simp at hu; subst hu; rfl) (by unfold maxLen; omega) (by omega) (by simp; omega) ?_)
        intro v1 w1 hown hgrow _
        have hS1 := Lib.hid (show w1.ownsRow N 3 1 v1 (upto s (k + 1)).length (ivals (upto s (k + 1))) ∧ Below N w w1 by
          rw [upto_yes s k hb]
          refine ⟨by simpa [ivals] using hown, (hS.out.2.alloc hsz _).grown hgrow (by simp; omega) ?_⟩
          intro g hg
          exact own_base hS.out.1 g hg)
        clear hown hgrow HO
        go_wp2
        go_roundw
        case rel => exact ⟨k + 1, by omega, by go_num, hS1⟩
        case measure => simp [intOf]; omega
      · have hb := eq_false_of_ne_true hb
        rw [hb]
        have hS1 := Lib.hid (show wr.ownsRow N 3 1 (.slice A (upto s k).length c) (upto s (k + 1)).length (ivals (upto s (k + 1))) ∧ Below N w wr by
          rw [upto_no s k hb]
          exact hS.out)
        go_wp2
        go_roundw
        case rel => exact ⟨k + 1, by omega, by go_num, hS1⟩
        case measure => simp [intOf]; omega
    · obtain rfl : k = 32 := by omega
      go_wp2
      go_ret
      exact ⟨_, rfl, Lst.of_own (hS.out.1), by rw [hN]; exact hS.out.2⟩

end Go.Proofs.Ythepnckbooioeaa.Mem
