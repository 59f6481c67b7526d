/-
  The reference's operation of a name, walked. Conditions: none.
-/
import Derived.Test.YtpnjhodpbjhmcaaDoorIlRef
import Derived.Lib.Strings
namespace Go.Proofs.YtpnjhodpbjhmcaaDoor.Il
open Go.RowKit
open Go.Proofs.YtpnjhodpbjhmcaaDoor.Ic

theorem toL (l : Bs) : (S l).toList = l := by rw [Lib.toList_data]; rfl
theorem s_eq {a b : Bs} (h : a = b) : ((S a).toList == (S b).toList) = true := by rw [h]; simp
theorem s_ne {a b : Bs} (h : a ≠ b) : ((S a).toList == (S b).toList) = false := by
  rw [beq_eq_false_iff_ne, toL, toL]
  exact h
theorem s_nil {a : Bs} (h : a = []) : (S a).toList.isEmpty = true := by rw [toL, h]; rfl
theorem s_some {a : Bs} (h : a ≠ []) : (S a).toList.isEmpty = false := by
  rw [toL, ← Bool.not_eq_true, List.isEmpty_iff]
  exact h

set_option maxRecDepth 100000 in
set_option maxHeartbeats 4000000 in
theorem rOp_any (s : Bs) (w : World) : Calls Tryd.prog 8 #[.string (S s)] w (Tells (.int .i64 (opOf s : Nat)) w) := by
  have HN := Lib.hid (fun W => rNames_any W)
  have HL := Lib.hid (@op_lost s)
  have HF := Lib.hid (fun i => @op_found s i)
  have hs0 : ∀ j, j < 1 → s = [] ∨ namesL.getD j [] ≠ s := fun j hj => by
    obtain rfl : j = 0 := by omega
    by_cases h : s = []
    · exact .inl h
    · exact .inr (fun e => h e.symm)
  replace hs0 := Lib.hid hs0
  generalize opOf s = o at *
  go_enter Tryd.func8, Tryd.ntmps8
  go_wp2_with fail
  refine (HN.out _).mono ?_
  rintro e w1 ⟨g, rfl, hn, hb⟩
  replace hn := Lib.hid hn
  replace hb := Lib.hid hb
  go_wp2
  go_loopw [4] (fun c wr => ∃ i : Nat, i ≤ 37 ∧ c = .int .i64 i ∧ Hid (∀ j, j < i → s = [] ∨ namesL.getD j [] ≠ s) ∧ Hid (NamesAt wr g ∧ Below w.heap.size w wr)) (fun c _ => 37 - (intOf c).toNat)
  case atStart => exact ⟨1, by omega, rfl, hs0, Lib.hid ⟨hn.out, hb.out⟩⟩
  case round =>
    obtain ⟨i, hi, rfl, hf, hS⟩ := hrel
    by_cases hlt : i < 37
    · have hI : (i : Int) < 37 := by omega
      have c0 := hS.out.1 i hlt
      obtain ⟨nm, hnm⟩ : ∃ nm, nm = namesL.getD i [] := ⟨_, rfl⟩
      rw [← hnm] at c0
      replace hnm := Lib.hid hnm
      by_cases h1 : nm = s
      · have e1 := s_eq h1
        by_cases h2 : s = []
        · have e2 := s_nil h2
          replace h1 := Lib.hid h1
          have hf2 := Lib.hid (show ∀ j, j < i + 1 → s = [] ∨ namesL.getD j [] ≠ s from fun _ _ => .inl h2)
          clear h2
          go_wp2
          go_roundw
          case rel => exact ⟨i + 1, by omega, by go_num, hf2, hS⟩
          case measure => simp [intOf]; omega
        · have e2 := s_some h2
          replace h1 := Lib.hid h1
          have ho := Lib.hid (HF.out i hlt h2 (by rw [← hnm.out]; exact h1.out) hf.out)
          clear h2
          go_wp2
          go_ret
          exact ⟨by rw [ho.out]; rfl, hS.out.2⟩
      · have e1 := s_ne h1
        have hf2 := Lib.hid (show ∀ j, j < i + 1 → s = [] ∨ namesL.getD j [] ≠ s from fun j hj => by
          by_cases e : j = i
          · subst e; right; rw [← hnm.out]; exact h1
          · exact hf.out j (by omega))
        clear h1
        go_wp2
        go_roundw
        case rel => exact ⟨i + 1, by omega, by go_num, hf2, hS⟩
        case measure => simp [intOf]; omega
    · obtain rfl : i = 37 := by omega
      have ho := Lib.hid (HL.out hf.out)
      go_wp2
      go_ret
      exact ⟨by rw [ho.out]; rfl, hS.out.2⟩

end Go.Proofs.YtpnjhodpbjhmcaaDoor.Il
