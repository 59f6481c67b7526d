/-
  Comparing numbers, the first that is not 0, and comparing epochs, walked. Conditions: none.
-/
import Derived.Test.YtedlfognpbbhhaaGreatDoorRows
import Derived.Test.YtedlfognpbbhhaaGreatDoorEpMath
import Derived.WalkKit
import Derived.WalkSpells
import Derived.WalkLawsBesides
import Derived.Lib.Hide
import Derived.Below
import Derived.BigQuiet
import Derived.Deep.QuietTactic
import Derived.StillTailTactics
namespace Go.Proofs.YtedlfognpbbhhaaGreatDoor.Epo
open Go.RowKit

theorem ret_int {k : IntKind} {a b : Int} (h : a = b) : Ending.returned (.int k a) = .returned (.int k b) := by rw [h]

set_option maxHeartbeats 400000 in
theorem cmp16 (a b : Nat) (w : World) : Calls Tryz.prog 43 #[.int .u16 a, .int .u16 b] w fun e w' => e = .returned (.int .i64 (cmpN a b)) ∧ w = w' := by
  rcases Nat.lt_trichotomy a b with h | h | h
  · rw [cmpN_lt h]
    have h1 : decide ((a : Int) < b) = true := by simp; omega
    go_enter Tryz.func43, Tryz.ntmps43
    go_wp2
    go_ret
    exact ⟨rfl, rfl⟩
  · rw [cmpN_eq h]
    subst h
    go_enter Tryz.func43, Tryz.ntmps43
    go_wp2
    go_ret
    exact ⟨rfl, rfl⟩
  · rw [cmpN_gt h]
    have h1 : decide ((a : Int) < b) = false := by simp; omega
    have h2 : decide ((b : Int) < a) = true := by simp; omega
    go_enter Tryz.func43, Tryz.ntmps43
    go_wp2
    go_ret
    exact ⟨rfl, rfl⟩

set_option maxHeartbeats 400000 in
theorem cmp8 (a b : Nat) (w : World) : Calls Tryz.prog 44 #[.int .u8 a, .int .u8 b] w fun e w' => e = .returned (.int .i64 (cmpN a b)) ∧ w = w' := by
  rcases Nat.lt_trichotomy a b with h | h | h
  · rw [cmpN_lt h]
    have h1 : decide ((a : Int) < b) = true := by simp; omega
    go_enter Tryz.func44, Tryz.ntmps44
    go_wp2
    go_ret
    exact ⟨rfl, rfl⟩
  · rw [cmpN_eq h]
    subst h
    go_enter Tryz.func44, Tryz.ntmps44
    go_wp2
    go_ret
    exact ⟨rfl, rfl⟩
  · rw [cmpN_gt h]
    have h1 : decide ((a : Int) < b) = false := by simp; omega
    have h2 : decide ((b : Int) < a) = true := by simp; omega
    go_enter Tryz.func44, Tryz.ntmps44
    go_wp2
    go_ret
    exact ⟨rfl, rfl⟩

theorem orL_drop (xs : List Int) (k : Nat) (h : k < xs.length) : orL (xs.drop k) = if xs[k] = 0 then orL (xs.drop (k + 1)) else xs[k] := by
  rw [List.drop_eq_getElem_cons h]; rfl

set_option maxHeartbeats 400000 in
theorem or_any (b cap : Nat) (xs : List Int) (w : World) (hl : (xs.length : Int) ≤ 100) (hc : ∀ k x, xs[k]? = some x → w.cell? ⟨b, k, none⟩ = some (.int .i64 x)) :
    Calls Tryz.prog 42 #[.slice (some ⟨b, 0, none⟩) xs.length cap] w fun e w' => e = .returned (.int .i64 (orL xs)) ∧ w = w' := by
  have HC := Lib.hid hc
  clear hc
  go_enter Tryz.func42, Tryz.ntmps42
  go_wp2
  go_loop [8] (fun i => ∃ k : Nat, k ≤ xs.length ∧ i = .int .i64 k ∧ Hid (orL xs = orL (xs.drop k))) (fun i => xs.length - (intOf i).toNat)
  case atStart => exact ⟨0, Nat.zero_le _, rfl, Lib.hid rfl⟩
  case round =>
    obtain ⟨k, hk, rfl, hr⟩ := hrel
    by_cases hlt : k < xs.length
    · have H0 := Lib.hid (orL_drop xs k hlt)
      have hx := HC.out k _ (List.getElem?_eq_getElem hlt)
      generalize xs[k] = x at *
      by_cases h0 : x = 0
      · subst h0
        go_wp2
        go_round
        case rel => exact ⟨k + 1, by omega, by go_num, Lib.hid (by rw [hr.out, H0.out]; simp)⟩
        case measure => simp [intOf]; omega
      · have h1 : (!(x == 0)) = true := by simpa using h0
        have h2 : (x == 0) = false := by simpa using h0
        go_wp2
        go_ret
        exact ⟨ret_int (by rw [hr.out, H0.out, if_neg h0]), rfl⟩
    · go_wp2
      go_ret
      exact ⟨ret_int (by rw [hr.out, List.drop_of_length_le (by omega)]; rfl), rfl⟩

end Go.Proofs.YtedlfognpbbhhaaGreatDoor.Epo
