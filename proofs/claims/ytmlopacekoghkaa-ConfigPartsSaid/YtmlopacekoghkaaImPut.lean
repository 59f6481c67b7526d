/-
  span, bring, put, Byte: walked. Conditions: as each states.
-/
import Derived.Test.YtmlopacekoghkaaImBase
namespace Go.Proofs.Ytmlopacekoghkaa.Bl
open Go.RowKit

theorem cSpan (p z : Nat) (h : p + z ≤ 64) (w : World) : Calls Try.prog 42 #[.int .i64 p, .int .i64 z] w (fun e w' => e = .returned (.int .u64 (spanN p z : Nat)) ∧ w = w') := by
  by_cases h64 : z = 64
  · subst h64
    obtain rfl : p = 0 := by omega
    have hs : (spanN 0 64 : Int) = 18446744073709551615 := by decide
    rw [hs]
    go_enter Try.func42, Try.ntmps42
    go_wp2
    go_ret
    exact ⟨rfl, rfl⟩
  · have h1 : (2 : Int) ^ z ≤ 2 ^ 63 := by exact_mod_cast Nat.pow_le_pow_right (n := 2) (by decide) (by omega : z ≤ 63)
    have h0 : 0 < (2 : Int) ^ z := by exact_mod_cast Nat.pow_pos (n := z) (by decide : 0 < 2)
    have hs := span_lt h
    have hq : ((2 : Int) ^ z - 1) * 2 ^ p = (spanN p z : Nat) := by
      unfold spanN
      rw [Int.natCast_mul, Int.natCast_sub (by exact_mod_cast h0)]
      simp
    have hw1 : IntKind.u64.wrap ((2 : Int) ^ z) = 2 ^ z := by rw [IntKind.wrap_u64]; omega
    have hw2 : IntKind.u64.wrap ((2 : Int) ^ z - 1) = 2 ^ z - 1 := by rw [IntKind.wrap_u64]; omega
    have hw3 : IntKind.u64.wrap (((2 : Int) ^ z - 1) * 2 ^ p) = (spanN p z : Nat) := by rw [hq, IntKind.wrap_u64]; omega
    clear hq
    go_enter Try.func42, Try.ntmps42
    go_wp2
    go_ret
    exact ⟨rfl, rfl⟩
theorem S_get {v : Bs} {i : Nat} (h : i < (S v).size) : (S v)[i] = v.getD i 0 := by
  have hl : i < v.length := by rw [S_size] at h; exact h
  rw [List.getD_eq_getElem?_getD, List.getElem?_eq_getElem hl]
  rfl
theorem below_draw (N : Nat) (W : World) : Below N W W.drew := ⟨rfl, rfl, rfl, Nat.le_refl _, fun _ _ => rfl⟩
end Go.Proofs.Ytmlopacekoghkaa.Bl
