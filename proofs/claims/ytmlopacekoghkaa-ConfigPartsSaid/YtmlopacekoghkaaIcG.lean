/-
  The reference of layer 11: operations, walked. Conditions: as each states.
-/
import Derived.Test.YtmlopacekoghkaaIcR
namespace Go.Proofs.Ytmlopacekoghkaa.Ic
open Go.RowKit

/-- What the loop over the bits stands on. -/
structure Bt (op : Int) (A B j : Nat) (a b o : Nat) : Prop where
  ha : a = A / 2 ^ j
  hb : b = B / 2 ^ j
  ho : o = logN op A B % 2 ^ j
theorem Bt.next {op : Int} {A B j a b o : Nat} (h : Bt op A B j a b o) : Bt op A B (j + 1) (a / 2) (b / 2) (o + 2 ^ j * logN op (a % 2) (b % 2)) :=
  ⟨by rw [h.ha, Nat.div_div_eq_div_mul, Nat.pow_succ], by rw [h.hb, Nat.div_div_eq_div_mul, Nat.pow_succ], by rw [log_step, ← h.ho, ← h.ha, ← h.hb]⟩
theorem Bt.bd {op : Int} {A B j a b o : Nat} (h : Bt op A B j a b o) (hA : A < 2 ^ 32) (hB : B < 2 ^ 32) : a < 4294967296 ∧ b < 4294967296 ∧ o < 2 ^ j := by
  refine ⟨?_, ?_, ?_⟩
  · rw [h.ha]; exact Nat.lt_of_le_of_lt (Nat.div_le_self _ _) hA
  · rw [h.hb]; exact Nat.lt_of_le_of_lt (Nat.div_le_self _ _) hB
  · rw [h.ho]; exact Nat.mod_lt _ (Nat.two_pow_pos j)
theorem par (x : Nat) : (x % 2 = 0 ∧ ((x : Nat) : Int).tmod 2 = 0 ∧ ((x : Nat) : Int) % 2 = 0) ∨ (x % 2 = 1 ∧ ((x : Nat) : Int).tmod 2 = 1 ∧ ((x : Nat) : Int) % 2 = 1) := by
  rw [Int.tmod_eq_emod_of_nonneg (Int.natCast_nonneg x)]
  rcases Nat.mod_two_eq_zero_or_one x with h | h
  · exact .inl ⟨h, by omega, by omega⟩
  · exact .inr ⟨h, by omega, by omega⟩
theorem nat_val {a : Int} {n : Nat} (h : a = n) : Value.int .i64 a = .int .i64 (n : Int) := by rw [h]

end Go.Proofs.Ytmlopacekoghkaa.Ic

namespace Go.Proofs.Ytmlopacekoghkaa.Ic
open Go.RowKit

theorem do_fine {op k a b : Int} (hm : mayI op k = true) (h13 : op ≠ 13) (ha : isI k a = true) (hb : isI k b = true) : doE op k a b = 0 ∧ doR op k a b = doV op k a b := by
  have e : doE op k a b = 0 := by
    unfold doE
    rw [if_neg (by rw [hm]; simp [h13]), if_neg (by rw [ha, hb]; simp)]
  refine ⟨e, ?_⟩
  unfold doR
  rw [if_pos e]

end Go.Proofs.Ytmlopacekoghkaa.Ic
