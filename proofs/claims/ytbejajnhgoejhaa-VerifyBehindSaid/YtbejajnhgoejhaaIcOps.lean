/-
  What an operation makes of two values; plainly. No program is named here. Conditions: none.
-/
import Derived.Test.YtbejajnhgoejhaaIcMath
namespace Go.Proofs.Ytbejajnhgoejhaa.Ic

def logN (op : Int) (a b : Nat) : Nat := if op = 7 then a &&& b else if op = 8 then a ||| b else a ^^^ b
def logI (op a b : Int) : Int := (logN op a.toNat b.toNat : Nat)
def yesI (b : Bool) : Int := if b then 1 else 0
def doV (op k a b : Int) : Int :=
  if op = 14 then wrapI k (a + b) else if op = 15 then wrapI k (a - b) else if op = 16 then wrapI k (a * b)
  else if op = 17 then (if b = 0 then 0 else wrapI k (a.tdiv b)) else if op = 18 then (if b = 0 then 0 else wrapI k (a.tmod b))
  else if op = 19 then yesI (decide (b < a)) else if op = 20 then yesI (decide (b ≤ a)) else if op = 21 then yesI (decide (a = b))
  else if op = 22 then yesI (decide (a ≠ b)) else if op = 23 then yesI (decide (a ≤ b)) else if op = 24 then yesI (decide (a < b))
  else if 10 ≤ op then logI (op - 3) a (notI k b) else logI op a b
def doE (op k a b : Int) : Int := if mayI op k = false ∨ op = 13 then 6 else if isI k a = false ∨ isI k b = false then 1 else 0
def doR (op k a b : Int) : Int := if doE op k a b = 0 then doV op k a b else 0

/-- A kind's bytes are there. -/
def thereI (size : Nat) (at_ k : Int) : Bool := decide (szI k ≠ 0 ∧ 0 ≤ at_ ∧ at_ ≤ size ∧ (szI k : Int) ≤ size - at_)

theorem may_kind {op k : Int} (h : mayI op k = true) : szI k ≠ 0 := by
  unfold mayI at h
  rw [decide_eq_true_iff] at h
  exact h.1
theorem may_ops {op k : Int} (h : mayI op k = true) (h13 : op ≠ 13) : (14 ≤ op ∧ op ≤ 18 ∧ 2 ≤ k ∧ k ≤ 5) ∨ (7 ≤ op ∧ op ≤ 12 ∧ (k = 1 ∨ k = 6 ∨ k = 7)) ∨ (19 ≤ op ∧ op ≤ 24) := by
  have hs := (sz_iff k).1 (may_kind h)
  unfold mayI at h
  rw [decide_eq_true_iff] at h
  omega
/-- Values of a kind of arithmetic. -/
theorem arith_bd {k v : Int} (h1 : 2 ≤ k) (h2 : k ≤ 5) (h : isI k v = true) : -2147483648 ≤ v ∧ v ≤ 2147483647 := by
  unfold isI at h
  rw [decide_eq_true_iff] at h
  obtain rfl | rfl | rfl | rfl : k = 2 ∨ k = 3 ∨ k = 4 ∨ k = 5 := by omega
  · rw [show leastI 2 = -128 from rfl, show manyI 2 = 256 from rfl] at h; omega
  · rw [show leastI 3 = -32768 from rfl, show manyI 3 = 65536 from rfl] at h; omega
  · rw [show leastI 4 = -2147483648 from rfl, show manyI 4 = 4294967296 from rfl] at h; omega
  · rw [show leastI 5 = 0 from rfl, show manyI 5 = 65536 from rfl] at h; omega
/-- Values of a kind of logic. -/
theorem logic_bd {k v : Int} (hk : k = 1 ∨ k = 6 ∨ k = 7) (h : isI k v = true) : 0 ≤ v ∧ v ≤ 4294967295 := by
  have := is_bd h
  unfold isI at h
  rw [decide_eq_true_iff] at h
  rcases hk with rfl | rfl | rfl
  · rw [show leastI 1 = 0 from rfl] at h; omega
  · rw [show leastI 6 = 0 from rfl] at h; omega
  · rw [show leastI 7 = 0 from rfl] at h; omega
theorem mul_bd {a b : Int} (a1 : -2147483648 ≤ a) (a2 : a ≤ 2147483647) (b1 : -2147483648 ≤ b) (b2 : b ≤ 2147483647) : -4611686018427387904 ≤ a * b ∧ a * b ≤ 4611686018427387904 := by
  have h1 : a.natAbs ≤ 2147483648 := by omega
  have h2 : b.natAbs ≤ 2147483648 := by omega
  have h3 : (a * b).natAbs ≤ 2147483648 * 2147483648 := by rw [Int.natAbs_mul]; exact Nat.mul_le_mul h1 h2
  omega
theorem tdiv_bd (a b : Int) (a1 : -2147483648 ≤ a) (a2 : a ≤ 2147483647) : -2147483648 ≤ a.tdiv b ∧ a.tdiv b ≤ 2147483648 := by
  have h := Int.natAbs_tdiv_le_natAbs a b
  omega
theorem tmod_bd (a b : Int) (a1 : -2147483648 ≤ a) (a2 : a ≤ 2147483647) : -2147483648 ≤ a.tmod b ∧ a.tmod b ≤ 2147483648 := by
  have h : (a.tmod b).natAbs ≤ a.natAbs := by
    rw [Int.natAbs_tmod]
    exact Nat.mod_le _ _
  omega
theorem not_bd {k v : Int} (hk : k = 1 ∨ k = 6 ∨ k = 7) (h : isI k v = true) : 0 ≤ notI k v ∧ notI k v ≤ 4294967295 := by
  have := logic_bd hk h
  unfold notI
  rw [if_pos ⟨hk, h⟩]
  unfold isI at h
  rw [decide_eq_true_iff] at h
  have := many_le k
  rcases hk with rfl | rfl | rfl
  · rw [show leastI 1 = 0 from rfl] at h; omega
  · rw [show leastI 6 = 0 from rfl] at h; omega
  · rw [show leastI 7 = 0 from rfl] at h; omega

/-- The bits of two numbers, one behind the other. -/
theorem log_step (op : Int) (a b j : Nat) : logN op a b % 2 ^ (j + 1) = logN op a b % 2 ^ j + 2 ^ j * logN op (a / 2 ^ j % 2) (b / 2 ^ j % 2) := by
  rw [Nat.mod_pow_succ]
  congr 2
  have h : ∀ n : Nat, n / 2 ^ j % 2 = (n.testBit j).toNat := fun n => by rw [Nat.testBit_eq_decide_div_mod_eq]; have := Nat.mod_two_eq_zero_or_one (n / 2 ^ j); rcases this with h | h <;> simp [h]
  rw [h, h, h]
  unfold logN
  by_cases h7 : op = 7
  · rw [if_pos h7, if_pos h7, Nat.testBit_and]; cases a.testBit j <;> cases b.testBit j <;> rfl
  · rw [if_neg h7, if_neg h7]
    by_cases h8 : op = 8
    · rw [if_pos h8, if_pos h8, Nat.testBit_or]; cases a.testBit j <;> cases b.testBit j <;> rfl
    · rw [if_neg h8, if_neg h8, Nat.testBit_xor]; cases a.testBit j <;> cases b.testBit j <;> rfl
theorem log_small (op : Int) (a b : Nat) (ha : a < 2 ^ 32) (hb : b < 2 ^ 32) : logN op a b % 2 ^ 32 = logN op a b := by
  apply Nat.mod_eq_of_lt
  unfold logN
  split
  · exact Nat.and_lt_two_pow _ hb
  · split
    · exact Nat.or_lt_two_pow ha hb
    · exact Nat.xor_lt_two_pow ha hb

end Go.Proofs.Ytbejajnhgoejhaa.Ic
