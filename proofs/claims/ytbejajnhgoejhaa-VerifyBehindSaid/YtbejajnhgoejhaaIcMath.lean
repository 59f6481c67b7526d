/-
  Plain facts on kinds of values: sizes, names, what a number is brought into, and operations on two values. No program is named here. Conditions: none.
-/
namespace Go.Proofs.Ytbejajnhgoejhaa.Ic

/-- How many bytes a kind has; 0: no kind. -/
def szI (k : Int) : Nat := if k = 1 ∨ k = 2 then 1 else if k = 3 ∨ k = 5 ∨ k = 6 then 2 else if k = 4 ∨ k = 7 then 4 else 0
/-- How many values. -/
def manyI (k : Int) : Int := if k = 1 then 2 else if k = 2 then 256 else if k = 3 ∨ k = 5 ∨ k = 6 then 65536 else if k = 4 ∨ k = 7 then 4294967296 else 1
def leastI (k : Int) : Int := if k = 2 then -128 else if k = 3 then -32768 else if k = 4 then -2147483648 else 0
def isI (k v : Int) : Bool := decide (szI k ≠ 0 ∧ leastI k ≤ v ∧ v < leastI k + manyI k)
def wrapI (k v : Int) : Int := if szI k = 0 then 0 else if k = 1 then (if v = 0 then 0 else 1) else leastI k + (v - leastI k) % manyI k
def mayI (op k : Int) : Bool := decide (szI k ≠ 0 ∧ ((14 ≤ op ∧ op ≤ 18 ∧ 2 ≤ k ∧ k ≤ 5) ∨ (7 ≤ op ∧ op ≤ 13 ∧ (k = 1 ∨ 6 ≤ k)) ∨ (19 ≤ op ∧ op ≤ 24)))
def notI (k v : Int) : Int := if (k = 1 ∨ k = 6 ∨ k = 7) ∧ isI k v = true then manyI k - 1 - v else 0
def nameI (k : Int) : ByteArray :=
  if k = 1 then ⟨#[66, 79, 79, 76]⟩ else if k = 2 then ⟨#[83, 73, 78, 84]⟩ else if k = 3 then ⟨#[73, 78, 84]⟩ else if k = 4 then ⟨#[68, 73, 78, 84]⟩ else if k = 5 then ⟨#[85, 73, 78, 84]⟩ else if k = 6 then ⟨#[87, 79, 82, 68]⟩ else if k = 7 then ⟨#[68, 87, 79, 82, 68]⟩ else ⟨#[]⟩
/-- The kind of a name; 0: none. -/
def namedI (s : ByteArray) : Int :=
  if s = nameI 1 then 1 else if s = nameI 2 then 2 else if s = nameI 3 then 3 else if s = nameI 4 then 4 else if s = nameI 5 then 5 else if s = nameI 6 then 6 else if s = nameI 7 then 7 else 0

theorem kinds (k : Int) : (k < 1 ∨ 7 < k) ∨ k = 1 ∨ k = 2 ∨ k = 3 ∨ k = 4 ∨ k = 5 ∨ k = 6 ∨ k = 7 := by omega
theorem sz_none (k : Int) (h : k < 1 ∨ 7 < k) : szI k = 0 := by unfold szI; split <;> (try split) <;> (try split) <;> omega
theorem sz_some (k : Int) (h1 : 1 ≤ k) (h2 : k ≤ 7) : szI k ≠ 0 := by
  rcases kinds k with h | rfl | rfl | rfl | rfl | rfl | rfl | rfl
  · omega
  all_goals decide
theorem sz_iff (k : Int) : szI k ≠ 0 ↔ 1 ≤ k ∧ k ≤ 7 := by
  constructor
  · intro h
    rcases kinds k with h' | h'
    · exact absurd (sz_none k h') h
    · omega
  · exact fun h => sz_some k h.1 h.2
theorem sz_le (k : Int) : szI k ≤ 4 := by unfold szI; split <;> (try split) <;> (try split) <;> omega
theorem many_none (k : Int) (h : k < 1 ∨ 7 < k) : manyI k = 1 := by unfold manyI; split <;> (try split) <;> (try split) <;> (try split) <;> omega
theorem many_ge (k : Int) (h : szI k ≠ 0) : 2 ≤ manyI k := by unfold manyI; unfold szI at h; (repeat' split at h) <;> (repeat' split) <;> omega
theorem many_le (k : Int) : 1 ≤ manyI k ∧ manyI k ≤ 4294967296 := by unfold manyI; (repeat' split) <;> omega
theorem least_le (k : Int) : -2147483648 ≤ leastI k ∧ leastI k ≤ 0 := by unfold leastI; (repeat' split) <;> omega
theorem least_many (k : Int) : leastI k = 0 ∨ 2 * leastI k = - manyI k := by unfold leastI manyI; (repeat' split) <;> omega

/-- The powers of 256 that are met. -/
def pwI (j : Nat) : Int := if j = 0 then 1 else if j = 1 then 256 else if j = 2 then 65536 else if j = 3 then 16777216 else 4294967296
theorem pw_zero : pwI 0 = 1 := rfl
theorem pw_step (j : Nat) (h : j < 4) : pwI j * 256 = pwI (j + 1) := by
  match j, h with
  | 0, _ => decide
  | 1, _ => decide
  | 2, _ => decide
  | 3, _ => decide
theorem pw_pos (j : Nat) : 1 ≤ pwI j ∧ pwI j ≤ 4294967296 := by unfold pwI; (repeat' split) <;> omega
theorem pw_many (k : Int) (h : k ≠ 1) : pwI (szI k) = manyI k := by
  rcases kinds k with h' | rfl | rfl | rfl | rfl | rfl | rfl | rfl
  · rw [sz_none k h', many_none k h']; rfl
  · exact absurd rfl h
  all_goals decide

/-- What a number is brought into is a value of the kind. -/
theorem wrap_is (k v : Int) (h : szI k ≠ 0) : isI k (wrapI k v) = true := by
  unfold isI wrapI
  rw [decide_eq_true_iff, if_neg h]
  refine ⟨h, ?_⟩
  by_cases h1 : k = 1
  · rw [if_pos h1]; subst h1
    have e1 : leastI 1 = 0 := rfl
    have e2 : manyI 1 = 2 := rfl
    rw [e1, e2]
    split <;> omega
  · rw [if_neg h1]
    have := many_ge k h
    have e1 := Int.emod_nonneg (v - leastI k) (show manyI k ≠ 0 by omega)
    have e2 := Int.emod_lt_of_pos (v - leastI k) (show 0 < manyI k by omega)
    omega
theorem wrap_bd (k v : Int) : -2147483648 ≤ wrapI k v ∧ wrapI k v ≤ 4294967296 := by
  by_cases h : szI k = 0
  · unfold wrapI; rw [if_pos h]; omega
  · have := wrap_is k v h
    unfold isI at this
    rw [decide_eq_true_iff] at this
    have h1 := many_le k
    have h2 := least_le k
    omega
theorem is_bd {k v : Int} (h : isI k v = true) : -2147483648 ≤ v ∧ v ≤ 4294967295 := by
  unfold isI at h
  rw [decide_eq_true_iff] at h
  have h1 := many_le k
  have h2 := least_le k
  have h3 := least_many k
  omega
theorem is_sz {k v : Int} (h : isI k v = true) : szI k ≠ 0 := by
  unfold isI at h
  rw [decide_eq_true_iff] at h
  exact h.1
/-- A value stays. -/
theorem wrap_same (k v : Int) (h : isI k v = true) : wrapI k v = v := by
  have hs := is_sz h
  unfold isI at h
  rw [decide_eq_true_iff] at h
  unfold wrapI
  rw [if_neg hs]
  by_cases h1 : k = 1
  · subst h1
    have e1 : leastI 1 = 0 := rfl
    have e2 : manyI 1 = 2 := rfl
    rw [e1, e2] at h
    rw [if_pos rfl]
    split <;> omega
  · rw [if_neg h1, Int.emod_eq_of_lt (by omega) (by omega)]
    omega
/-- As the document's own answer reckons it. -/
theorem wrap_ref (k v : Int) (h : szI k ≠ 0) (h1 : k ≠ 1) : wrapI k v = if v % manyI k > leastI k + manyI k - 1 then v % manyI k - manyI k else v % manyI k := by
  have hm := many_ge k h
  have e1 := Int.emod_nonneg v (show manyI k ≠ 0 by omega)
  have e2 := Int.emod_lt_of_pos v (show 0 < manyI k by omega)
  have hl := least_many k
  have hl2 := least_le k
  unfold wrapI
  rw [if_neg h, if_neg h1]
  have e3 : (v - leastI k) % manyI k = (v % manyI k - leastI k) % manyI k := by
    have := Int.emod_add_mul_ediv v (manyI k)
    rw [show v - leastI k = (v % manyI k - leastI k) + manyI k * (v / manyI k) by omega, Int.add_mul_emod_self_left]
  rw [e3]
  split
  · next hg =>
    have e4 : (v % manyI k - leastI k) % manyI k = (v % manyI k - leastI k - manyI k) % manyI k := by rw [Int.sub_emod_right]
    rw [e4, Int.emod_eq_of_lt (by omega) (by omega)]
    omega
  · rw [Int.emod_eq_of_lt (by omega) (by omega)]
    omega
theorem tmod_twice (v n : Int) (hn : 0 < n) : (v.tmod n + n).tmod n = v % n := by
  have h1 : -n < v.tmod n := by
    have := Int.lt_tmod_of_pos v hn
    omega
  rw [Int.tmod_eq_emod_of_nonneg (by omega), Int.add_emod_right]
  rcases Int.le_total 0 v with h | h
  · rw [Int.tmod_eq_emod_of_nonneg h, Int.emod_emod]
  · have e := Int.tmod_add_mul_tdiv v n
    rw [show v.tmod n = v + n * (- v.tdiv n) by rw [Int.mul_neg]; omega, Int.add_mul_emod_self_left]

end Go.Proofs.Ytbejajnhgoejhaa.Ic
