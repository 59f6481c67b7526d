/-
  Plain facts on arithmetic and logic of values: sums and products go round, what was divided is the quotient times what it was divided by, and what is left; bits turned twice are as they were. No program is named here. Conditions: none.
-/
import Derived.Test.YtkjijeogkemgoaaIcOps
namespace Go.Proofs.Ytkjijeogkemgoaa.Ic

theorem wrap_mod (k x : Int) (h : szI k ≠ 0) (h1 : k ≠ 1) : wrapI k x % manyI k = x % manyI k := by
  unfold wrapI
  rw [if_neg h, if_neg h1, Int.add_emod, Int.emod_emod, ← Int.add_emod]
  congr 1
  omega
theorem wrap_congr (k : Int) {x y : Int} (h1 : k ≠ 1) (he : x % manyI k = y % manyI k) : wrapI k x = wrapI k y := by
  unfold wrapI
  by_cases h : szI k = 0
  · rw [if_pos h, if_pos h]
  · rw [if_neg h, if_neg h, if_neg h1, if_neg h1, Int.sub_emod, he, ← Int.sub_emod]

/-- What IecRings asks of three values of a kind of arithmetic. -/
structure RingF (k a b c : Int) : Prop where
  comm : wrapI k (b + a) = wrapI k (a + b)
  assoc : wrapI k (a + wrapI k (b + c)) = wrapI k (wrapI k (a + b) + c)
  undo : wrapI k (wrapI k (a + b) - b) = a
  mcomm : wrapI k (b * a) = wrapI k (a * b)
  dist : wrapI k (wrapI k (a * b) + wrapI k (a * c)) = wrapI k (a * wrapI k (b + c))
theorem ring_facts (k a b c : Int) (h2 : 2 ≤ k) (h5 : k ≤ 5) (ha : isI k a = true) : RingF k a b c := by
  have h0 : szI k ≠ 0 := sz_some k (by omega) (by omega)
  have h1 : k ≠ 1 := by omega
  have hw := fun x => wrap_mod k x h0 h1
  refine ⟨by rw [Int.add_comm], ?_, ?_, by rw [Int.mul_comm], ?_⟩
  · apply wrap_congr k h1
    rw [Int.add_emod, hw, ← Int.add_emod, Int.add_emod (wrapI k (a + b)), hw, ← Int.add_emod]
    congr 1
    omega
  · have : wrapI k (wrapI k (a + b) - b) = wrapI k a := by
      apply wrap_congr k h1
      rw [Int.sub_emod, hw, ← Int.sub_emod]
      congr 1
      omega
    rw [this, wrap_same k a ha]
  · apply wrap_congr k h1
    rw [Int.add_emod, hw, hw, ← Int.add_emod, Int.mul_emod a, hw, ← Int.mul_emod, ← Int.mul_add]

/-- What is left behind a division. -/
structure DivF (k a b q r : Int) : Prop where
  hq : isI k q = true
  hr : isI k r = true
  small : (0 < b → -b < r ∧ r < b) ∧ (b < 0 → b < r ∧ r < -b)
  back : wrapI k (wrapI k (q * b) + r) = a
  sign : r = 0 ∨ (decide (r < 0) = decide (a < 0))
theorem div_facts (k a b : Int) (h2 : 2 ≤ k) (h5 : k ≤ 5) (ha : isI k a = true) : DivF k a b (wrapI k (a.tdiv b)) (wrapI k (a.tmod b)) := by
  have h0 : szI k ≠ 0 := sz_some k (by omega) (by omega)
  have h1 : k ≠ 1 := by omega
  have hw := fun x => wrap_mod k x h0 h1
  have hs : a.tmod b = 0 ∨ (decide (a.tmod b < 0) = decide (a < 0)) := by
    rcases Int.lt_or_le a 0 with h | h
    · have := Int.tmod_nonneg b (show 0 ≤ -a by omega)
      rw [Int.neg_tmod] at this
      by_cases hz : a.tmod b = 0
      · exact .inl hz
      · exact .inr (by rw [decide_eq_true h, decide_eq_true (by omega)])
    · have := Int.tmod_nonneg b h
      exact .inr (by rw [decide_eq_false (by omega), decide_eq_false (by omega)])
  have hn : (a.tmod b).natAbs ≤ a.natAbs := by rw [Int.natAbs_tmod]; exact Nat.mod_le _ _
  have hr : isI k (a.tmod b) = true := by
    unfold isI at *
    rw [decide_eq_true_iff] at *
    have hl := least_le k
    refine ⟨h0, ?_, ?_⟩
    · rcases hs with hz | hz
      · omega
      · by_cases h : a < 0
        · omega
        · rw [decide_eq_false h] at hz
          have := of_decide_eq_false hz
          omega
    · rcases hs with hz | hz
      · have := many_le k; have := least_many k; have := many_ge k h0; omega
      · by_cases h : a < 0
        · rw [decide_eq_true h] at hz
          have := of_decide_eq_true hz
          have := many_le k; have := least_many k; have := many_ge k h0
          omega
        · omega
  have hwr : wrapI k (a.tmod b) = a.tmod b := wrap_same k _ hr
  rw [hwr]
  refine ⟨wrap_is k _ h0, hr, ?_, ?_, hs⟩
  · constructor
    · intro hp
      exact ⟨Int.lt_tmod_of_pos a hp, Int.tmod_lt_of_pos a hp⟩
    · intro hp
      have e := Int.tmod_neg a b
      have h3 := Int.lt_tmod_of_pos a (show 0 < -b by omega)
      have h4 := Int.tmod_lt_of_pos a (show 0 < -b by omega)
      omega
  · have : wrapI k (wrapI k (wrapI k (a.tdiv b) * b) + a.tmod b) = wrapI k a := by
      apply wrap_congr k h1
      rw [Int.add_emod, hw, Int.mul_emod, hw, ← Int.mul_emod, ← Int.add_emod]
      congr 1
      have := Int.tmod_add_tdiv_mul a b
      omega
    rw [this, wrap_same k a ha]

/-- Bits turned: from all ones. -/
theorem not_xor (j x : Nat) (h : x < 2 ^ j) : 2 ^ j - 1 - x = (2 ^ j - 1) ^^^ x := by
  apply Nat.eq_of_testBit_eq
  intro i
  rw [Nat.testBit_xor, Nat.testBit_two_pow_sub_one]
  rw [show 2 ^ j - 1 - x = 2 ^ j - (x + 1) by omega, Nat.testBit_two_pow_sub_succ h]
  by_cases hi : i < j
  · simp [hi]
  · have : x.testBit i = false := Nat.testBit_lt_two_pow (Nat.lt_of_lt_of_le h (Nat.pow_le_pow_right (by decide) (by omega)))
    simp [hi, this]
/-- What IecLogic asks of two values of a kind of logic. -/
structure LogF (k a b : Int) : Prop where
  na : isI k (notI k a) = true
  nb : isI k (notI k b) = true
  nna : notI k (notI k a) = a
  iand : isI k (doV 7 k a b) = true
  ixor : isI k (doV 9 k a b) = true
  morgan : doV 8 k (notI k a) (notI k b) = notI k (doV 7 k a b)
  xx : doV 9 k (doV 9 k a b) b = a
  andn : doV 7 k a (notI k b) = doV 10 k a b
  orn : doV 8 k a (notI k b) = doV 11 k a b
  xorn : notI k (doV 9 k a b) = doV 12 k a b
theorem log_many (k : Int) (hk : k = 1 ∨ k = 6 ∨ k = 7) : ∃ j, j ≤ 32 ∧ manyI k = (2 ^ j : Nat) ∧ leastI k = 0 ∧ szI k ≠ 0 := by
  rcases hk with rfl | rfl | rfl
  · exact ⟨1, by decide, rfl, rfl, by decide⟩
  · exact ⟨16, by decide, rfl, rfl, by decide⟩
  · exact ⟨32, by decide, rfl, rfl, by decide⟩
theorem logic_facts (k a b : Int) (hk : k = 1 ∨ k = 6 ∨ k = 7) (ha : isI k a = true) (hb : isI k b = true) : LogF k a b := by
  obtain ⟨j, hj, hm, hl, hs⟩ := log_many k hk
  have his : ∀ x : Int, isI k x = true ↔ 0 ≤ x ∧ x < (2 ^ j : Nat) := by
    intro x
    unfold isI
    rw [decide_eq_true_iff, hm, hl]
    constructor
    · intro h; omega
    · intro h; exact ⟨hs, by omega, by omega⟩
  have hnot : ∀ X : Nat, X < 2 ^ j → notI k (X : Int) = (((2 ^ j - 1) ^^^ X : Nat) : Int) := by
    intro X hX
    unfold notI
    rw [if_pos ⟨hk, (his X).2 ⟨by omega, by omega⟩⟩, hm, ← not_xor j X hX]
    omega
  have hones : 2 ^ j - 1 < 2 ^ j := by have := Nat.two_pow_pos j; omega
  have hxl : ∀ X : Nat, X < 2 ^ j → (2 ^ j - 1) ^^^ X < 2 ^ j := fun X hX => Nat.xor_lt_two_pow hones hX
  obtain ⟨A, rfl⟩ : ∃ A : Nat, a = A := ⟨a.toNat, by have := (his a).1 ha; omega⟩
  obtain ⟨B, rfl⟩ : ∃ B : Nat, b = B := ⟨b.toNat, by have := (his b).1 hb; omega⟩
  have hA : A < 2 ^ j := by have := (his A).1 ha; omega
  have hB : B < 2 ^ j := by have := (his B).1 hb; omega
  have v7 : ∀ X Y : Nat, doV 7 k X Y = ((X &&& Y : Nat) : Int) := fun X Y => rfl
  have v8 : ∀ X Y : Nat, doV 8 k X Y = ((X ||| Y : Nat) : Int) := fun X Y => rfl
  have v9 : ∀ X Y : Nat, doV 9 k X Y = ((X ^^^ Y : Nat) : Int) := fun X Y => rfl
  have iN : ∀ X : Nat, X < 2 ^ j → isI k (X : Int) = true := fun X hX => (his X).2 ⟨by omega, by omega⟩
  have hand : A &&& B < 2 ^ j := Nat.and_lt_two_pow _ hB
  have hxor : A ^^^ B < 2 ^ j := Nat.xor_lt_two_pow hA hB
  refine ⟨?_, ?_, ?_, ?_, ?_, ?_, ?_, ?_, ?_, ?_⟩
  · rw [hnot A hA]; exact iN _ (hxl A hA)
  · rw [hnot B hB]; exact iN _ (hxl B hB)
  · rw [hnot A hA, hnot _ (hxl A hA), ← Nat.xor_assoc, Nat.xor_self, Nat.zero_xor]
  · rw [v7]; exact iN _ hand
  · rw [v9]; exact iN _ hxor
  · rw [hnot A hA, hnot B hB, v7, v8, hnot _ hand]
    congr 1
    apply Nat.eq_of_testBit_eq
    intro i
    simp only [Nat.testBit_or, Nat.testBit_xor, Nat.testBit_and, Nat.testBit_two_pow_sub_one]
    by_cases hi : i < j
    · simp [hi]
    · have e1 : A.testBit i = false := Nat.testBit_lt_two_pow (Nat.lt_of_lt_of_le hA (Nat.pow_le_pow_right (by decide) (by omega)))
      have e2 : B.testBit i = false := Nat.testBit_lt_two_pow (Nat.lt_of_lt_of_le hB (Nat.pow_le_pow_right (by decide) (by omega)))
      simp [hi, e1, e2]
  · rw [v9, v9, Nat.xor_assoc, Nat.xor_self, Nat.xor_zero]
  · rfl
  · rfl
  · rw [v9, hnot _ hxor]
    show _ = logI 9 A (notI k B)
    rw [hnot B hB]
    show _ = ((A ^^^ ((2 ^ j - 1) ^^^ B) : Nat) : Int)
    rw [← Nat.xor_assoc, ← Nat.xor_assoc, Nat.xor_comm A (2 ^ j - 1)]

end Go.Proofs.Ytkjijeogkemgoaa.Ic
