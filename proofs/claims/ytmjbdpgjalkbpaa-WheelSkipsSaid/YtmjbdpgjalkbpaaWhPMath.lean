/-
  Plain facts on timers: as many ticks at once as the soonest one has left, or fewer, are so many ticks. No program is named here. Conditions: none.
-/
import Derived.Test.YtmjbdpgjalkbpaaWhMath
namespace Go.Proofs.Ytmjbdpgjalkbpaa.Whl

theorem getD_skip (x : Wh) (n i : Nat) : (skipX x n).getD i 0 = x.getD i 0 - n := by
  induction n generalizing x with
  | zero => rfl
  | succ n ih =>
    show (skipX (tickX x) n).getD i 0 = _
    rw [ih, getD_tick]; omega
theorem skipX_length (x : Wh) (n : Nat) : (skipX x n).length = x.length := by
  induction n generalizing x with
  | zero => rfl
  | succ n ih =>
    show (skipX (tickX x) n).length = _
    rw [ih]; unfold tickX; rw [List.length_map]

/-- Behind s ticks of the first n timers, taken at once. -/
def passTo (x : Wh) (s n : Nat) : Wh := (x.take n).map (· - s) ++ x.drop n
/-- Those of the first n timers that have just s ticks left. -/
def metTo (x : Wh) (s n : Nat) : List Nat := (List.range n).filter fun i => x.getD i 0 == s

theorem passTo_zero (x : Wh) (s : Nat) : passTo x s 0 = x := by simp [passTo]
theorem passTo_length (x : Wh) (s n : Nat) : (passTo x s n).length = x.length := by
  unfold passTo
  rw [List.length_append, List.length_map, List.length_take, List.length_drop]; omega
theorem passTo_getD {x : Wh} {s n : Nat} (hn : n ≤ x.length) (i : Nat) : (passTo x s n).getD i 0 = if i < n then x.getD i 0 - s else x.getD i 0 := by
  unfold passTo
  simp only [List.getD_eq_getElem?_getD]
  by_cases h : i < n
  · rw [if_pos h, List.getElem?_append_left (by rw [List.length_map, List.length_take]; omega), List.getElem?_map, List.getElem?_take, if_pos h]
    cases x[i]? <;> simp
  · rw [if_neg h, List.getElem?_append_right (by rw [List.length_map, List.length_take]; omega), List.length_map, List.length_take, List.getElem?_drop]
    rw [show n + (i - min n x.length) = i by omega]
theorem passTo_succ {x : Wh} {s n : Nat} (hn : n < x.length) : (passTo x s n).set n (x.getD n 0 - s) = passTo x s (n + 1) := by
  refine ext_getD (by rw [List.length_set, passTo_length, passTo_length]) fun i _ => ?_
  rw [getD_set _ _ _ _ (by rw [passTo_length]; exact hn), passTo_getD (by omega), passTo_getD (by omega)]
  by_cases e : n = i
  · subst e; rw [if_pos rfl, if_pos (by omega)]
  · rw [if_neg e]
    by_cases h : i < n
    · rw [if_pos h, if_pos (by omega)]
    · rw [if_neg h, if_neg (by omega)]
theorem passTo_same {x : Wh} {s n : Nat} (hn : n < x.length) (h : x.getD n 0 = 0) : passTo x s n = passTo x s (n + 1) := by
  refine ext_getD (by rw [passTo_length, passTo_length]) fun i _ => ?_
  rw [passTo_getD (by omega), passTo_getD (by omega)]
  by_cases e : i = n
  · subst e; rw [if_neg (by omega), if_pos (by omega), h]; omega
  · by_cases h : i < n
    · rw [if_pos h, if_pos (by omega)]
    · rw [if_neg h, if_neg (by omega)]
theorem passTo_all {x : Wh} (s : Nat) (h : x.length = 16) : passTo x s 16 = skipX x s := by
  refine ext_getD (by rw [passTo_length, skipX_length]) fun i hi => ?_
  rw [passTo_length] at hi
  rw [passTo_getD (by omega), getD_skip, if_pos (by omega)]

theorem metTo_le (x : Wh) (s n : Nat) : (metTo x s n).length ≤ n := by
  unfold metTo
  exact Nat.le_trans (List.length_filter_le _ _) (by simp)
theorem metTo_succ (x : Wh) (s n : Nat) : metTo x s (n + 1) = metTo x s n ++ (if x.getD n 0 = s then [n] else []) := by
  unfold metTo
  rw [List.range_succ, List.filter_append]
  congr 1
  by_cases h : x.getD n 0 = s
  · rw [if_pos h, List.filter_cons_of_pos (by rw [h, beq_self_eq_true]), List.filter_nil]
  · rw [if_neg h, List.filter_cons_of_neg (by rw [beq_iff_eq]; exact h), List.filter_nil]

/-- No timer that is set has fewer than s ticks left. -/
def Far (x : Wh) (s : Nat) : Prop := ∀ i, i < 16 → x.getD i 0 ≠ 0 → s ≤ x.getD i 0

theorem come_none {x : Wh} (h : Far x 2) : comeL x = [] := by
  unfold comeL comeTo
  rw [List.filter_eq_nil_iff]
  intro i hi
  rw [List.mem_range] at hi
  rw [beq_iff_eq]
  intro e
  have := h i hi (by omega)
  omega
theorem Far.tick {x : Wh} {s : Nat} (h : Far x (s + 1)) : Far (tickX x) s := fun i hi h0 => by
  rw [getD_tick] at h0 ⊢
  have := h i hi (by omega)
  omega
/-- What s ticks make come, if none comes ahead of the last one. -/
theorem skipL_far {x : Wh} {s : Nat} (h1 : 1 ≤ s) (h : Far x s) : skipL x s = metTo x s 16 := by
  induction s generalizing x with
  | zero => omega
  | succ s ih =>
    by_cases h0 : s = 0
    · subst h0
      show comeL x ++ [] = _
      rw [List.append_nil]
      rfl
    · show comeL x ++ skipL (tickX x) s = _
      rw [come_none (fun i hi hz => by have := h i hi hz; omega), List.nil_append, ih (by omega) h.tick]
      unfold metTo
      refine List.filter_congr fun i hi => ?_
      rw [getD_tick]
      rw [List.mem_range] at hi
      by_cases hz : x.getD i 0 = 0
      · rw [hz]
        rw [show (0 - 1 == s) = false by rw [beq_eq_false_iff_ne]; omega, show (0 == s + 1) = false by rw [beq_eq_false_iff_ne]; omega]
      · have := h i hi hz
        by_cases e : x.getD i 0 = s + 1
        · rw [e, show (s + 1 - 1 == s) = true by rw [beq_iff_eq]; omega, beq_self_eq_true]
        · rw [show (x.getD i 0 - 1 == s) = false by rw [beq_eq_false_iff_ne]; omega, show (x.getD i 0 == s + 1) = false by rw [beq_eq_false_iff_ne]; exact e]

theorem soonTo_far (x : Wh) (n i : Nat) (hi : i < n) (h0 : x.getD i 0 ≠ 0) : soonTo x n ≠ 0 ∧ soonTo x n ≤ x.getD i 0 := by
  induction n with
  | zero => omega
  | succ n ih =>
    unfold soonTo lessOf
    by_cases e : i = n
    · subst e
      by_cases hc : x.getD i 0 ≠ 0 ∧ (soonTo x i = 0 ∨ x.getD i 0 < soonTo x i)
      · rw [if_pos hc]; exact ⟨h0, Nat.le_refl _⟩
      · rw [if_neg hc]
        constructor
        · intro hz; exact hc ⟨h0, .inl hz⟩
        · by_cases hl : x.getD i 0 < soonTo x i
          · exact absurd ⟨h0, .inr hl⟩ hc
          · omega
    · obtain ⟨h1, h2⟩ := ih (by omega)
      by_cases hc : x.getD n 0 ≠ 0 ∧ (soonTo x n = 0 ∨ x.getD n 0 < soonTo x n)
      · rw [if_pos hc]
        refine ⟨hc.1, ?_⟩
        rcases hc.2 with hz | hl
        · exact absurd hz h1
        · omega
      · rw [if_neg hc]; exact ⟨h1, h2⟩
theorem soon_far (x : Wh) (s : Nat) (h : s ≤ soonTo x 16) : Far x s := fun i hi h0 => Nat.le_trans h (soonTo_far x 16 i hi h0).2

/-- Where none is set, ticks change nothing. -/
theorem skip_none {x : Wh} (hl : x.length = 16) (h : soonTo x 16 = 0) (n : Nat) : skipX x n = x ∧ skipL x n = [] := by
  have hz : ∀ i, x.getD i 0 = 0 := fun i => by
    by_cases hi : i < 16
    · by_cases h0 : x.getD i 0 = 0
      · exact h0
      · exact absurd h (soonTo_far x 16 i hi h0).1
    · simp only [List.getD_eq_getElem?_getD]
      rw [List.getElem?_eq_none (by omega)]; rfl
  have ht : tickX x = x := ext_getD (by unfold tickX; rw [List.length_map]) fun i _ => by rw [getD_tick, hz i]
  induction n with
  | zero => exact ⟨rfl, rfl⟩
  | succ n ih =>
    constructor
    · show skipX (tickX x) n = x
      rw [ht]; exact ih.1
    · show comeL x ++ skipL (tickX x) n = []
      rw [ht, ih.2, come_none (fun i _ h0 => absurd (hz i) h0)]; rfl

end Go.Proofs.Ytmjbdpgjalkbpaa.Whl
