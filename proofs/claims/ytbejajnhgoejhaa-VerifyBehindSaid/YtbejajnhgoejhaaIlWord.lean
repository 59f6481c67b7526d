/-
  Plain facts on words, digits and lines. No program is named here. Conditions: none.
-/
import Derived.Test.YtbejajnhgoejhaaIlMath
namespace Go.Proofs.Ytbejajnhgoejhaa.Il
open Go.Proofs.Ytbejajnhgoejhaa.Ic

theorem way_right {i : In} (h : Way i) : rightI i = true := by
  unfold rightI
  cases h with
  | lit h ha hp hn => rw [if_pos (by simp [h, ha])]; simp [hp, hn]
  | get h h1 h4 ht hn =>
    have hw : writesB i.op = false := by
      unfold readsB at h; unfold writesB; rw [decide_eq_true_iff] at h; rw [decide_eq_false_iff_not]; omega
    rw [if_neg (by simp [h]; omega), if_pos (by simp [h])]; simp [hw, h1, h4, ht, hn]
  | put h h1 h4 ht hn =>
    have hr : readsB i.op = false := by
      unfold writesB at h; unfold readsB; rw [decide_eq_true_iff] at h; rw [decide_eq_false_iff_not]; omega
    rw [if_neg (by simp [hr]), if_pos (by simp [h])]
    have : i.ar ≠ 1 := by omega
    simp [h4, ht, hn, this]; omega
  | jump h hk ha h0 h1 hn =>
    have hr : readsB i.op = false := by
      unfold jumpB at h; unfold readsB; rw [decide_eq_true_iff] at h; rw [decide_eq_false_iff_not]; omega
    have hw : writesB i.op = false := by
      unfold jumpB at h; unfold writesB; rw [decide_eq_true_iff] at h; rw [decide_eq_false_iff_not]; omega
    rw [if_neg (by simp [hr]), if_neg (by simp [hr, hw]), if_pos h]
    simp [hk, ha, hn, h0, h1]
  | bare h hk ha hp hn =>
    have hr : readsB i.op = false ∧ writesB i.op = false ∧ jumpB i.op = false := by
      unfold bareB at h; unfold readsB writesB jumpB; rw [decide_eq_true_iff] at h
      refine ⟨?_, ?_, ?_⟩ <;> rw [decide_eq_false_iff_not] <;> omega
    rw [if_neg (by simp [hr.1]), if_neg (by simp [hr.1, hr.2.1]), if_neg (by simp [hr.2.2]), if_pos (by simp [h])]
    simp [hk, ha, hp, hn]
  | close h hk ha hp hn =>
    have hr : readsB i.op = false ∧ writesB i.op = false ∧ jumpB i.op = false := by
      rw [h]; decide
    rw [if_neg (by simp [hr.1]), if_neg (by simp [hr.1, hr.2.1]), if_neg (by simp [hr.2.2]), if_pos (by simp [h])]
    simp [hk, ha, hp, hn]
  | conv h hk ha hp hn =>
    have hr : readsB i.op = false ∧ writesB i.op = false ∧ jumpB i.op = false ∧ bareB i.op = false := by
      rw [h]; decide
    rw [if_neg (by simp [hr.1]), if_neg (by simp [hr.1, hr.2.1]), if_neg (by simp [hr.2.2]), if_neg (by rw [h]; decide), if_pos h]
    simp [hk, ha, hp, hn]
  | opens h hk ha hr2 hp hn =>
    have hr : readsB i.op = false ∧ writesB i.op = false ∧ jumpB i.op = false ∧ bareB i.op = false := by
      rw [h]; decide
    rw [if_neg (by simp [hr.1]), if_neg (by simp [hr.1, hr.2.1]), if_neg (by simp [hr.2.2]), if_neg (by rw [h]; decide), if_neg (by rw [h]; decide), if_pos h]
    simp [hk, ha, hp, hn, hr2]
  | timer h hk h3 h4 h0 h1 hn hm =>
    have hr : readsB i.op = false ∧ writesB i.op = false ∧ jumpB i.op = false ∧ bareB i.op = false ∧ i.op ≠ 33 ∧ i.op ≠ 31 ∧ i.op ≠ 32 := by
      rcases h with h | h <;> rw [h] <;> decide
    rw [if_neg (by simp [hr.1]), if_neg (by simp [hr.1, hr.2.1]), if_neg (by simp [hr.2.2]), if_neg (by simp [hr.2.2.2.1, hr.2.2.2.2.1]), if_neg hr.2.2.2.2.2.1, if_neg hr.2.2.2.2.2.2, if_pos h]
    simp [hk, h3, h4, h0, h1, hn, hm]
  | trig h hk h3 h4 h0 h1 hn =>
    have hr : readsB i.op = false ∧ writesB i.op = false ∧ jumpB i.op = false ∧ bareB i.op = false ∧ i.op ≠ 33 ∧ i.op ≠ 31 ∧ i.op ≠ 32 ∧ ¬ (i.op = 34 ∨ i.op = 35) := by
      rw [h]; decide
    rw [if_neg (by simp [hr.1]), if_neg (by simp [hr.1, hr.2.1]), if_neg (by simp [hr.2.2]), if_neg (by simp [hr.2.2.2.1, hr.2.2.2.2.1]), if_neg hr.2.2.2.2.2.1, if_neg hr.2.2.2.2.2.2.1, if_neg hr.2.2.2.2.2.2.2, if_pos h]
    simp [hk, h3, h4, h0, h1, hn]

/-! ### Split -/
theorem split_ne (c : UInt8) (s : Bs) : splitB c s ≠ [] := by
  induction s with
  | nil => simp [splitB]
  | cons x s ih =>
    unfold splitB
    split
    · simp
    · split <;> simp
theorem split_free {c : UInt8} {s : Bs} (h : c ∉ s) : splitB c s = [s] := by
  induction s with
  | nil => rfl
  | cons x s ih =>
    simp at h
    unfold splitB
    rw [if_neg (fun e => h.1 e.symm), ih h.2]
theorem split_app {c : UInt8} {a b : Bs} (h : c ∉ a) : splitB c (a ++ c :: b) = a :: splitB c b := by
  induction a with
  | nil => simp [splitB]
  | cons x a ih =>
    simp at h
    rw [List.cons_append, splitB, if_neg (fun e => h.1 e.symm), ih h.2]
theorem split_two {c : UInt8} {a b : Bs} (h : c ∉ a) (h2 : c ∉ b) : splitB c (a ++ c :: b) = [a, b] := by
  rw [split_app h, split_free h2]
theorem cut_free {c : UInt8} {s : Bs} (h : c ∉ s) : cutB c s = s := by
  unfold cutB
  induction s with
  | nil => rfl
  | cons x s ih =>
    simp at h
    rw [List.takeWhile_cons, if_pos (by simp; exact fun e => h.1 e.symm), ih h.2]
theorem words_one {a : Bs} (h : a ≠ []) (h1 : 32 ∉ a) (h2 : 59 ∉ a) : wordsB a = [a] := by
  unfold wordsB
  rw [cut_free h2, split_free h1]
  simp [h]
theorem words_two {a b : Bs} (h : a ≠ []) (hb : b ≠ []) (h1 : 32 ∉ a) (h2 : 59 ∉ a) (h3 : 32 ∉ b) (h4 : 59 ∉ b) : wordsB (a ++ 32 :: b) = [a, b] := by
  unfold wordsB
  rw [cut_free (by simp; exact ⟨h2, h4⟩), split_two h1 h3]
  simp [h, hb]
theorem words_nil : wordsB [] = [] := by decide

/-! ### Digits -/
theorem dec_lt (u : Nat) (h : u < 10) : Lib.decDigits u = [UInt8.ofNat (48 + u)] := by rw [Lib.decDigits, dif_pos h]
theorem dec_ge (u : Nat) (h : ¬ u < 10) : Lib.decDigits u = Lib.decDigits (u / 10) ++ [UInt8.ofNat (48 + u % 10)] := by rw [Lib.decDigits, dif_neg h]
theorem dig_fin : ∀ k : Fin 10, digitB (UInt8.ofNat (48 + k.val)) = true ∧ (UInt8.ofNat (48 + k.val)).toNat = 48 + k.val := by decide
theorem dec_all (u : Nat) : (Lib.decDigits u).all digitB = true := by
  induction u using Nat.strongRecOn with
  | _ u ih =>
    by_cases h : u < 10
    · rw [dec_lt u h, List.all_cons, List.all_nil, (dig_fin ⟨u, h⟩).1]; rfl
    · rw [dec_ge u h, List.all_append, ih (u / 10) (by omega), List.all_cons, List.all_nil, (dig_fin ⟨u % 10, by omega⟩).1]; rfl
theorem dec_mem {u : Nat} {c : UInt8} (h : c ∈ Lib.decDigits u) : digitB c = true := by
  have := dec_all u
  rw [List.all_eq_true] at this
  exact this c h
theorem dec_nonempty (u : Nat) : Lib.decDigits u ≠ [] := by
  by_cases h : u < 10
  · rw [dec_lt u h]; simp
  · rw [dec_ge u h]; simp
theorem val_snoc (s : Bs) (c : UInt8) : valB (s ++ [c]) = 10 * valB s + (c.toNat - 48) := by unfold valB; rw [List.foldl_append]; rfl
theorem val_dec (u : Nat) : valB (Lib.decDigits u) = u := by
  induction u using Nat.strongRecOn with
  | _ u ih =>
    by_cases h : u < 10
    · rw [dec_lt u h]
      show 10 * 0 + ((UInt8.ofNat (48 + u)).toNat - 48) = u
      rw [(dig_fin ⟨u, h⟩).2]; simp
    · rw [dec_ge u h, val_snoc, ih (u / 10) (by omega), (dig_fin ⟨u % 10, by omega⟩).2]
      show 10 * (u / 10) + (48 + u % 10 - 48) = u
      omega
theorem dec_length_le (k u : Nat) (hk : 1 ≤ k) (h : u < 10 ^ k) : (Lib.decDigits u).length ≤ k := by
  induction k generalizing u with
  | zero => omega
  | succ k ih =>
    by_cases h1 : u < 10
    · rw [dec_lt u h1]; simp
    · rw [dec_ge u h1, List.length_append]
      rcases Nat.eq_zero_or_pos k with rfl | h2
      · simp at h; omega
      · have := ih (u / 10) h2 (by rw [Nat.pow_succ] at h; omega)
        simp; omega
theorem dec_head (u : Nat) (h : 1 ≤ u) : (Lib.decDigits u).head? ≠ some 48 := by
  induction u using Nat.strongRecOn with
  | _ u ih =>
    by_cases h1 : u < 10
    · rw [dec_lt u h1, List.head?_cons]
      intro e
      have := congrArg UInt8.toNat (Option.some.inj e)
      rw [(dig_fin ⟨u, h1⟩).2] at this
      have h48 : (48 : UInt8).toNat = 48 := rfl
      rw [h48] at this
      show False
      have : 48 + u = 48 := this
      omega
    · rw [dec_ge u h1, List.head?_append]
      have := ih (u / 10) (by omega) (by omega)
      cases hd : (Lib.decDigits (u / 10)).head? with
      | none => rw [List.head?_eq_none_iff] at hd; exact absurd hd (dec_nonempty _)
      | some c => rw [hd] at this; simpa using this
theorem num_dec (most u : Nat) (hm : 1 ≤ most) (h : u < 10 ^ most) : numB most (Lib.decDigits u) = some u := by
  unfold numB
  rw [if_pos ⟨dec_nonempty u, dec_length_le most u hm h, dec_all u⟩, val_dec]
theorem small_dec (u : Nat) (h : u < 100) : smallB (Lib.decDigits u) = some u := by
  unfold smallB
  rw [if_neg, num_dec 2 u (by omega) (by omega)]
  rintro ⟨h1, h2⟩
  rcases Nat.eq_zero_or_pos u with rfl | h3
  · rw [dec_lt 0 (by omega)] at h1; simp at h1
  · exact dec_head u h3 h2
theorem dec_inj {a b : Nat} (h : Lib.decDigits a = Lib.decDigits b) : a = b := by rw [← val_dec a, ← val_dec b, h]
theorem itoa_pos (n : Int) (h : 0 ≤ n) : Lib.itoa n = Lib.decDigits n.toNat := by unfold Lib.itoa; rw [if_neg (by omega)]
theorem itoa_mem {n : Int} {c : UInt8} (h : c ∈ Lib.itoa n) : c = 45 ∨ digitB c = true := by
  unfold Lib.itoa at h
  split at h
  · rcases List.mem_cons.1 h with h | h
    · exact .inl h
    · exact .inr (dec_mem h)
  · exact .inr (dec_mem h)
theorem digit_ne {c d : UInt8} (h : digitB c = true) (hd : digitB d = false) : c ≠ d := fun e => by rw [e, hd] at h; cases h
theorem sign_itoa (n : Int) (h1 : -9999999999 ≤ n) (h2 : n ≤ 9999999999) : signB (Lib.itoa n) = some n := by
  unfold Lib.itoa
  by_cases h : n < 0
  · rw [if_pos h]
    unfold signB
    dsimp only
    rw [if_pos rfl, num_dec 10 _ (by omega) (by omega)]
    simp; omega
  · rw [if_neg h]
    have hd := num_dec 10 n.toNat (by omega) (by omega)
    have hm := @dec_mem n.toNat
    cases e : Lib.decDigits n.toNat with
    | nil => exact absurd e (dec_nonempty _)
    | cons c t =>
      rw [e] at hd
      unfold signB
      dsimp only
      rw [if_neg (digit_ne (hm (by rw [e]; simp)) (by decide)), hd]
      simp; omega

end Go.Proofs.Ytbejajnhgoejhaa.Il
