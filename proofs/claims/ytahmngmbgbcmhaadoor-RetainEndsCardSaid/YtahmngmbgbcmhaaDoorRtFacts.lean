/-
  Plain facts on records: one is read of its slot as it was; behind a commit that was torn the newest is what it was, behind a whole one it is the new one. No program is named here. Conditions: none.
-/
import Derived.Test.YtahmngmbgbcmhaaDoorRtPlain
namespace Go.Proofs.YtahmngmbgbcmhaaDoor.Ret
open Oct
open Sto (lay lay_length lay_getD lay_at ext_getD)

theorem slot_parts (r : Rc) : slot r = be r.q 4 ++ (be r.i 2 ++ (be r.d.size 1 ++ (r.d.data.toList ++ (List.replicate (71 - (pre r).length) 0 ++ (sealL (body r)).drop (body r).length)))) := by
  have h : ∀ x : List UInt8, (body r ++ x).drop (body r).length = x := fun x => List.drop_left
  show sealL (body r) = _
  unfold sealL
  rw [h]
  unfold body
  generalize List.replicate (71 - (pre r).length) (0 : UInt8) = Y
  generalize [UInt8.ofNat ((Sums.more 0xFFFF#16 (pre r ++ Y)).toNat / 256), UInt8.ofNat ((Sums.more 0xFFFF#16 (pre r ++ Y)).toNat % 256)] = Z
  unfold pre
  simp only [List.append_assoc]

theorem recOf_slot {r : Rc} (h : r.Ok) : recOf (slot r) = r := by
  obtain ⟨hq, hi, hd⟩ := h
  have l4 : (be r.q 4).length = 4 := be_length _ _
  have l2 : (be r.i 2).length = 2 := be_length _ _
  have l1 : (be r.d.size 1).length = 1 := be_length _ _
  have p4 : (256 : Nat) ^ 4 = 4294967296 := by decide
  have p2 : (256 : Nat) ^ 2 = 65536 := by decide
  have p1 : (256 : Nat) ^ 1 = 256 := by decide
  have e4 : num (be r.q 4) = r.q := by rw [num_be, p4]; omega
  have e2 : num (be r.i 2) = r.i := by rw [num_be, p2]; omega
  have e1 : num (be r.d.size 1) = r.d.size := by rw [num_be, p1]; omega
  unfold recOf
  rw [slot_parts r]
  generalize List.replicate (71 - (pre r).length) 0 ++ (sealL (body r)).drop (body r).length = Z
  have d4 : (be r.q 4 ++ (be r.i 2 ++ (be r.d.size 1 ++ (r.d.data.toList ++ Z)))).drop 4 = be r.i 2 ++ (be r.d.size 1 ++ (r.d.data.toList ++ Z)) := List.drop_left' l4
  have d6 : (be r.q 4 ++ (be r.i 2 ++ (be r.d.size 1 ++ (r.d.data.toList ++ Z)))).drop 6 = be r.d.size 1 ++ (r.d.data.toList ++ Z) := by
    rw [show (6 : Nat) = 4 + 2 from rfl, ← List.drop_drop, d4, List.drop_left' l2]
  have d7 : (be r.q 4 ++ (be r.i 2 ++ (be r.d.size 1 ++ (r.d.data.toList ++ Z)))).drop 7 = r.d.data.toList ++ Z := by
    rw [show (7 : Nat) = 6 + 1 from rfl, ← List.drop_drop, d6, List.drop_left' l1]
  rw [List.take_left' l4, d4, List.take_left' l2, d6, List.take_left' l1, d7, e4, e2, e1, List.take_left' (Sto.size_list r.d), S_of]

theorem slot_six {r : Rc} (h : r.Ok) : ((slot r).getD 6 0).toNat = r.d.size := by
  have := take_one (slot r) (by rw [slot_length h.d]; omega)
  rw [← this]
  have hr := recOf_slot h
  have hl : (be r.d.size 1).length = 1 := be_length _ _
  have p1 : (256 : Nat) ^ 1 = 256 := by decide
  have hd := h.d
  rw [slot_parts r]
  have d6 : ∀ Z, (be r.q 4 ++ (be r.i 2 ++ (be r.d.size 1 ++ Z))).drop 6 = be r.d.size 1 ++ Z := fun Z => by
    rw [show (6 : Nat) = 4 + 2 from rfl, ← List.drop_drop, List.drop_left' (be_length _ _), List.drop_left' (be_length _ _)]
  rw [d6, List.take_left' hl, num_be, p1]
  omega

/-- A slot with the mark that it is whole by. -/
theorem whole_yes {r : Rc} (h : r.Ok) : wholeB (165 :: slot r) = true ∧ wholeV (165 :: slot r) = r := by
  have h0 : ((165 :: slot r).getD 0 0).toNat = 165 := rfl
  have h7 : ((165 :: slot r).getD 7 0).toNat = r.d.size := by
    rw [← slot_six h]; simp [List.getD_eq_getElem?_getD]
  have hn : ¬ (((165 :: slot r).getD 0 0).toNat ≠ 165 ∨ 64 < ((165 :: slot r).getD 7 0).toNat) := by
    rw [h7]; have := h.d; omega
  unfold wholeB wholeV
  rw [if_neg hn, if_neg hn]
  simp [recOf_slot h]

theorem whole_no {l : List UInt8} (h : l.getD 0 0 = 0) : wholeB l = false := by
  unfold wholeB
  rw [if_pos (.inl (by rw [h]; decide))]

theorem cur_outside (l : List UInt8) (k : Nat) (sl : List UInt8) (i : Nat) (hi : i < k ∨ k + 74 ≤ i) : ∀ j, j ≤ 75 → (cur l k sl j).getD i 0 = l.getD i 0 := by
  intro j
  induction j with
  | zero => intro _; rfl
  | succ j ih =>
    intro hj
    have hp := plcs_at k j (by omega)
    have hne : (plcs k).getD j 0 ≠ i := by rw [hp]; split <;> omega
    rw [cur, List.getD_eq_getElem?_getD, List.getElem?_set_ne hne, ← List.getD_eq_getElem?_getD]
    exact ih (by omega)

theorem cur_mark {l : List UInt8} {k : Nat} {sl : List UInt8} (hs : sl.length = 73) (hk : k + 74 ≤ l.length) (j : Nat) (h1 : 1 ≤ j) (h2 : j ≤ 74) : (cur l k sl j).getD k 0 = 0 := by
  have h := cur_one hs hk (j - 1) (by omega)
  rw [show j - 1 + 1 = j by omega] at h
  have hl : (lay l k [0]).length = l.length := lay_length (by simp; omega)
  have ht : (sl.take (j - 1)).length ≤ 73 := by rw [List.length_take]; omega
  rw [h, lay_getD (by rw [hl]; omega), if_neg (by omega), lay_getD (by simp; omega), if_pos (by simp)]
  simp

theorem part_ext {a b : List UInt8} {k n : Nat} (ha : k + n ≤ a.length) (hb : b.length = n) (h : ∀ i, i < n → a.getD (k + i) 0 = b.getD i 0) : (a.drop k).take n = b := by
  refine ext_getD (by rw [List.length_take, List.length_drop, hb]; omega) fun i hi => ?_
  rw [List.length_take, List.length_drop] at hi
  rw [← h i (by omega)]
  simp only [List.getD_eq_getElem?_getD, List.getElem?_take, List.getElem?_drop]
  rw [if_pos (by omega)]

theorem cur_whole {l : List UInt8} {k : Nat} {sl : List UInt8} (hs : sl.length = 73) (hk : k + 74 ≤ l.length) : ((cur l k sl 75).drop k).take 74 = 165 :: sl := by
  have hl : (lay l k [0]).length = l.length := lay_length (by simp; omega)
  have hl2 : (lay (lay l k [0]) (k + 1) sl).length = l.length := by rw [lay_length (by omega), hl]
  refine part_ext (by rw [cur_length]; exact hk) (by simp [hs]) fun i hi => ?_
  rw [cur_all hs hk, lay_getD (by simp; omega)]
  by_cases h : i = 0
  · subst h
    rw [if_pos (by simp)]
    simp
  · rw [if_neg (by simp; omega), lay_getD (by omega), if_pos (by omega)]
    obtain ⟨i, rfl⟩ : ∃ j, i = j + 1 := ⟨i - 1, by omega⟩
    rw [show k + (i + 1) - (k + 1) = i by omega]
    simp [List.getD_eq_getElem?_getD]

theorem part_same {a b : List UInt8} {k n : Nat} (ha : k + n ≤ a.length) (hl : a.length = b.length) (h : ∀ i, i < n → a.getD (k + i) 0 = b.getD (k + i) 0) : (a.drop k).take n = (b.drop k).take n := by
  refine part_ext ha (by rw [List.length_take, List.length_drop]; omega) fun i hi => ?_
  rw [h i hi]
  simp only [List.getD_eq_getElem?_getD, List.getElem?_take, List.getElem?_drop]
  rw [if_pos hi]

theorem first_getD {l : List UInt8} {k : Nat} : ((l.drop k).take 74).getD 0 0 = l.getD k 0 := by
  simp [List.getD_eq_getElem?_getD]

/-- Of two slots of which the one that isn't the newest turns unwhole, the newest is what it was. -/
theorem pick_torn (x y : Bool) (a b a' b' : Rc) : 
    (pickI x y a.q b.q = 0 → pickI x false a.q b'.q = 0 ∧ pickR x false a b' = pickR x y a b) ∧
    (pickI x y a.q b.q ≠ 0 → pickI false y a'.q b.q = pickI x y a.q b.q ∧ pickR false y a' b = pickR x y a b) := by
  cases x <;> cases y <;> by_cases hb : b.q ≤ a.q <;> simp [pickI, pickR, hb]

/-- .. and turns to one with a greater number, it is the newest. -/
theorem pick_new (x y : Bool) (a b r : Rc) :
    (pickI x y a.q b.q = 0 → r.q = (pickR x y a b).q + 1 → pickI x true a.q r.q = 1 ∧ pickR x true a r = r) ∧
    (pickI x y a.q b.q ≠ 0 → r.q = (pickR x y a b).q + 1 → pickI true y r.q b.q = 0 ∧ pickR true y r b = r) := by
  cases x <;> cases y <;> by_cases hb : b.q ≤ a.q <;> simp [pickI, pickR, hb]
  all_goals (intro h; exact ⟨by omega, fun h2 => absurd h2 (by omega)⟩)

/-- Behind a commit of which so many bytes were written. -/
theorem new_torn {l : List UInt8} {r : Rc} (hl : 148 ≤ l.length) (hr : r.Ok) (j : Nat) (hj : j < 75) : newI (cur l (goes l) (slot r) j) = newI l ∧ newR (cur l (goes l) (slot r) j) = newR l := by
  have hs := slot_length hr.d
  by_cases h0 : j = 0
  · subst h0; exact ⟨rfl, rfl⟩
  unfold goes
  have hp := pick_torn (wholeB (l.take 74)) (wholeB ((l.drop 74).take 74)) (wholeV (l.take 74)) (wholeV ((l.drop 74).take 74))
  by_cases hi : newI l = 0
  · rw [if_pos hi]
    have hA : (cur l 74 (slot r) j).take 74 = l.take 74 := by
      have := part_same (a := cur l 74 (slot r) j) (b := l) (k := 0) (n := 74) (by rw [cur_length]; omega) (cur_length _ _ _ _) (fun i hi => by rw [Nat.zero_add]; exact cur_outside l 74 (slot r) i (.inl hi) j (by omega))
      simpa using this
    have hB : wholeB (((cur l 74 (slot r) j).drop 74).take 74) = false := whole_no (by rw [first_getD]; exact cur_mark hs (by omega) j (by omega) (by omega))
    have := (hp Rc.zero (wholeV (((cur l 74 (slot r) j).drop 74).take 74))).1 hi
    constructor
    · unfold newI
      rw [hA, hB, this.1]
      exact hi.symm
    · unfold newR
      rw [hA, hB, this.2]
  · rw [if_neg hi]
    have hB : ((cur l 0 (slot r) j).drop 74).take 74 = (l.drop 74).take 74 := part_same (by rw [cur_length]; omega) (cur_length _ _ _ _) (fun i hi => cur_outside l 0 (slot r) (74 + i) (.inr (by omega)) j (by omega))
    have hA : wholeB ((cur l 0 (slot r) j).take 74) = false := whole_no (by
      have := first_getD (l := cur l 0 (slot r) j) (k := 0)
      rw [List.drop_zero] at this
      rw [this]; exact cur_mark hs (by omega) j (by omega) (by omega))
    have := (hp (wholeV ((cur l 0 (slot r) j).take 74)) Rc.zero).2 hi
    constructor
    · unfold newI
      rw [hA, hB]
      exact this.1
    · unfold newR
      rw [hA, hB]
      exact this.2

theorem new_whole {l : List UInt8} {r : Rc} (hl : 148 ≤ l.length) (hr : r.Ok) (hq : r.q = (newR l).q + 1) : 0 ≤ newI (cur l (goes l) (slot r) 75) ∧ newR (cur l (goes l) (slot r) 75) = r := by
  have hs := slot_length hr.d
  obtain ⟨w1, w2⟩ := whole_yes hr
  unfold goes
  have hp := pick_new (wholeB (l.take 74)) (wholeB ((l.drop 74).take 74)) (wholeV (l.take 74)) (wholeV ((l.drop 74).take 74)) r
  by_cases hi : newI l = 0
  · rw [if_pos hi]
    have hA : (cur l 74 (slot r) 75).take 74 = l.take 74 := by
      have := part_same (a := cur l 74 (slot r) 75) (b := l) (k := 0) (n := 74) (by rw [cur_length]; omega) (cur_length _ _ _ _) (fun i hi => by rw [Nat.zero_add]; exact cur_outside l 74 (slot r) i (.inl hi) 75 (by omega))
      simpa using this
    have hB := cur_whole (l := l) (k := 74) hs (by omega)
    have := hp.1 hi hq
    constructor
    · unfold newI
      rw [hA, hB, w1, w2, this.1]
      decide
    · unfold newR
      rw [hA, hB, w1, w2, this.2]
  · rw [if_neg hi]
    have hB : ((cur l 0 (slot r) 75).drop 74).take 74 = (l.drop 74).take 74 := part_same (by rw [cur_length]; omega) (cur_length _ _ _ _) (fun i hi => cur_outside l 0 (slot r) (74 + i) (.inr (by omega)) 75 (by omega))
    have hA := cur_whole (l := l) (k := 0) hs (by omega)
    rw [List.drop_zero] at hA
    have := hp.2 hi hq
    constructor
    · unfold newI
      rw [hA, hB, w1, w2, this.1]
      decide
    · unfold newR
      rw [hA, hB, w1, w2, this.2]

end Go.Proofs.YtahmngmbgbcmhaaDoor.Ret
