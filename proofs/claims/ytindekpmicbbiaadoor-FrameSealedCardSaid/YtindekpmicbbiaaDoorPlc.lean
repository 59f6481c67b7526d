/-
  Bytes in pieces by their places: plain facts. Conditions: none.
-/
import Derived.Test.YtindekpmicbbiaaDoorRFm
namespace Go.Proofs.YtindekpmicbbiaaDoor
open Go.RowKit
open Oct Sums

set_option linter.unusedSimpArgs false

theorem be_add (k : Nat) : ∀ (j m c : Nat), j ≤ k → be (c * 256 ^ k + m) j = be m j
  | 0, _, _, _ => rfl
  | j + 1, m, c, h => by
    unfold be
    rw [be_add k j m c (by omega)]
    congr 1
    have e : c * 256 ^ k = 256 ^ j * (c * 256 ^ (k - j - 1) * 256) := by
      have h1 : (256 : Nat) ^ k = 256 ^ j * (256 ^ (k - j - 1) * 256) := by
        rw [← Nat.pow_succ, ← Nat.pow_add]; congr 1; omega
      rw [h1, ← Nat.mul_assoc, ← Nat.mul_assoc, ← Nat.mul_assoc, Nat.mul_comm c (256 ^ j), Nat.mul_assoc (256 ^ j) c]
    rw [e, Nat.add_comm, Nat.add_mul_div_left _ _ (Nat.pow_pos (by decide))]
    apply UInt8.toNat_inj.1
    simp
theorem numOf_split (l : List UInt8) : ∀ m, numOf m l = m * 256 ^ l.length + numOf 0 l := by
  induction l with
  | nil => intro m; simp [numOf]
  | cons x l ih =>
    intro m
    have e1 : numOf m (x :: l) = numOf (m * 256 + x.toNat) l := rfl
    have e2 : numOf 0 (x :: l) = numOf (0 * 256 + x.toNat) l := rfl
    rw [e1, e2, ih (m * 256 + x.toNat), ih (0 * 256 + x.toNat), List.length_cons, Nat.pow_succ, Nat.add_mul, Nat.zero_mul, Nat.zero_add, Nat.mul_comm (256 ^ l.length) 256, ← Nat.mul_assoc, Nat.add_assoc]
theorem num_cons (c : UInt8) (r : List UInt8) : num (c :: r) = c.toNat * 256 ^ r.length + num r := by
  have e1 : num (c :: r) = numOf (0 * 256 + c.toNat) r := rfl
  rw [e1, numOf_split, Nat.zero_mul, Nat.zero_add]
  rfl
theorem be_succ (n k : Nat) : be n (k + 1) = UInt8.ofNat (n / 256 ^ k) :: be n k := rfl
theorem be_num : ∀ (x : List UInt8), be (num x) x.length = x
  | [] => rfl
  | c :: r => by
    have h1 := be_num r
    have h2 := num_small r r.length (Nat.le_refl _)
    rw [num_cons, List.length_cons]
    rw [be_succ]
    rw [be_add r.length r.length _ _ (Nat.le_refl _), h1]
    congr 1
    rw [Nat.mul_comm, Nat.mul_add_div (Nat.pow_pos (by decide)), Nat.div_eq_of_lt h2]
    apply UInt8.toNat_inj.1
    simp

/-- A piece of bytes, by its place. -/
theorem pcs (s : ByteArray) (a k m : Nat) (h : a + k ≤ m) (hm : m ≤ s.size) : (s.data.toList.take m).drop a = be (numAt s a k) k ++ (s.data.toList.take m).drop (a + k) := by
  have e : ((s.data.toList.drop a).take k) = (((s.data.toList.take m).drop a).take k) := by
    rw [List.drop_take, List.take_take]
    congr 1
    omega
  have hl : (((s.data.toList.take m).drop a).take k).length = k := by
    simp only [List.length_take, List.length_drop, size_list]
    omega
  have hb := be_num (((s.data.toList.take m).drop a).take k)
  rw [hl, ← e] at hb
  unfold numAt
  rw [hb, e, ← List.drop_drop, List.take_append_drop]
theorem numAt_one (s : ByteArray) (a : Nat) (h : a < s.size) : numAt s a 1 = byt s a := by
  unfold numAt byt
  have h2 : a < s.data.toList.length := by rw [size_list]; exact h
  rw [List.drop_eq_getElem_cons h2, List.take_succ_cons, List.take_zero, List.getD_eq_getElem?_getD, List.getElem?_eq_getElem h2]
  simp [num, numOf]
theorem pcs1 (s : ByteArray) (a m : Nat) (h : a + 1 ≤ m) (hm : m ≤ s.size) : (s.data.toList.take m).drop a = be (byt s a) 1 ++ (s.data.toList.take m).drop (a + 1) := by
  rw [← numAt_one s a (by omega)]; exact pcs s a 1 m h hm
theorem inner_list (s : ByteArray) : (s.extract 0 (s.size - 2)).data.toList = s.data.toList.take (s.size - 2) := by
  simp [ByteArray.data_extract]

/-- The head, in pieces. -/
theorem head_of (s : ByteArray) (h17 : 17 ≤ s.size) (L : List UInt8) (hL : L = s.data.toList.take (s.size - 2)) : L = be (byt s 0) 1 ++ (be (byt s 1) 1 ++ (be (byt s 2) 1 ++ (be (numAt s 3 2) 2 ++ (be (byt s 5) 1 ++ (be (numAt s 6 2) 2 ++ (be (numAt s 8 2) 2 ++ (be (byt s 10) 1 ++ (be (numAt s 11 2) 2 ++ (be (numAt s 13 2) 2 ++ L.drop 15))))))))) := by
  have hm : s.size - 2 ≤ s.size := by omega
  have p0 : L.drop 0 = be (byt s 0) 1 ++ L.drop 1 := by rw [hL]; exact pcs1 s 0 _ (by omega) hm
  have p1 : L.drop 1 = be (byt s 1) 1 ++ L.drop 2 := by rw [hL]; exact pcs1 s 1 _ (by omega) hm
  have p2 : L.drop 2 = be (byt s 2) 1 ++ L.drop 3 := by rw [hL]; exact pcs1 s 2 _ (by omega) hm
  have p3 : L.drop 3 = be (numAt s 3 2) 2 ++ L.drop 5 := by rw [hL]; exact pcs s 3 2 _ (by omega) hm
  have p5 : L.drop 5 = be (byt s 5) 1 ++ L.drop 6 := by rw [hL]; exact pcs1 s 5 _ (by omega) hm
  have p6 : L.drop 6 = be (numAt s 6 2) 2 ++ L.drop 8 := by rw [hL]; exact pcs s 6 2 _ (by omega) hm
  have p8 : L.drop 8 = be (numAt s 8 2) 2 ++ L.drop 10 := by rw [hL]; exact pcs s 8 2 _ (by omega) hm
  have p10 : L.drop 10 = be (byt s 10) 1 ++ L.drop 11 := by rw [hL]; exact pcs1 s 10 _ (by omega) hm
  have p11 : L.drop 11 = be (numAt s 11 2) 2 ++ L.drop 13 := by rw [hL]; exact pcs s 11 2 _ (by omega) hm
  have p13 : L.drop 13 = be (numAt s 13 2) 2 ++ L.drop 15 := by rw [hL]; exact pcs s 13 2 _ (by omega) hm
  rw [List.drop_zero] at p0
  conv => lhs; rw [p0, p1, p2, p3, p5, p6, p8, p10, p11, p13]
theorem rest_3 (s : ByteArray) (h : s.size = 23) (L : List UInt8) (hL : L = s.data.toList.take (s.size - 2)) : L.drop 15 = be (numAt s 15 2) 2 ++ (be (byt s 17) 1 ++ (be (numAt s 18 2) 2 ++ (be (byt s 20) 1))) := by
  have hm : s.size - 2 ≤ s.size := by omega
  have p15 : L.drop 15 = be (numAt s 15 2) 2 ++ L.drop 17 := by rw [hL]; exact pcs s 15 2 _ (by omega) hm
  have p17 : L.drop 17 = be (byt s 17) 1 ++ L.drop 18 := by rw [hL]; exact pcs1 s 17 _ (by omega) hm
  have p18 : L.drop 18 = be (numAt s 18 2) 2 ++ L.drop 20 := by rw [hL]; exact pcs s 18 2 _ (by omega) hm
  have p20 : L.drop 20 = be (byt s 20) 1 ++ L.drop 21 := by rw [hL]; exact pcs1 s 20 _ (by omega) hm
  have e : L.drop 21 = [] := List.drop_of_length_le (by rw [hL]; simp only [List.length_take, size_list]; omega)
  rw [p15, p17, p18, p20, e, List.append_nil]
theorem rest_4 (s : ByteArray) (h : 26 < s.size) (L : List UInt8) (hL : L = s.data.toList.take (s.size - 2)) : L.drop 15 = be (byt s 15) 1 ++ (be (numAt s 16 2) 2 ++ (be (numAt s 18 4) 4 ++ (be (byt s 22) 1 ++ (be (byt s 23) 1 ++ (s.extract 24 (s.size - 2)).data.toList)))) := by
  have hm : s.size - 2 ≤ s.size := by omega
  have p15 : L.drop 15 = be (byt s 15) 1 ++ L.drop 16 := by rw [hL]; exact pcs1 s 15 _ (by omega) hm
  have p16 : L.drop 16 = be (numAt s 16 2) 2 ++ L.drop 18 := by rw [hL]; exact pcs s 16 2 _ (by omega) hm
  have p18 : L.drop 18 = be (numAt s 18 4) 4 ++ L.drop 22 := by rw [hL]; exact pcs s 18 4 _ (by omega) hm
  have p22 : L.drop 22 = be (byt s 22) 1 ++ L.drop 23 := by rw [hL]; exact pcs1 s 22 _ (by omega) hm
  have p23 : L.drop 23 = be (byt s 23) 1 ++ L.drop 24 := by rw [hL]; exact pcs1 s 23 _ (by omega) hm
  have e : L.drop 24 = (s.extract 24 (s.size - 2)).data.toList := by
    rw [hL]; simp [ByteArray.data_extract, List.drop_take]
  rw [p15, p16, p18, p22, p23, e]

theorem numAt_le1 (s : ByteArray) (a : Nat) : numAt s a 2 ≤ 65535 := by have := numAt_le2 s a; omega
theorem numAt_le3 (s : ByteArray) (a : Nat) : numAt s a 4 ≤ 4294967295 := by have := numAt_le4 s a; omega

/-- Reading one by one is reading by places. -/
theorem frame_place (s : ByteArray) (h17 : 17 ≤ s.size) (hk3 : byt s 0 = 3 → s.size = 23) (hk4 : byt s 0 = 4 → 26 < s.size) : frameL (s.extract 0 (s.size - 2)).data.toList = placeF s := by
  rw [inner_list]
  obtain ⟨L, hL⟩ : ∃ L, L = s.data.toList.take (s.size - 2) := ⟨_, rfl⟩
  rw [← hL]
  have hh := head_of s h17 L hL
  obtain ⟨M, hM⟩ : ∃ M, M = L.drop 15 := ⟨_, rfl⟩
  rw [← hM] at hh
  unfold frameL placeF
  rw [hh]
  simp only [D1_be, D2_be]
  rw [R1_be _ _ (byt_le s 0), R1_be _ _ (byt_le s 2), R1_be _ _ (byt_le s 5), R1_be _ _ (byt_le s 10), R2_be _ _ (numAt_le1 s 3), R2_be _ _ (numAt_le1 s 6), R2_be _ _ (numAt_le1 s 8), R2_be _ _ (numAt_le1 s 11), R2_be _ _ (numAt_le1 s 13)]
  by_cases h3 : byt s 0 = 3
  · rw [if_pos h3, if_pos h3, hM, rest_3 s (hk3 h3) L hL]
    simp only [D1_be, D2_be]
    rw [R2_be _ _ (numAt_le1 s 15), R1_be _ _ (byt_le s 17), R2_be _ _ (numAt_le1 s 18)]
    have e := R1_be (byt s 20) [] (byt_le s 20)
    rw [List.append_nil] at e
    rw [e]
  · rw [if_neg h3, if_neg h3]
    by_cases h4 : byt s 0 = 4
    · rw [if_pos h4, if_pos h4, hM, rest_4 s (hk4 h4) L hL]
      simp only [D1_be, D2_be, D4_be]
      rw [R1_be _ _ (byt_le s 15), R2_be _ _ (numAt_le1 s 16), R4_be _ _ (numAt_le3 s 18), R1_be _ _ (byt_le s 22), R1_be _ _ (byt_le s 23), got_all, S_of]
    · rw [if_neg h4, if_neg h4]

theorem place_fit (s : ByteArray) (hs : s.size ≤ 1000) : (placeF s).fit := by
  have b := byt_le s
  have n2 := numAt_le2 s
  have n4 := numAt_le4 s 18
  have b2 := b 2
  have b5 := b 5
  have b10 := b 10
  have b15 := b 15
  have b17 := b 17
  have b22 := b 22
  have b23 := b 23
  have he : (s.extract 24 (s.size - 2)).size ≤ maxLen := by rw [ByteArray.size_extract]; unfold maxLen; omega
  have h0 : (⟨#[]⟩ : ByteArray).size ≤ maxLen := Nat.zero_le _
  unfold placeF Fr.fit
  split
  · exact ⟨by simp only; omega, by simp only; omega, n2 3, n2 6, n2 8, by simp only; omega, n2 11, n2 13, n2 15, by simp only; omega, n2 18, by simp, by simp, by simp, by simp, by simp, h0⟩
  · split
    · exact ⟨by simp only; omega, by simp only; omega, n2 3, n2 6, n2 8, by simp only; omega, n2 11, n2 13, by simp, by simp, by simp, by simp only; omega, n2 16, n4, by simp only; omega, by simp only; omega, he⟩
    · exact ⟨by simp only; omega, by simp only; omega, n2 3, n2 6, n2 8, by simp only; omega, n2 11, n2 13, by simp, by simp, by simp, by simp, by simp, by simp, by simp, by simp, h0⟩

theorem place_kind (s : ByteArray) : (placeF s).kind = (byt s 0 : Int) := by
  unfold placeF; split
  · rfl
  · split <;> rfl
theorem place_bytes (s : ByteArray) (h4 : byt s 0 = 4) : (placeF s).bytes = s.extract 24 (s.size - 2) := by
  unfold placeF; rw [if_neg (by omega), if_pos h4]

/-- What is written of what stands by places. -/
theorem place_body (s : ByteArray) (hl : s.size = byt s 1) (hz : sizeOk (byt s 0) s.size = true) (hr : rtB (placeF s) = true) :
    bodyL (placeF s) = be (byt s 0) 1 ++ (be (byt s 1) 1 ++ (be (byt s 2) 1 ++ (be (numAt s 3 2) 2 ++ (be (byt s 5) 1 ++ (be (numAt s 6 2) 2 ++ (be (numAt s 8 2) 2 ++ (be (byt s 10) 1 ++ (be (numAt s 11 2) 2 ++ (be (numAt s 13 2) 2 ++ restL (placeF s)))))))))) := by
  have hk := place_kind s
  have hsz : sizeN (placeF s) = byt s 1 := by
    unfold sizeN
    rw [hr, if_pos rfl, hk]
    unfold sizeOk at hz
    by_cases h3 : byt s 0 = 3
    · rw [if_pos (by omega)]
      rw [if_pos (by omega)] at hz
      simp at hz
      omega
    · rw [if_neg (by omega)]
      rw [if_neg (by omega)] at hz
      by_cases h4 : byt s 0 = 4
      · rw [if_pos (by omega)]
        rw [if_pos (by omega)] at hz
        simp at hz
        rw [place_bytes s h4, ByteArray.size_extract]
        omega
      · rw [if_neg (by omega)]
        rw [if_neg (by omega)] at hz
        simp at hz
        omega
  have hkn : (placeF s).kind.toNat = byt s 0 := by rw [hk]; simp
  have e : headL (placeF s).kind.toNat (sizeN (placeF s)) (placeF s) = be (byt s 0) 1 ++ be (byt s 1) 1 ++ be (byt s 2) 1 ++ be (numAt s 3 2) 2 ++ be (byt s 5) 1 ++ be (numAt s 6 2) 2 ++ beE (numAt s 8 2) (byt s 10) (numAt s 11 2) ++ be (numAt s 13 2) 2 := by
    rw [hkn, hsz]
    unfold headL placeF
    split
    · rfl
    · split <;> rfl
  unfold bodyL
  rw [e]
  unfold beE
  simp only [List.append_assoc]

theorem rest_place3 (s : ByteArray) (h3 : byt s 0 = 3) : restL (placeF s) = be (numAt s 15 2) 2 ++ (be (byt s 17) 1 ++ (be (numAt s 18 2) 2 ++ be (if byt s 20 = 1 then 1 else 0) 1)) := by
  unfold restL
  rw [place_kind, if_pos (by omega)]
  unfold placeF
  rw [if_pos h3]
  unfold beE oneB
  simp only [List.append_assoc]
  congr 4
  by_cases h : byt s 20 = 1
  · simp [h]
  · have : ((byt s 20 : Int) == 1) = false := by simp; omega
    rw [this]; simp [h]
theorem rest_place4 (s : ByteArray) (h4 : byt s 0 = 4) : restL (placeF s) = be (byt s 15) 1 ++ (be (numAt s 16 2) 2 ++ (be (numAt s 18 4) 4 ++ (be (byt s 22) 1 ++ (be (byt s 23) 1 ++ (s.extract 24 (s.size - 2)).data.toList)))) := by
  unfold restL
  rw [place_kind, if_neg (by omega), if_pos (by omega)]
  unfold placeF
  rw [if_neg (by omega), if_pos h4]
  simp only [List.append_assoc]
theorem rest_place0 (s : ByteArray) (h3 : byt s 0 ≠ 3) (h4 : byt s 0 ≠ 4) : restL (placeF s) = [] := by
  unfold restL
  rw [place_kind, if_neg (by omega), if_neg (by omega)]

/-- Bytes that are well summed, and of the right size, are their frame's just where it may be and a bool is one. -/
theorem enc_iff (s : ByteArray) (h17 : 17 ≤ s.size) (hl : s.size = byt s 1) (hc : sealedB (s.extract 0 (s.size - 2)) = s) (hz : sizeOk (byt s 0) s.size = true) :
    encB (placeF s) = s ↔ (rtB (placeF s) = true ∧ (byt s 0 = 3 → byt s 20 ≤ 1)) := by
  have hz3 : byt s 0 = 3 → s.size = 23 := fun h3 => by
    unfold sizeOk at hz
    rw [if_pos (by omega)] at hz
    simp at hz
    omega
  have hz4 : byt s 0 = 4 → 26 < s.size := fun h4 => by
    unfold sizeOk at hz
    rw [if_neg (by omega), if_pos (by omega)] at hz
    simp at hz
    omega
  have hz0 : byt s 0 ≠ 3 → byt s 0 ≠ 4 → s.size = 17 := fun h3 h4 => by
    unfold sizeOk at hz
    rw [if_neg (by omega), if_neg (by omega)] at hz
    simp at hz
    omega
  obtain ⟨L, hL⟩ : ∃ L, L = s.data.toList.take (s.size - 2) := ⟨_, rfl⟩
  have hh := head_of s h17 L hL
  have hin : s.extract 0 (s.size - 2) = S L := by rw [hL, ← inner_list]; rfl
  by_cases hr : rtB (placeF s) = true
  · have hb := place_body s hl hz hr
    have he : encB (placeF s) = sealedB (S (bodyL (placeF s))) := by unfold encB; rw [hr]; rfl
    have key : encB (placeF s) = s ↔ bodyL (placeF s) = L := by
      constructor
      · intro h
        have h1 := sealed_inner (S (bodyL (placeF s)))
        rw [← he, h, hin] at h1
        have := congrArg (fun b : ByteArray => b.data.toList) h1
        exact this.symm
      · intro h
        rw [he, h, ← hin, hc]
    rw [key, hb]
    by_cases h3 : byt s 0 = 3
    · rw [rest_place3 s h3]
      rw [rest_3 s (hz3 h3) L hL] at hh
      constructor
      · intro h
        refine ⟨hr, fun _ => ?_⟩
        have h2 := h.trans hh
        have h3 := congrArg (fun l : List UInt8 => l.drop 20) h2
        simp only [be, List.cons_append, List.nil_append, List.drop_succ_cons, List.drop_zero] at h3
        injection h3 with h3 _
        have h4 := congrArg UInt8.toNat h3
        have b20 := byt_le s 20
        simp at h4
        split at h4 <;> omega
      · rintro ⟨_, h⟩
        have h := h h3
        have e : (if byt s 20 = 1 then 1 else 0) = byt s 20 := by split <;> omega
        rw [e]
        exact hh.symm
    · by_cases h4 : byt s 0 = 4
      · rw [rest_place4 s h4]
        rw [rest_4 s (hz4 h4) L hL] at hh
        exact ⟨fun _ => ⟨hr, fun h => absurd h h3⟩, fun _ => hh.symm⟩
      · rw [rest_place0 s h3 h4]
        have e : L.drop 15 = [] := List.drop_of_length_le (by rw [hL]; simp only [List.length_take, size_list]; have := hz0 h3 h4; omega)
        rw [e] at hh
        exact ⟨fun _ => ⟨hr, fun h => absurd h h3⟩, fun _ => hh.symm⟩
  · have e : encB (placeF s) = ⟨#[]⟩ := by unfold encB; rw [if_neg hr]
    rw [e]
    constructor
    · intro h
      have := congrArg ByteArray.size h
      have h0 : (⟨#[]⟩ : ByteArray).size = 0 := rfl
      omega
    · rintro ⟨h, _⟩
      exact absurd h hr

end Go.Proofs.YtindekpmicbbiaaDoor
