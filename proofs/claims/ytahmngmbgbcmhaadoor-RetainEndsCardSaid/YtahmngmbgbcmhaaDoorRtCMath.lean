/-
  Plain facts on how the code reads a slot: its length, its sum, the bytes behind Data. No program is named here. Conditions: none.
-/
import Derived.Test.YtahmngmbgbcmhaaDoorRtMath
import Derived.Lib.TrimByte
namespace Go.Proofs.YtahmngmbgbcmhaaDoor.Ret
open Oct

theorem num_inj : ∀ (a b : List UInt8), a.length = b.length → num a = num b → a = b := by
  have h : ∀ (k : Nat) (a b : List UInt8), a.length = k → b.length = k → num a = num b → a = b := by
    intro k
    induction k with
    | zero => intro a b ha hb _; rw [List.length_eq_zero_iff.1 ha, List.length_eq_zero_iff.1 hb]
    | succ k ih =>
      intro a b ha hb hn
      have h1 : a ≠ [] := by intro e; subst e; simp at ha
      have h2 : b ≠ [] := by intro e; subst e; simp at hb
      obtain ⟨a1, c, rfl⟩ : ∃ a1 c, a = a1 ++ [c] := ⟨a.dropLast, a.getLast h1, (List.dropLast_concat_getLast h1).symm⟩
      obtain ⟨b1, d, rfl⟩ : ∃ b1 d, b = b1 ++ [d] := ⟨b.dropLast, b.getLast h2, (List.dropLast_concat_getLast h2).symm⟩
      rw [num_snoc, num_snoc] at hn
      have hc := c.toNat_lt
      have hd := d.toNat_lt
      rw [List.length_append, List.length_singleton] at ha hb
      have e1 := ih a1 b1 (by omega) (by omega) (by omega)
      have e2 : c = d := UInt8.toNat_inj.1 (by omega)
      rw [e1, e2]
  exact fun a b hl hn => h b.length a b hl rfl hn

theorem be_num (l : List UInt8) (k : Nat) (h : l.length = k) : be (num l) k = l := by
  refine num_inj _ _ (by rw [be_length, h]) ?_
  rw [num_be, Nat.mod_eq_of_lt (by rw [← h]; exact num_lt l)]

/-- What the code reads of a slot's bytes. -/
def codeV (l : List UInt8) : Rc := if wholeB l = true then wholeV l else Rc.zero

/-- The bytes behind the mark: what has a sum; how long Data is; what is behind it. -/
def inner (l : List UInt8) : List UInt8 := (l.drop 1).take 71
def dlen (l : List UInt8) : Nat := num (((l.drop 1).drop 6).take 1)
def rest (l : List UInt8) : List UInt8 := (inner l).drop (7 + dlen l)

theorem dlen_lt (l : List UInt8) : dlen l < 256 := by
  unfold dlen
  have h := num_small (((l.drop 1).drop 6).take 1) 1 (by rw [List.length_take]; omega)
  exact h

theorem dlen_is {l : List UInt8} (hl : l.length = 74) : dlen l = (l.getD 7 0).toNat := by
  unfold dlen
  rw [take_one (l.drop 1) (by rw [List.length_drop, hl]; omega)]
  simp [List.getD_eq_getElem?_getD]

theorem body_of {l : List UInt8} (hl : l.length = 74) (hd : dlen l ≤ 64) : body (recOf (l.drop 1)) = (inner l).take (7 + dlen l) ++ List.replicate (64 - dlen l) 0 := by
  have ht : (l.drop 1).length = 73 := by rw [List.length_drop, hl]
  generalize hT : l.drop 1 = T at *
  have e7 : dlen l = num ((T.drop 6).take 1) := by unfold dlen; rw [hT]
  have hI : inner l = T.take 71 := by unfold inner; rw [hT]
  rw [hI]
  generalize dlen l = n at *
  have hsz : (recOf T).d.size = n := by
    show (S _).size = n
    rw [S_size, List.length_take, List.length_drop, ht, ← e7]
    omega
  have hp : pre (recOf T) = T.take (7 + n) := by
    unfold pre
    rw [hsz]
    have a4 : be (recOf T).q 4 = T.take 4 := be_num _ _ (by rw [List.length_take, ht]; rfl)
    have a2 : be (recOf T).i 2 = (T.drop 4).take 2 := be_num _ _ (by rw [List.length_take, List.length_drop, ht]; rfl)
    have a1 : be n 1 = (T.drop 6).take 1 := by rw [e7]; exact be_num _ _ (by rw [List.length_take, List.length_drop, ht]; rfl)
    have ad : (recOf T).d.data.toList = (T.drop 7).take n := by
      show (S _).data.toList = _
      rw [S_list, ← e7]
    rw [a4, a2, a1, ad]
    rw [List.append_assoc, List.append_assoc, show 7 + n = 4 + (2 + (1 + n)) by omega, List.take_add, List.take_add (l := T.drop 4), List.take_add (l := (T.drop 4).drop 2)]
    simp
  rw [body, hp, List.take_take, Nat.min_eq_left (by omega), List.length_take, ht]
  rw [show 71 - min (7 + n) 73 = 64 - n by omega]

/-- A slot is whole just if its parts are as they should. -/
theorem whole_parts {l : List UInt8} (hl : l.length = 74) (h0 : (l.getD 0 0).toNat = 165) (hd : dlen l ≤ 64) :
    wholeB l = (decide (sealL (inner l) = l.drop 1) && decide (rest l = List.replicate (64 - dlen l) 0)) := by
  have ht : (l.drop 1).length = 73 := by rw [List.length_drop, hl]
  have hil : (inner l).length = 71 := by unfold inner; rw [List.length_take, ht]; rfl
  have hn : ¬ ((l.getD 0 0).toNat ≠ 165 ∨ 64 < (l.getD 7 0).toNat) := by
    rw [← dlen_is hl]; omega
  unfold wholeB
  rw [if_neg hn]
  have hb := body_of hl hd
  have hbl : (body (recOf (l.drop 1))).length = 71 := by
    rw [hb, List.length_append, List.length_take, List.length_replicate, hil]; omega
  have hsplit : inner l = (inner l).take (7 + dlen l) ++ rest l := (List.take_append_drop _ _).symm
  rw [← Bool.decide_and, decide_eq_decide]
  constructor
  · intro h
    have hs : sealL (body (recOf (l.drop 1))) = l.drop 1 := h
    have e : body (recOf (l.drop 1)) = inner l := by
      unfold inner
      rw [← hs]
      unfold sealL
      rw [List.take_left' hbl]
      simp only [sealL] at hs
      rw [hs]
    rw [e] at hs
    refine ⟨hs, ?_⟩
    exact (List.append_cancel_left ((hb.symm.trans e).trans hsplit)).symm
  · rintro ⟨h1, h2⟩
    show sealL (body (recOf (l.drop 1))) = l.drop 1
    rw [hb, ← h2, ← hsplit, h1]

theorem dropWhile_nil (p : UInt8 → Bool) (l : List UInt8) : l.dropWhile p = [] ↔ ∀ x ∈ l, p x = true := by
  induction l with
  | nil => simp
  | cons a l ih =>
    rw [List.dropWhile_cons]
    by_cases h : p a = true
    · rw [if_pos h, ih]; simp [h]
    · rw [if_neg h]; simp [h]

theorem trim_zeros (l : List UInt8) : (Lib.trimB l 0 = []) ↔ l = List.replicate l.length 0 := by
  unfold Lib.trimB Lib.trimLeftB Lib.trimRightB
  constructor
  · intro h
    have h1 : ∀ x ∈ (l.reverse.dropWhile (· == 0)).reverse, (x == 0) = true := (dropWhile_nil _ _).1 h
    have h2 : l.reverse.dropWhile (· == 0) = [] := by
      rcases hx : l.reverse.dropWhile (· == (0 : UInt8)) with _ | ⟨a, r⟩
      · rfl
      · have hne : l.reverse.dropWhile (· == (0 : UInt8)) ≠ [] := by rw [hx]; simp
        have hh := List.head_dropWhile_not (· == (0 : UInt8)) hne
        have ha := h1 a (by rw [hx]; simp)
        simp [hx] at hh
        simp at ha
        exact absurd ha hh
    have h3 : ∀ x ∈ l.reverse, (x == 0) = true := (dropWhile_nil _ _).1 h2
    exact List.eq_replicate_iff.2 ⟨rfl, fun x hx => by simpa using h3 x (by simpa using hx)⟩
  · intro h
    have h3 : ∀ x ∈ l.reverse, (x == 0) = true := by
      intro x hx
      rw [List.mem_reverse, h] at hx
      simpa using (List.mem_replicate.1 hx).2
    have h2 : l.reverse.dropWhile (· == (0 : UInt8)) = [] := (dropWhile_nil _ _).2 h3
    rw [h2]
    rfl

end Go.Proofs.YtahmngmbgbcmhaaDoor.Ret
