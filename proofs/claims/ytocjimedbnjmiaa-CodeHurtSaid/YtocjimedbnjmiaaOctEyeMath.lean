/-
  Plain facts on what an eye reads of bytes, and what is left: no program is named here. Conditions: none.
-/
import Derived.Test.YtocjimedbnjmiaaOctMath
namespace Go.Proofs.Ytocjimedbnjmiaa
namespace Oct

/-- Can n bytes be read? -/
def fits (n : Int) (l : List UInt8) : Bool := decide (0 ≤ n ∧ n ≤ l.length)
/-- What an eye reads; what is left; is it blind behind it? -/
def got (n : Int) (l : List UInt8) : List UInt8 := if fits n l then l.take n.toNat else []
def left (n : Int) (l : List UInt8) : List UInt8 := if fits n l then l.drop n.toNat else []
def lost (n : Int) (l : List UInt8) (b : Bool) : Bool := if fits n l then b else true
/-- The same for the other eye, which keeps what it had. -/
def rgot (n : Int) (l : List UInt8) (b : Bool) : List UInt8 := if b || !fits n l then [] else l.take n.toNat
def rleft (n : Int) (l : List UInt8) (b : Bool) : List UInt8 := if b || !fits n l then l else l.drop n.toNat
def rlost (n : Int) (l : List UInt8) (b : Bool) : Bool := b || !fits n l

theorem fits_yes {n : Int} {l : List UInt8} (h0 : 0 ≤ n) (h : n ≤ l.length) : fits n l = true := by simp [fits, h0, h]
theorem fits_no {n : Int} {l : List UInt8} (h : n < 0 ∨ (l.length : Int) < n) : fits n l = false := by simp [fits]; omega

theorem S_take (l : List UInt8) (k : Nat) : (S l).extract 0 k = S (l.take k) := by
  apply ByteArray.ext
  apply Array.ext'
  simp [S, ByteArray.data_extract]

theorem S_drop (l : List UInt8) (k : Nat) : (S l).extract k (S l).size = S (l.drop k) := by
  apply ByteArray.ext
  apply Array.ext'
  rw [S_size]
  simp only [S, ByteArray.data_extract, Array.toList_extract, List.extract_eq_take_drop]
  rw [List.take_of_length_le (by simp)]

theorem got_length (n : Int) (l : List UInt8) : ((got n l).length : Int) ≤ max n 0 := by
  unfold got
  split
  · rw [List.length_take]; omega
  · simp; omega

theorem got_le (n : Int) (l : List UInt8) (k : Nat) (h : n ≤ k) : (got n l).length ≤ k := by
  have := got_length n l; omega

theorem rgot_le (n : Int) (l : List UInt8) (b : Bool) (k : Nat) (h : n ≤ k) : (rgot n l b).length ≤ k := by
  unfold rgot
  split
  · simp
  · rw [List.length_take]; omega

/-- Two eyes that see the same. -/
def Same (l : List UInt8) (b : Bool) (l' : List UInt8) (b' : Bool) : Prop := b' = b ∧ (b = false → l' = l) ∧ (b = true → l = [])

theorem Same.got {l l' : List UInt8} {b b' : Bool} (h : Same l b l' b') (n : Int) : rgot n l' b' = got n l := by
  obtain ⟨rfl, h1, h2⟩ := h
  unfold rgot Oct.got
  cases b'
  · rw [h1 rfl]; cases fits n l <;> simp
  · rw [h2 rfl]; simp

theorem Same.step {l l' : List UInt8} {b b' : Bool} (h : Same l b l' b') (n : Int) : Same (left n l) (lost n l b) (rleft n l' b') (rlost n l' b') := by
  obtain ⟨rfl, h1, h2⟩ := h
  unfold left lost rleft rlost
  cases b'
  · rw [h1 rfl]; cases hf : fits n l <;> simp [Same]
  · rw [h2 rfl]; cases hf : fits n [] <;> simp [Same]

theorem left_length (n : Int) (l : List UInt8) : (left n l).length ≤ l.length := by
  unfold left; split <;> simp

theorem num_small (l : List UInt8) (k : Nat) (h : l.length ≤ k) : num l < 256 ^ k :=
  Nat.lt_of_lt_of_le (num_lt l) (Nat.pow_le_pow_right (by omega) h)

/-- A part of bytes that are read at their beginning. -/
theorem got_app (a r : List UInt8) (n : Int) (h : n = (a.length : Int)) : got n (a ++ r) = a := by
  unfold got
  rw [fits_yes (by omega) (by rw [List.length_append]; omega)]
  subst h
  simp

theorem left_app (a r : List UInt8) (n : Int) (h : n = (a.length : Int)) : left n (a ++ r) = r := by
  unfold left
  rw [fits_yes (by omega) (by rw [List.length_append]; omega)]
  subst h
  simp

theorem lost_app (a r : List UInt8) (n : Int) (b : Bool) (h : n = (a.length : Int)) : lost n (a ++ r) b = b := by
  unfold lost
  rw [fits_yes (by omega) (by rw [List.length_append]; omega)]
  rfl

end Oct
end Go.Proofs.Ytocjimedbnjmiaa
