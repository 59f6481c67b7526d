/-
  What is got of bytes, and what they are behind a value was put; plainly. No program is named here. Conditions: none.
-/
import Derived.Test.YtkjijeogkemgoaaIcOps
import Derived.Test.YtkjijeogkemgoaaOctMath
namespace Go.Proofs.Ytkjijeogkemgoaa.Ic
open Oct

def cutL (l : List UInt8) (at_ n : Nat) : List UInt8 := (l.drop at_).take n
def getI (s : ByteArray) (at_ : Nat) (k : Int) : Int := wrapI k (num (cutL s.data.toList at_ (szI k)) : Nat)
/-- What stands in bytes of a number. -/
def nvI (k v : Int) : Nat := (if wrapI k v < 0 then wrapI k v + manyI k else wrapI k v).toNat
def putL (l : List UInt8) (at_ : Nat) (k v : Int) : List UInt8 := l.take at_ ++ be (nvI k v) (szI k) ++ l.drop (at_ + szI k)

theorem cut_zero (l : List UInt8) (at_ : Nat) : cutL l at_ 0 = [] := by simp [cutL]
theorem cut_more (l : List UInt8) (at_ n : Nat) (h : at_ + n < l.length) : cutL l at_ (n + 1) = cutL l at_ n ++ [l[at_ + n]] := by
  unfold cutL
  rw [List.take_succ_eq_append_getElem (by simp; omega)]
  simp
theorem cut_length (l : List UInt8) (at_ n : Nat) (h : at_ + n ≤ l.length) : (cutL l at_ n).length = n := by simp [cutL]; omega
theorem cut_num (l : List UInt8) (at_ n : Nat) (h : at_ + n ≤ l.length) (hn : n ≤ 4) : num (cutL l at_ n) ≤ 4294967295 := by
  have h1 := num_lt (cutL l at_ n)
  rw [cut_length l at_ n h] at h1
  have h2 : 256 ^ n ≤ 256 ^ 4 := Nat.pow_le_pow_right (by decide) hn
  omega
theorem there_pos {size : Nat} {at_ k : Int} (h : thereI size at_ k = true) : ∃ a : Nat, at_ = a ∧ a + szI k ≤ size ∧ szI k ≠ 0 := by
  unfold thereI at h
  rw [decide_eq_true_iff] at h
  exact ⟨at_.toNat, by omega, by omega, h.1⟩
theorem put_length (l : List UInt8) (at_ : Nat) (k v : Int) (h : at_ + szI k ≤ l.length) : (putL l at_ k v).length = l.length := by
  unfold putL
  simp [be_length]
  omega
/-- A number of bytes is the same as what it stands for, as far as its kind looks. -/
theorem nv_bd (k v : Int) (h : szI k ≠ 0) : nvI k v < 256 ^ szI k := by
  have hi := wrap_is k v h
  unfold isI at hi
  rw [decide_eq_true_iff] at hi
  obtain ⟨-, h1, h2⟩ := hi
  have hk := (sz_iff k).1 h
  unfold nvI
  obtain rfl | rfl | rfl | rfl | rfl | rfl | rfl : k = 1 ∨ k = 2 ∨ k = 3 ∨ k = 4 ∨ k = 5 ∨ k = 6 ∨ k = 7 := by omega
  · rw [show leastI 1 = 0 from rfl, show manyI 1 = 2 from rfl] at *; rw [show szI 1 = 1 from rfl]; split <;> omega
  · rw [show leastI 2 = -128 from rfl, show manyI 2 = 256 from rfl] at *; rw [show szI 2 = 1 from rfl]; split <;> omega
  · rw [show leastI 3 = -32768 from rfl, show manyI 3 = 65536 from rfl] at *; rw [show szI 3 = 2 from rfl]; split <;> omega
  · rw [show leastI 4 = -2147483648 from rfl, show manyI 4 = 4294967296 from rfl] at *; rw [show szI 4 = 4 from rfl]; split <;> omega
  · rw [show leastI 5 = 0 from rfl, show manyI 5 = 65536 from rfl] at *; rw [show szI 5 = 2 from rfl]; split <;> omega
  · rw [show leastI 6 = 0 from rfl, show manyI 6 = 65536 from rfl] at *; rw [show szI 6 = 2 from rfl]; split <;> omega
  · rw [show leastI 7 = 0 from rfl, show manyI 7 = 4294967296 from rfl] at *; rw [show szI 7 = 4 from rfl]; split <;> omega
/-- The number in bytes, brought into the kind, is the value. -/
theorem wrap_nv (k v : Int) (h : szI k ≠ 0) : wrapI k (nvI k v : Nat) = wrapI k v := by
  have hi := wrap_is k v h
  have hs := wrap_same k _ hi
  unfold isI at hi
  rw [decide_eq_true_iff] at hi
  obtain ⟨-, h1, h2⟩ := hi
  unfold nvI
  by_cases hn : wrapI k v < 0
  · rw [if_pos hn]
    have hl := least_many k
    have hl2 := least_le k
    rw [Int.toNat_of_nonneg (by omega)]
    have hk1 : k ≠ 1 := by
      intro e
      subst e
      rw [show leastI 1 = 0 from rfl] at h1
      omega
    have e : wrapI k (wrapI k v + manyI k) = wrapI k (wrapI k v) := by
      generalize wrapI k v = x at *
      unfold wrapI
      rw [if_neg h, if_neg h, if_neg hk1, if_neg hk1, show x + manyI k - leastI k = x - leastI k + manyI k by omega, Int.add_emod_right]
    rw [e, hs]
  · rw [if_neg hn, Int.toNat_of_nonneg (by omega), hs]

end Go.Proofs.Ytkjijeogkemgoaa.Ic
