/-
  The law IecKinds, walked: it returns true. Conditions: that the calls answer as is asked.
-/
import Derived.Test.YtmlopacekoghkaaIcCode
namespace Go.Proofs.Ytmlopacekoghkaa.Ic
open Go.RowKit
open Oct

/-- The kind of a name among those below k. -/
def uptoI (s : ByteArray) (k : Nat) : Int := if namedI s < k then namedI s else 0
theorem named_range (s : ByteArray) : 0 ≤ namedI s ∧ namedI s ≤ 7 := by unfold namedI; (repeat' split) <;> omega
theorem named_iff (s : ByteArray) (k : Nat) (h1 : 1 ≤ k) (h2 : k ≤ 7) : s = nameI k ↔ namedI s = k := by
  obtain rfl | rfl | rfl | rfl | rfl | rfl | rfl : k = 1 ∨ k = 2 ∨ k = 3 ∨ k = 4 ∨ k = 5 ∨ k = 6 ∨ k = 7 := by omega
  all_goals
    constructor
    · intro h
      subst h
      decide
    · intro h
      unfold namedI at h
      (repeat' split at h) <;> first | assumption | omega
theorem upto_one (s : ByteArray) : uptoI s 1 = 0 := by
  have := named_range s
  unfold uptoI
  split <;> omega
theorem upto_yes (s : ByteArray) (k : Nat) (h1 : 1 ≤ k) (h2 : k ≤ 7) (h : s = nameI k) : uptoI s (k + 1) = k := by
  have := (named_iff s k h1 h2).1 h
  unfold uptoI
  rw [if_pos (by omega), this]
theorem upto_no (s : ByteArray) (k : Nat) (h1 : 1 ≤ k) (h2 : k ≤ 7) (h : s ≠ nameI k) : uptoI s (k + 1) = uptoI s k := by
  have hn : namedI s ≠ k := fun e => h ((named_iff s k h1 h2).2 e)
  unfold uptoI
  split <;> split <;> omega
theorem upto_all (s : ByteArray) : uptoI s 8 = namedI s := by
  have := named_range s
  unfold uptoI
  rw [if_pos (by omega)]
theorem str_eq {a b : ByteArray} (h : a = b) : (a.toList == b.toList) = true := by rw [h]; simp
theorem str_ne {a b : ByteArray} (h : a ≠ b) : (a.toList == b.toList) = false := by
  rw [beq_eq_false_iff_ne]
  intro e
  rw [Lib.toList_data, Lib.toList_data] at e
  apply h
  rw [← Lib.mk_data a, ← Lib.mk_data b, e]

end Go.Proofs.Ytmlopacekoghkaa.Ic
