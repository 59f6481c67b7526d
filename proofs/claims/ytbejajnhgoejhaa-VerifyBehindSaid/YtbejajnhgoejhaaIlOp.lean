/-
  The reference's operation of a name, walked. Conditions: none.
-/
import Derived.Test.YtbejajnhgoejhaaIlRef
import Derived.Lib.Strings
namespace Go.Proofs.Ytbejajnhgoejhaa.Il
open Go.RowKit
open Go.Proofs.Ytbejajnhgoejhaa.Ic

theorem toL (l : Bs) : (S l).toList = l := by rw [Lib.toList_data]; rfl
theorem s_eq {a b : Bs} (h : a = b) : ((S a).toList == (S b).toList) = true := by rw [h]; simp
theorem s_ne {a b : Bs} (h : a ≠ b) : ((S a).toList == (S b).toList) = false := by
  rw [beq_eq_false_iff_ne, toL, toL]
  exact h
theorem s_nil {a : Bs} (h : a = []) : (S a).toList.isEmpty = true := by rw [toL, h]; rfl
theorem s_some {a : Bs} (h : a ≠ []) : (S a).toList.isEmpty = false := by
  rw [toL, ← Bool.not_eq_true, List.isEmpty_iff]
  exact h

end Go.Proofs.Ytbejajnhgoejhaa.Il
