/-
  The reference's Spell, walked. Conditions: numbers that may be.
-/
import Derived.Test.YtpnjhodpbjhmcaaGreatDoorIlSp
namespace Go.Proofs.YtpnjhodpbjhmcaaGreatDoor.Il
open Go.RowKit
open Go.Proofs.YtpnjhodpbjhmcaaGreatDoor.Ic

theorem glue {p q : ByteArray} {a b : Bs} (m n : Nat) (hp : p = S a) (hq : q = S b) (ha : a.length ≤ m) (hb : b.length ≤ n) (h : m + n ≤ 1000) : ∃ t, t = S (a ++ b) ∧ (a ++ b).length ≤ m + n ∧ ∀ W, (Op.stringOp .add p q).run Tryz.prog W = .ok (.string t) W := by
  subst hp hq
  exact ⟨_, rfl, by rw [List.length_append]; omega, sadd a b (by omega)⟩
theorem name_len : ∀ k : Fin 37, (namesL.getD k.val []).length ≤ 5 := by decide
theorem kind_len (k : Int) : (nmI k).length ≤ 5 := by
  rcases kinds k with h | rfl | rfl | rfl | rfl | rfl | rfl | rfl
  · unfold nmI; rw [name_none k h]; decide
  all_goals decide
theorem kind_S (k : Int) : nameI k = S (nmI k) := by unfold nmI; rw [S_list]
theorem itoa_len (n : Int) (h1 : -1000000000000000000 ≤ n) (h2 : n ≤ 1000000000000000000) : (Lib.itoa n).length ≤ 20 := by
  unfold Lib.itoa
  split
  · have := dec_len19 (u := n.natAbs) (by omega); simp; omega
  · have := dec_len19 (u := n.toNat) (by omega); omega
theorem area_len (ar pl : Int) (h : pl ≤ 1000000000000000000) : (areaL ar pl).length ≤ 21 := by
  unfold areaL
  have := dec_len19 (u := pl.toNat) (by omega)
  simp; omega

end Go.Proofs.YtpnjhodpbjhmcaaGreatDoor.Il
