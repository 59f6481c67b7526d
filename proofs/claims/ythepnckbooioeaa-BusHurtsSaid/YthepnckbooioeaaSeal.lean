/-
  crc.Sealed, its reference and crc.Open, walked: a text with its sum behind it, and what is opened. Conditions: texts of at most 4000 bytes.
-/
import Derived.Test.YthepnckbooioeaaZeros
import Derived.Laws.BytesArg
import Derived.Lib.Strings
namespace Go.Proofs.Ythepnckbooioeaa
open Go.RowKit
open Sums

/-- A text with its sum behind it. -/
def sealedB (s : ByteArray) : ByteArray := s ++ strOfNums [((sum s.data.toList).toNat : Int) / 256, ((sum s.data.toList).toNat : Int) % 256]

theorem two_cells (w : World) (a b : Int) : ∀ i, i < 2 → (w.alloc (.cells #[.int .u8 a, .int .u8 b] 5)).cell? ⟨w.heap.size, 0 + i, none⟩ = some (.int .u8 ([a, b].getD i 0)) := by
  intro i hi
  have h := cell_two_new w (.int .u8 a) (.int .u8 b) 5
  match i, hi with
  | 0, _ => exact h 0 _ rfl
  | 1, _ => exact h 1 _ rfl

theorem le_max {n : Nat} (h : n ≤ 4000) : n ≤ maxLen := by unfold maxLen; omega

theorem extract_small (s : ByteArray) (k : Nat) (hs : s.size ≤ 4000) : (s.extract 0 k).size ≤ 4000 := by
  rw [ByteArray.size_extract]; omega

theorem str_eq {a b : ByteArray} (h : a = b) : (a.toList == b.toList) = true := by rw [h]; simp
theorem str_ne {a b : ByteArray} (h : a ≠ b) : (a.toList == b.toList) = false := by
  rw [beq_eq_false_iff_ne]
  intro e
  rw [Lib.toList_data, Lib.toList_data] at e
  apply h
  rw [← Lib.mk_data a, ← Lib.mk_data b, e]

end Go.Proofs.Ythepnckbooioeaa
