/-
  crc.Sealed, its reference and crc.Open, walked: a text with its sum behind it, and what is opened. Conditions: texts of at most 4000 bytes.
-/
import Derived.Test.YtocjimedbnjmiaaZeros
import Derived.Laws.BytesArg
import Derived.Lib.Strings
namespace Go.Proofs.Ytocjimedbnjmiaa
open Go.RowKit
open Sums

/-- A text with its sum behind it. -/
def sealedB (s : ByteArray) : ByteArray := s ++ strOfNums [((sum s.data.toList).toNat : Int) / 256, ((sum s.data.toList).toNat : Int) % 256]

theorem two_cells (w : World) (a b : Int) : ∀ i, i < 2 → (w.alloc (.cells #[.int .u8 a, .int .u8 b] 5)).cell? ⟨w.heap.size, 0 + i, none⟩ = some (.int .u8 ([a, b].getD i 0)) := by
  intro i hi
  have h := cell_two_new w (.int .u8 a) (.int .u8 b) 5
  match i, hi with
  | 0, _ => exact h 0 _ rfl
  | 1, _ => exact h 1 _ rfl

theorem le_max {n : Nat} (h : n ≤ 4000) : n ≤ maxLen := by unfold maxLen; omega

set_option maxHeartbeats 400000 in
theorem sealed_any (s : ByteArray) (w : World) (hs : s.size ≤ 4000) :
    Calls Try.prog 18 #[.string s] w fun e w' => e = .returned (.string (sealedB s)) ∧ Below w.heap.size w w' := by
  have hk := fun (w : World) (a b : Int) => run_convert_bytes_arg (P := Try.prog) (w.alloc (.cells #[.int .u8 a, .int .u8 b] 5)) 56 5 Try.underlying56 Try.underlying5 w.heap.size 0 2 2 [a, b] rfl (two_cells w a b) 9 Try.underlying9
  have hz : (strOfNums [((sum s.data.toList).toNat : Int) / 256, ((sum s.data.toList).toNat : Int) % 256]).size ≤ 2 := Nat.le_of_eq (strOfNums_size _)
  go_enter Try.func18, Try.ntmps18
  go_wp2_with (go_at_call 20; refine (sum_any _ _ (le_max hs)).mono ?_; rintro e w' ⟨rfl, rfl⟩)
  go_ret
  exact ⟨rfl, (Below.refl _ _).alloc (Nat.le_refl _) _⟩

set_option maxHeartbeats 400000 in
theorem rsealed_any (s : ByteArray) (w : World) (hs : s.size ≤ 4000) :
    Calls Try.prog 12 #[.string s] w fun e w' => e = .returned (.string (sealedB s)) ∧ Below w.heap.size w w' := by
  have hk := fun (w : World) (a b : Int) => run_convert_bytes_arg (P := Try.prog) (w.alloc (.cells #[.int .u8 a, .int .u8 b] 5)) 56 5 Try.underlying56 Try.underlying5 w.heap.size 0 2 2 [a, b] rfl (two_cells w a b) 9 Try.underlying9
  have hz : (strOfNums [((sum s.data.toList).toNat : Int) / 256, ((sum s.data.toList).toNat : Int) % 256]).size ≤ 2 := Nat.le_of_eq (strOfNums_size _)
  have hn := (sum s.data.toList).isLt
  go_enter Try.func12, Try.ntmps12
  go_wp2_with (go_at_call 13; refine (rsum_any _ _ (le_max hs)).mono ?_; rintro e w' ⟨rfl, rfl⟩)
  go_ret
  exact ⟨rfl, (Below.refl _ _).alloc (Nat.le_refl _) _⟩

theorem extract_small (s : ByteArray) (k : Nat) (hs : s.size ≤ 4000) : (s.extract 0 k).size ≤ 4000 := by
  rw [ByteArray.size_extract]; omega

theorem str_eq {a b : ByteArray} (h : a = b) : (a.toList == b.toList) = true := by rw [h]; simp
theorem str_ne {a b : ByteArray} (h : a ≠ b) : (a.toList == b.toList) = false := by
  rw [beq_eq_false_iff_ne]
  intro e
  rw [Lib.toList_data, Lib.toList_data] at e
  apply h
  rw [← Lib.mk_data a, ← Lib.mk_data b, e]

set_option maxHeartbeats 400000 in
theorem open_yes (s : ByteArray) (w : World) (hs : s.size ≤ 4000) (h2 : 2 ≤ s.size) (h : sealedB (s.extract 0 (s.size - 2)) = s) :
    Calls Try.prog 22 #[.string s] w fun e w' => e = .returned (.tuple #[.string (s.extract 0 (s.size - 2)), .bool true]) ∧ Below w.heap.size w w' := by
  have hx := extract_small s (s.size - 2) hs
  have hq := str_eq h
  clear h
  go_enter Try.func22, Try.ntmps22
  go_wp2_with (go_at_call 18; refine (sealed_any _ _ hx).mono ?_; rintro e w' ⟨rfl, hb⟩)
  go_ret2
  exact ⟨rfl, by assumption⟩

set_option maxHeartbeats 400000 in
theorem open_no (s : ByteArray) (w : World) (hs : s.size ≤ 4000) (h2 : 2 ≤ s.size) (h : sealedB (s.extract 0 (s.size - 2)) ≠ s) :
    Calls Try.prog 22 #[.string s] w fun e w' => e = .returned (.tuple #[.string ByteArray.empty, .bool false]) ∧ Below w.heap.size w w' := by
  have hx := extract_small s (s.size - 2) hs
  have hq := str_ne h
  clear h
  go_enter Try.func22, Try.ntmps22
  go_wp2_with (go_at_call 18; refine (sealed_any _ _ hx).mono ?_; rintro e w' ⟨rfl, hb⟩)
  go_ret2
  exact ⟨rfl, by assumption⟩

set_option maxHeartbeats 400000 in
theorem open_short (s : ByteArray) (w : World) (h2 : ¬ 2 ≤ s.size) :
    Calls Try.prog 22 #[.string s] w fun e w' => e = .returned (.tuple #[.string ByteArray.empty, .bool false]) ∧ Below w.heap.size w w' := by
  go_enter Try.func22, Try.ntmps22
  go_wp2
  go_ret2
  exact ⟨rfl, Below.refl _ _⟩

end Go.Proofs.Ytocjimedbnjmiaa
