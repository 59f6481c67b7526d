/-
  The law CrcZeros, walked: it returns true. Conditions: the number of bytes is one of 64 bits.
-/
import Derived.Test.YthajfgdgocgfbaaSumsWalk
import Derived.Deep.OwnRows
import Derived.Deep.RegionWith
namespace Go.Proofs.Ythajfgdgocgfbaa
open Go.RowKit
open Sums

theorem Try.info5 : (Try.prog.info? 5).map (fun i => (i.zero, i.size, i.bytes)) = some (some (.int .u8 0), 1, 1) := by kernel_rfl

/-- A text of n bytes 0. -/
def zerosB (n : Nat) : ByteArray := ⟨(List.replicate n (0 : UInt8)).toArray⟩

theorem zerosB_size (n : Nat) : (zerosB n).size = n := by simp [zerosB, ByteArray.size]

theorem made_string (n : Nat) (w : World) :
    (convert 28 9 (.slice (some ⟨w.heap.size, 0, none⟩) n n)).run Try.prog (w.alloc (.cells (madeCells #[.int .u8 0] n) 5)) = .ok (.string (zerosB n)) (w.alloc (.cells (madeCells #[.int .u8 0] n) 5)) := by
  have h := run_convert_bytes_arg (P := Try.prog) (w.alloc (.cells (madeCells #[.int .u8 0] n) 5)) 28 5 Try.underlying28 Try.underlying5 w.heap.size 0 n n (List.replicate n 0) (by simp) (fun i hi => by
    rw [cell_of_row _ _ _ _ _ _ (heap_alloc_new w _)]
    simp [madeCells, List.getD_eq_getElem?_getD, hi, Nat.mod_one]) 9 Try.underlying9
  rw [h]
  unfold strOfNums zerosB
  simp

theorem zeros_nat (n : Nat) (x : BitVec 16) (hn : n ≤ 9223372036854775807) (w : World) :
    Calls Try.prog 13 #[.int .u16 (x.toNat : Int), .int .i64 (n : Int)] w fun e w' => e = .returned (.int .u16 ((dblN (8 * n) x).toNat : Int)) ∧ w = w' := by
  have h := zeros_any _ n x rfl (by omega) w
  rwa [Int.toNat_natCast] at h

theorem rmore_zeros (n : Nat) (x : BitVec 16) (hn : n ≤ 4000) (w : World) :
    Calls Try.prog 12 #[.int .u16 (x.toNat : Int), .string (zerosB n)] w fun e w' => e = .returned (.int .u16 ((dblN (8 * n) x).toNat : Int)) ∧ w = w' := by
  have h := rmore_any _ x rfl (zerosB n) w (le_max (by rw [zerosB_size]; exact hn))
  rwa [show more x (zerosB n).data.toList = dblN (8 * n) x from more_zeros x n] at h

set_option maxHeartbeats 1000000 in
theorem zeros_some (x : BitVec 16) (n : Nat) (h1 : 1 ≤ n) (h3 : n ≤ 3000) (w : World) :
    Calls Try.prog 4 #[.int .u16 (x.toNat : Int), .int .i64 (n : Int)] w fun e w' => e = .returned (.bool true) ∧ Below w.heap.size w w' := by
  have hmk := run_make_row' (P := Try.prog) 28 5 (.int .u8 0) 1 Try.underlying28 Try.info5 rfl .i64 .i64 n (by omega) (by omega)
  have hcv := made_string n
  have hcd : ∀ w : World, (convert 28 9 (.slice (some ⟨w.heap.size, 0, none⟩) n n)).run Try.prog (w.alloc (.cells (madeCells #[.int .u8 0] n) 5)).drew = .ok (.string (zerosB n)) (w.alloc (.cells (madeCells #[.int .u8 0] n) 5)).drew := fun w => made_string n w.drew
  go_enter Try.func4, Try.ntmps4
  go_wp2_with fail
  refine (awake_any _).mono ?_
  rintro e w1 ⟨rfl, hb1⟩
  go_wp2_with fail
  go_region_with (first
    | (go_at_call 13; refine (zeros_nat n x (by omega) _).mono ?_; rintro e w' ⟨rfl, rfl⟩)
    | (go_at_call 12; refine (rmore_zeros n x (by omega) _).mono ?_; rintro e w' ⟨rfl, rfl⟩))
  all_goals
    go_wp2_with fail
    go_ret
    exact ⟨rfl, (hb1.alloc hb1.size _).drew⟩

set_option maxHeartbeats 400000 in
theorem zeros_none (x : BitVec 16) (n : Int) (h1 : n < 1) (w : World) :
    Calls Try.prog 4 #[.int .u16 (x.toNat : Int), .int .i64 n] w fun e w' => e = .returned (.bool true) ∧ Below w.heap.size w w' := by
  have hz : ∀ w : World, Calls Try.prog 13 #[.int .u16 (x.toNat : Int), .int .i64 n] w fun e w' => e = .returned (.int .u16 (x.toNat : Int)) ∧ w = w' := fun w =>
    (zeros_any _ n x rfl (by omega) w).mono fun _ _ ⟨he, hw⟩ => ⟨by rw [he, show n.toNat = 0 by omega]; rfl, hw⟩
  have HZ := Lib.hid hz
  clear hz
  go_enter Try.func4, Try.ntmps4
  go_wp2_with fail
  refine (awake_any _).mono ?_
  rintro e w1 ⟨rfl, hb1⟩
  go_wp2_with fail
  refine (HZ.out _).mono ?_
  rintro e w2 ⟨rfl, rfl⟩
  go_wp2_with fail
  go_ret
  exact ⟨rfl, hb1⟩

set_option maxHeartbeats 400000 in
theorem zeros_many (x : BitVec 16) (n : Nat) (h1 : 3000 < n) (hn : n ≤ 9223372036854775807) (w : World) :
    Calls Try.prog 4 #[.int .u16 (x.toNat : Int), .int .i64 (n : Int)] w fun e w' => e = .returned (.bool true) ∧ Below w.heap.size w w' := by
  have h2 : ∀ w : World, Calls Try.prog 13 #[.int .u16 (x.toNat : Int), .int .i64 ((n : Int) / 2)] w fun e w' => e = .returned (.int .u16 ((dblN (8 * (n / 2)) x).toNat : Int)) ∧ w = w' := fun w => by
    have h := zeros_nat (n / 2) x (by omega) w
    rwa [show ((n / 2 : Nat) : Int) = (n : Int) / 2 by omega] at h
  have h4 : ∀ w : World, Calls Try.prog 13 #[.int .u16 ((dblN (8 * (n / 2)) x).toNat : Int), .int .i64 ((n : Int) - (n : Int) / 2)] w fun e w' => e = .returned (.int .u16 ((dblN (8 * n) x).toNat : Int)) ∧ w = w' := fun w => by
    have h := zeros_nat (n - n / 2) (dblN (8 * (n / 2)) x) (by omega) w
    rw [← dblN_add, show 8 * (n / 2) + 8 * (n - n / 2) = 8 * n by omega] at h
    rwa [show ((n - n / 2 : Nat) : Int) = (n : Int) - (n : Int) / 2 by omega] at h
  have H2 := Lib.hid h2
  have H4 := Lib.hid h4
  clear h2 h4
  go_enter Try.func4, Try.ntmps4
  go_wp2_with fail
  refine (awake_any _).mono ?_
  rintro e w1 ⟨rfl, hb1⟩
  go_wp2_with fail
  refine (zeros_nat n x hn _).mono ?_
  rintro e w2 ⟨rfl, rfl⟩
  go_wp2_with fail
  refine (H2.out _).mono ?_
  rintro e w2 ⟨rfl, rfl⟩
  go_wp2_with fail
  refine (H4.out _).mono ?_
  rintro e w2 ⟨rfl, rfl⟩
  go_wp2_with fail
  go_ret
  exact ⟨rfl, hb1⟩

theorem zeros_walk (x : BitVec 16) (n : Int) (hn : n ≤ 9223372036854775807) (w : World) :
    Calls Try.prog 4 #[.int .u16 (x.toNat : Int), .int .i64 n] w fun e w' => e = .returned (.bool true) ∧ Below w.heap.size w w' := by
  by_cases h1 : n < 1
  · exact zeros_none x n h1 w
  · obtain ⟨k, rfl⟩ := Int.eq_ofNat_of_zero_le (show 0 ≤ n by omega)
    by_cases h3 : k ≤ 3000
    · exact zeros_some x k (by omega) h3 w
    · exact zeros_many x k (by omega) (by omega) w
end Go.Proofs.Ythajfgdgocgfbaa
