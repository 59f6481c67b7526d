/-
  The calls of an eye that hand on to those that read, the reference's, and the reference's bytes of a number, walked. Conditions: none but on sizes.
-/
import Derived.Test.YtocjimedbnjmiaaOctNum
namespace Go.Proofs.Ytocjimedbnjmiaa
open Go.RowKit
open Oct

set_option maxHeartbeats 800000 in
theorem ebyte_any (p : Nat) (l : List UInt8) (b : Bool) (w : World) (he : EyeAt w p l b) :
    Calls Try.prog 24 #[.pointer (some ⟨p, 0, none⟩)] w (Reads (.int .u8 (num (got 1 l))) w p (left 1 l) (lost 1 l b)) := by
  have hy : num (got 1 l) < 256 := num_got 1 l 1 (by decide)
  have HT := Lib.hid (number_any p 1 l b w he (by decide))
  clear he
  generalize num (got 1 l) = y at *
  go_enter Try.func24, Try.ntmps24
  go_wp2_with fail
  refine (HT.out).mono ?_
  rintro e w1 ⟨rfl, he1, hg1⟩
  go_wp2
  go_ret
  exact ⟨rfl, he1, hg1⟩

set_option maxHeartbeats 800000 in
theorem efour_any (p : Nat) (l : List UInt8) (b : Bool) (w : World) (he : EyeAt w p l b) :
    Calls Try.prog 42 #[.pointer (some ⟨p, 0, none⟩)] w (Reads (.int .u32 (num (got 4 l))) w p (left 4 l) (lost 4 l b)) := by
  have HT := Lib.hid (number_any p 4 l b w he (by decide))
  clear he
  generalize num (got 4 l) = y at *
  go_enter Try.func42, Try.ntmps42
  go_wp2_with fail
  refine (HT.out).mono ?_
  rintro e w1 ⟨rfl, he1, hg1⟩
  go_wp2
  go_ret
  exact ⟨rfl, he1, hg1⟩


set_option maxHeartbeats 800000 in
theorem blind_any (p : Nat) (l : List UInt8) (b : Bool) (w : World) (he : EyeAt w p l b) :
    Calls Try.prog 25 #[.pointer (some ⟨p, 0, none⟩)] w fun e w' => e = .returned (.bool b) ∧ w = w' := by
  obtain ⟨h1, h2, h3, h4⟩ := he
  go_enter Try.func25, Try.ntmps25
  go_wp2
  go_ret
  exact ⟨rfl, rfl⟩

set_option maxHeartbeats 800000 in
theorem left_any (p : Nat) (l : List UInt8) (b : Bool) (w : World) (he : EyeAt w p l b) :
    Calls Try.prog 26 #[.pointer (some ⟨p, 0, none⟩)] w fun e w' => e = .returned (.int .i64 (l.length : Int)) ∧ w = w' := by
  obtain ⟨h1, h2, h3, h4⟩ := he
  rw [← S_size]
  go_enter Try.func26, Try.ntmps26
  go_wp2
  go_ret
  exact ⟨rfl, rfl⟩

def doneB (l : List UInt8) (b : Bool) : Bool := !b && decide (l.length = 0)

theorem eye_new (w : World) (s : ByteArray) (t : TypeId) : EyeAt (w.alloc (.cells #[.string s, .bool false] t)) w.heap.size s.data.toList false := by
  have h := cell_two_new w (.string s) (.bool false) t
  exact ⟨h 0 _ rfl, h 1 _ rfl, by simp [go_sem], by simp [go_sem]⟩

set_option maxHeartbeats 800000 in
theorem neweye_any (s : ByteArray) (w : World) :
    Calls Try.prog 23 #[.string s] w fun e w' => e = .returned (.pointer (some ⟨w.heap.size, 0, none⟩)) ∧ EyeAt w' w.heap.size s.data.toList false ∧ Below w.heap.size w w' := by
  have HE := Lib.hid (eye_new w s 73)
  go_enter Try.func23, Try.ntmps23
  go_wp2
  go_ret
  exact ⟨rfl, HE.out, (Below.refl _ _).alloc (Nat.le_refl _) _⟩

theorem one_cell (w : World) (a : Int) : ∀ i, i < 1 → (w.alloc (.cells #[.int .u8 a] 5)).cell? ⟨w.heap.size, 0 + i, none⟩ = some (.int .u8 ([a].getD i 0)) := by
  intro i hi
  match i, hi with
  | 0, _ => rw [cell_of_row _ _ _ _ 5 (0, 0) (heap_alloc_new w _)]; rfl

theorem S_one (n k : Nat) : strOfNums [(n / 256 ^ k : Nat) % 256] ++ S (be n k) = S (be n (k + 1)) := by
  have h : strOfNums [(((n / 256 ^ k : Nat) : Int) % 256)] = S [UInt8.ofNat (n / 256 ^ k)] := by
    rw [← strOfNums_S]
    congr 1
  rw [h, S_app]
  rfl

set_option maxHeartbeats 800000 in
theorem bytes_any (n c : Nat) (hn : (n : Int) ≤ 4294967295) (hc : c ≤ 8) (w : World) :
    Calls Try.prog 21 #[.int .u32 (n : Int), .int .i64 (c : Int)] w fun e w' => e = .returned (.string (S (be n c))) ∧ Below w.heap.size w w' := by
  have hk := fun (w : World) (a : Int) => run_convert_bytes_arg (P := Try.prog) (w.alloc (.cells #[.int .u8 a] 5)) 56 5 Try.underlying56 Try.underlying5 w.heap.size 0 1 1 [a] rfl (one_cell w a) 9 Try.underlying9
  go_enter Try.func21, Try.ntmps21
  go_wp2
  go_loopw [0, 5, 6] (fun t s i wr => ∃ k : Nat, k ≤ c ∧ i = .int .i64 k ∧ t = .int .u32 ((n / 256 ^ k : Nat) : Int) ∧ s = .string (S (be n k)) ∧ Below w.heap.size w wr) (fun _ _ i _ => c - (intOf i).toNat)
  case atStart => exact ⟨0, Nat.zero_le _, rfl, by simp, rfl, Below.refl _ _⟩
  case round =>
    obtain ⟨k, hk1, rfl, rfl, rfl, hbel⟩ := hrel
    by_cases hlt : k < c
    · have HS := Lib.hid (S_one n k)
      have HD := Lib.hid (show ((n / 256 ^ k : Nat) : Int) / 256 = ((n / 256 ^ (k + 1) : Nat) : Int) by rw [Nat.pow_succ, ← Nat.div_div_eq_div_mul]; simp)
      have hy : ((n / 256 ^ k : Nat) : Int) ≤ 4294967295 := by have := Nat.div_le_self n (256 ^ k); omega
      have hz2 : (S (be n k)).size ≤ 8 := by rw [S_size, be_length]; omega
      generalize n / 256 ^ k = y at *
      generalize be n k = l0 at *
      have hb2 := fun o => hbel.alloc hbel.size o
      clear hbel
      have hz : (strOfNums [(y : Int) % 256]).size ≤ 1 := by simp [strOfNums, ByteArray.size]
      go_wp2
      go_roundw
      case rel => exact ⟨k + 1, by omega, by go_num, by rw [← HD.out], by rw [← HS.out], hb2 _⟩
      case measure => simp [intOf]; omega
    · obtain rfl : k = c := by omega
      go_wp2
      go_ret
      exact ⟨rfl, hbel⟩

end Go.Proofs.Ytocjimedbnjmiaa
