/-
  crc.More, walked: it returns the plain sum of a text behind a sum. Conditions: the text is no longer than a text can be.
-/
import Derived.Test.YtocjimedbnjmiaaStep
namespace Go.Proofs.Ytocjimedbnjmiaa
open Go.RowKit
open Sums

theorem take_snoc (s : ByteArray) (k : Nat) (h : k < s.size) : s.data.toList.take (k + 1) = s.data.toList.take k ++ [s[k]] := by
  rw [List.take_succ_eq_append_getElem (by simpa using h)]; rfl

theorem byte_in (y : BitVec 16) (c : UInt8) : bits .xor .u16 (y.toNat : Int) (IntKind.u16.wrap (IntKind.u16.wrap (c.toNat : Int) * 256)) = ((y ^^^ (byte c <<< 8)).toNat : Int) := by
  rw [← xor16]
  congr 1
  rw [IntKind.wrap_u16, IntKind.wrap_u16, BitVec.toNat_shiftLeft, Nat.shiftLeft_eq]
  unfold byte
  rw [BitVec.toNat_ofNat]
  have := c.toNat_lt
  omega

set_option maxHeartbeats 400000 in
theorem more_any (n : Int) (x : BitVec 16) (h : n = (x.toNat : Int)) (s : ByteArray) (w : World) (hs : s.size ≤ maxLen) :
    Calls Try.prog 40 #[.int .u16 n, .string s] w fun e w' => e = .returned (.int .u16 ((more x s.data.toList).toNat : Int)) ∧ w = w' := by
  unfold maxLen at hs
  have HX := Lib.hid h; clear h
  go_enter Try.func40, Try.ntmps40
  go_wp2
  go_loop [0, 8] (fun t i => ∃ k : Nat, k ≤ s.size ∧ i = .int .i64 k ∧ t = .int .u16 ((more x (s.data.toList.take k)).toNat : Int)) (fun _ i => s.size - (intOf i).toNat)
  case atStart => exact ⟨0, Nat.zero_le _, rfl, by rw [HX.out]; rfl⟩
  case round =>
    obtain ⟨k, hk, rfl, rfl⟩ := hrel
    by_cases hlt : k < s.size
    · have hts := take_snoc s k hlt
      have HS := Lib.hid (show more x (s.data.toList.take (k + 1)) = dblN 8 (more x (s.data.toList.take k) ^^^ (byte s[k] <<< 8)) by rw [hts, more_snoc]; rfl)
      clear hts
      generalize more x (s.data.toList.take k) = y at *
      have HB := Lib.hid (byte_in y s[k])
      go_wp2
      go_loop [0, 18] (fun t i => ∃ j : Nat, j ≤ 8 ∧ i = .int .i64 j ∧ t = .int .u16 ((dblN j (y ^^^ (byte s[k] <<< 8))).toNat : Int)) (fun _ i => 8 - (intOf i).toNat)
      case atStart => exact ⟨0, by omega, rfl, by rw [HB.out]; rfl⟩
      case round =>
        obtain ⟨j, hj, rfl, rfl⟩ := hrel
        by_cases hlj : j < 8
        · go_wp2_with (go_at_call 54; refine (dbl_any _ _ rfl _).mono ?_; rintro e w' ⟨rfl, rfl⟩)
          go_round
          case rel => exact ⟨j + 1, by omega, by go_num, by rw [dblN_succ']⟩
          case measure => simp [intOf]; omega
        · obtain rfl : j = 8 := by omega
          go_wp2
          go_round
          case rel => exact ⟨k + 1, by omega, by go_num, by rw [HS.out]⟩
          case measure => simp [intOf]; omega
    · go_wp2
      go_ret
      exact ⟨ret_int (by rw [List.take_of_length_le (by simp; omega)]), rfl⟩

end Go.Proofs.Ytocjimedbnjmiaa
