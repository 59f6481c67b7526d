/-
  The reference of More, walked: it returns the same plain sum. Conditions: the text is no longer than a text can be.
-/
import Derived.Test.YtocjimedbnjmiaaMore
namespace Go.Proofs.Ytocjimedbnjmiaa
open Go.RowKit
open Sums

theorem xor64 (a b : Nat) (ha : a < 65536) (hb : b < 65536) : bits .xor .i64 (a : Int) (b : Int) = ((a ^^^ b : Nat) : Int) := by
  have h64 : (65536 : Nat) ≤ 2 ^ IntKind.i64.bits := by decide
  have ha' : a % 2 ^ IntKind.i64.bits = a := Nat.mod_eq_of_lt (by omega)
  have hb' : b % 2 ^ IntKind.i64.bits = b := Nat.mod_eq_of_lt (by omega)
  simp only [bits, BitVec.ofInt_natCast, BitVec.toNat_xor, BitVec.toNat_ofNat, ha', hb']
  have := Nat.xor_lt_two_pow (n := 16) ha hb
  exact IntWalk.i64_in _ (by omega)

theorem rbyte_in (y : BitVec 16) (c : UInt8) : bits .xor .i64 (y.toNat : Int) ((c.toNat : Int) * 256) = ((y ^^^ (byte c <<< 8)).toNat : Int) := by
  have hc := c.toNat_lt
  have hy := y.isLt
  rw [show ((c.toNat : Int) * 256) = ((c.toNat * 256 : Nat) : Int) by simp]
  rw [xor64 _ _ hy (by omega), BitVec.toNat_xor, BitVec.toNat_shiftLeft, Nat.shiftLeft_eq]
  unfold byte
  rw [BitVec.toNat_ofNat]
  congr 2
  omega

theorem top_bit (x : BitVec 16) : x.getLsbD 15 = decide (32768 ≤ x.toNat) := by
  have h := BitVec.msb_eq_decide x
  rw [BitVec.msb_eq_getLsbD_last] at h
  exact h

theorem dbl_hi (x : BitVec 16) (h : 65536 ≤ 2 * x.toNat) : bits .xor .i64 (2 * (x.toNat : Int) - 65536) 4129 = ((dbl x).toNat : Int) := by
  have hx := x.isLt
  rw [show (2 * (x.toNat : Int) - 65536) = ((2 * x.toNat - 65536 : Nat) : Int) by omega]
  rw [show (4129 : Int) = ((4129 : Nat) : Int) from rfl, xor64 _ _ (by omega) (by omega)]
  have h15 : x.getLsbD 15 = true := by
    rw [top_bit]
    exact decide_eq_true (by omega)
  unfold dbl
  rw [h15, if_pos rfl, BitVec.toNat_xor, BitVec.toNat_shiftLeft, Nat.shiftLeft_eq]
  rw [show x.toNat * 2 ^ 1 % 2 ^ 16 = 2 * x.toNat - 65536 by omega]
  rfl

theorem dbl_lo (x : BitVec 16) (h : ¬ 65536 ≤ 2 * x.toNat) : 2 * (x.toNat : Int) = ((dbl x).toNat : Int) := by
  have hx := x.isLt
  have h15 : x.getLsbD 15 = false := by
    rw [top_bit]
    exact decide_eq_false (by omega)
  unfold dbl
  rw [h15, if_neg (by decide), BitVec.toNat_shiftLeft, Nat.shiftLeft_eq]
  omega

theorem i64_small (n : Nat) (h : n < 65536) : IntKind.i64.wrap (n : Int) = n := IntWalk.i64_in _ (by omega)
theorem u16_small (n : Nat) (h : n < 65536) : IntKind.u16.wrap (n : Int) = n := by rw [IntKind.wrap_u16]; omega

set_option maxRecDepth 100000 in
set_option maxHeartbeats 400000 in
theorem rmore_any (n : Int) (x : BitVec 16) (h : n = (x.toNat : Int)) (s : ByteArray) (w : World) (hs : s.size ≤ maxLen) :
    Calls Try.prog 29 #[.int .u16 n, .string s] w fun e w' => e = .returned (.int .u16 ((more x s.data.toList).toNat : Int)) ∧ w = w' := by
  unfold maxLen at hs
  have hb := x.isLt
  subst h
  go_enter Try.func29, Try.ntmps29
  go_wp2
  go_loop [5, 6] (fun t i => ∃ k : Nat, k ≤ s.size ∧ i = .int .i64 k ∧ t = .int .i64 ((more x (s.data.toList.take k)).toNat : Int)) (fun _ i => s.size - (intOf i).toNat)
  case atStart => exact ⟨0, Nat.zero_le _, rfl, by first | rfl | (rw [show wrap64 (x.toNat : Int) = x.toNat from i64_small _ hb]; rfl)⟩
  case round =>
    obtain ⟨k, hk, rfl, rfl⟩ := hrel
    by_cases hlt : k < s.size
    · have hts := take_snoc s k hlt
      have HS := Lib.hid (show more x (s.data.toList.take (k + 1)) = dblN 8 (more x (s.data.toList.take k) ^^^ (byte s[k] <<< 8)) by rw [hts, more_snoc]; rfl)
      clear hts
      generalize more x (s.data.toList.take k) = y at *
      have HB := Lib.hid (rbyte_in y s[k])
      have hc := s[k].toNat_lt
      go_wp2
      go_loop [5, 7] (fun t i => ∃ j : Nat, j ≤ 8 ∧ i = .int .i64 j ∧ t = .int .i64 ((dblN j (y ^^^ (byte s[k] <<< 8))).toNat : Int)) (fun _ i => 8 - (intOf i).toNat)
      case atStart => exact ⟨0, by omega, rfl, by rw [HB.out]; rfl⟩
      case round =>
        obtain ⟨j, hj, rfl, rfl⟩ := hrel
        by_cases hlj : j < 8
        · have HD := Lib.hid (dblN_succ' j (y ^^^ (byte s[k] <<< 8)))
          generalize dblN j (y ^^^ (byte s[k] <<< 8)) = z at *
          have hz := z.isLt
          by_cases h2 : 65536 ≤ 2 * z.toNat
          · have HV := Lib.hid (HD.out ▸ dbl_hi z h2)
            clear HD
            have h2' : (65536 : Int) ≤ 2 * (z.toNat : Int) := by omega
            clear h2
            go_wp2
            go_round
            case rel =>
              exact ⟨j + 1, by omega, by go_num, by rw [HV.out]⟩
            case measure => simp [intOf]; omega
          · have HV := Lib.hid (HD.out ▸ dbl_lo z h2)
            clear HD
            have h2' : ¬ (65536 : Int) ≤ 2 * (z.toNat : Int) := by omega
            clear h2
            go_wp2
            go_round
            case rel => exact ⟨j + 1, by omega, by go_num, by rw [HV.out]⟩
            case measure => simp [intOf]; omega
        · obtain rfl : j = 8 := by omega
          go_wp2
          go_round
          case rel => exact ⟨k + 1, by omega, by go_num, by rw [HS.out]⟩
          case measure => simp [intOf]; omega
    · go_wp2
      go_ret
      have e := List.take_of_length_le (l := s.data.toList) (i := k) (by simp; omega)
      exact ⟨ret_int (by rw [e]), rfl⟩
end Go.Proofs.Ytocjimedbnjmiaa
