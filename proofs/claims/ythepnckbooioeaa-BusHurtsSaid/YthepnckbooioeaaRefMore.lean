/-
  The reference of More, walked: it returns the same plain sum. Conditions: the text is no longer than a text can be.
-/
import Derived.Test.YthepnckbooioeaaMore
namespace Go.Proofs.Ythepnckbooioeaa
open Go.RowKit
open Sums

theorem xor64 (a b : Nat) (ha : a < 65536) (hb : b < 65536) : bits .xor .i64 (a : Int) (b : Int) = ((a ^^^ b : Nat) : Int) := by
  have h64 : (65536 : Nat) ≤ 2 ^ IntKind.i64.bits := by decide
  have ha' : a % 2 ^ IntKind.i64.bits = a := Nat.mod_eq_of_lt (by omega)
  have hb' : b % 2 ^ IntKind.i64.bits = b := Nat.mod_eq_of_lt (by omega)
  simp only [bits, BitVec.ofInt_natCast, BitVec.toNat_xor, BitVec.toNat_ofNat, ha', hb']
  have := Nat.xor_lt_two_pow (n := 16) ha hb
  exact IntWalk.i64_in _ (by omega)

theorem rbyte_in (y : BitVec 16) (c : UInt8) : bits .xor .i64 (y.toNat : Int) ((c.toNat : Int) * 256) = ((y ^^^ (byte c <<< 8)).toNat : Int) := by
  have hc := c.toNat_lt
  have hy := y.isLt
  rw [show ((c.toNat : Int) * 256) = ((c.toNat * 256 : Nat) : Int) by simp]
  rw [xor64 _ _ hy (by omega), BitVec.toNat_xor, BitVec.toNat_shiftLeft, Nat.shiftLeft_eq]
  unfold byte
  rw [BitVec.toNat_ofNat]
  congr 2
  omega

theorem top_bit (x : BitVec 16) : x.getLsbD 15 = decide (32768 ≤ x.toNat) := by
  have h := BitVec.msb_eq_decide x
  rw [BitVec.msb_eq_getLsbD_last] at h
  exact h

theorem dbl_hi (x : BitVec 16) (h : 65536 ≤ 2 * x.toNat) : bits .xor .i64 (2 * (x.toNat : Int) - 65536) 4129 = ((dbl x).toNat : Int) := by
  have hx := x.isLt
  rw [show (2 * (x.toNat : Int) - 65536) = ((2 * x.toNat - 65536 : Nat) : Int) by omega]
  rw [show (4129 : Int) = ((4129 : Nat) : Int) from rfl, xor64 _ _ (by omega) (by omega)]
  have h15 : x.getLsbD 15 = true := by
    rw [top_bit]
    exact decide_eq_true (by omega)
  unfold dbl
  rw [h15, if_pos rfl, BitVec.toNat_xor, BitVec.toNat_shiftLeft, Nat.shiftLeft_eq]
  rw [show x.toNat * 2 ^ 1 % 2 ^ 16 = 2 * x.toNat - 65536 by omega]
  rfl

theorem dbl_lo (x : BitVec 16) (h : ¬ 65536 ≤ 2 * x.toNat) : 2 * (x.toNat : Int) = ((dbl x).toNat : Int) := by
  have hx := x.isLt
  have h15 : x.getLsbD 15 = false := by
    rw [top_bit]
    exact decide_eq_false (by omega)
  unfold dbl
  rw [h15, if_neg (by decide), BitVec.toNat_shiftLeft, Nat.shiftLeft_eq]
  omega

theorem i64_small (n : Nat) (h : n < 65536) : IntKind.i64.wrap (n : Int) = n := IntWalk.i64_in _ (by omega)
theorem u16_small (n : Nat) (h : n < 65536) : IntKind.u16.wrap (n : Int) = n := by rw [IntKind.wrap_u16]; omega

end Go.Proofs.Ythepnckbooioeaa
