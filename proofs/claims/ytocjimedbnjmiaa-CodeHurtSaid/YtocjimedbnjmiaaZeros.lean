/-
  crc.Sum, crc.Zeros, crc.Join and what they call, walked: each returns its plain value. Conditions: arguments fit their kinds.
-/
import Derived.Test.YtocjimedbnjmiaaRefMore
namespace Go.Proofs.Ytocjimedbnjmiaa
open Go.RowKit
open Sums

/-- The sum of a text. -/
def sum (l : List UInt8) : BitVec 16 := more 0xFFFF#16 l

theorem sum_any (s : ByteArray) (w : World) (hs : s.size ≤ maxLen) :
    Calls Try.prog 20 #[.string s] w fun e w' => e = .returned (.int .u16 ((sum s.data.toList).toNat : Int)) ∧ w = w' := by
  go_enter Try.func20, Try.ntmps20
  go_wp2_with (go_at_call 40; refine (more_any _ 0xFFFF#16 rfl _ _ hs).mono ?_; rintro e w' ⟨rfl, rfl⟩)
  go_ret
  exact ⟨rfl, rfl⟩

theorem rsum_any (s : ByteArray) (w : World) (hs : s.size ≤ maxLen) :
    Calls Try.prog 13 #[.string s] w fun e w' => e = .returned (.int .u16 ((sum s.data.toList).toNat : Int)) ∧ w = w' := by
  go_enter Try.func13, Try.ntmps13
  go_wp2_with (go_at_call 29; refine (rmore_any _ 0xFFFF#16 rfl _ _ hs).mono ?_; rintro e w' ⟨rfl, rfl⟩)
  go_ret
  exact ⟨rfl, rfl⟩

theorem bit_at (b : BitVec 16) (i : Nat) : (bits .and .u16 ((b.toNat : Int) / 2 ^ i) 1 == 1) = b.getLsbD i := by
  have h : bits .and .u16 ((b.toNat : Int) / 2 ^ i) 1 = (((b >>> i) &&& 1#16).toNat : Int) := by
    have e : ((b.toNat : Int) / 2 ^ i) = ((b >>> i).toNat : Int) := by
      rw [BitVec.toNat_ushiftRight, Nat.shiftRight_eq_div_pow]
      simp
    rw [e]
    have := u16_and_nat (b >>> i).toNat 1 (BitVec.isLt _) (by omega)
    rw [show ((1 : Nat) : Int) = 1 from rfl] at this
    rw [this, BitVec.toNat_and]; rfl
  rw [h, show (1#16 : BitVec 16) = BitVec.twoPow 16 0 from rfl, BitVec.and_twoPow, BitVec.getLsbD_ushiftRight]
  simp only [Nat.add_zero]
  cases b.getLsbD i <;> rfl

theorem pw_256 : (256 : Int) = ((pw (8 * 1)).toNat : Int) := by decide

theorem half_odd (c d : Nat) (m : Int) (N : Nat) (h : c + d * m.toNat = N) (h0 : 0 < m) (h1 : m % 2 = 1) : (c + d) + (d + d) * (m / 2).toNat = N := by
  obtain ⟨k, rfl⟩ := Int.eq_ofNat_of_zero_le (Int.le_of_lt h0)
  rw [Int.toNat_natCast] at h
  have e1 : ((k : Int) / 2).toNat = k / 2 := by omega
  have e2 : k = 2 * (k / 2) + 1 := by omega
  rw [e1, ← h]
  generalize k / 2 = q at *
  subst e2
  rw [Nat.mul_add, Nat.mul_one, ← Nat.two_mul, ← Nat.mul_assoc, Nat.mul_comm d 2]
  omega

theorem half_even (c d : Nat) (m : Int) (N : Nat) (h : c + d * m.toNat = N) (h0 : 0 < m) (h1 : ¬ m % 2 = 1) : c + (d + d) * (m / 2).toNat = N := by
  obtain ⟨k, rfl⟩ := Int.eq_ofNat_of_zero_le (Int.le_of_lt h0)
  rw [Int.toNat_natCast] at h
  have e1 : ((k : Int) / 2).toNat = k / 2 := by omega
  have e2 : k = 2 * (k / 2) := by omega
  rw [e1, ← h]
  generalize k / 2 = q at *
  subst e2
  rw [← Nat.two_mul, ← Nat.mul_assoc, Nat.mul_comm d 2]

def joinOf (k : Int) (a b : BitVec 16) : BitVec 16 := if k < 0 then a else dblN (8 * k.toNat) (a ^^^ 0xFFFF#16) ^^^ b

end Go.Proofs.Ytocjimedbnjmiaa
