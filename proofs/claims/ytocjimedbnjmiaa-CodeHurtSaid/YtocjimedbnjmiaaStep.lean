/-
  The one-bit step of the sum, walked: what it returns is the plain step. Conditions: the argument is a number of 16 bits.
-/
import Derived.Test.YtocjimedbnjmiaaRows
import Derived.Test.YtocjimedbnjmiaaMath
import Derived.WalkKit
import Derived.WalkSpells
import Derived.WalkLawsBesides
import Derived.Lib.Hide
namespace Go.Proofs.Ytocjimedbnjmiaa
open Go.RowKit
open Sums

theorem ret_int {k : IntKind} {a b : Int} (h : a = b) : Ending.returned (.int k a) = .returned (.int k b) := by rw [h]

theorem xor16 (a b : BitVec 16) : bits .xor .u16 (a.toNat : Int) (b.toNat : Int) = ((a ^^^ b).toNat : Int) := by
  rw [u16_xor_nat _ _ a.isLt b.isLt, BitVec.toNat_xor]

theorem shl16 (x : BitVec 16) : IntKind.u16.wrap ((x.toNat : Int) * 2) = ((x <<< 1).toNat : Int) := by
  rw [IntKind.wrap_u16, BitVec.toNat_shiftLeft, Nat.shiftLeft_eq]
  simp

theorem and15 (x : BitVec 16) : (bits .and .u16 (x.toNat : Int) 32768 != 0) = x.getLsbD 15 := by
  have h : bits .and .u16 (x.toNat : Int) 32768 = ((x &&& BitVec.twoPow 16 15).toNat : Int) := by
    have := u16_and_nat x.toNat 32768 x.isLt (by omega)
    rw [show ((32768 : Nat) : Int) = 32768 from rfl] at this
    rw [this, BitVec.toNat_and]; rfl
  rw [h, BitVec.and_twoPow]
  cases x.getLsbD 15 <;> rfl

set_option maxHeartbeats 400000 in
theorem dbl_any (n : Int) (x : BitVec 16) (h : n = (x.toNat : Int)) (w : World) :
    Calls Try.prog 54 #[.int .u16 n] w fun e w' => e = .returned (.int .u16 ((dbl x).toNat : Int)) ∧ w = w' := by
  have hA : (bits .and .u16 n 32768 != 0) = x.getLsbD 15 := by rw [h]; exact and15 x
  have HX := Lib.hid h; clear h
  have HA := Lib.hid hA; clear hA
  go_enter Try.func54, Try.ntmps54
  go_wp2
  · have hx : x.getLsbD 15 = true := by rw [← HA.out]; assumption
    go_ret
    refine ⟨ret_int ?_, rfl⟩
    rw [HX.out, shl16, show (4129 : Int) = ((4129#16 : BitVec 16).toNat : Int) from rfl, xor16]
    unfold dbl; rw [hx]; rfl
  · have hx : x.getLsbD 15 = false := by rw [← HA.out]; assumption
    go_ret
    refine ⟨ret_int ?_, rfl⟩
    rw [HX.out, shl16]
    unfold dbl; rw [hx]; rfl

end Go.Proofs.Ytocjimedbnjmiaa
