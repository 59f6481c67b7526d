/-
  crc.More, walked: it returns the plain sum of a text behind a sum. Conditions: the text is no longer than a text can be.
-/
import Derived.Test.YthepnckbooioeaaStep
namespace Go.Proofs.Ythepnckbooioeaa
open Go.RowKit
open Sums

theorem take_snoc (s : ByteArray) (k : Nat) (h : k < s.size) : s.data.toList.take (k + 1) = s.data.toList.take k ++ [s[k]] := by
  rw [List.take_succ_eq_append_getElem (by simpa using h)]; rfl

theorem byte_in (y : BitVec 16) (c : UInt8) : bits .xor .u16 (y.toNat : Int) (IntKind.u16.wrap (IntKind.u16.wrap (c.toNat : Int) * 256)) = ((y ^^^ (byte c <<< 8)).toNat : Int) := by
  rw [← xor16]
  congr 1
  rw [IntKind.wrap_u16, IntKind.wrap_u16, BitVec.toNat_shiftLeft, Nat.shiftLeft_eq]
  unfold byte
  rw [BitVec.toNat_ofNat]
  have := c.toNat_lt
  omega

end Go.Proofs.Ythepnckbooioeaa
