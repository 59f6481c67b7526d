/-
  The reference's Get and Put, walked. Conditions: areas of up to 1000000 bytes.
-/
import Derived.Test.YtmlopacekoghkaaIcR
import Derived.Test.YtmlopacekoghkaaIcP
import Derived.Laws.BytesArg
import Derived.Lib.Strings
import Derived.BigQuiet
namespace Go.Proofs.Ytmlopacekoghkaa.Ic
open Go.RowKit
open Oct

theorem below_drewN {N : Nat} {w w' : World} (h : Below N w w') (n : Nat) : Below N w (w'.drewN n) := ⟨h.os, h.tape, h.output, h.size, h.block⟩
theorem w64 (a : Int) (h1 : -9223372036854775808 ≤ a) (h2 : a ≤ 9223372036854775807) : wrap64 a = a := by
  have := IntKind.wrap_i64 a
  unfold wrap64 at *
  omega
theorem at_list (s : ByteArray) (i : Nat) (h : i < s.size) (h2 : i < s.data.toList.length) : s.data.toList[i] = s[i]'h := rfl

theorem one_cell (w : World) (a : Int) : ∀ i, i < 1 → (w.alloc (.cells #[.int .u8 a] 5)).cell? ⟨w.heap.size, 0 + i, none⟩ = some (.int .u8 ([a].getD i 0)) := by
  intro i hi
  match i, hi with
  | 0, _ => rw [cell_of_row _ _ _ _ 5 (0, 0) (heap_alloc_new w _)]; rfl
theorem strOfNums_S (l : List UInt8) : strOfNums (l.map fun c => (c.toNat : Int)) = S l := by
  unfold strOfNums S
  rw [List.map_map]
  congr 2
  have : ((fun n : Int => UInt8.ofNat n.toNat) ∘ fun c : UInt8 => (c.toNat : Int)) = id := by
    funext c; simp
  rw [this, List.map_id]
theorem S_one (n k : Nat) : strOfNums [(n / 256 ^ k : Nat) % 256] ++ S (be n k) = S (be n (k + 1)) := by
  have h : strOfNums [(((n / 256 ^ k : Nat) : Int) % 256)] = S [UInt8.ofNat (n / 256 ^ k)] := by
    rw [← strOfNums_S]
    congr 1
  rw [h, S_app]
  rfl
theorem extract_head (s : ByteArray) (k : Nat) : s.extract 0 k = S (s.data.toList.take k) := by
  apply ByteArray.ext
  apply Array.toList_inj.1
  simp [S, ByteArray.data_extract]
theorem extract_tail (s : ByteArray) (k : Nat) : s.extract k s.size = S (s.data.toList.drop k) := by
  apply ByteArray.ext
  apply Array.toList_inj.1
  have hl : s.data.toList.length = s.size := Array.length_toList
  simp [S, ByteArray.data_extract]
  rw [List.take_of_length_le (by simp)]

end Go.Proofs.Ytmlopacekoghkaa.Ic
