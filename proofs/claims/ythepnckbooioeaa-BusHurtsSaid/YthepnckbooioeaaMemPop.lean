/-
  How many bits are set, as the library counts them, walked. Conditions: none.
-/
import Derived.Test.YthepnckbooioeaaMemRef
import Derived.Lib.BitFns
import Derived.Lib.Tables
namespace Go.Proofs.Ythepnckbooioeaa.Mem
open Go.RowKit

/-- How many of eight. -/
def cnt (s : St) (k : Nat) : Nat := ((List.range 8).filter fun i => s.getLsbD (k + i)).length
theorem cnt_le (s : St) (k : Nat) : cnt s k ≤ 8 := by
  have := List.length_filter_le (fun i => s.getLsbD (k + i)) (List.range 8)
  simpa [cnt] using this
theorem listB_cnt (s : St) : (listB s).length = cnt s 0 + cnt s 8 + cnt s 16 + cnt s 24 := by
  have e : List.range 32 = (List.range 8).map (0 + ·) ++ (List.range 8).map (8 + ·) ++ (List.range 8).map (16 + ·) ++ (List.range 8).map (24 + ·) := by decide
  unfold listB
  rw [e]
  simp only [List.filter_append, List.length_append, List.filter_map, List.length_map]
  rfl
theorem pop_fin : ∀ x : Fin 256, Lib.pop8 (x.val : Int) = (((List.range 8).filter fun i => x.val.testBit i).length : Int) := by decide +kernel
theorem pop_cnt (s : St) (k : Nat) : Lib.pop8 ((s.toNat / 2 ^ k % 256 : Nat) : Int) = (cnt s k : Int) := by
  have h := pop_fin ⟨s.toNat / 2 ^ k % 256, Nat.mod_lt _ (by omega)⟩
  simp only at h
  rw [h]
  unfold cnt
  congr 2
  apply List.filter_congr
  intro i hi
  have hi : i < 8 := List.mem_range.1 hi
  unfold BitVec.getLsbD
  rw [show (256 : Nat) = 2 ^ 8 from rfl, Nat.testBit_mod_two_pow, Nat.testBit_div_two_pow]
  simp [hi, Nat.add_comm]

theorem and255 (y : Nat) (h : y < 4294967296) : bits .and .u32 (y : Int) 255 = ((y % 256 : Nat) : Int) := by
  rw [show (255 : Int) = ((255 : Nat) : Int) from rfl, u32_and_nat y 255 h (by omega), nat_mask8]

theorem below_drewN {B : Nat} {a w : World} (h : Below B a w) (m : Nat) : Below B a (w.drewN m) := ⟨h.os, h.tape, h.output, h.size, h.block⟩

/-- List: those that a set has, in a row of the call's own. -/
theorem List_made (w : World) (k : Nat) (hk : k ≤ 32) (w1 : World) (m : Nat) (hw : w1 = w.drewN m) : ∃ w2, (Instr.makeSlice 79 (.int .i64 0) (.int .i64 (k : Int))).run Try.prog w1 = .ok (.slice (some ⟨w1.heap.size, 0, none⟩) 0 k) w2 ∧
    w2.ownsRow w.heap.size 3 1 (.slice (some ⟨w1.heap.size, 0, none⟩) 0 k) 0 (ivals []) ∧ Below w.heap.size w w2 := by
  obtain ⟨i0, hi, hz0, hz1, hz2⟩ := info_parts Try.infoInt
  have hs : w1.heap.size = w.heap.size := by subst hw; rfl
  obtain ⟨w2, h1, h2, h3⟩ := run_make_own (P := Try.prog) w1 w.heap.size 79 3 i0 (.int .i64 0) 1 Try.underlying79 hi hz0 hz1 .i64 .i64 k (by rw [hz2]; omega) (by unfold maxLen; omega) (by omega)
  refine ⟨w2, h1, h2, ?_⟩
  subst hw
  exact (below_drewN (Below.refl w.heap.size w) m).grown h3 (Nat.le_refl _) (fun g hg => by cases hg)

end Go.Proofs.Ythepnckbooioeaa.Mem
