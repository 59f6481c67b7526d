/-
  How many bits are set, as the library counts them, walked. Conditions: none.
-/
import Derived.Test.YtgeelnpdahlcpaaDoorMemRef
import Derived.Lib.BitFns
import Derived.Lib.Tables
namespace Go.Proofs.YtgeelnpdahlcpaaDoor
open Go.RowKit

/-- How many of eight. -/
def cnt (s : St) (k : Nat) : Nat := ((List.range 8).filter fun i => s.getLsbD (k + i)).length
theorem cnt_le (s : St) (k : Nat) : cnt s k ≤ 8 := by
  have := List.length_filter_le (fun i => s.getLsbD (k + i)) (List.range 8)
  simpa [cnt] using this
theorem listB_cnt (s : St) : (listB s).length = cnt s 0 + cnt s 8 + cnt s 16 + cnt s 24 := by
  have e : List.range 32 = (List.range 8).map (0 + ·) ++ (List.range 8).map (8 + ·) ++ (List.range 8).map (16 + ·) ++ (List.range 8).map (24 + ·) := by decide
  unfold listB
  rw [e]
  simp only [List.filter_append, List.length_append, List.filter_map, List.length_map]
  rfl
theorem pop_fin : ∀ x : Fin 256, Lib.pop8 (x.val : Int) = (((List.range 8).filter fun i => x.val.testBit i).length : Int) := by decide +kernel
theorem pop_cnt (s : St) (k : Nat) : Lib.pop8 ((s.toNat / 2 ^ k % 256 : Nat) : Int) = (cnt s k : Int) := by
  have h := pop_fin ⟨s.toNat / 2 ^ k % 256, Nat.mod_lt _ (by omega)⟩
  simp only at h
  rw [h]
  unfold cnt
  congr 2
  apply List.filter_congr
  intro i hi
  have hi : i < 8 := List.mem_range.1 hi
  unfold BitVec.getLsbD
  rw [show (256 : Nat) = 2 ^ 8 from rfl, Nat.testBit_mod_two_pow, Nat.testBit_div_two_pow]
  simp [hi, Nat.add_comm]

set_option maxRecDepth 100000 in
set_option maxHeartbeats 2000000 in
theorem ones_core (n : Nat) (x : Nat) (b0 b1 b2 b3 : Int) (h3 : (x : Int) / 16777216 = b3) (h2 : bits .and .u32 ((x : Int) / 65536) 255 = b2) (h1 : bits .and .u32 ((x : Int) / 256) 255 = b1) (h0 : bits .and .u32 (x : Int) 255 = b0)
    (i3 : 0 ≤ b3) (j3 : b3 ≤ 255) (i2 : 0 ≤ b2) (j2 : b2 ≤ 255) (i1 : 0 ≤ b1) (j1 : b1 ≤ 255) (i0 : 0 ≤ b0) (j0 : b0 ≤ 255) (hn : Hid ((Lib.pop8 b3 + Lib.pop8 b2 + Lib.pop8 b1 + Lib.pop8 b0) % 256 = (n : Int))) (w : World) :
    Calls Tryd.prog 36 #[.int .u32 (x : Int)] w fun e w' => e = .returned (.int .i64 n) ∧ ∃ m, w' = w.drewN m := by
  go_enter Tryd.func36, Tryd.ntmps36
  go_wp2
  go_quiet (fail)
  go_wp2
  go_ret
  exact ⟨ret_int hn.out, nq, rfl⟩

theorem and255 (y : Nat) (h : y < 4294967296) : bits .and .u32 (y : Int) 255 = ((y % 256 : Nat) : Int) := by
  rw [show (255 : Int) = ((255 : Nat) : Int) from rfl, u32_and_nat y 255 h (by omega), nat_mask8]

theorem ones_any (s : St) (w : World) : Calls Tryd.prog 36 #[.int .u32 (s.toNat : Int)] w fun e w' => e = .returned (.int .i64 (listB s).length) ∧ ∃ m, w' = w.drewN m := by
  have hl := s.isLt
  have p0 := pop_cnt s 0
  have p1 := pop_cnt s 8
  have p2 := pop_cnt s 16
  have p3 := pop_cnt s 24
  have c := listB_cnt s
  have c0 := cnt_le s 0
  have c1 := cnt_le s 8
  have c2 := cnt_le s 16
  have c3 := cnt_le s 24
  refine ones_core (listB s).length s.toNat _ _ _ _ rfl rfl rfl rfl ?_ ?_ ?_ ?_ ?_ ?_ ?_ ?_ (Lib.hid ?_) w
  case refine_9 =>
    have e3 : (s.toNat : Int) / 16777216 = ((s.toNat / 2 ^ 24 % 256 : Nat) : Int) := by omega
    have e2 : bits .and .u32 ((s.toNat : Int) / 65536) 255 = ((s.toNat / 2 ^ 16 % 256 : Nat) : Int) := by
      rw [show (s.toNat : Int) / 65536 = ((s.toNat / 65536 : Nat) : Int) by omega, and255 _ (by omega)]
    have e1 : bits .and .u32 ((s.toNat : Int) / 256) 255 = ((s.toNat / 2 ^ 8 % 256 : Nat) : Int) := by
      rw [show (s.toNat : Int) / 256 = ((s.toNat / 256 : Nat) : Int) by omega, and255 _ (by omega)]
    have e0 : bits .and .u32 (s.toNat : Int) 255 = ((s.toNat / 2 ^ 0 % 256 : Nat) : Int) := by
      rw [and255 _ (by omega)]; simp
    rw [e3, e2, e1, e0, p0, p1, p2, p3, c]
    omega
  all_goals first
    | omega
    | (rw [show (s.toNat : Int) / 65536 = ((s.toNat / 65536 : Nat) : Int) by omega, and255 _ (by omega)]; omega)
    | (rw [show (s.toNat : Int) / 256 = ((s.toNat / 256 : Nat) : Int) by omega, and255 _ (by omega)]; omega)
    | (rw [and255 _ (by omega)]; omega)

theorem Len_any (s : St) (w : World) : Calls Tryd.prog 18 #[sv s] w fun e w' => e = .returned (.int .i64 (listB s).length) ∧ ∃ m, w' = w.drewN m := by
  go_enter Tryd.func18, Tryd.ntmps18
  go_wp2_with fail
  refine (ones_any s w).mono ?_
  rintro e w1 ⟨rfl, m, rfl⟩
  go_wp2
  go_ret
  exact ⟨rfl, m, rfl⟩

theorem below_drewN {B : Nat} {a w : World} (h : Below B a w) (m : Nat) : Below B a (w.drewN m) := ⟨h.os, h.tape, h.output, h.size, h.block⟩

/-- List: those that a set has, in a row of the call's own. -/
theorem List_made (w : World) (k : Nat) (hk : k ≤ 32) (w1 : World) (m : Nat) (hw : w1 = w.drewN m) : ∃ w2, (Instr.makeSlice 25 (.int .i64 0) (.int .i64 (k : Int))).run Tryd.prog w1 = .ok (.slice (some ⟨w1.heap.size, 0, none⟩) 0 k) w2 ∧
    w2.ownsRow w.heap.size 3 1 (.slice (some ⟨w1.heap.size, 0, none⟩) 0 k) 0 (ivals []) ∧ Below w.heap.size w w2 := by
  obtain ⟨i0, hi, hz0, hz1, hz2⟩ := info_parts Tryd.infoInt
  have hs : w1.heap.size = w.heap.size := by subst hw; rfl
  obtain ⟨w2, h1, h2, h3⟩ := run_make_own (P := Tryd.prog) w1 w.heap.size 25 3 i0 (.int .i64 0) 1 Tryd.underlying25 hi hz0 hz1 .i64 .i64 k (by rw [hz2]; omega) (by unfold maxLen; omega) (by omega)
  refine ⟨w2, h1, h2, ?_⟩
  subst hw
  exact (below_drewN (Below.refl w.heap.size w) m).grown h3 (Nat.le_refl _) (fun g hg => by cases hg)

end Go.Proofs.YtgeelnpdahlcpaaDoor
