/-
  What stands in bytes by their places: the document's answer, walked. Conditions: texts that are long enough.
-/
import Derived.Test.YtindekpmicbbiaaDoorMth
namespace Go.Proofs.YtindekpmicbbiaaDoor
open Go.RowKit
open Oct Sums

set_option linter.unusedSimpArgs false
attribute [local go_sem ↓] exec_bd exec_ld exec_st load_row loadVar_row store_row
attribute [local go_sem] bd_0 bd_1 bd_5 bd_6 ld_row st_row set_cell_lt set_cell_gt one_int one_bool one_str row_new ok_new free_new row_old ok_old_iff free_old_iff put_in put_cell_lt put_cell_gt put_frozen row_put_in row_put_lt row_put_gt ok_put_iff free_put_iff put_size row_set_in row_set_lt row_set_gt ok_set_iff free_set_iff drew_cell drew_frozen drew_size row_drew ok_drew free_drew

/-- The number of k bytes from the place a on. -/
def numAt (s : ByteArray) (a k : Nat) : Nat := num ((s.data.toList.drop a).take k)
theorem numAt_le2 (s : ByteArray) (a : Nat) : (numAt s a 2 : Int) ≤ 65535 := by
  have h := num_small ((s.data.toList.drop a).take 2) 2 (by rw [List.length_take]; omega)
  unfold numAt; omega
theorem numAt_le4 (s : ByteArray) (a : Nat) : (numAt s a 4 : Int) ≤ 4294967295 := by
  have h := num_small ((s.data.toList.drop a).take 4) 4 (by rw [List.length_take]; omega)
  unfold numAt; omega
set_option maxHeartbeats 1000000 in
theorem number_at (s : ByteArray) (a k : Nat) (ha : a + k ≤ s.size) (hk : k ≤ 4) (w : World) :
    Calls Tryd.prog 62 #[.string s, .int .i64 (a : Int), .int .i64 (k : Int)] w fun e w' => e = .returned (.int .u32 (numAt s a k : Int)) ∧ Below w.heap.size w w' := by
  have i1 : (0 : Int) ≤ (a : Int) := by omega
  have i2 : (a : Int) ≤ (s.size : Int) := by omega
  have hl : (s.extract a s.size).data.toList = s.data.toList.drop a := by
    simp [ByteArray.data_extract]
    rw [List.take_of_length_le (by rw [List.length_drop, size_list]; omega)]
  have HV : Hid (num (rgot (k : Int) (s.data.toList.drop a) false) = numAt s a k) := Lib.hid (by
    unfold rgot numAt
    rw [fits_yes (by omega) (by rw [List.length_drop, size_list]; omega)]
    simp)
  have HC : Hid (∀ W : World, Calls Tryd.prog 69 #[.pointer (some ⟨W.heap.size, 0, none⟩), .int .i64 (k : Int)] (W.alloc (.cells #[.string (s.extract a s.size), .bool false] 98)) fun e w' => e = .returned (.int .u32 (numAt s a k : Int)) ∧ Below W.heap.size W w') := Lib.hid (fun W => by
    have he := eye_new W (s.extract a s.size) 98
    rw [hl] at he
    have h := rnumber_any W.heap.size k (s.data.toList.drop a) false _ he (by omega)
    rw [HV.out] at h
    exact h.mono fun _ _ ⟨h1, h2, h3⟩ => ⟨h1, ((Below.refl _ _).alloc (Nat.le_refl _) _).trans (below_only h3 (Nat.le_refl _) (by simp))⟩)
  clear hl ha
  go_enter Tryd.func62, Tryd.ntmps62
  go_wp2_with fail
  refine (HC.out w).mono ?_
  rintro e w' ⟨rfl, hb⟩
  go_wp2
  go_ret
  exact ⟨rfl, hb⟩

theorem number_i (s : ByteArray) (ai ki : Int) (a k : Nat) (h1 : ai = (a : Int)) (h2 : ki = (k : Int)) (ha : a + k ≤ s.size) (hk : k ≤ 4) (w : World) :
    Calls Tryd.prog 62 #[.string s, .int .i64 ai, .int .i64 ki] w fun e w' => e = .returned (.int .u32 (numAt s a k : Int)) ∧ Below w.heap.size w w' := by
  subst h1; subst h2; exact number_at s a k ha hk w
/-- A frame by places, and its own block. -/
def NQ (n : Nat) (w W : World) : Prop := RowFree W n ∧ Below n w W ∧ n < W.heap.size
theorem NQ.mem {n : Nat} {w W W' : World} (h : NQ n w W) (hb : Below W.heap.size W W') : NQ n w W' :=
  ⟨free_below hb h.1 h.2.2, h.2.1.trans (hb.mono (Nat.le_of_lt h.2.2)), Nat.lt_of_lt_of_le h.2.2 hb.size⟩

end Go.Proofs.YtindekpmicbbiaaDoor
