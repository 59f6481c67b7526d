/-
  Which error bytes have, by the document: walked. Conditions: bytes of no more than a thousand.
-/
import Derived.Test.YtindekpmicbbiaaDoorPlc
import Derived.Test.YtindekpmicbbiaaDoorRRight
namespace Go.Proofs.YtindekpmicbbiaaDoor
open Go.RowKit
open Oct Sums

set_option linter.unusedSimpArgs false
attribute [local go_sem ↓] exec_bd exec_ld exec_st load_row loadVar_row store_row
attribute [local go_sem] bd_0 bd_1 bd_5 bd_6 ld_row st_row set_cell_lt set_cell_gt one_int one_bool one_str row_new ok_new free_new row_old ok_old_iff free_old_iff put_in put_cell_lt put_cell_gt put_frozen row_put_in row_put_lt row_put_gt ok_put_iff free_put_iff put_size row_set_in row_set_lt row_set_gt ok_set_iff free_set_iff drew_cell drew_frozen drew_size row_drew ok_drew free_drew
attribute [local go_sem ↓] exec_ix

set_option maxRecDepth 100000 in
set_option maxHeartbeats 4000000 in
theorem rFrame_any (s : ByteArray) (h17 : 17 ≤ s.size) (hk3 : byt s 0 = 3 → 21 ≤ s.size) (hk4 : byt s 0 = 4 → 26 ≤ s.size) (hs : s.size ≤ 1000) (w : World) : Calls Tryd.prog 18 #[.string s] w fun e w' => e = .returned (.agg #[.int .i64 (placeF s).kind, .int .u8 (placeF s).src, .int .u8 (placeF s).dst, .int .u16 (placeF s).sinc, .int .u16 (placeF s).dinc, .int .u16 (placeF s).ec, .int .u8 (placeF s).ea, .int .u16 (placeF s).ei, .int .u16 (placeF s).hop, .int .u16 (placeF s).hc, .int .u8 (placeF s).ha, .int .u16 (placeF s).hi, .bool (placeF s).wants, .int .u8 (placeF s).blk, .int .u16 (placeF s).vinc, .int .u32 (placeF s).vseq, .int .u8 (placeF s).part, .int .u8 (placeF s).parts, .string (placeF s).bytes]) ∧ Below w.heap.size w w' := by
  have hc := Lib.hid (rframe_any s h17 hk3 hk4 hs)
  clear h17 hk3 hk4 hs
  generalize placeF s = f at *
  go_enter Tryd.func18, Tryd.ntmps18
  go_wp2_with fail
  refine (hc.out _).mono ?_
  rintro e w1 ⟨rfl, hb⟩
  have hA := NQ.mem ⟨free_new _ _ _ _ rfl rfl, (Below.refl _ _).alloc (Nat.le_refl _) _, by simp⟩ hb
  have hf := hA.1
  have hfk := hA.1.1
  go_wp2
  refine bodyPost_ret (v := .agg #[.int .i64 f.kind, .int .u8 f.src, .int .u8 f.dst, .int .u16 f.sinc, .int .u16 f.dinc, .int .u16 f.ec, .int .u8 f.ea, .int .u16 f.ei, .int .u16 f.hop, .int .u16 f.hc, .int .u8 f.ha, .int .u16 f.hi, .bool f.wants, .int .u8 f.blk, .int .u16 f.vinc, .int .u32 f.vseq, .int .u8 f.part, .int .u8 f.parts, .string f.bytes]) (results_29 Tryd.results18 _ _ w.heap.size _ rfl (by go_simp) (by go_simp)) rfl ⟨rfl, ?_⟩
  exact below_put (Nat.le_refl _) _ hA.2.1

set_option maxRecDepth 100000 in
set_option maxHeartbeats 4000000 in
theorem rerr_len1 (s : ByteArray) (hs : s.size ≤ 1000) (h : s.size < 17) (w : World) : Calls Tryd.prog 17 #[.string s] w fun e w' => e = .returned (.int .i64 10) ∧ Below w.heap.size w w' := by
  have d17 : decide ((s.size : Int) < 17) = true := by simp; omega
  clear h hs
  go_enter Tryd.func17, Tryd.ntmps17
  go_wp2
  go_ret
  exact ⟨rfl, Below.refl _ _⟩

set_option maxRecDepth 100000 in
set_option maxHeartbeats 4000000 in
theorem rerr_len2 (s : ByteArray) (hs : s.size ≤ 1000) (h17 : 17 ≤ s.size) (hl : s.size ≠ byt s 1) (w : World) : Calls Tryd.prog 17 #[.string s] w fun e w' => e = .returned (.int .i64 10) ∧ Below w.heap.size w w' := by
  have d17 : decide ((s.size : Int) < 17) = false := by simp; omega
  have x1 := ix_at s 1 (by omega) 1 rfl
  have e1 : IntKind.i64.wrap (byt s 1 : Int) = (byt s 1 : Int) := by have := byt_le s 1; rw [IntKind.wrap_i64]; omega
  have t1 : ((s.size : Int) != (byt s 1 : Int)) = true := by simp; omega
  clear h17 hl hs
  go_enter Tryd.func17, Tryd.ntmps17
  go_wp2
  go_ret
  exact ⟨rfl, Below.refl _ _⟩

set_option maxRecDepth 100000 in
set_option maxHeartbeats 4000000 in
theorem rerr_crc (s : ByteArray) (hs : s.size ≤ 1000) (h17 : 17 ≤ s.size) (hl : s.size = byt s 1) (hc : sealedB (s.extract 0 (s.size - 2)) ≠ s) (w : World) : Calls Tryd.prog 17 #[.string s] w fun e w' => e = .returned (.int .i64 9) ∧ Below w.heap.size w w' := by
  have d17 : decide ((s.size : Int) < 17) = false := by simp; omega
  have x1 := ix_at s 1 (by omega) 1 rfl
  have e1 : IntKind.i64.wrap (byt s 1 : Int) = (byt s 1 : Int) := by have := byt_le s 1; rw [IntKind.wrap_i64]; omega
  have t1 : ((s.size : Int) != (byt s 1 : Int)) = false := by simp; omega
  obtain ⟨m, hm⟩ : ∃ m, m = s.size - 2 := ⟨_, rfl⟩
  rw [← hm] at hc
  have w2 : IntKind.i64.wrap ((s.size : Int) - 2) = (m : Int) := by rw [IntKind.wrap_i64]; omega
  have w3 : (0 : Int) ≤ (m : Int) := by omega
  have w4 : (m : Int) ≤ (s.size : Int) := by omega
  have hq := Lib.hid (rsealed_any (s.extract 0 m) · (by rw [ByteArray.size_extract]; omega))
  have t2 := str_ne hc
  clear h17 hl hs hm hc
  go_enter Tryd.func17, Tryd.ntmps17
  go_wp2_with fail
  refine (hq.out w).mono ?_
  rintro e w1 ⟨rfl, hb⟩
  go_wp2
  go_ret
  exact ⟨rfl, hb⟩

set_option maxRecDepth 100000 in
set_option maxHeartbeats 4000000 in
theorem rerr_kind1 (s : ByteArray) (hs : s.size ≤ 1000) (h17 : 17 ≤ s.size) (hl : s.size = byt s 1) (hc : sealedB (s.extract 0 (s.size - 2)) = s) (hk : byt s 0 = 0) (w : World) : Calls Tryd.prog 17 #[.string s] w fun e w' => e = .returned (.int .i64 11) ∧ Below w.heap.size w w' := by
  have d17 : decide ((s.size : Int) < 17) = false := by simp; omega
  have x1 := ix_at s 1 (by omega) 1 rfl
  have e1 : IntKind.i64.wrap (byt s 1 : Int) = (byt s 1 : Int) := by have := byt_le s 1; rw [IntKind.wrap_i64]; omega
  have t1 : ((s.size : Int) != (byt s 1 : Int)) = false := by simp; omega
  obtain ⟨m, hm⟩ : ∃ m, m = s.size - 2 := ⟨_, rfl⟩
  rw [← hm] at hc
  have w2 : IntKind.i64.wrap ((s.size : Int) - 2) = (m : Int) := by rw [IntKind.wrap_i64]; omega
  have w3 : (0 : Int) ≤ (m : Int) := by omega
  have w4 : (m : Int) ≤ (s.size : Int) := by omega
  have hq := Lib.hid (rsealed_any (s.extract 0 m) · (by rw [ByteArray.size_extract]; omega))
  have x0 := ix_at s 0 (by omega) 0 rfl
  have e0 : IntKind.i64.wrap (byt s 0 : Int) = (byt s 0 : Int) := by have := byt_le s 0; rw [IntKind.wrap_i64]; omega
  have t2 := str_eq hc
  have k1 : decide ((byt s 0 : Int) < 1) = true := by simp; omega
  clear h17 hl hs hm hc hk
  go_enter Tryd.func17, Tryd.ntmps17
  go_wp2_with fail
  refine (hq.out w).mono ?_
  rintro e w1 ⟨rfl, hb⟩
  go_wp2
  go_ret
  exact ⟨rfl, hb⟩

set_option maxRecDepth 100000 in
set_option maxHeartbeats 4000000 in
theorem rerr_kind2 (s : ByteArray) (hs : s.size ≤ 1000) (h17 : 17 ≤ s.size) (hl : s.size = byt s 1) (hc : sealedB (s.extract 0 (s.size - 2)) = s) (hk : 5 < byt s 0) (w : World) : Calls Tryd.prog 17 #[.string s] w fun e w' => e = .returned (.int .i64 11) ∧ Below w.heap.size w w' := by
  have d17 : decide ((s.size : Int) < 17) = false := by simp; omega
  have x1 := ix_at s 1 (by omega) 1 rfl
  have e1 : IntKind.i64.wrap (byt s 1 : Int) = (byt s 1 : Int) := by have := byt_le s 1; rw [IntKind.wrap_i64]; omega
  have t1 : ((s.size : Int) != (byt s 1 : Int)) = false := by simp; omega
  obtain ⟨m, hm⟩ : ∃ m, m = s.size - 2 := ⟨_, rfl⟩
  rw [← hm] at hc
  have w2 : IntKind.i64.wrap ((s.size : Int) - 2) = (m : Int) := by rw [IntKind.wrap_i64]; omega
  have w3 : (0 : Int) ≤ (m : Int) := by omega
  have w4 : (m : Int) ≤ (s.size : Int) := by omega
  have hq := Lib.hid (rsealed_any (s.extract 0 m) · (by rw [ByteArray.size_extract]; omega))
  have x0 := ix_at s 0 (by omega) 0 rfl
  have e0 : IntKind.i64.wrap (byt s 0 : Int) = (byt s 0 : Int) := by have := byt_le s 0; rw [IntKind.wrap_i64]; omega
  have t2 := str_eq hc
  have k1 : decide ((byt s 0 : Int) < 1) = false := by simp; omega
  have k2 : decide ((5 : Int) < (byt s 0 : Int)) = true := by simp; omega
  clear h17 hl hs hm hc hk
  go_enter Tryd.func17, Tryd.ntmps17
  go_wp2_with fail
  refine (hq.out w).mono ?_
  rintro e w1 ⟨rfl, hb⟩
  go_wp2
  go_ret
  exact ⟨rfl, hb⟩

set_option maxRecDepth 100000 in
set_option maxHeartbeats 4000000 in
theorem rerr_size4a (s : ByteArray) (hs : s.size ≤ 1000) (h17 : 17 ≤ s.size) (hl : s.size = byt s 1) (hc : sealedB (s.extract 0 (s.size - 2)) = s) (h4 : byt s 0 = 4) (hz : s.size < 27) (w : World) : Calls Tryd.prog 17 #[.string s] w fun e w' => e = .returned (.int .i64 10) ∧ Below w.heap.size w w' := by
  have d17 : decide ((s.size : Int) < 17) = false := by simp; omega
  have x1 := ix_at s 1 (by omega) 1 rfl
  have e1 : IntKind.i64.wrap (byt s 1 : Int) = (byt s 1 : Int) := by have := byt_le s 1; rw [IntKind.wrap_i64]; omega
  have t1 : ((s.size : Int) != (byt s 1 : Int)) = false := by simp; omega
  obtain ⟨m, hm⟩ : ∃ m, m = s.size - 2 := ⟨_, rfl⟩
  rw [← hm] at hc
  have w2 : IntKind.i64.wrap ((s.size : Int) - 2) = (m : Int) := by rw [IntKind.wrap_i64]; omega
  have w3 : (0 : Int) ≤ (m : Int) := by omega
  have w4 : (m : Int) ≤ (s.size : Int) := by omega
  have hq := Lib.hid (rsealed_any (s.extract 0 m) · (by rw [ByteArray.size_extract]; omega))
  have x0 := ix_at s 0 (by omega) 0 rfl
  have e0 : IntKind.i64.wrap (byt s 0 : Int) = (byt s 0 : Int) := by have := byt_le s 0; rw [IntKind.wrap_i64]; omega
  have t2 := str_eq hc
  have k1 : decide ((byt s 0 : Int) < 1) = false := by simp; omega
  have k2 : decide ((5 : Int) < (byt s 0 : Int)) = false := by simp; omega
  have d4 : ((byt s 0 : Int) == 4) = true := by simp; omega
  have d3 : ((byt s 0 : Int) == 3) = false := by simp; omega
  have d3n : ((byt s 0 : Int) != 3) = true := by simp; omega
  have z1 : decide ((s.size : Int) < 27) = true := by simp; omega
  clear h17 hl hs hm hc h4 hz
  go_enter Tryd.func17, Tryd.ntmps17
  go_wp2_with fail
  refine (hq.out w).mono ?_
  rintro e w1 ⟨rfl, hb⟩
  go_wp2
  go_ret
  exact ⟨rfl, hb⟩

set_option maxRecDepth 100000 in
set_option maxHeartbeats 4000000 in
theorem rerr_size4b (s : ByteArray) (hs : s.size ≤ 1000) (h17 : 17 ≤ s.size) (hl : s.size = byt s 1) (hc : sealedB (s.extract 0 (s.size - 2)) = s) (h4 : byt s 0 = 4) (hz : 42 < s.size) (w : World) : Calls Tryd.prog 17 #[.string s] w fun e w' => e = .returned (.int .i64 10) ∧ Below w.heap.size w w' := by
  have d17 : decide ((s.size : Int) < 17) = false := by simp; omega
  have x1 := ix_at s 1 (by omega) 1 rfl
  have e1 : IntKind.i64.wrap (byt s 1 : Int) = (byt s 1 : Int) := by have := byt_le s 1; rw [IntKind.wrap_i64]; omega
  have t1 : ((s.size : Int) != (byt s 1 : Int)) = false := by simp; omega
  obtain ⟨m, hm⟩ : ∃ m, m = s.size - 2 := ⟨_, rfl⟩
  rw [← hm] at hc
  have w2 : IntKind.i64.wrap ((s.size : Int) - 2) = (m : Int) := by rw [IntKind.wrap_i64]; omega
  have w3 : (0 : Int) ≤ (m : Int) := by omega
  have w4 : (m : Int) ≤ (s.size : Int) := by omega
  have hq := Lib.hid (rsealed_any (s.extract 0 m) · (by rw [ByteArray.size_extract]; omega))
  have x0 := ix_at s 0 (by omega) 0 rfl
  have e0 : IntKind.i64.wrap (byt s 0 : Int) = (byt s 0 : Int) := by have := byt_le s 0; rw [IntKind.wrap_i64]; omega
  have t2 := str_eq hc
  have k1 : decide ((byt s 0 : Int) < 1) = false := by simp; omega
  have k2 : decide ((5 : Int) < (byt s 0 : Int)) = false := by simp; omega
  have d4 : ((byt s 0 : Int) == 4) = true := by simp; omega
  have d3 : ((byt s 0 : Int) == 3) = false := by simp; omega
  have d3n : ((byt s 0 : Int) != 3) = true := by simp; omega
  have z1 : decide ((s.size : Int) < 27) = false := by simp; omega
  have z2 : decide ((42 : Int) < (s.size : Int)) = true := by simp; omega
  clear h17 hl hs hm hc h4 hz
  go_enter Tryd.func17, Tryd.ntmps17
  go_wp2_with fail
  refine (hq.out w).mono ?_
  rintro e w1 ⟨rfl, hb⟩
  go_wp2
  go_ret
  exact ⟨rfl, hb⟩

set_option maxRecDepth 100000 in
set_option maxHeartbeats 4000000 in
theorem rerr_size3 (s : ByteArray) (hs : s.size ≤ 1000) (h17 : 17 ≤ s.size) (hl : s.size = byt s 1) (hc : sealedB (s.extract 0 (s.size - 2)) = s) (h3 : byt s 0 = 3) (hz : s.size ≠ 23) (w : World) : Calls Tryd.prog 17 #[.string s] w fun e w' => e = .returned (.int .i64 10) ∧ Below w.heap.size w w' := by
  have d17 : decide ((s.size : Int) < 17) = false := by simp; omega
  have x1 := ix_at s 1 (by omega) 1 rfl
  have e1 : IntKind.i64.wrap (byt s 1 : Int) = (byt s 1 : Int) := by have := byt_le s 1; rw [IntKind.wrap_i64]; omega
  have t1 : ((s.size : Int) != (byt s 1 : Int)) = false := by simp; omega
  obtain ⟨m, hm⟩ : ∃ m, m = s.size - 2 := ⟨_, rfl⟩
  rw [← hm] at hc
  have w2 : IntKind.i64.wrap ((s.size : Int) - 2) = (m : Int) := by rw [IntKind.wrap_i64]; omega
  have w3 : (0 : Int) ≤ (m : Int) := by omega
  have w4 : (m : Int) ≤ (s.size : Int) := by omega
  have hq := Lib.hid (rsealed_any (s.extract 0 m) · (by rw [ByteArray.size_extract]; omega))
  have x0 := ix_at s 0 (by omega) 0 rfl
  have e0 : IntKind.i64.wrap (byt s 0 : Int) = (byt s 0 : Int) := by have := byt_le s 0; rw [IntKind.wrap_i64]; omega
  have t2 := str_eq hc
  have k1 : decide ((byt s 0 : Int) < 1) = false := by simp; omega
  have k2 : decide ((5 : Int) < (byt s 0 : Int)) = false := by simp; omega
  have d4 : ((byt s 0 : Int) == 4) = false := by simp; omega
  have d3 : ((byt s 0 : Int) == 3) = true := by simp; omega
  have d3n : ((byt s 0 : Int) != 3) = false := by simp; omega
  have z1 : ((s.size : Int) != 23) = true := by simp; omega
  clear h17 hl hs hm hc h3 hz
  go_enter Tryd.func17, Tryd.ntmps17
  go_wp2_with fail
  refine (hq.out w).mono ?_
  rintro e w1 ⟨rfl, hb⟩
  go_wp2
  go_ret
  exact ⟨rfl, hb⟩

set_option maxRecDepth 100000 in
set_option maxHeartbeats 4000000 in
theorem rerr_size0 (s : ByteArray) (hs : s.size ≤ 1000) (h17 : 17 ≤ s.size) (hl : s.size = byt s 1) (hc : sealedB (s.extract 0 (s.size - 2)) = s) (hk1 : 1 ≤ byt s 0) (hk2 : byt s 0 ≤ 5) (h3 : byt s 0 ≠ 3) (h4 : byt s 0 ≠ 4) (hz : s.size ≠ 17) (w : World) : Calls Tryd.prog 17 #[.string s] w fun e w' => e = .returned (.int .i64 10) ∧ Below w.heap.size w w' := by
  have d17 : decide ((s.size : Int) < 17) = false := by simp; omega
  have x1 := ix_at s 1 (by omega) 1 rfl
  have e1 : IntKind.i64.wrap (byt s 1 : Int) = (byt s 1 : Int) := by have := byt_le s 1; rw [IntKind.wrap_i64]; omega
  have t1 : ((s.size : Int) != (byt s 1 : Int)) = false := by simp; omega
  obtain ⟨m, hm⟩ : ∃ m, m = s.size - 2 := ⟨_, rfl⟩
  rw [← hm] at hc
  have w2 : IntKind.i64.wrap ((s.size : Int) - 2) = (m : Int) := by rw [IntKind.wrap_i64]; omega
  have w3 : (0 : Int) ≤ (m : Int) := by omega
  have w4 : (m : Int) ≤ (s.size : Int) := by omega
  have hq := Lib.hid (rsealed_any (s.extract 0 m) · (by rw [ByteArray.size_extract]; omega))
  have x0 := ix_at s 0 (by omega) 0 rfl
  have e0 : IntKind.i64.wrap (byt s 0 : Int) = (byt s 0 : Int) := by have := byt_le s 0; rw [IntKind.wrap_i64]; omega
  have t2 := str_eq hc
  have k1 : decide ((byt s 0 : Int) < 1) = false := by simp; omega
  have k2 : decide ((5 : Int) < (byt s 0 : Int)) = false := by simp; omega
  have d4 : ((byt s 0 : Int) == 4) = false := by simp; omega
  have d3 : ((byt s 0 : Int) == 3) = false := by simp; omega
  have d3n : ((byt s 0 : Int) != 3) = true := by simp; omega
  have z1 : ((s.size : Int) != 17) = true := by simp; omega
  clear h17 hl hs hm hc hk1 hk2 h3 h4 hz
  go_enter Tryd.func17, Tryd.ntmps17
  go_wp2_with fail
  refine (hq.out w).mono ?_
  rintro e w1 ⟨rfl, hb⟩
  go_wp2
  go_ret
  exact ⟨rfl, hb⟩

set_option maxRecDepth 100000 in
set_option maxHeartbeats 4000000 in
theorem rerr_form4false (s : ByteArray) (hs : s.size ≤ 1000) (h17 : 17 ≤ s.size) (hl : s.size = byt s 1) (hc : sealedB (s.extract 0 (s.size - 2)) = s) (h4 : byt s 0 = 4) (hz : 26 < s.size) (hz2 : s.size ≤ 42) (hr : rtB (placeF s) = false) (w : World) : Calls Tryd.prog 17 #[.string s] w fun e w' => e = .returned (.int .i64 3) ∧ Below w.heap.size w w' := by
  have d17 : decide ((s.size : Int) < 17) = false := by simp; omega
  have x1 := ix_at s 1 (by omega) 1 rfl
  have e1 : IntKind.i64.wrap (byt s 1 : Int) = (byt s 1 : Int) := by have := byt_le s 1; rw [IntKind.wrap_i64]; omega
  have t1 : ((s.size : Int) != (byt s 1 : Int)) = false := by simp; omega
  obtain ⟨m, hm⟩ : ∃ m, m = s.size - 2 := ⟨_, rfl⟩
  rw [← hm] at hc
  have w2 : IntKind.i64.wrap ((s.size : Int) - 2) = (m : Int) := by rw [IntKind.wrap_i64]; omega
  have w3 : (0 : Int) ≤ (m : Int) := by omega
  have w4 : (m : Int) ≤ (s.size : Int) := by omega
  have hq := Lib.hid (rsealed_any (s.extract 0 m) · (by rw [ByteArray.size_extract]; omega))
  have x0 := ix_at s 0 (by omega) 0 rfl
  have e0 : IntKind.i64.wrap (byt s 0 : Int) = (byt s 0 : Int) := by have := byt_le s 0; rw [IntKind.wrap_i64]; omega
  have hfr := Lib.hid (rframe_any s h17 (by omega) (by omega) hs)
  have hrr := Lib.hid (rright_any (placeF s) · (by have := place_fit s hs; unfold Fr.fit at this; omega))
  have t2 := str_eq hc
  have k1 : decide ((byt s 0 : Int) < 1) = false := by simp; omega
  have k2 : decide ((5 : Int) < (byt s 0 : Int)) = false := by simp; omega
  have d4 : ((byt s 0 : Int) == 4) = true := by simp; omega
  have d3 : ((byt s 0 : Int) == 3) = false := by simp; omega
  have d3n : ((byt s 0 : Int) != 3) = true := by simp; omega
  have z1 : decide ((s.size : Int) < 27) = false := by simp; omega
  have z2 : decide ((42 : Int) < (s.size : Int)) = false := by simp; omega
  clear h17 hl hs hm hc h4 hz hz2
  generalize placeF s = f at *
  go_enter Tryd.func17, Tryd.ntmps17
  go_wp2_with fail
  refine (hq.out w).mono ?_
  rintro e w1 ⟨rfl, hb⟩
  go_wp2_with fail
  refine (hfr.out _).mono ?_
  rintro e w2 ⟨rfl, hb2⟩
  go_wp2_with fail
  refine (hrr.out _).mono ?_
  rintro e w3 ⟨rfl, hb3⟩
  rw [hr]
  go_wp2
  go_ret
  exact ⟨rfl, hb.trans ((hb2.mono hb.size).trans (hb3.mono (Nat.le_trans hb.size hb2.size)))⟩

set_option maxRecDepth 100000 in
set_option maxHeartbeats 4000000 in
theorem rerr_form3false (s : ByteArray) (hs : s.size ≤ 1000) (h17 : 17 ≤ s.size) (hl : s.size = byt s 1) (hc : sealedB (s.extract 0 (s.size - 2)) = s) (h3 : byt s 0 = 3) (hz : s.size = 23) (hw : byt s 20 ≤ 1) (hr : rtB (placeF s) = false) (w : World) : Calls Tryd.prog 17 #[.string s] w fun e w' => e = .returned (.int .i64 3) ∧ Below w.heap.size w w' := by
  have d17 : decide ((s.size : Int) < 17) = false := by simp; omega
  have x1 := ix_at s 1 (by omega) 1 rfl
  have e1 : IntKind.i64.wrap (byt s 1 : Int) = (byt s 1 : Int) := by have := byt_le s 1; rw [IntKind.wrap_i64]; omega
  have t1 : ((s.size : Int) != (byt s 1 : Int)) = false := by simp; omega
  obtain ⟨m, hm⟩ : ∃ m, m = s.size - 2 := ⟨_, rfl⟩
  rw [← hm] at hc
  have w2 : IntKind.i64.wrap ((s.size : Int) - 2) = (m : Int) := by rw [IntKind.wrap_i64]; omega
  have w3 : (0 : Int) ≤ (m : Int) := by omega
  have w4 : (m : Int) ≤ (s.size : Int) := by omega
  have hq := Lib.hid (rsealed_any (s.extract 0 m) · (by rw [ByteArray.size_extract]; omega))
  have x0 := ix_at s 0 (by omega) 0 rfl
  have e0 : IntKind.i64.wrap (byt s 0 : Int) = (byt s 0 : Int) := by have := byt_le s 0; rw [IntKind.wrap_i64]; omega
  have hfr := Lib.hid (rframe_any s h17 (by omega) (by omega) hs)
  have hrr := Lib.hid (rright_any (placeF s) · (by have := place_fit s hs; unfold Fr.fit at this; omega))
  have x20 := ix_at s 20 (by omega) 20 rfl
  have b20 : decide ((1 : Int) < (byt s 20 : Int)) = false := by simp; omega
  have t2 := str_eq hc
  have k1 : decide ((byt s 0 : Int) < 1) = false := by simp; omega
  have k2 : decide ((5 : Int) < (byt s 0 : Int)) = false := by simp; omega
  have d4 : ((byt s 0 : Int) == 4) = false := by simp; omega
  have d3 : ((byt s 0 : Int) == 3) = true := by simp; omega
  have d3n : ((byt s 0 : Int) != 3) = false := by simp; omega
  have z1 : ((s.size : Int) != 23) = false := by simp; omega
  clear h17 hl hs hm hc h3 hz hw
  generalize placeF s = f at *
  go_enter Tryd.func17, Tryd.ntmps17
  go_wp2_with fail
  refine (hq.out w).mono ?_
  rintro e w1 ⟨rfl, hb⟩
  go_wp2_with fail
  refine (hfr.out _).mono ?_
  rintro e w2 ⟨rfl, hb2⟩
  go_wp2_with fail
  refine (hrr.out _).mono ?_
  rintro e w3 ⟨rfl, hb3⟩
  rw [hr]
  go_wp2
  go_ret
  exact ⟨rfl, hb.trans ((hb2.mono hb.size).trans (hb3.mono (Nat.le_trans hb.size hb2.size)))⟩

set_option maxRecDepth 100000 in
set_option maxHeartbeats 4000000 in
theorem rerr_form0false (s : ByteArray) (hs : s.size ≤ 1000) (h17 : 17 ≤ s.size) (hl : s.size = byt s 1) (hc : sealedB (s.extract 0 (s.size - 2)) = s) (hk1 : 1 ≤ byt s 0) (hk2 : byt s 0 ≤ 5) (h3 : byt s 0 ≠ 3) (h4 : byt s 0 ≠ 4) (hz : s.size = 17) (hr : rtB (placeF s) = false) (w : World) : Calls Tryd.prog 17 #[.string s] w fun e w' => e = .returned (.int .i64 3) ∧ Below w.heap.size w w' := by
  have d17 : decide ((s.size : Int) < 17) = false := by simp; omega
  have x1 := ix_at s 1 (by omega) 1 rfl
  have e1 : IntKind.i64.wrap (byt s 1 : Int) = (byt s 1 : Int) := by have := byt_le s 1; rw [IntKind.wrap_i64]; omega
  have t1 : ((s.size : Int) != (byt s 1 : Int)) = false := by simp; omega
  obtain ⟨m, hm⟩ : ∃ m, m = s.size - 2 := ⟨_, rfl⟩
  rw [← hm] at hc
  have w2 : IntKind.i64.wrap ((s.size : Int) - 2) = (m : Int) := by rw [IntKind.wrap_i64]; omega
  have w3 : (0 : Int) ≤ (m : Int) := by omega
  have w4 : (m : Int) ≤ (s.size : Int) := by omega
  have hq := Lib.hid (rsealed_any (s.extract 0 m) · (by rw [ByteArray.size_extract]; omega))
  have x0 := ix_at s 0 (by omega) 0 rfl
  have e0 : IntKind.i64.wrap (byt s 0 : Int) = (byt s 0 : Int) := by have := byt_le s 0; rw [IntKind.wrap_i64]; omega
  have hfr := Lib.hid (rframe_any s h17 (by omega) (by omega) hs)
  have hrr := Lib.hid (rright_any (placeF s) · (by have := place_fit s hs; unfold Fr.fit at this; omega))
  have t2 := str_eq hc
  have k1 : decide ((byt s 0 : Int) < 1) = false := by simp; omega
  have k2 : decide ((5 : Int) < (byt s 0 : Int)) = false := by simp; omega
  have d4 : ((byt s 0 : Int) == 4) = false := by simp; omega
  have d3 : ((byt s 0 : Int) == 3) = false := by simp; omega
  have d3n : ((byt s 0 : Int) != 3) = true := by simp; omega
  have z1 : ((s.size : Int) != 17) = false := by simp; omega
  clear h17 hl hs hm hc hk1 hk2 h3 h4 hz
  generalize placeF s = f at *
  go_enter Tryd.func17, Tryd.ntmps17
  go_wp2_with fail
  refine (hq.out w).mono ?_
  rintro e w1 ⟨rfl, hb⟩
  go_wp2_with fail
  refine (hfr.out _).mono ?_
  rintro e w2 ⟨rfl, hb2⟩
  go_wp2_with fail
  refine (hrr.out _).mono ?_
  rintro e w3 ⟨rfl, hb3⟩
  rw [hr]
  go_wp2
  go_ret
  exact ⟨rfl, hb.trans ((hb2.mono hb.size).trans (hb3.mono (Nat.le_trans hb.size hb2.size)))⟩

set_option maxRecDepth 100000 in
set_option maxHeartbeats 4000000 in
theorem rerr_form4true (s : ByteArray) (hs : s.size ≤ 1000) (h17 : 17 ≤ s.size) (hl : s.size = byt s 1) (hc : sealedB (s.extract 0 (s.size - 2)) = s) (h4 : byt s 0 = 4) (hz : 26 < s.size) (hz2 : s.size ≤ 42) (hr : rtB (placeF s) = true) (w : World) : Calls Tryd.prog 17 #[.string s] w fun e w' => e = .returned (.int .i64 0) ∧ Below w.heap.size w w' := by
  have d17 : decide ((s.size : Int) < 17) = false := by simp; omega
  have x1 := ix_at s 1 (by omega) 1 rfl
  have e1 : IntKind.i64.wrap (byt s 1 : Int) = (byt s 1 : Int) := by have := byt_le s 1; rw [IntKind.wrap_i64]; omega
  have t1 : ((s.size : Int) != (byt s 1 : Int)) = false := by simp; omega
  obtain ⟨m, hm⟩ : ∃ m, m = s.size - 2 := ⟨_, rfl⟩
  rw [← hm] at hc
  have w2 : IntKind.i64.wrap ((s.size : Int) - 2) = (m : Int) := by rw [IntKind.wrap_i64]; omega
  have w3 : (0 : Int) ≤ (m : Int) := by omega
  have w4 : (m : Int) ≤ (s.size : Int) := by omega
  have hq := Lib.hid (rsealed_any (s.extract 0 m) · (by rw [ByteArray.size_extract]; omega))
  have x0 := ix_at s 0 (by omega) 0 rfl
  have e0 : IntKind.i64.wrap (byt s 0 : Int) = (byt s 0 : Int) := by have := byt_le s 0; rw [IntKind.wrap_i64]; omega
  have hfr := Lib.hid (rframe_any s h17 (by omega) (by omega) hs)
  have hrr := Lib.hid (rright_any (placeF s) · (by have := place_fit s hs; unfold Fr.fit at this; omega))
  have t2 := str_eq hc
  have k1 : decide ((byt s 0 : Int) < 1) = false := by simp; omega
  have k2 : decide ((5 : Int) < (byt s 0 : Int)) = false := by simp; omega
  have d4 : ((byt s 0 : Int) == 4) = true := by simp; omega
  have d3 : ((byt s 0 : Int) == 3) = false := by simp; omega
  have d3n : ((byt s 0 : Int) != 3) = true := by simp; omega
  have z1 : decide ((s.size : Int) < 27) = false := by simp; omega
  have z2 : decide ((42 : Int) < (s.size : Int)) = false := by simp; omega
  clear h17 hl hs hm hc h4 hz hz2
  generalize placeF s = f at *
  go_enter Tryd.func17, Tryd.ntmps17
  go_wp2_with fail
  refine (hq.out w).mono ?_
  rintro e w1 ⟨rfl, hb⟩
  go_wp2_with fail
  refine (hfr.out _).mono ?_
  rintro e w2 ⟨rfl, hb2⟩
  go_wp2_with fail
  refine (hrr.out _).mono ?_
  rintro e w3 ⟨rfl, hb3⟩
  rw [hr]
  go_wp2
  go_ret
  exact ⟨rfl, hb.trans ((hb2.mono hb.size).trans (hb3.mono (Nat.le_trans hb.size hb2.size)))⟩

set_option maxRecDepth 100000 in
set_option maxHeartbeats 4000000 in
theorem rerr_form3true (s : ByteArray) (hs : s.size ≤ 1000) (h17 : 17 ≤ s.size) (hl : s.size = byt s 1) (hc : sealedB (s.extract 0 (s.size - 2)) = s) (h3 : byt s 0 = 3) (hz : s.size = 23) (hw : byt s 20 ≤ 1) (hr : rtB (placeF s) = true) (w : World) : Calls Tryd.prog 17 #[.string s] w fun e w' => e = .returned (.int .i64 0) ∧ Below w.heap.size w w' := by
  have d17 : decide ((s.size : Int) < 17) = false := by simp; omega
  have x1 := ix_at s 1 (by omega) 1 rfl
  have e1 : IntKind.i64.wrap (byt s 1 : Int) = (byt s 1 : Int) := by have := byt_le s 1; rw [IntKind.wrap_i64]; omega
  have t1 : ((s.size : Int) != (byt s 1 : Int)) = false := by simp; omega
  obtain ⟨m, hm⟩ : ∃ m, m = s.size - 2 := ⟨_, rfl⟩
  rw [← hm] at hc
  have w2 : IntKind.i64.wrap ((s.size : Int) - 2) = (m : Int) := by rw [IntKind.wrap_i64]; omega
  have w3 : (0 : Int) ≤ (m : Int) := by omega
  have w4 : (m : Int) ≤ (s.size : Int) := by omega
  have hq := Lib.hid (rsealed_any (s.extract 0 m) · (by rw [ByteArray.size_extract]; omega))
  have x0 := ix_at s 0 (by omega) 0 rfl
  have e0 : IntKind.i64.wrap (byt s 0 : Int) = (byt s 0 : Int) := by have := byt_le s 0; rw [IntKind.wrap_i64]; omega
  have hfr := Lib.hid (rframe_any s h17 (by omega) (by omega) hs)
  have hrr := Lib.hid (rright_any (placeF s) · (by have := place_fit s hs; unfold Fr.fit at this; omega))
  have x20 := ix_at s 20 (by omega) 20 rfl
  have b20 : decide ((1 : Int) < (byt s 20 : Int)) = false := by simp; omega
  have t2 := str_eq hc
  have k1 : decide ((byt s 0 : Int) < 1) = false := by simp; omega
  have k2 : decide ((5 : Int) < (byt s 0 : Int)) = false := by simp; omega
  have d4 : ((byt s 0 : Int) == 4) = false := by simp; omega
  have d3 : ((byt s 0 : Int) == 3) = true := by simp; omega
  have d3n : ((byt s 0 : Int) != 3) = false := by simp; omega
  have z1 : ((s.size : Int) != 23) = false := by simp; omega
  clear h17 hl hs hm hc h3 hz hw
  generalize placeF s = f at *
  go_enter Tryd.func17, Tryd.ntmps17
  go_wp2_with fail
  refine (hq.out w).mono ?_
  rintro e w1 ⟨rfl, hb⟩
  go_wp2_with fail
  refine (hfr.out _).mono ?_
  rintro e w2 ⟨rfl, hb2⟩
  go_wp2_with fail
  refine (hrr.out _).mono ?_
  rintro e w3 ⟨rfl, hb3⟩
  rw [hr]
  go_wp2
  go_ret
  exact ⟨rfl, hb.trans ((hb2.mono hb.size).trans (hb3.mono (Nat.le_trans hb.size hb2.size)))⟩

set_option maxRecDepth 100000 in
set_option maxHeartbeats 4000000 in
theorem rerr_form0true (s : ByteArray) (hs : s.size ≤ 1000) (h17 : 17 ≤ s.size) (hl : s.size = byt s 1) (hc : sealedB (s.extract 0 (s.size - 2)) = s) (hk1 : 1 ≤ byt s 0) (hk2 : byt s 0 ≤ 5) (h3 : byt s 0 ≠ 3) (h4 : byt s 0 ≠ 4) (hz : s.size = 17) (hr : rtB (placeF s) = true) (w : World) : Calls Tryd.prog 17 #[.string s] w fun e w' => e = .returned (.int .i64 0) ∧ Below w.heap.size w w' := by
  have d17 : decide ((s.size : Int) < 17) = false := by simp; omega
  have x1 := ix_at s 1 (by omega) 1 rfl
  have e1 : IntKind.i64.wrap (byt s 1 : Int) = (byt s 1 : Int) := by have := byt_le s 1; rw [IntKind.wrap_i64]; omega
  have t1 : ((s.size : Int) != (byt s 1 : Int)) = false := by simp; omega
  obtain ⟨m, hm⟩ : ∃ m, m = s.size - 2 := ⟨_, rfl⟩
  rw [← hm] at hc
  have w2 : IntKind.i64.wrap ((s.size : Int) - 2) = (m : Int) := by rw [IntKind.wrap_i64]; omega
  have w3 : (0 : Int) ≤ (m : Int) := by omega
  have w4 : (m : Int) ≤ (s.size : Int) := by omega
  have hq := Lib.hid (rsealed_any (s.extract 0 m) · (by rw [ByteArray.size_extract]; omega))
  have x0 := ix_at s 0 (by omega) 0 rfl
  have e0 : IntKind.i64.wrap (byt s 0 : Int) = (byt s 0 : Int) := by have := byt_le s 0; rw [IntKind.wrap_i64]; omega
  have hfr := Lib.hid (rframe_any s h17 (by omega) (by omega) hs)
  have hrr := Lib.hid (rright_any (placeF s) · (by have := place_fit s hs; unfold Fr.fit at this; omega))
  have t2 := str_eq hc
  have k1 : decide ((byt s 0 : Int) < 1) = false := by simp; omega
  have k2 : decide ((5 : Int) < (byt s 0 : Int)) = false := by simp; omega
  have d4 : ((byt s 0 : Int) == 4) = false := by simp; omega
  have d3 : ((byt s 0 : Int) == 3) = false := by simp; omega
  have d3n : ((byt s 0 : Int) != 3) = true := by simp; omega
  have z1 : ((s.size : Int) != 17) = false := by simp; omega
  clear h17 hl hs hm hc hk1 hk2 h3 h4 hz
  generalize placeF s = f at *
  go_enter Tryd.func17, Tryd.ntmps17
  go_wp2_with fail
  refine (hq.out w).mono ?_
  rintro e w1 ⟨rfl, hb⟩
  go_wp2_with fail
  refine (hfr.out _).mono ?_
  rintro e w2 ⟨rfl, hb2⟩
  go_wp2_with fail
  refine (hrr.out _).mono ?_
  rintro e w3 ⟨rfl, hb3⟩
  rw [hr]
  go_wp2
  go_ret
  exact ⟨rfl, hb.trans ((hb2.mono hb.size).trans (hb3.mono (Nat.le_trans hb.size hb2.size)))⟩

set_option maxRecDepth 100000 in
set_option maxHeartbeats 4000000 in
theorem rerr_wants (s : ByteArray) (_hs : s.size ≤ 1000) (_h17 : 17 ≤ s.size) (hl : s.size = byt s 1) (hc : sealedB (s.extract 0 (s.size - 2)) = s) (h3 : byt s 0 = 3) (hz : s.size = 23) (hw : 1 < byt s 20) (w : World) : Calls Tryd.prog 17 #[.string s] w fun e w' => e = .returned (.int .i64 3) ∧ Below w.heap.size w w' := by
  have d17 : decide ((s.size : Int) < 17) = false := by simp; omega
  have x1 := ix_at s 1 (by omega) 1 rfl
  have e1 : IntKind.i64.wrap (byt s 1 : Int) = (byt s 1 : Int) := by have := byt_le s 1; rw [IntKind.wrap_i64]; omega
  have t1 : ((s.size : Int) != (byt s 1 : Int)) = false := by simp; omega
  obtain ⟨m, hm⟩ : ∃ m, m = s.size - 2 := ⟨_, rfl⟩
  rw [← hm] at hc
  have w2 : IntKind.i64.wrap ((s.size : Int) - 2) = (m : Int) := by rw [IntKind.wrap_i64]; omega
  have w3 : (0 : Int) ≤ (m : Int) := by omega
  have w4 : (m : Int) ≤ (s.size : Int) := by omega
  have hq := Lib.hid (rsealed_any (s.extract 0 m) · (by rw [ByteArray.size_extract]; omega))
  have x0 := ix_at s 0 (by omega) 0 rfl
  have e0 : IntKind.i64.wrap (byt s 0 : Int) = (byt s 0 : Int) := by have := byt_le s 0; rw [IntKind.wrap_i64]; omega
  have x20 := ix_at s 20 (by omega) 20 rfl
  have b20 : decide ((1 : Int) < (byt s 20 : Int)) = true := by simp; omega
  have t2 := str_eq hc
  have k1 : decide ((byt s 0 : Int) < 1) = false := by simp; omega
  have k2 : decide ((5 : Int) < (byt s 0 : Int)) = false := by simp; omega
  have d4 : ((byt s 0 : Int) == 4) = false := by simp; omega
  have d3 : ((byt s 0 : Int) == 3) = true := by simp; omega
  have d3n : ((byt s 0 : Int) != 3) = false := by simp; omega
  have z1 : ((s.size : Int) != 23) = false := by simp; omega
  clear hl hm hc h3 hz hw
  go_enter Tryd.func17, Tryd.ntmps17
  go_wp2_with fail
  refine (hq.out w).mono ?_
  rintro e w1 ⟨rfl, hb⟩
  go_wp2
  go_ret
  exact ⟨rfl, hb⟩

end Go.Proofs.YtindekpmicbbiaaDoor
