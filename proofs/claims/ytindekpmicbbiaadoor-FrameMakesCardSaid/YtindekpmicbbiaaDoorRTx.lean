/-
  The reference's text of a frame, walked. Conditions: numbers such as their kinds hold.
-/
import Derived.Test.YtindekpmicbbiaaDoorTxm
namespace Go.Proofs.YtindekpmicbbiaaDoor
open Go.RowKit
open Oct Sums

set_option linter.unusedSimpArgs false
attribute [local go_sem ↓] exec_bd exec_ld exec_st load_row loadVar_row store_row
attribute [local go_sem] bd_0 bd_1 bd_5 bd_6 ld_row st_row set_cell_lt set_cell_gt one_int one_bool one_str row_new ok_new free_new row_old ok_old_iff free_old_iff put_in put_cell_lt put_cell_gt put_frozen row_put_in row_put_lt row_put_gt ok_put_iff free_put_iff put_size row_set_in row_set_lt row_set_gt ok_set_iff free_set_iff drew_cell drew_frozen drew_size row_drew ok_drew free_drew

open Epo
set_option maxRecDepth 100000 in
set_option maxHeartbeats 2000000 in
theorem rdigits2 (u : Nat) (hu : (u : Int) ≤ 4294967296) (w : World) : Calls Tryd.prog 39 #[.int .i64 u] w fun e w' => e = .returned (.string (dgs u)) ∧ Below w.heap.size w w' := by
  have hsz := Lib.hid (dgs_size2 u hu)
  go_enter Tryd.func39, Tryd.ntmps39
  go_wp2
  go_loopw [0, 3] (fun n t wr => ∃ (k : Nat) (s : ByteArray), (k : Int) ≤ 4294967296 ∧ n = .int .i64 k ∧ t = .string s ∧ Hid (Lib.decDigits u = Lib.decDigits k ++ s.data.toList) ∧ Below w.heap.size w wr) (fun n _ _ => (intOf n).toNat)
  case atStart => exact ⟨u, ByteArray.empty, hu, rfl, rfl, Lib.hid (by simp), Below.refl _ _⟩
  case round =>
    obtain ⟨k, s, hk, rfl, rfl, hd, hbel⟩ := hrel
    by_cases h10 : k < 10
    · have hc : decide ((10 : Int) ≤ (k : Int)) = false := by simp; omega
      have hcv := conv_one wr (48 + k) (48 + (k : Int)) (by omega) (by simp)
      have hadd := add_run (a := one (48 + k)) (b := s) 1 20 (one_size _) (rest_size hsz.out hd.out) (by omega)
      have HS := Lib.hid (dgs_of (u := u) (s := one (48 + k) ++ s) (by rw [hd.out, dec_lt k h10, app_list, one_list]))
      go_wp2
      go_ret
      exact ⟨ret_str HS.out, hbel.alloc hbel.size _⟩
    · have hc : decide ((10 : Int) ≤ (k : Int)) = true := by simp; omega
      have hcv := conv_one wr (48 + k % 10) (48 + (k : Int) % 10) (by omega) (by simp)
      have hadd := add_run (a := one (48 + k % 10)) (b := s) 1 20 (one_size _) (rest_size hsz.out hd.out) (by omega)
      go_wp2
      go_roundw
      case rel => exact ⟨k / 10, one (48 + k % 10) ++ s, by omega, by go_num, rfl, Lib.hid (by rw [hd.out, dec_ge k h10, app_list, one_list, List.append_assoc]), hbel.alloc hbel.size _⟩
      case measure => simp [intOf]; omega

theorem At.new {n : Nat} {c : Array Value} {w W : World} (h : At n c w W) (o : Obj) : At n c w (W.alloc o) := h.mem ((Below.refl _ _).alloc (Nat.le_refl _) _)
def sp : ByteArray := ⟨#[32]⟩
/-- The head of a frame's text. -/
def headB (nm : ByteArray) (f : Fr) (to : ByteArray) : ByteArray := nm ++ ⟨#[32]⟩ ++ dgs f.src ++ ⟨#[32, 62, 32]⟩ ++ to ++ ⟨#[32]⟩ ++ textE ⟨f.ec, f.ea, f.ei⟩ ++ ⟨#[47]⟩ ++ dgs f.hop
def inB (b : Bool) : ByteArray := if b then ⟨#[32, 105, 110]⟩ else ⟨#[32, 111, 117, 116]⟩
theorem ret3 (f : Fr) {a b : ByteArray} (h : a = b) : Ending.returned (.string (headB ⟨#[115, 116, 97, 116, 117, 115]⟩ f (dgs f.dst) ++ ⟨#[32, 104, 105, 103, 104, 32]⟩ ++ textE ⟨f.hc, f.ha, f.hi⟩ ++ b)) = .returned (.string (headB ⟨#[115, 116, 97, 116, 117, 115]⟩ f (dgs f.dst) ++ ⟨#[32, 104, 105, 103, 104, 32]⟩ ++ textE ⟨f.hc, f.ha, f.hi⟩ ++ a)) := by rw [h]
theorem inB_t : inB true = ⟨#[32, 105, 110]⟩ := rfl
theorem inB_f : inB false = ⟨#[32, 111, 117, 116]⟩ := rfl

set_option maxRecDepth 100000 in
set_option maxHeartbeats 4000000 in
theorem rtext_1 (f : Fr) (hf : f.fit)  (w : World) : Calls Tryd.prog 13 #[.agg #[.int .i64 1, .int .u8 f.src, .int .u8 f.dst, .int .u16 f.sinc, .int .u16 f.dinc, .int .u16 f.ec, .int .u8 f.ea, .int .u16 f.ei, .int .u16 f.hop, .int .u16 f.hc, .int .u8 f.ha, .int .u16 f.hi, .bool f.wants, .int .u8 f.blk, .int .u16 f.vinc, .int .u32 f.vseq, .int .u8 f.part, .int .u8 f.parts, .string f.bytes]] w fun e w' => e = .returned (.string (headB ⟨#[116, 111, 107, 101, 110]⟩ f (dgs f.dst))) ∧ Below w.heap.size w w' := by
  obtain ⟨u1, u2, u3, u4, u5, u6, u7, u8, u9, u10, u11, u12, u13, u14, u15, u16, -⟩ := hf
  have hx : (⟨f.ec, f.ea, f.ei⟩ : Ep).fit := ⟨by simp only; omega, by simp only; omega, by simp only; omega⟩
  have HX := Lib.hid hx
  have n1 : (⟨#[116, 111, 107, 101, 110]⟩ : ByteArray).size ≤ 10 := by decide
  have n2 : (⟨#[32]⟩ : ByteArray).size ≤ 1 := by decide
  have n3 : (⟨#[32, 62, 32]⟩ : ByteArray).size ≤ 3 := by decide
  have n4 : (⟨#[47]⟩ : ByteArray).size ≤ 1 := by decide
  have s1 := dgs_size2 f.src (by omega)
  have s2 : ((dgs f.dst) : ByteArray).size ≤ 20 := dgs_size2 f.dst (by omega)
  have s3 := textE_size _ hx
  have s4 := dgs_size2 f.hop (by omega)
  have a1 := add_run 10 1 n1 n2 (by omega)
  have t1 := add_size n1 n2
  have a2 := add_run 11 20 t1 s1 (by omega)
  have t2 := add_size t1 s1
  have a3 := add_run 31 3 t2 n3 (by omega)
  have t3 := add_size t2 n3
  have a4 := add_run 34 20 t3 s2 (by omega)
  have t4 := add_size t3 s2
  have a5 := add_run 54 1 t4 n2 (by omega)
  have t5 := add_size t4 n2
  have a6 := add_run 55 62 t5 s3 (by omega)
  have t6 := add_size t5 s3
  have a7 := add_run 117 1 t6 n4 (by omega)
  have t7 := add_size t6 n4
  have a8 := add_run 118 20 t7 s4 (by omega)
  have t8 := add_size t7 s4
  have T8 := Lib.hid t8
  clear n1 n3 n4 s2 s3 s4 t1 t2 t3 t4 t5 t6 t7 t8
  have w0 : IntKind.i64.wrap (f.src : Int) = f.src := by rw [IntKind.wrap_i64]; omega
  have v0 : (f.src : Int) ≤ 4294967296 := by omega
  have w1 : IntKind.i64.wrap (f.dst : Int) = f.dst := by rw [IntKind.wrap_i64]; omega
  have v1 : (f.dst : Int) ≤ 4294967296 := by omega
  have w2 : IntKind.i64.wrap (f.hop : Int) = f.hop := by rw [IntKind.wrap_i64]; omega
  have v2 : (f.hop : Int) ≤ 4294967296 := by omega
  clear hx n2 s1 T8 u1 u2 u3 u4 u5 u6 u7 u8 u9 u10 u11 u12 u13 u14 u15 u16
  go_enter Tryd.func13, Tryd.ntmps13
  go_wp2_with fail
  refine (rdigits2 f.dst v1 _).mono ?_
  rintro e w1 ⟨rfl, hb1⟩
  have hA1 : At w.heap.size #[.int .i64 1, .int .u8 f.src, .int .u8 f.dst, .int .u16 f.sinc, .int .u16 f.dinc, .int .u16 f.ec, .int .u8 f.ea, .int .u16 f.ei, .int .u16 f.hop, .int .u16 f.hc, .int .u8 f.ha, .int .u16 f.hi, .bool f.wants, .int .u8 f.blk, .int .u16 f.vinc, .int .u32 f.vseq, .int .u8 f.part, .int .u8 f.parts, .string f.bytes] w w1 := At.mem (At.new ⟨ok_new _ _ _ _ rfl rfl, row_new _ _ _ _ rfl rfl, (Below.refl _ _).alloc (Nat.le_refl _) _, by simp⟩ _) hb1
  have c0 := hA1.cell 0 _ rfl
  generalize hn : w.heap.size = n at *
  have HN := Lib.hid hn
  clear hn hb1
  go_wp2
  have hA2 := hA1.drew
  clear hA1 c0
  have hA1 := hA2
  clear hA2
  go_region_held3 (fun W' => W'.cell? ⟨n, 1, none⟩ = some (.int .u8 f.src) ∧ W'.cell? ⟨n, 5, none⟩ = some (.int .u16 f.ec) ∧ W'.cell? ⟨n, 6, none⟩ = some (.int .u8 f.ea) ∧ W'.cell? ⟨n, 7, none⟩ = some (.int .u16 f.ei) ∧ W'.cell? ⟨n, 8, none⟩ = some (.int .u16 f.hop)) ((first | exact ⟨hA1.cell 1 _ rfl, hA1.cell 5 _ rfl, hA1.cell 6 _ rfl, hA1.cell 7 _ rfl, hA1.cell 8 _ rfl⟩ | exact ⟨(hA1.new _).cell 1 _ rfl, (hA1.new _).cell 5 _ rfl, (hA1.new _).cell 6 _ rfl, (hA1.new _).cell 7 _ rfl, (hA1.new _).cell 8 _ rfl⟩))
    ((first | (go_at_call 39; (with_reducible refine (rdigits2 _ (by assumption) _).mono ?_); rintro e w1 ⟨rfl, hb1⟩; have hA2 := hA1.mem hb1; clear hA1 hb1; have hA1 := hA2; clear hA2) | (go_at_call 40; (with_reducible refine (rtext_any ⟨f.ec, f.ea, f.ei⟩ HX.out _).mono ?_); rintro e w1 ⟨rfl, hb1⟩; have hA2 := hA1.mem hb1; clear hA1 hb1; have hA1 := hA2; clear hA2)))
  have c0 := hA1.cell 0 _ rfl
  go_wp2
  go_ret
  refine ⟨rfl, ?_⟩
  rw [HN.out]
  exact hA1.2.2.1

set_option maxRecDepth 100000 in
set_option maxHeartbeats 4000000 in
theorem rtext_2 (f : Fr) (hf : f.fit)  (w : World) : Calls Tryd.prog 13 #[.agg #[.int .i64 2, .int .u8 f.src, .int .u8 f.dst, .int .u16 f.sinc, .int .u16 f.dinc, .int .u16 f.ec, .int .u8 f.ea, .int .u16 f.ei, .int .u16 f.hop, .int .u16 f.hc, .int .u8 f.ha, .int .u16 f.hi, .bool f.wants, .int .u8 f.blk, .int .u16 f.vinc, .int .u32 f.vseq, .int .u8 f.part, .int .u8 f.parts, .string f.bytes]] w fun e w' => e = .returned (.string (headB ⟨#[112, 111, 108, 108]⟩ f (dgs f.dst))) ∧ Below w.heap.size w w' := by
  obtain ⟨u1, u2, u3, u4, u5, u6, u7, u8, u9, u10, u11, u12, u13, u14, u15, u16, -⟩ := hf
  have hx : (⟨f.ec, f.ea, f.ei⟩ : Ep).fit := ⟨by simp only; omega, by simp only; omega, by simp only; omega⟩
  have HX := Lib.hid hx
  have n1 : (⟨#[112, 111, 108, 108]⟩ : ByteArray).size ≤ 10 := by decide
  have n2 : (⟨#[32]⟩ : ByteArray).size ≤ 1 := by decide
  have n3 : (⟨#[32, 62, 32]⟩ : ByteArray).size ≤ 3 := by decide
  have n4 : (⟨#[47]⟩ : ByteArray).size ≤ 1 := by decide
  have s1 := dgs_size2 f.src (by omega)
  have s2 : ((dgs f.dst) : ByteArray).size ≤ 20 := dgs_size2 f.dst (by omega)
  have s3 := textE_size _ hx
  have s4 := dgs_size2 f.hop (by omega)
  have a1 := add_run 10 1 n1 n2 (by omega)
  have t1 := add_size n1 n2
  have a2 := add_run 11 20 t1 s1 (by omega)
  have t2 := add_size t1 s1
  have a3 := add_run 31 3 t2 n3 (by omega)
  have t3 := add_size t2 n3
  have a4 := add_run 34 20 t3 s2 (by omega)
  have t4 := add_size t3 s2
  have a5 := add_run 54 1 t4 n2 (by omega)
  have t5 := add_size t4 n2
  have a6 := add_run 55 62 t5 s3 (by omega)
  have t6 := add_size t5 s3
  have a7 := add_run 117 1 t6 n4 (by omega)
  have t7 := add_size t6 n4
  have a8 := add_run 118 20 t7 s4 (by omega)
  have t8 := add_size t7 s4
  have T8 := Lib.hid t8
  clear n1 n3 n4 s2 s3 s4 t1 t2 t3 t4 t5 t6 t7 t8
  have w0 : IntKind.i64.wrap (f.src : Int) = f.src := by rw [IntKind.wrap_i64]; omega
  have v0 : (f.src : Int) ≤ 4294967296 := by omega
  have w1 : IntKind.i64.wrap (f.dst : Int) = f.dst := by rw [IntKind.wrap_i64]; omega
  have v1 : (f.dst : Int) ≤ 4294967296 := by omega
  have w2 : IntKind.i64.wrap (f.hop : Int) = f.hop := by rw [IntKind.wrap_i64]; omega
  have v2 : (f.hop : Int) ≤ 4294967296 := by omega
  clear hx n2 s1 T8 u1 u2 u3 u4 u5 u6 u7 u8 u9 u10 u11 u12 u13 u14 u15 u16
  go_enter Tryd.func13, Tryd.ntmps13
  go_wp2_with fail
  refine (rdigits2 f.dst v1 _).mono ?_
  rintro e w1 ⟨rfl, hb1⟩
  have hA1 : At w.heap.size #[.int .i64 2, .int .u8 f.src, .int .u8 f.dst, .int .u16 f.sinc, .int .u16 f.dinc, .int .u16 f.ec, .int .u8 f.ea, .int .u16 f.ei, .int .u16 f.hop, .int .u16 f.hc, .int .u8 f.ha, .int .u16 f.hi, .bool f.wants, .int .u8 f.blk, .int .u16 f.vinc, .int .u32 f.vseq, .int .u8 f.part, .int .u8 f.parts, .string f.bytes] w w1 := At.mem (At.new ⟨ok_new _ _ _ _ rfl rfl, row_new _ _ _ _ rfl rfl, (Below.refl _ _).alloc (Nat.le_refl _) _, by simp⟩ _) hb1
  have c0 := hA1.cell 0 _ rfl
  generalize hn : w.heap.size = n at *
  have HN := Lib.hid hn
  clear hn hb1
  go_wp2
  have hA2 := hA1.drew
  clear hA1 c0
  have hA1 := hA2
  clear hA2
  go_region_held3 (fun W' => W'.cell? ⟨n, 1, none⟩ = some (.int .u8 f.src) ∧ W'.cell? ⟨n, 5, none⟩ = some (.int .u16 f.ec) ∧ W'.cell? ⟨n, 6, none⟩ = some (.int .u8 f.ea) ∧ W'.cell? ⟨n, 7, none⟩ = some (.int .u16 f.ei) ∧ W'.cell? ⟨n, 8, none⟩ = some (.int .u16 f.hop)) ((first | exact ⟨hA1.cell 1 _ rfl, hA1.cell 5 _ rfl, hA1.cell 6 _ rfl, hA1.cell 7 _ rfl, hA1.cell 8 _ rfl⟩ | exact ⟨(hA1.new _).cell 1 _ rfl, (hA1.new _).cell 5 _ rfl, (hA1.new _).cell 6 _ rfl, (hA1.new _).cell 7 _ rfl, (hA1.new _).cell 8 _ rfl⟩))
    ((first | (go_at_call 39; (with_reducible refine (rdigits2 _ (by assumption) _).mono ?_); rintro e w1 ⟨rfl, hb1⟩; have hA2 := hA1.mem hb1; clear hA1 hb1; have hA1 := hA2; clear hA2) | (go_at_call 40; (with_reducible refine (rtext_any ⟨f.ec, f.ea, f.ei⟩ HX.out _).mono ?_); rintro e w1 ⟨rfl, hb1⟩; have hA2 := hA1.mem hb1; clear hA1 hb1; have hA1 := hA2; clear hA2)))
  have c0 := hA1.cell 0 _ rfl
  go_wp2
  go_ret
  refine ⟨rfl, ?_⟩
  rw [HN.out]
  exact hA1.2.2.1

set_option maxRecDepth 100000 in
set_option maxHeartbeats 4000000 in
theorem rtext_3 (f : Fr) (hf : f.fit)  (w : World) : Calls Tryd.prog 13 #[.agg #[.int .i64 3, .int .u8 f.src, .int .u8 f.dst, .int .u16 f.sinc, .int .u16 f.dinc, .int .u16 f.ec, .int .u8 f.ea, .int .u16 f.ei, .int .u16 f.hop, .int .u16 f.hc, .int .u8 f.ha, .int .u16 f.hi, .bool f.wants, .int .u8 f.blk, .int .u16 f.vinc, .int .u32 f.vseq, .int .u8 f.part, .int .u8 f.parts, .string f.bytes]] w fun e w' => e = .returned (.string (headB ⟨#[115, 116, 97, 116, 117, 115]⟩ f (dgs f.dst) ++ ⟨#[32, 104, 105, 103, 104, 32]⟩ ++ textE ⟨f.hc, f.ha, f.hi⟩ ++ inB f.wants)) ∧ Below w.heap.size w w' := by
  obtain ⟨u1, u2, u3, u4, u5, u6, u7, u8, u9, u10, u11, u12, u13, u14, u15, u16, -⟩ := hf
  have hx : (⟨f.ec, f.ea, f.ei⟩ : Ep).fit := ⟨by simp only; omega, by simp only; omega, by simp only; omega⟩
  have HX := Lib.hid hx
  have n1 : (⟨#[115, 116, 97, 116, 117, 115]⟩ : ByteArray).size ≤ 10 := by decide
  have n2 : (⟨#[32]⟩ : ByteArray).size ≤ 1 := by decide
  have n3 : (⟨#[32, 62, 32]⟩ : ByteArray).size ≤ 3 := by decide
  have n4 : (⟨#[47]⟩ : ByteArray).size ≤ 1 := by decide
  have s1 := dgs_size2 f.src (by omega)
  have s2 : ((dgs f.dst) : ByteArray).size ≤ 20 := dgs_size2 f.dst (by omega)
  have s3 := textE_size _ hx
  have s4 := dgs_size2 f.hop (by omega)
  have a1 := add_run 10 1 n1 n2 (by omega)
  have t1 := add_size n1 n2
  have a2 := add_run 11 20 t1 s1 (by omega)
  have t2 := add_size t1 s1
  have a3 := add_run 31 3 t2 n3 (by omega)
  have t3 := add_size t2 n3
  have a4 := add_run 34 20 t3 s2 (by omega)
  have t4 := add_size t3 s2
  have a5 := add_run 54 1 t4 n2 (by omega)
  have t5 := add_size t4 n2
  have a6 := add_run 55 62 t5 s3 (by omega)
  have t6 := add_size t5 s3
  have a7 := add_run 117 1 t6 n4 (by omega)
  have t7 := add_size t6 n4
  have a8 := add_run 118 20 t7 s4 (by omega)
  have t8 := add_size t7 s4
  have T8 := Lib.hid t8
  clear n1 n3 n4 s2 s3 s4 t1 t2 t3 t4 t5 t6 t7 t8
  have w0 : IntKind.i64.wrap (f.src : Int) = f.src := by rw [IntKind.wrap_i64]; omega
  have v0 : (f.src : Int) ≤ 4294967296 := by omega
  have w1 : IntKind.i64.wrap (f.dst : Int) = f.dst := by rw [IntKind.wrap_i64]; omega
  have v1 : (f.dst : Int) ≤ 4294967296 := by omega
  have w2 : IntKind.i64.wrap (f.hop : Int) = f.hop := by rw [IntKind.wrap_i64]; omega
  have v2 : (f.hop : Int) ≤ 4294967296 := by omega
  have hx2 : (⟨f.hc, f.ha, f.hi⟩ : Ep).fit := ⟨by simp only; omega, by simp only; omega, by simp only; omega⟩
  have HX2 := Lib.hid hx2
  have m1 : (⟨#[32, 104, 105, 103, 104, 32]⟩ : ByteArray).size ≤ 6 := by decide
  have m2 : (⟨#[32, 105, 110]⟩ : ByteArray).size ≤ 4 := by decide
  have m3 : (⟨#[32, 111, 117, 116]⟩ : ByteArray).size ≤ 4 := by decide
  have p1 := add_run 138 6 T8.out m1 (by omega)
  have q1 := add_size T8.out m1
  have p2 := add_run 144 62 q1 (textE_size _ hx2) (by omega)
  have q2 := add_size q1 (textE_size _ hx2)
  have p3 := add_run 206 4 q2 m2 (by omega)
  have p4 := add_run 206 4 q2 m3 (by omega)
  clear m1 m2 m3 q1 q2 hx2
  clear hx n2 s1 T8 u1 u2 u3 u4 u5 u6 u7 u8 u9 u10 u11 u12 u13 u14 u15 u16
  go_enter Tryd.func13, Tryd.ntmps13
  go_wp2_with fail
  refine (rdigits2 f.dst v1 _).mono ?_
  rintro e w1 ⟨rfl, hb1⟩
  have hA1 : At w.heap.size #[.int .i64 3, .int .u8 f.src, .int .u8 f.dst, .int .u16 f.sinc, .int .u16 f.dinc, .int .u16 f.ec, .int .u8 f.ea, .int .u16 f.ei, .int .u16 f.hop, .int .u16 f.hc, .int .u8 f.ha, .int .u16 f.hi, .bool f.wants, .int .u8 f.blk, .int .u16 f.vinc, .int .u32 f.vseq, .int .u8 f.part, .int .u8 f.parts, .string f.bytes] w w1 := At.mem (At.new ⟨ok_new _ _ _ _ rfl rfl, row_new _ _ _ _ rfl rfl, (Below.refl _ _).alloc (Nat.le_refl _) _, by simp⟩ _) hb1
  have c0 := hA1.cell 0 _ rfl
  generalize hn : w.heap.size = n at *
  have HN := Lib.hid hn
  clear hn hb1
  go_wp2
  have hA2 := hA1.drew
  clear hA1 c0
  have hA1 := hA2
  clear hA2
  go_region_held3 (fun W' => W'.cell? ⟨n, 1, none⟩ = some (.int .u8 f.src) ∧ W'.cell? ⟨n, 5, none⟩ = some (.int .u16 f.ec) ∧ W'.cell? ⟨n, 6, none⟩ = some (.int .u8 f.ea) ∧ W'.cell? ⟨n, 7, none⟩ = some (.int .u16 f.ei) ∧ W'.cell? ⟨n, 8, none⟩ = some (.int .u16 f.hop)) ((first | exact ⟨hA1.cell 1 _ rfl, hA1.cell 5 _ rfl, hA1.cell 6 _ rfl, hA1.cell 7 _ rfl, hA1.cell 8 _ rfl⟩ | exact ⟨(hA1.new _).cell 1 _ rfl, (hA1.new _).cell 5 _ rfl, (hA1.new _).cell 6 _ rfl, (hA1.new _).cell 7 _ rfl, (hA1.new _).cell 8 _ rfl⟩))
    ((first | (go_at_call 39; (with_reducible refine (rdigits2 _ (by assumption) _).mono ?_); rintro e w1 ⟨rfl, hb1⟩; have hA2 := hA1.mem hb1; clear hA1 hb1; have hA1 := hA2; clear hA2) | (go_at_call 40; (with_reducible refine (rtext_any ⟨f.ec, f.ea, f.ei⟩ HX.out _).mono ?_); rintro e w1 ⟨rfl, hb1⟩; have hA2 := hA1.mem hb1; clear hA1 hb1; have hA1 := hA2; clear hA2)))
  have c0 := hA1.cell 0 _ rfl
  have c9 := hA1.cell 9 _ rfl
  have c10 := hA1.cell 10 _ rfl
  have c11 := hA1.cell 11 _ rfl
  go_wp2_with fail
  refine (rtext_any ⟨f.hc, f.ha, f.hi⟩ HX2.out _).mono ?_
  rintro e w2 ⟨rfl, hb2⟩
  have hA2 := hA1.mem hb2
  clear hA1 c0 c9 c10 c11 hb2
  have c0 := hA2.cell 0 _ rfl
  have c12 := hA2.cell 12 _ rfl
  cases hb : f.wants
  all_goals
    rw [hb] at c12
    have HB := Lib.hid hb
    clear hb
    go_wp2
    go_ret
    refine ⟨by first | exact ret3 f (by rw [HB.out]; exact inB_f) | exact ret3 f (by rw [HB.out]; exact inB_t), ?_⟩
    rw [HN.out]
    exact hA2.2.2.1

set_option maxRecDepth 100000 in
set_option maxHeartbeats 4000000 in
theorem rtext_4 (f : Fr) (hf : f.fit)  (w : World) : Calls Tryd.prog 13 #[.agg #[.int .i64 4, .int .u8 f.src, .int .u8 f.dst, .int .u16 f.sinc, .int .u16 f.dinc, .int .u16 f.ec, .int .u8 f.ea, .int .u16 f.ei, .int .u16 f.hop, .int .u16 f.hc, .int .u8 f.ha, .int .u16 f.hi, .bool f.wants, .int .u8 f.blk, .int .u16 f.vinc, .int .u32 f.vseq, .int .u8 f.part, .int .u8 f.parts, .string f.bytes]] w fun e w' => e = .returned (.string (headB ⟨#[100, 97, 116, 97]⟩ f ⟨#[42]⟩ ++ ⟨#[32, 98, 108, 111, 99, 107, 32]⟩ ++ dgs f.blk ++ ⟨#[32]⟩ ++ dgs f.vinc ++ ⟨#[46]⟩ ++ dgs f.vseq ++ ⟨#[32]⟩ ++ dgs (f.part + 1) ++ ⟨#[32, 111, 102, 32]⟩ ++ dgs f.parts)) ∧ Below w.heap.size w w' := by
  obtain ⟨u1, u2, u3, u4, u5, u6, u7, u8, u9, u10, u11, u12, u13, u14, u15, u16, -⟩ := hf
  have hx : (⟨f.ec, f.ea, f.ei⟩ : Ep).fit := ⟨by simp only; omega, by simp only; omega, by simp only; omega⟩
  have HX := Lib.hid hx
  have n1 : (⟨#[100, 97, 116, 97]⟩ : ByteArray).size ≤ 10 := by decide
  have n2 : (⟨#[32]⟩ : ByteArray).size ≤ 1 := by decide
  have n3 : (⟨#[32, 62, 32]⟩ : ByteArray).size ≤ 3 := by decide
  have n4 : (⟨#[47]⟩ : ByteArray).size ≤ 1 := by decide
  have s1 := dgs_size2 f.src (by omega)
  have s2 : (⟨#[42]⟩ : ByteArray).size ≤ 20 := by decide
  have s3 := textE_size _ hx
  have s4 := dgs_size2 f.hop (by omega)
  have a1 := add_run 10 1 n1 n2 (by omega)
  have t1 := add_size n1 n2
  have a2 := add_run 11 20 t1 s1 (by omega)
  have t2 := add_size t1 s1
  have a3 := add_run 31 3 t2 n3 (by omega)
  have t3 := add_size t2 n3
  have a4 := add_run 34 20 t3 s2 (by omega)
  have t4 := add_size t3 s2
  have a5 := add_run 54 1 t4 n2 (by omega)
  have t5 := add_size t4 n2
  have a6 := add_run 55 62 t5 s3 (by omega)
  have t6 := add_size t5 s3
  have a7 := add_run 117 1 t6 n4 (by omega)
  have t7 := add_size t6 n4
  have a8 := add_run 118 20 t7 s4 (by omega)
  have t8 := add_size t7 s4
  have T8 := Lib.hid t8
  clear n1 n3 n4 s2 s3 s4 t1 t2 t3 t4 t5 t6 t7 t8
  have w0 : IntKind.i64.wrap (f.src : Int) = f.src := by rw [IntKind.wrap_i64]; omega
  have v0 : (f.src : Int) ≤ 4294967296 := by omega
  have w1 : IntKind.i64.wrap (f.dst : Int) = f.dst := by rw [IntKind.wrap_i64]; omega
  have v1 : (f.dst : Int) ≤ 4294967296 := by omega
  have w2 : IntKind.i64.wrap (f.hop : Int) = f.hop := by rw [IntKind.wrap_i64]; omega
  have v2 : (f.hop : Int) ≤ 4294967296 := by omega
  obtain ⟨r1, hr1⟩ : ∃ p, p = f.part + 1 := ⟨_, rfl⟩
  have m1 : (⟨#[32, 98, 108, 111, 99, 107, 32]⟩ : ByteArray).size ≤ 7 := by decide
  have m2 : (⟨#[46]⟩ : ByteArray).size ≤ 1 := by decide
  have m3 : (⟨#[32, 111, 102, 32]⟩ : ByteArray).size ≤ 4 := by decide
  have y1 := dgs_size2 f.blk (by omega)
  have y2 := dgs_size2 f.vinc (by omega)
  have y3 := dgs_size2 f.vseq (by omega)
  have y4 := dgs_size2 r1 (by omega)
  have y5 := dgs_size2 f.parts (by omega)
  have p1 := add_run 138 7 T8.out m1 (by omega)
  have q1 := add_size T8.out m1
  have p2 := add_run 145 20 q1 y1 (by omega)
  have q2 := add_size q1 y1
  have p3 := add_run 165 1 q2 n2 (by omega)
  have q3 := add_size q2 n2
  have p4 := add_run 166 20 q3 y2 (by omega)
  have q4 := add_size q3 y2
  have p5 := add_run 186 1 q4 m2 (by omega)
  have q5 := add_size q4 m2
  have p6 := add_run 187 20 q5 y3 (by omega)
  have q6 := add_size q5 y3
  have p7 := add_run 207 1 q6 n2 (by omega)
  have q7 := add_size q6 n2
  have p8 := add_run 208 20 q7 y4 (by omega)
  have q8 := add_size q7 y4
  have p9 := add_run 228 4 q8 m3 (by omega)
  have q9 := add_size q8 m3
  have p10 := add_run 232 20 q9 y5 (by omega)
  have w8 : IntKind.i64.wrap ((f.part : Int) + 1) = r1 := by rw [IntKind.wrap_i64]; omega
  have v8 : (r1 : Int) ≤ 4294967296 := by omega
  rw [← hr1]
  clear m1 m2 m3 y1 y2 y3 y4 y5 q1 q2 q3 q4 q5 q6 q7 q8 q9 hr1
  have w3 : IntKind.i64.wrap (f.blk : Int) = f.blk := by rw [IntKind.wrap_i64]; omega
  have v3 : (f.blk : Int) ≤ 4294967296 := by omega
  have w4 : IntKind.i64.wrap (f.vinc : Int) = f.vinc := by rw [IntKind.wrap_i64]; omega
  have v4 : (f.vinc : Int) ≤ 4294967296 := by omega
  have w5 : IntKind.i64.wrap (f.vseq : Int) = f.vseq := by rw [IntKind.wrap_i64]; omega
  have v5 : (f.vseq : Int) ≤ 4294967296 := by omega
  have w6 : IntKind.i64.wrap (f.part : Int) = f.part := by rw [IntKind.wrap_i64]; omega
  have v6 : (f.part : Int) ≤ 4294967296 := by omega
  have w7 : IntKind.i64.wrap (f.parts : Int) = f.parts := by rw [IntKind.wrap_i64]; omega
  have v7 : (f.parts : Int) ≤ 4294967296 := by omega
  clear hx n2 s1 T8 u1 u2 u3 u4 u5 u6 u7 u8 u9 u10 u11 u12 u13 u14 u15 u16
  go_enter Tryd.func13, Tryd.ntmps13
  go_wp2_with fail
  refine (rdigits2 f.dst v1 _).mono ?_
  rintro e w1 ⟨rfl, hb1⟩
  have hA1 : At w.heap.size #[.int .i64 4, .int .u8 f.src, .int .u8 f.dst, .int .u16 f.sinc, .int .u16 f.dinc, .int .u16 f.ec, .int .u8 f.ea, .int .u16 f.ei, .int .u16 f.hop, .int .u16 f.hc, .int .u8 f.ha, .int .u16 f.hi, .bool f.wants, .int .u8 f.blk, .int .u16 f.vinc, .int .u32 f.vseq, .int .u8 f.part, .int .u8 f.parts, .string f.bytes] w w1 := At.mem (At.new ⟨ok_new _ _ _ _ rfl rfl, row_new _ _ _ _ rfl rfl, (Below.refl _ _).alloc (Nat.le_refl _) _, by simp⟩ _) hb1
  have c0 := hA1.cell 0 _ rfl
  generalize hn : w.heap.size = n at *
  have HN := Lib.hid hn
  clear hn hb1
  go_wp2
  have hA2 := hA1.drew
  clear hA1 c0
  have hA1 := hA2
  clear hA2
  go_region_held3 (fun W' => W'.cell? ⟨n, 1, none⟩ = some (.int .u8 f.src) ∧ W'.cell? ⟨n, 5, none⟩ = some (.int .u16 f.ec) ∧ W'.cell? ⟨n, 6, none⟩ = some (.int .u8 f.ea) ∧ W'.cell? ⟨n, 7, none⟩ = some (.int .u16 f.ei) ∧ W'.cell? ⟨n, 8, none⟩ = some (.int .u16 f.hop)) ((first | exact ⟨hA1.cell 1 _ rfl, hA1.cell 5 _ rfl, hA1.cell 6 _ rfl, hA1.cell 7 _ rfl, hA1.cell 8 _ rfl⟩ | exact ⟨(hA1.new _).cell 1 _ rfl, (hA1.new _).cell 5 _ rfl, (hA1.new _).cell 6 _ rfl, (hA1.new _).cell 7 _ rfl, (hA1.new _).cell 8 _ rfl⟩))
    ((first | (go_at_call 39; (with_reducible refine (rdigits2 _ (by assumption) _).mono ?_); rintro e w1 ⟨rfl, hb1⟩; have hA2 := hA1.mem hb1; clear hA1 hb1; have hA1 := hA2; clear hA2) | (go_at_call 40; (with_reducible refine (rtext_any ⟨f.ec, f.ea, f.ei⟩ HX.out _).mono ?_); rintro e w1 ⟨rfl, hb1⟩; have hA2 := hA1.mem hb1; clear hA1 hb1; have hA1 := hA2; clear hA2)))
  have c0 := hA1.cell 0 _ rfl
  go_wp2
  have hA2 := hA1.drew
  clear hA1 c0
  have hA1 := hA2
  clear hA2
  go_region_held3 (fun W' => W'.cell? ⟨n, 13, none⟩ = some (.int .u8 f.blk) ∧ W'.cell? ⟨n, 14, none⟩ = some (.int .u16 f.vinc) ∧ W'.cell? ⟨n, 15, none⟩ = some (.int .u32 f.vseq) ∧ W'.cell? ⟨n, 16, none⟩ = some (.int .u8 f.part) ∧ W'.cell? ⟨n, 17, none⟩ = some (.int .u8 f.parts)) ((first | exact ⟨hA1.cell 13 _ rfl, hA1.cell 14 _ rfl, hA1.cell 15 _ rfl, hA1.cell 16 _ rfl, hA1.cell 17 _ rfl⟩ | exact ⟨(hA1.new _).cell 13 _ rfl, (hA1.new _).cell 14 _ rfl, (hA1.new _).cell 15 _ rfl, (hA1.new _).cell 16 _ rfl, (hA1.new _).cell 17 _ rfl⟩))
    (((go_at_call 39; (with_reducible refine (rdigits2 _ (by assumption) _).mono ?_); rintro e w1 ⟨rfl, hb1⟩; have hA2 := hA1.mem hb1; clear hA1 hb1; have hA1 := hA2; clear hA2)))
  go_wp2
  go_ret
  refine ⟨rfl, ?_⟩
  rw [HN.out]
  exact hA1.2.2.1

set_option maxRecDepth 100000 in
set_option maxHeartbeats 4000000 in
theorem rtext_5 (f : Fr) (hf : f.fit)  (w : World) : Calls Tryd.prog 13 #[.agg #[.int .i64 5, .int .u8 f.src, .int .u8 f.dst, .int .u16 f.sinc, .int .u16 f.dinc, .int .u16 f.ec, .int .u8 f.ea, .int .u16 f.ei, .int .u16 f.hop, .int .u16 f.hc, .int .u8 f.ha, .int .u16 f.hi, .bool f.wants, .int .u8 f.blk, .int .u16 f.vinc, .int .u32 f.vseq, .int .u8 f.part, .int .u8 f.parts, .string f.bytes]] w fun e w' => e = .returned (.string (headB ⟨#[108, 101, 97, 118, 101]⟩ f (dgs f.dst))) ∧ Below w.heap.size w w' := by
  obtain ⟨u1, u2, u3, u4, u5, u6, u7, u8, u9, u10, u11, u12, u13, u14, u15, u16, -⟩ := hf
  have hx : (⟨f.ec, f.ea, f.ei⟩ : Ep).fit := ⟨by simp only; omega, by simp only; omega, by simp only; omega⟩
  have HX := Lib.hid hx
  have n1 : (⟨#[108, 101, 97, 118, 101]⟩ : ByteArray).size ≤ 10 := by decide
  have n2 : (⟨#[32]⟩ : ByteArray).size ≤ 1 := by decide
  have n3 : (⟨#[32, 62, 32]⟩ : ByteArray).size ≤ 3 := by decide
  have n4 : (⟨#[47]⟩ : ByteArray).size ≤ 1 := by decide
  have s1 := dgs_size2 f.src (by omega)
  have s2 : ((dgs f.dst) : ByteArray).size ≤ 20 := dgs_size2 f.dst (by omega)
  have s3 := textE_size _ hx
  have s4 := dgs_size2 f.hop (by omega)
  have a1 := add_run 10 1 n1 n2 (by omega)
  have t1 := add_size n1 n2
  have a2 := add_run 11 20 t1 s1 (by omega)
  have t2 := add_size t1 s1
  have a3 := add_run 31 3 t2 n3 (by omega)
  have t3 := add_size t2 n3
  have a4 := add_run 34 20 t3 s2 (by omega)
  have t4 := add_size t3 s2
  have a5 := add_run 54 1 t4 n2 (by omega)
  have t5 := add_size t4 n2
  have a6 := add_run 55 62 t5 s3 (by omega)
  have t6 := add_size t5 s3
  have a7 := add_run 117 1 t6 n4 (by omega)
  have t7 := add_size t6 n4
  have a8 := add_run 118 20 t7 s4 (by omega)
  have t8 := add_size t7 s4
  have T8 := Lib.hid t8
  clear n1 n3 n4 s2 s3 s4 t1 t2 t3 t4 t5 t6 t7 t8
  have w0 : IntKind.i64.wrap (f.src : Int) = f.src := by rw [IntKind.wrap_i64]; omega
  have v0 : (f.src : Int) ≤ 4294967296 := by omega
  have w1 : IntKind.i64.wrap (f.dst : Int) = f.dst := by rw [IntKind.wrap_i64]; omega
  have v1 : (f.dst : Int) ≤ 4294967296 := by omega
  have w2 : IntKind.i64.wrap (f.hop : Int) = f.hop := by rw [IntKind.wrap_i64]; omega
  have v2 : (f.hop : Int) ≤ 4294967296 := by omega
  clear hx n2 s1 T8 u1 u2 u3 u4 u5 u6 u7 u8 u9 u10 u11 u12 u13 u14 u15 u16
  go_enter Tryd.func13, Tryd.ntmps13
  go_wp2_with fail
  refine (rdigits2 f.dst v1 _).mono ?_
  rintro e w1 ⟨rfl, hb1⟩
  have hA1 : At w.heap.size #[.int .i64 5, .int .u8 f.src, .int .u8 f.dst, .int .u16 f.sinc, .int .u16 f.dinc, .int .u16 f.ec, .int .u8 f.ea, .int .u16 f.ei, .int .u16 f.hop, .int .u16 f.hc, .int .u8 f.ha, .int .u16 f.hi, .bool f.wants, .int .u8 f.blk, .int .u16 f.vinc, .int .u32 f.vseq, .int .u8 f.part, .int .u8 f.parts, .string f.bytes] w w1 := At.mem (At.new ⟨ok_new _ _ _ _ rfl rfl, row_new _ _ _ _ rfl rfl, (Below.refl _ _).alloc (Nat.le_refl _) _, by simp⟩ _) hb1
  have c0 := hA1.cell 0 _ rfl
  generalize hn : w.heap.size = n at *
  have HN := Lib.hid hn
  clear hn hb1
  go_wp2
  have hA2 := hA1.drew
  clear hA1 c0
  have hA1 := hA2
  clear hA2
  go_region_held3 (fun W' => W'.cell? ⟨n, 1, none⟩ = some (.int .u8 f.src) ∧ W'.cell? ⟨n, 5, none⟩ = some (.int .u16 f.ec) ∧ W'.cell? ⟨n, 6, none⟩ = some (.int .u8 f.ea) ∧ W'.cell? ⟨n, 7, none⟩ = some (.int .u16 f.ei) ∧ W'.cell? ⟨n, 8, none⟩ = some (.int .u16 f.hop)) ((first | exact ⟨hA1.cell 1 _ rfl, hA1.cell 5 _ rfl, hA1.cell 6 _ rfl, hA1.cell 7 _ rfl, hA1.cell 8 _ rfl⟩ | exact ⟨(hA1.new _).cell 1 _ rfl, (hA1.new _).cell 5 _ rfl, (hA1.new _).cell 6 _ rfl, (hA1.new _).cell 7 _ rfl, (hA1.new _).cell 8 _ rfl⟩))
    ((first | (go_at_call 39; (with_reducible refine (rdigits2 _ (by assumption) _).mono ?_); rintro e w1 ⟨rfl, hb1⟩; have hA2 := hA1.mem hb1; clear hA1 hb1; have hA1 := hA2; clear hA2) | (go_at_call 40; (with_reducible refine (rtext_any ⟨f.ec, f.ea, f.ei⟩ HX.out _).mono ?_); rintro e w1 ⟨rfl, hb1⟩; have hA2 := hA1.mem hb1; clear hA1 hb1; have hA1 := hA2; clear hA2)))
  have c0 := hA1.cell 0 _ rfl
  go_wp2
  go_ret
  refine ⟨rfl, ?_⟩
  rw [HN.out]
  exact hA1.2.2.1

set_option maxRecDepth 100000 in
set_option maxHeartbeats 4000000 in
theorem rtext_lo (f : Fr) (hf : f.fit) (hk : f.kind < 1) (w : World) : Calls Tryd.prog 13 #[.agg #[.int .i64 f.kind, .int .u8 f.src, .int .u8 f.dst, .int .u16 f.sinc, .int .u16 f.dinc, .int .u16 f.ec, .int .u8 f.ea, .int .u16 f.ei, .int .u16 f.hop, .int .u16 f.hc, .int .u8 f.ha, .int .u16 f.hi, .bool f.wants, .int .u8 f.blk, .int .u16 f.vinc, .int .u32 f.vseq, .int .u8 f.part, .int .u8 f.parts, .string f.bytes]] w fun e w' => e = .returned (.string (headB ⟨#[63]⟩ f (dgs f.dst))) ∧ Below w.heap.size w w' := by
  have d1 : decide ((1 : Int) ≤ f.kind) = false := by simp; omega
  have d3 : (f.kind == 3) = false := by simp; omega
  have d4 : (f.kind == 4) = false := by simp; omega
  clear hk
  obtain ⟨u1, u2, u3, u4, u5, u6, u7, u8, u9, u10, u11, u12, u13, u14, u15, u16, -⟩ := hf
  have hx : (⟨f.ec, f.ea, f.ei⟩ : Ep).fit := ⟨by simp only; omega, by simp only; omega, by simp only; omega⟩
  have HX := Lib.hid hx
  have n1 : (⟨#[63]⟩ : ByteArray).size ≤ 10 := by decide
  have n2 : (⟨#[32]⟩ : ByteArray).size ≤ 1 := by decide
  have n3 : (⟨#[32, 62, 32]⟩ : ByteArray).size ≤ 3 := by decide
  have n4 : (⟨#[47]⟩ : ByteArray).size ≤ 1 := by decide
  have s1 := dgs_size2 f.src (by omega)
  have s2 : ((dgs f.dst) : ByteArray).size ≤ 20 := dgs_size2 f.dst (by omega)
  have s3 := textE_size _ hx
  have s4 := dgs_size2 f.hop (by omega)
  have a1 := add_run 10 1 n1 n2 (by omega)
  have t1 := add_size n1 n2
  have a2 := add_run 11 20 t1 s1 (by omega)
  have t2 := add_size t1 s1
  have a3 := add_run 31 3 t2 n3 (by omega)
  have t3 := add_size t2 n3
  have a4 := add_run 34 20 t3 s2 (by omega)
  have t4 := add_size t3 s2
  have a5 := add_run 54 1 t4 n2 (by omega)
  have t5 := add_size t4 n2
  have a6 := add_run 55 62 t5 s3 (by omega)
  have t6 := add_size t5 s3
  have a7 := add_run 117 1 t6 n4 (by omega)
  have t7 := add_size t6 n4
  have a8 := add_run 118 20 t7 s4 (by omega)
  have t8 := add_size t7 s4
  have T8 := Lib.hid t8
  clear n1 n3 n4 s2 s3 s4 t1 t2 t3 t4 t5 t6 t7 t8
  have w0 : IntKind.i64.wrap (f.src : Int) = f.src := by rw [IntKind.wrap_i64]; omega
  have v0 : (f.src : Int) ≤ 4294967296 := by omega
  have w1 : IntKind.i64.wrap (f.dst : Int) = f.dst := by rw [IntKind.wrap_i64]; omega
  have v1 : (f.dst : Int) ≤ 4294967296 := by omega
  have w2 : IntKind.i64.wrap (f.hop : Int) = f.hop := by rw [IntKind.wrap_i64]; omega
  have v2 : (f.hop : Int) ≤ 4294967296 := by omega
  clear hx n2 s1 T8 u1 u2 u3 u4 u5 u6 u7 u8 u9 u10 u11 u12 u13 u14 u15 u16
  go_enter Tryd.func13, Tryd.ntmps13
  go_wp2_with fail
  refine (rdigits2 f.dst v1 _).mono ?_
  rintro e w1 ⟨rfl, hb1⟩
  have hA1 : At w.heap.size #[.int .i64 f.kind, .int .u8 f.src, .int .u8 f.dst, .int .u16 f.sinc, .int .u16 f.dinc, .int .u16 f.ec, .int .u8 f.ea, .int .u16 f.ei, .int .u16 f.hop, .int .u16 f.hc, .int .u8 f.ha, .int .u16 f.hi, .bool f.wants, .int .u8 f.blk, .int .u16 f.vinc, .int .u32 f.vseq, .int .u8 f.part, .int .u8 f.parts, .string f.bytes] w w1 := At.mem (At.new ⟨ok_new _ _ _ _ rfl rfl, row_new _ _ _ _ rfl rfl, (Below.refl _ _).alloc (Nat.le_refl _) _, by simp⟩ _) hb1
  have c0 := hA1.cell 0 _ rfl
  generalize hn : w.heap.size = n at *
  have HN := Lib.hid hn
  clear hn hb1
  go_wp2
  have hA2 := hA1.drew
  clear hA1 c0
  have hA1 := hA2
  clear hA2
  go_region_held3 (fun W' => W'.cell? ⟨n, 1, none⟩ = some (.int .u8 f.src) ∧ W'.cell? ⟨n, 5, none⟩ = some (.int .u16 f.ec) ∧ W'.cell? ⟨n, 6, none⟩ = some (.int .u8 f.ea) ∧ W'.cell? ⟨n, 7, none⟩ = some (.int .u16 f.ei) ∧ W'.cell? ⟨n, 8, none⟩ = some (.int .u16 f.hop)) ((first | exact ⟨hA1.cell 1 _ rfl, hA1.cell 5 _ rfl, hA1.cell 6 _ rfl, hA1.cell 7 _ rfl, hA1.cell 8 _ rfl⟩ | exact ⟨(hA1.new _).cell 1 _ rfl, (hA1.new _).cell 5 _ rfl, (hA1.new _).cell 6 _ rfl, (hA1.new _).cell 7 _ rfl, (hA1.new _).cell 8 _ rfl⟩))
    ((first | (go_at_call 39; (with_reducible refine (rdigits2 _ (by assumption) _).mono ?_); rintro e w1 ⟨rfl, hb1⟩; have hA2 := hA1.mem hb1; clear hA1 hb1; have hA1 := hA2; clear hA2) | (go_at_call 40; (with_reducible refine (rtext_any ⟨f.ec, f.ea, f.ei⟩ HX.out _).mono ?_); rintro e w1 ⟨rfl, hb1⟩; have hA2 := hA1.mem hb1; clear hA1 hb1; have hA1 := hA2; clear hA2)))
  have c0 := hA1.cell 0 _ rfl
  go_wp2
  go_ret
  refine ⟨rfl, ?_⟩
  rw [HN.out]
  exact hA1.2.2.1

set_option maxRecDepth 100000 in
set_option maxHeartbeats 4000000 in
theorem rtext_hi (f : Fr) (hf : f.fit) (hk : 5 < f.kind) (w : World) : Calls Tryd.prog 13 #[.agg #[.int .i64 f.kind, .int .u8 f.src, .int .u8 f.dst, .int .u16 f.sinc, .int .u16 f.dinc, .int .u16 f.ec, .int .u8 f.ea, .int .u16 f.ei, .int .u16 f.hop, .int .u16 f.hc, .int .u8 f.ha, .int .u16 f.hi, .bool f.wants, .int .u8 f.blk, .int .u16 f.vinc, .int .u32 f.vseq, .int .u8 f.part, .int .u8 f.parts, .string f.bytes]] w fun e w' => e = .returned (.string (headB ⟨#[63]⟩ f (dgs f.dst))) ∧ Below w.heap.size w w' := by
  have d1 : decide ((1 : Int) ≤ f.kind) = true := by simp; omega
  have d2 : decide (f.kind ≤ (5 : Int)) = false := by simp; omega
  have d3 : (f.kind == 3) = false := by simp; omega
  have d4 : (f.kind == 4) = false := by simp; omega
  clear hk
  obtain ⟨u1, u2, u3, u4, u5, u6, u7, u8, u9, u10, u11, u12, u13, u14, u15, u16, -⟩ := hf
  have hx : (⟨f.ec, f.ea, f.ei⟩ : Ep).fit := ⟨by simp only; omega, by simp only; omega, by simp only; omega⟩
  have HX := Lib.hid hx
  have n1 : (⟨#[63]⟩ : ByteArray).size ≤ 10 := by decide
  have n2 : (⟨#[32]⟩ : ByteArray).size ≤ 1 := by decide
  have n3 : (⟨#[32, 62, 32]⟩ : ByteArray).size ≤ 3 := by decide
  have n4 : (⟨#[47]⟩ : ByteArray).size ≤ 1 := by decide
  have s1 := dgs_size2 f.src (by omega)
  have s2 : ((dgs f.dst) : ByteArray).size ≤ 20 := dgs_size2 f.dst (by omega)
  have s3 := textE_size _ hx
  have s4 := dgs_size2 f.hop (by omega)
  have a1 := add_run 10 1 n1 n2 (by omega)
  have t1 := add_size n1 n2
  have a2 := add_run 11 20 t1 s1 (by omega)
  have t2 := add_size t1 s1
  have a3 := add_run 31 3 t2 n3 (by omega)
  have t3 := add_size t2 n3
  have a4 := add_run 34 20 t3 s2 (by omega)
  have t4 := add_size t3 s2
  have a5 := add_run 54 1 t4 n2 (by omega)
  have t5 := add_size t4 n2
  have a6 := add_run 55 62 t5 s3 (by omega)
  have t6 := add_size t5 s3
  have a7 := add_run 117 1 t6 n4 (by omega)
  have t7 := add_size t6 n4
  have a8 := add_run 118 20 t7 s4 (by omega)
  have t8 := add_size t7 s4
  have T8 := Lib.hid t8
  clear n1 n3 n4 s2 s3 s4 t1 t2 t3 t4 t5 t6 t7 t8
  have w0 : IntKind.i64.wrap (f.src : Int) = f.src := by rw [IntKind.wrap_i64]; omega
  have v0 : (f.src : Int) ≤ 4294967296 := by omega
  have w1 : IntKind.i64.wrap (f.dst : Int) = f.dst := by rw [IntKind.wrap_i64]; omega
  have v1 : (f.dst : Int) ≤ 4294967296 := by omega
  have w2 : IntKind.i64.wrap (f.hop : Int) = f.hop := by rw [IntKind.wrap_i64]; omega
  have v2 : (f.hop : Int) ≤ 4294967296 := by omega
  clear hx n2 s1 T8 u1 u2 u3 u4 u5 u6 u7 u8 u9 u10 u11 u12 u13 u14 u15 u16
  go_enter Tryd.func13, Tryd.ntmps13
  go_wp2_with fail
  refine (rdigits2 f.dst v1 _).mono ?_
  rintro e w1 ⟨rfl, hb1⟩
  have hA1 : At w.heap.size #[.int .i64 f.kind, .int .u8 f.src, .int .u8 f.dst, .int .u16 f.sinc, .int .u16 f.dinc, .int .u16 f.ec, .int .u8 f.ea, .int .u16 f.ei, .int .u16 f.hop, .int .u16 f.hc, .int .u8 f.ha, .int .u16 f.hi, .bool f.wants, .int .u8 f.blk, .int .u16 f.vinc, .int .u32 f.vseq, .int .u8 f.part, .int .u8 f.parts, .string f.bytes] w w1 := At.mem (At.new ⟨ok_new _ _ _ _ rfl rfl, row_new _ _ _ _ rfl rfl, (Below.refl _ _).alloc (Nat.le_refl _) _, by simp⟩ _) hb1
  have c0 := hA1.cell 0 _ rfl
  generalize hn : w.heap.size = n at *
  have HN := Lib.hid hn
  clear hn hb1
  go_wp2
  have hA2 := hA1.drew
  clear hA1 c0
  have hA1 := hA2
  clear hA2
  go_region_held3 (fun W' => W'.cell? ⟨n, 1, none⟩ = some (.int .u8 f.src) ∧ W'.cell? ⟨n, 5, none⟩ = some (.int .u16 f.ec) ∧ W'.cell? ⟨n, 6, none⟩ = some (.int .u8 f.ea) ∧ W'.cell? ⟨n, 7, none⟩ = some (.int .u16 f.ei) ∧ W'.cell? ⟨n, 8, none⟩ = some (.int .u16 f.hop)) ((first | exact ⟨hA1.cell 1 _ rfl, hA1.cell 5 _ rfl, hA1.cell 6 _ rfl, hA1.cell 7 _ rfl, hA1.cell 8 _ rfl⟩ | exact ⟨(hA1.new _).cell 1 _ rfl, (hA1.new _).cell 5 _ rfl, (hA1.new _).cell 6 _ rfl, (hA1.new _).cell 7 _ rfl, (hA1.new _).cell 8 _ rfl⟩))
    ((first | (go_at_call 39; (with_reducible refine (rdigits2 _ (by assumption) _).mono ?_); rintro e w1 ⟨rfl, hb1⟩; have hA2 := hA1.mem hb1; clear hA1 hb1; have hA1 := hA2; clear hA2) | (go_at_call 40; (with_reducible refine (rtext_any ⟨f.ec, f.ea, f.ei⟩ HX.out _).mono ?_); rintro e w1 ⟨rfl, hb1⟩; have hA2 := hA1.mem hb1; clear hA1 hb1; have hA1 := hA2; clear hA2)))
  have c0 := hA1.cell 0 _ rfl
  go_wp2
  go_ret
  refine ⟨rfl, ?_⟩
  rw [HN.out]
  exact hA1.2.2.1

theorem join_bytes (xs : List ByteArray) (b : ByteArray) (h : b.data.toList = Lib.join (xs.map (·.data.toList)) [32]) : b = joinB xs := by
  unfold joinB
  rw [← h]
theorem ext_list {a b : ByteArray} (h : a.data.toList = b.data.toList) : a = b := by
  apply ByteArray.ext
  exact Array.ext' h
theorem nm_1 {f : Fr} (h : f.kind = 1) : nameB f.kind = ⟨#[116, 111, 107, 101, 110]⟩ := by unfold nameB; simp [h]
theorem nm_2 {f : Fr} (h : f.kind = 2) : nameB f.kind = ⟨#[112, 111, 108, 108]⟩ := by unfold nameB; simp [h]
theorem nm_3 {f : Fr} (h : f.kind = 3) : nameB f.kind = ⟨#[115, 116, 97, 116, 117, 115]⟩ := by unfold nameB; simp [h]
theorem nm_4 {f : Fr} (h : f.kind = 4) : nameB f.kind = ⟨#[100, 97, 116, 97]⟩ := by unfold nameB; simp [h]
theorem nm_5 {f : Fr} (h : f.kind = 5) : nameB f.kind = ⟨#[108, 101, 97, 118, 101]⟩ := by unfold nameB; simp [h]
theorem nm_lo {f : Fr} (h : f.kind < 1) : nameB f.kind = ⟨#[63]⟩ := by unfold nameB; rw [if_neg (by omega), if_neg (by omega), if_neg (by omega), if_neg (by omega), if_neg (by omega)]
theorem nm_hi {f : Fr} (h : 5 < f.kind) : nameB f.kind = ⟨#[63]⟩ := by unfold nameB; rw [if_neg (by omega), if_neg (by omega), if_neg (by omega), if_neg (by omega), if_neg (by omega)]
theorem head_plain (f : Fr) (h3 : f.kind ≠ 3) (h4 : f.kind ≠ 4) (nm : ByteArray) (hn : nameB f.kind = nm) : headB nm f (dgs f.dst) = joinB (wordsB f) := by
  apply join_bytes
  have e : wordsB f = words5 f := by unfold wordsB tailW; rw [if_neg h3, if_neg h4, List.append_nil]
  have e2 : targetB f = dgs f.dst := by unfold targetB; rw [if_neg h4]
  rw [e]
  unfold words5 headB epB
  rw [hn, e2]
  simp only [List.map_cons, List.map_nil, Lib.join_cons, Lib.joinTail, List.flatten_cons, List.flatten_nil, ByteArray.data_append, Array.toList_append]
  simp
theorem head_status (f : Fr) (h3 : f.kind = 3) : headB ⟨#[115, 116, 97, 116, 117, 115]⟩ f (dgs f.dst) ++ ⟨#[32, 104, 105, 103, 104, 32]⟩ ++ textE ⟨f.hc, f.ha, f.hi⟩ ++ inB f.wants = joinB (wordsB f) := by
  apply join_bytes
  have e2 : targetB f = dgs f.dst := by unfold targetB; rw [if_neg (by omega)]
  unfold wordsB tailW
  rw [if_pos h3]
  unfold words5 headB epB
  rw [nm_3 h3, e2]
  simp only [List.cons_append, List.nil_append, List.map_cons, List.map_nil, Lib.join_cons, Lib.joinTail, List.flatten_cons, List.flatten_nil, ByteArray.data_append, Array.toList_append]
  cases f.wants <;> simp [inB, sideB]
theorem head_data (f : Fr) (h4 : f.kind = 4) : headB ⟨#[100, 97, 116, 97]⟩ f ⟨#[42]⟩ ++ ⟨#[32, 98, 108, 111, 99, 107, 32]⟩ ++ dgs f.blk ++ ⟨#[32]⟩ ++ dgs f.vinc ++ ⟨#[46]⟩ ++ dgs f.vseq ++ ⟨#[32]⟩ ++ dgs (f.part + 1) ++ ⟨#[32, 111, 102, 32]⟩ ++ dgs f.parts = joinB (wordsB f) := by
  apply join_bytes
  have e2 : targetB f = ⟨#[42]⟩ := by unfold targetB; rw [if_pos h4]
  unfold wordsB tailW
  rw [if_neg (by omega), if_pos h4]
  unfold words5 headB epB
  rw [nm_4 h4, e2]
  simp only [List.cons_append, List.nil_append, List.map_cons, List.map_nil, Lib.join_cons, Lib.joinTail, List.flatten_cons, List.flatten_nil, ByteArray.data_append, Array.toList_append]
  simp
theorem rftext_any (f : Fr) (hf : f.fit) (w : World) : Calls Tryd.prog 13 #[.agg #[.int .i64 f.kind, .int .u8 f.src, .int .u8 f.dst, .int .u16 f.sinc, .int .u16 f.dinc, .int .u16 f.ec, .int .u8 f.ea, .int .u16 f.ei, .int .u16 f.hop, .int .u16 f.hc, .int .u8 f.ha, .int .u16 f.hi, .bool f.wants, .int .u8 f.blk, .int .u16 f.vinc, .int .u32 f.vseq, .int .u8 f.part, .int .u8 f.parts, .string f.bytes]] w fun e w' => e = .returned (.string (joinB (wordsB f))) ∧ Below w.heap.size w w' := by
  by_cases h1 : f.kind = 1
  · have h := rtext_1 f hf w
    rw [head_plain f (by omega) (by omega) _ (nm_1 h1)] at h
    rw [h1]; exact h
  by_cases h2 : f.kind = 2
  · have h := rtext_2 f hf w
    rw [head_plain f (by omega) (by omega) _ (nm_2 h2)] at h
    rw [h2]; exact h
  by_cases h3 : f.kind = 3
  · have h := rtext_3 f hf w
    rw [head_status f h3] at h
    rw [h3]; exact h
  by_cases h4 : f.kind = 4
  · have h := rtext_4 f hf w
    rw [head_data f h4] at h
    rw [h4]; exact h
  by_cases h5 : f.kind = 5
  · have h := rtext_5 f hf w
    rw [head_plain f (by omega) (by omega) _ (nm_5 h5)] at h
    rw [h5]; exact h
  by_cases hk : f.kind < 1
  · have h := rtext_lo f hf hk w
    rw [head_plain f (by omega) (by omega) _ (nm_lo hk)] at h
    exact h
  · have h := rtext_hi f hf (by omega) w
    rw [head_plain f (by omega) (by omega) _ (nm_hi (by omega))] at h
    exact h

end Go.Proofs.YtindekpmicbbiaaDoor
