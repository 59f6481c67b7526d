/-
  The law of reading any bytes, walked, where they are of no frame, and where they are of one. Conditions: the library's table of powers is as the program lays it.
-/
import Derived.Test.YtindekpmicbbiaaDoorCuts
import Derived.Test.YtindekpmicbbiaaDoorREr
namespace Go.Proofs.YtindekpmicbbiaaDoor
open Go.RowKit
open Oct Sums

set_option linter.unusedSimpArgs false
attribute [local go_sem ↓] exec_bd exec_ld exec_st load_row loadVar_row store_row
attribute [local go_sem] bd_0 bd_1 bd_5 bd_6 ld_row st_row set_cell_lt set_cell_gt one_int one_bool one_str row_new ok_new free_new row_old ok_old_iff free_old_iff put_in put_cell_lt put_cell_gt put_frozen row_put_in row_put_lt row_put_gt ok_put_iff free_put_iff put_size row_set_in row_set_lt row_set_gt ok_set_iff free_set_iff drew_cell drew_frozen drew_size row_drew ok_drew free_drew

open Epo
/-- A frame in a block of the call's own. -/
def LS (q : Nat) (c : Array Value) (w W : World) : Prop := RowOk W q ∧ rowArr W q = c ∧ Below w.heap.size w W ∧ w.heap.size ≤ q ∧ q < W.heap.size
theorem LS.mem {q : Nat} {c : Array Value} {w W W' : World} (h : LS q c w W) (hb : Below W.heap.size W W') : LS q c w W' :=
  have h1 := row_below hb h.1
  ⟨h1.1, h1.2.trans h.2.1, h.2.2.1.trans (hb.mono (Nat.le_trans h.2.2.2.1 (Nat.le_of_lt h.2.2.2.2))), h.2.2.2.1, Nat.lt_of_lt_of_le h.2.2.2.2 hb.size⟩
theorem LS.drew {q : Nat} {c : Array Value} {w W : World} (h : LS q c w W) : LS q c w W.drew := h.mem (Below.refl _ _).drew
theorem LS.ok {q : Nat} {c : Array Value} {w W : World} (h : LS q c w W) : RowOk W q := h.1
theorem LS.row {q : Nat} {c : Array Value} {w W : World} (h : LS q c w W) : rowArr W q = c := h.2.1
theorem LS.new {c c' : Array Value} {w W : World} {t : TypeId} (hB : Below w.heap.size w W) (hc : c.size = 19) (hc' : c'.size = 19) : LS W.heap.size c w (put29 (W.alloc (.cells c' t)) W.heap.size c) :=
  ⟨by rw [ok_put_iff]; exact ok_new _ _ _ _ rfl hc', row_put _ _ _ (ok_new _ _ _ _ rfl hc') hc, below_put hB.size _ (below_new hB hB.size _), hB.size, by rw [put_size]; simp⟩

set_option maxRecDepth 100000 in
set_option maxHeartbeats 4000000 in
theorem reads_long (s : ByteArray) (hs : 400 < s.size) (w : World) (hE : Env w) : Calls Tryd.prog 4 #[.string s] w fun e w' => e = .returned (.bool true) ∧ Below w.heap.size w w' := by
  have HE := Lib.hid hE
  have d : decide ((400 : Int) < (s.size : Int)) = true := by simp; omega
  clear hs hE
  go_enter Tryd.func4, Tryd.ntmps4
  go_wp2_with fail
  refine (awake_any _ HE.out).mono ?_
  rintro e w1 ⟨rfl, hb1⟩
  go_wp2
  go_ret
  exact ⟨rfl, hb1⟩

set_option maxRecDepth 100000 in
set_option maxHeartbeats 4000000 in
theorem reads_err (s : ByteArray) (hs : s.size ≤ 400) (E : Int) (h0 : E ≠ 0) (hD : ∀ W, Calls Tryd.prog 15 #[.string s] W fun e w' => e = .returned (.tuple #[.agg #[.int .i64 0, .int .u8 0, .int .u8 0, .int .u16 0, .int .u16 0, .int .u16 0, .int .u8 0, .int .u16 0, .int .u16 0, .int .u16 0, .int .u8 0, .int .u16 0, .bool false, .int .u8 0, .int .u16 0, .int .u32 0, .int .u8 0, .int .u8 0, .string ⟨#[]⟩], .int .i64 E]) ∧ Below W.heap.size W w')
    (hR : ∀ W, Calls Tryd.prog 17 #[.string s] W fun e w' => e = .returned (.int .i64 E) ∧ Below W.heap.size W w') (w : World) (hE : Env w) : Calls Tryd.prog 4 #[.string s] w fun e w' => e = .returned (.bool true) ∧ Below w.heap.size w w' := by
  have HE := Lib.hid hE
  have HD := Lib.hid hD
  have HR := Lib.hid hR
  have d : decide ((400 : Int) < (s.size : Int)) = false := by simp; omega
  have d0 : (E != 0) = true := by simp [h0]
  clear hs hE hD hR h0
  go_enter Tryd.func4, Tryd.ntmps4
  go_wp2_with fail
  refine (awake_any _ HE.out).mono ?_
  rintro e w1 ⟨rfl, hb1⟩
  go_wp2_with fail
  refine (HD.out _).mono ?_
  rintro e w2 ⟨rfl, hb2⟩
  have hB := hb1.trans (hb2.mono hb1.size)
  clear hb1 hb2
  go_wp2_with fail
  refine world_cut (G := fun W => Calls _ _ _ W _) (fun W => LS w2.heap.size #[.int .i64 0, .int .u8 0, .int .u8 0, .int .u16 0, .int .u16 0, .int .u16 0, .int .u8 0, .int .u16 0, .int .u16 0, .int .u16 0, .int .u8 0, .int .u16 0, .bool false, .int .u8 0, .int .u16 0, .int .u32 0, .int .u8 0, .int .u8 0, .string ⟨#[]⟩] w W) (LS.new (c' := #[.int .i64 0, .int .u8 0, .int .u8 0, .int .u16 0, .int .u16 0, .int .u16 0, .int .u8 0, .int .u16 0, .int .u16 0, .int .u16 0, .int .u8 0, .int .u16 0, .bool false, .int .u8 0, .int .u16 0, .int .u32 0, .int .u8 0, .int .u8 0, .string ⟨#[]⟩]) (t := 29) hB rfl rfl) ?_
  clear hB
  rintro w3 hA
  generalize w2.heap.size = q at *
  refine (HR.out _).mono ?_
  rintro e w4 ⟨rfl, hb4⟩
  have hA4 := hA.mem hb4
  clear hA hb4
  have hk := hA4.ok
  have hr := hA4.row
  go_wp2
  go_ret
  exact ⟨rfl, hA4.2.2.1⟩

set_option maxRecDepth 100000 in
set_option maxHeartbeats 4000000 in
theorem reads_ok (s : ByteArray) (hs : s.size ≤ 400) (f : Fr) (hf : f.fit) (he : encB f = s) (hz : encE f = 0) (hD : ∀ W, Calls Tryd.prog 15 #[.string s] W fun e w' => e = .returned (.tuple #[.agg #[.int .i64 f.kind, .int .u8 f.src, .int .u8 f.dst, .int .u16 f.sinc, .int .u16 f.dinc, .int .u16 f.ec, .int .u8 f.ea, .int .u16 f.ei, .int .u16 f.hop, .int .u16 f.hc, .int .u8 f.ha, .int .u16 f.hi, .bool f.wants, .int .u8 f.blk, .int .u16 f.vinc, .int .u32 f.vseq, .int .u8 f.part, .int .u8 f.parts, .string f.bytes], .int .i64 0]) ∧ Below W.heap.size W w')
    (hR : ∀ W, Calls Tryd.prog 17 #[.string s] W fun e w' => e = .returned (.int .i64 0) ∧ Below W.heap.size W w')
    (hF : ∀ W, Calls Tryd.prog 18 #[.string s] W fun e w' => e = .returned (.agg #[.int .i64 f.kind, .int .u8 f.src, .int .u8 f.dst, .int .u16 f.sinc, .int .u16 f.dinc, .int .u16 f.ec, .int .u8 f.ea, .int .u16 f.ei, .int .u16 f.hop, .int .u16 f.hc, .int .u8 f.ha, .int .u16 f.hi, .bool f.wants, .int .u8 f.blk, .int .u16 f.vinc, .int .u32 f.vseq, .int .u8 f.part, .int .u8 f.parts, .string f.bytes]) ∧ Below W.heap.size W w') (w : World) (hE : Env w) : Calls Tryd.prog 4 #[.string s] w fun e w' => e = .returned (.bool true) ∧ Below w.heap.size w w' := by
  have HE := Lib.hid hE
  have HD := Lib.hid hD
  have HR := Lib.hid hR
  have HF := Lib.hid hF
  have HN := Lib.hid (fun W => encode_any f W hf)
  rw [he, hz] at HN
  have d : decide ((400 : Int) < (s.size : Int)) = false := by simp; omega
  clear hs hE hD hR hF he hz hf
  go_enter Tryd.func4, Tryd.ntmps4
  go_wp2_with fail
  refine (awake_any _ HE.out).mono ?_
  rintro e w1 ⟨rfl, hb1⟩
  go_wp2_with fail
  refine (HD.out _).mono ?_
  rintro e w2 ⟨rfl, hb2⟩
  have hB := hb1.trans (hb2.mono hb1.size)
  clear hb1 hb2
  go_wp2_with fail
  refine world_cut (G := fun W => Calls _ _ _ W _) (fun W => LS w2.heap.size #[.int .i64 f.kind, .int .u8 f.src, .int .u8 f.dst, .int .u16 f.sinc, .int .u16 f.dinc, .int .u16 f.ec, .int .u8 f.ea, .int .u16 f.ei, .int .u16 f.hop, .int .u16 f.hc, .int .u8 f.ha, .int .u16 f.hi, .bool f.wants, .int .u8 f.blk, .int .u16 f.vinc, .int .u32 f.vseq, .int .u8 f.part, .int .u8 f.parts, .string f.bytes] w W) (LS.new (c' := #[.int .i64 0, .int .u8 0, .int .u8 0, .int .u16 0, .int .u16 0, .int .u16 0, .int .u8 0, .int .u16 0, .int .u16 0, .int .u16 0, .int .u8 0, .int .u16 0, .bool false, .int .u8 0, .int .u16 0, .int .u32 0, .int .u8 0, .int .u8 0, .string ⟨#[]⟩]) (t := 29) hB rfl rfl) ?_
  clear hB
  rintro w3 hA
  generalize w2.heap.size = q at *
  refine (HR.out _).mono ?_
  rintro e w4 ⟨rfl, hb4⟩
  have hA4 := hA.mem hb4
  clear hA hb4
  have hk := hA4.ok
  have hr := hA4.row
  go_wp2_with fail
  refine (HN.out _).mono ?_
  rintro e w5 ⟨rfl, hb5⟩
  have hA5 := hA4.mem hb5
  clear hA4 hb5 hk hr
  go_wp2
  go_region_held3 (fun W' => LS q #[.int .i64 f.kind, .int .u8 f.src, .int .u8 f.dst, .int .u16 f.sinc, .int .u16 f.dinc, .int .u16 f.ec, .int .u8 f.ea, .int .u16 f.ei, .int .u16 f.hop, .int .u16 f.hc, .int .u8 f.ha, .int .u16 f.hi, .bool f.wants, .int .u8 f.blk, .int .u16 f.vinc, .int .u32 f.vseq, .int .u8 f.part, .int .u8 f.parts, .string f.bytes] w W' ∧ RowOk W' q ∧ rowArr W' q = #[.int .i64 f.kind, .int .u8 f.src, .int .u8 f.dst, .int .u16 f.sinc, .int .u16 f.dinc, .int .u16 f.ec, .int .u8 f.ea, .int .u16 f.ei, .int .u16 f.hop, .int .u16 f.hc, .int .u8 f.ha, .int .u16 f.hi, .bool f.wants, .int .u8 f.blk, .int .u16 f.vinc, .int .u32 f.vseq, .int .u8 f.part, .int .u8 f.parts, .string f.bytes])
    (first | exact ⟨hA5.drew, hA5.drew.ok, hA5.drew.row⟩ | exact ⟨hA6, hA6.ok, hA6.row⟩)
    ((go_at_call 18; have hS := ‹_ ∧ RowOk _ _ ∧ _›; (with_reducible refine (HF.out _).mono ?_); rintro e w6 ⟨rfl, hb6⟩; have hA6 := LS.mem hS.1 hb6))
  go_wp2
  go_ret
  exact ⟨rfl, hA6.2.2.1⟩

end Go.Proofs.YtindekpmicbbiaaDoor
