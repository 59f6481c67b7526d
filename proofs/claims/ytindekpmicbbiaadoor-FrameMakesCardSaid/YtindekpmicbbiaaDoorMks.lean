/-
  The law of making a frame's bytes and text, walked. Conditions: numbers such as their kinds hold; the library's table of powers is as the program lays it.
-/
import Derived.Test.YtindekpmicbbiaaDoorRTx
import Derived.Test.YtindekpmicbbiaaDoorRBe
import Derived.Test.YtindekpmicbbiaaDoorRRight
import Derived.Test.YtindekpmicbbiaaDoorCuts
namespace Go.Proofs.YtindekpmicbbiaaDoor
open Go.RowKit
open Oct Sums

set_option linter.unusedSimpArgs false
attribute [local go_sem ↓] exec_bd exec_ld exec_st load_row loadVar_row store_row
attribute [local go_sem] bd_0 bd_1 bd_5 bd_6 ld_row st_row set_cell_lt set_cell_gt one_int one_bool one_str row_new ok_new free_new row_old ok_old_iff free_old_iff put_in put_cell_lt put_cell_gt put_frozen row_put_in row_put_lt row_put_gt ok_put_iff free_put_iff put_size row_set_in row_set_lt row_set_gt ok_set_iff free_set_iff drew_cell drew_frozen drew_size row_drew ok_drew free_drew

open Epo
/-- A frame in a block of the call's own. -/
def MS (q : Nat) (c : Array Value) (w W : World) : Prop := RowOk W q ∧ rowArr W q = c ∧ Below w.heap.size w W ∧ w.heap.size ≤ q ∧ q < W.heap.size
theorem MS.mem {q : Nat} {c : Array Value} {w W W' : World} (h : MS q c w W) (hb : Below W.heap.size W W') : MS q c w W' :=
  have h1 := row_below hb h.1
  ⟨h1.1, h1.2.trans h.2.1, h.2.2.1.trans (hb.mono (Nat.le_trans h.2.2.2.1 (Nat.le_of_lt h.2.2.2.2))), h.2.2.2.1, Nat.lt_of_lt_of_le h.2.2.2.2 hb.size⟩
theorem MS.drew {q : Nat} {c : Array Value} {w W : World} (h : MS q c w W) : MS q c w W.drew := h.mem (Below.refl _ _).drew
theorem MS.ok {q : Nat} {c : Array Value} {w W : World} (h : MS q c w W) : RowOk W q := h.1
theorem MS.row {q : Nat} {c : Array Value} {w W : World} (h : MS q c w W) : rowArr W q = c := h.2.1
theorem MS.new {c c' : Array Value} {w W : World} {t : TypeId} (hB : Below w.heap.size w W) (hc : c.size = 19) (hc' : c'.size = 19) : MS W.heap.size c w (put29 (W.alloc (.cells c' t)) W.heap.size c) :=
  ⟨by rw [ok_put_iff]; exact ok_new _ _ _ _ rfl hc', row_put _ _ _ (ok_new _ _ _ _ rfl hc') hc, below_put hB.size _ (below_new hB hB.size _), hB.size, by rw [put_size]; simp⟩

def PS (n q : Nat) (c : Array Value) (w U W : World) : Prop := TS n c w W ∧ MS q c U W
theorem PS.mem {n q : Nat} {c : Array Value} {w U W W' : World} (h : PS n q c w U W) (hb : Below W.heap.size W W') : PS n q c w U W' := ⟨h.1.mem hb, h.2.mem hb⟩
theorem PS.new {n : Nat} {c c' : Array Value} {w W : World} {t : TypeId} (h : TS n c w W) (hc : c.size = 19) (hc' : c'.size = 19) : PS n W.heap.size c w W (put29 (W.alloc (.cells c' t)) W.heap.size c) :=
  ⟨TS.put (t := t) h, MS.new (Below.refl _ _) hc hc'⟩

set_option maxRecDepth 100000 in
set_option maxHeartbeats 4000000 in
theorem makes_long (f : Fr) (hs : 100 < f.bytes.size) (w : World) (hE : Env w) : Calls Tryd.prog 3 #[.agg #[.int .i64 f.kind, .int .u8 f.src, .int .u8 f.dst, .int .u16 f.sinc, .int .u16 f.dinc, .int .u16 f.ec, .int .u8 f.ea, .int .u16 f.ei, .int .u16 f.hop, .int .u16 f.hc, .int .u8 f.ha, .int .u16 f.hi, .bool f.wants, .int .u8 f.blk, .int .u16 f.vinc, .int .u32 f.vseq, .int .u8 f.part, .int .u8 f.parts, .string f.bytes]] w fun e w' => e = .returned (.bool true) ∧ Below w.heap.size w w' := by
  have HE := Lib.hid hE
  have d : decide ((100 : Int) < (f.bytes.size : Int)) = true := by simp; omega
  clear hs hE
  go_enter Tryd.func3, Tryd.ntmps3
  go_wp2_with fail
  refine world_cut (G := fun W => Calls _ _ _ W _) (fun W => TS w.heap.size #[.int .i64 f.kind, .int .u8 f.src, .int .u8 f.dst, .int .u16 f.sinc, .int .u16 f.dinc, .int .u16 f.ec, .int .u8 f.ea, .int .u16 f.ei, .int .u16 f.hop, .int .u16 f.hc, .int .u8 f.ha, .int .u16 f.hi, .bool f.wants, .int .u8 f.blk, .int .u16 f.vinc, .int .u32 f.vseq, .int .u8 f.part, .int .u8 f.parts, .string f.bytes] w W) (TS.new rfl HE.out) ?_
  rintro W hA
  generalize hn : w.heap.size = n at *
  have HN := Lib.hid hn
  clear hn
  refine (awake_any _ hA.env).mono ?_
  rintro e w1 ⟨rfl, hb1⟩
  have hA1 := hA.mem hb1
  clear hA hb1
  have hk := hA1.1.1
  have hr := hA1.1.2.1
  have cb := hA1.1.cell 18 _ rfl
  go_wp2
  go_ret
  exact ⟨rfl, by rw [HN.out]; exact hA1.1.2.2.1⟩

set_option maxRecDepth 100000 in
set_option maxHeartbeats 4000000 in
theorem makes_no (f : Fr) (hf : f.fit) (hr0 : rtB f = false) (hs : f.bytes.size ≤ 100) (w : World) (hE : Env w) : Calls Tryd.prog 3 #[.agg #[.int .i64 f.kind, .int .u8 f.src, .int .u8 f.dst, .int .u16 f.sinc, .int .u16 f.dinc, .int .u16 f.ec, .int .u8 f.ea, .int .u16 f.ei, .int .u16 f.hop, .int .u16 f.hc, .int .u8 f.ha, .int .u16 f.hi, .bool f.wants, .int .u8 f.blk, .int .u16 f.vinc, .int .u32 f.vseq, .int .u8 f.part, .int .u8 f.parts, .string f.bytes]] w fun e w' => e = .returned (.bool true) ∧ Below w.heap.size w w' := by
  have HE := Lib.hid hE
  have hbm : f.bytes.size ≤ maxLen := Nat.le_trans hs (by decide)
  have d : decide ((100 : Int) < (f.bytes.size : Int)) = false := by simp; omega
  have HQ : Hid (∀ W, Calls Tryd.prog 10 #[.agg #[.int .i64 f.kind, .int .u8 f.src, .int .u8 f.dst, .int .u16 f.sinc, .int .u16 f.dinc, .int .u16 f.ec, .int .u8 f.ea, .int .u16 f.ei, .int .u16 f.hop, .int .u16 f.hc, .int .u8 f.ha, .int .u16 f.hi, .bool f.wants, .int .u8 f.blk, .int .u16 f.vinc, .int .u32 f.vseq, .int .u8 f.part, .int .u8 f.parts, .string f.bytes]] W fun e w' => e = .returned (.bool false) ∧ Below W.heap.size W w') := Lib.hid (fun W => by have h := rright_any f W hbm; rw [hr0] at h; exact h)
  have HR : Hid (∀ W, Calls Tryd.prog 11 #[.agg #[.int .i64 f.kind, .int .u8 f.src, .int .u8 f.dst, .int .u16 f.sinc, .int .u16 f.dinc, .int .u16 f.ec, .int .u8 f.ea, .int .u16 f.ei, .int .u16 f.hop, .int .u16 f.hc, .int .u8 f.ha, .int .u16 f.hi, .bool f.wants, .int .u8 f.blk, .int .u16 f.vinc, .int .u32 f.vseq, .int .u8 f.part, .int .u8 f.parts, .string f.bytes]] W fun e w' => e = .returned (.bool false) ∧ Below W.heap.size W w') := Lib.hid (fun W => by have h := right_any f W hbm; rw [hr0] at h; exact h)
  have HT : Hid (∀ W, Env W → Calls Tryd.prog 12 #[.agg #[.int .i64 f.kind, .int .u8 f.src, .int .u8 f.dst, .int .u16 f.sinc, .int .u16 f.dinc, .int .u16 f.ec, .int .u8 f.ea, .int .u16 f.ei, .int .u16 f.hop, .int .u16 f.hc, .int .u8 f.ha, .int .u16 f.hi, .bool f.wants, .int .u8 f.blk, .int .u16 f.vinc, .int .u32 f.vseq, .int .u8 f.part, .int .u8 f.parts, .string f.bytes]] W fun e w' => e = .returned (.string (joinB (wordsB f))) ∧ Below W.heap.size W w') := Lib.hid (fun W h => ftext_any f hf W h)
  have HU : Hid (∀ W, Calls Tryd.prog 13 #[.agg #[.int .i64 f.kind, .int .u8 f.src, .int .u8 f.dst, .int .u16 f.sinc, .int .u16 f.dinc, .int .u16 f.ec, .int .u8 f.ea, .int .u16 f.ei, .int .u16 f.hop, .int .u16 f.hc, .int .u8 f.ha, .int .u16 f.hi, .bool f.wants, .int .u8 f.blk, .int .u16 f.vinc, .int .u32 f.vseq, .int .u8 f.part, .int .u8 f.parts, .string f.bytes]] W fun e w' => e = .returned (.string (joinB (wordsB f))) ∧ Below W.heap.size W w') := Lib.hid (fun W => rftext_any f hf W)
  generalize joinB (wordsB f) = T at HT HU
  have he : encE f = 3 := by unfold encE; rw [hr0]; rfl
  have hb0 : encB f = ⟨#[]⟩ := by unfold encB; rw [hr0]; rfl
  have hz : sizeN f = 0 := by unfold sizeN; rw [hr0]; rfl
  have HP : Hid (∀ W, Calls Tryd.prog 9 #[.agg #[.int .i64 f.kind, .int .u8 f.src, .int .u8 f.dst, .int .u16 f.sinc, .int .u16 f.dinc, .int .u16 f.ec, .int .u8 f.ea, .int .u16 f.ei, .int .u16 f.hop, .int .u16 f.hc, .int .u8 f.ha, .int .u16 f.hi, .bool f.wants, .int .u8 f.blk, .int .u16 f.vinc, .int .u32 f.vseq, .int .u8 f.part, .int .u8 f.parts, .string f.bytes]] W fun e w' => e = .returned (.tuple #[.string ⟨#[]⟩, .int .i64 3]) ∧ Below W.heap.size W w') := Lib.hid (fun W => by have h := encode_any f W hf; rw [he, hb0] at h; exact h)
  have HZ : Hid (∀ W, Calls Tryd.prog 14 #[.agg #[.int .i64 f.kind, .int .u8 f.src, .int .u8 f.dst, .int .u16 f.sinc, .int .u16 f.dinc, .int .u16 f.ec, .int .u8 f.ea, .int .u16 f.ei, .int .u16 f.hop, .int .u16 f.hc, .int .u8 f.ha, .int .u16 f.hi, .bool f.wants, .int .u8 f.blk, .int .u16 f.vinc, .int .u32 f.vseq, .int .u8 f.part, .int .u8 f.parts, .string f.bytes]] W fun e w' => e = .returned (.int .i64 0) ∧ Below W.heap.size W w') := Lib.hid (fun W => by have h := size_any f W hbm; rw [hz] at h; exact h)
  clear he hb0 hz
  clear hs hE hbm hf hr0
  go_enter Tryd.func3, Tryd.ntmps3
  go_wp2_with fail
  refine world_cut (G := fun W => Calls _ _ _ W _) (fun W => TS w.heap.size #[.int .i64 f.kind, .int .u8 f.src, .int .u8 f.dst, .int .u16 f.sinc, .int .u16 f.dinc, .int .u16 f.ec, .int .u8 f.ea, .int .u16 f.ei, .int .u16 f.hop, .int .u16 f.hc, .int .u8 f.ha, .int .u16 f.hi, .bool f.wants, .int .u8 f.blk, .int .u16 f.vinc, .int .u32 f.vseq, .int .u8 f.part, .int .u8 f.parts, .string f.bytes] w W) (TS.new rfl HE.out) ?_
  rintro W hA
  generalize hn : w.heap.size = n at *
  have HN := Lib.hid hn
  clear hn
  refine (awake_any _ hA.env).mono ?_
  rintro e w1 ⟨rfl, hb1⟩
  have hA1 := hA.mem hb1
  clear hA hb1
  have hk := hA1.1.1
  have hr := hA1.1.2.1
  have cb := hA1.1.cell 18 _ rfl
  go_wp2_with fail
  refine (HP.out _).mono ?_
  rintro e w2 ⟨rfl, hb2⟩
  have hA2 := hA1.mem hb2
  clear hA1 hb2 hk hr
  have hk := hA2.1.1
  have hr := hA2.1.2.1
  clear cb
  go_wp2_with fail
  refine (HQ.out _).mono ?_
  rintro e w3 ⟨rfl, hb3⟩
  have hA3 := hA2.mem hb3
  clear hA2 hb3 hk hr
  have hk := hA3.1.1
  have hr := hA3.1.2.1
  go_wp2
  have hA1 := hA3.drew
  clear hA3 hk hr
  go_region_held3 (fun W' => RowOk W' n ∧ rowArr W' n = #[.int .i64 f.kind, .int .u8 f.src, .int .u8 f.dst, .int .u16 f.sinc, .int .u16 f.dinc, .int .u16 f.ec, .int .u8 f.ea, .int .u16 f.ei, .int .u16 f.hop, .int .u16 f.hc, .int .u8 f.ha, .int .u16 f.hi, .bool f.wants, .int .u8 f.blk, .int .u16 f.vinc, .int .u32 f.vseq, .int .u8 f.part, .int .u8 f.parts, .string f.bytes]) (exact ⟨hA1.1.1, hA1.1.2.1⟩)
    (((first | (go_at_call 11; (with_reducible refine (HR.out _).mono ?_)) | (go_at_call 12; (with_reducible refine (HT.out _ hA1.env).mono ?_)) | (go_at_call 13; (with_reducible refine (HU.out _).mono ?_))); rintro e w1 ⟨rfl, hb1⟩; have hA2 := hA1.mem hb1; clear hA1 hb1; have hA1 := hA2; clear hA2))
  have hk := hA1.1.1
  have hr := hA1.1.2.1
  go_wp2_with fail
  refine (HZ.out _).mono ?_
  rintro e w4 ⟨rfl, hb4⟩
  have hA4 := hA1.mem hb4
  clear hA1 hb4 hk hr
  have hk := hA4.1.1
  have hr := hA4.1.2.1
  go_wp2
  go_ret
  exact ⟨rfl, by rw [HN.out]; exact hA4.1.2.2.1⟩

set_option maxRecDepth 100000 in
set_option maxHeartbeats 4000000 in
theorem makes_yes (f : Fr) (hf : f.fit) (hr0 : rtB f = true) (hs : f.bytes.size ≤ 100) (w : World) (hE : Env w) : Calls Tryd.prog 3 #[.agg #[.int .i64 f.kind, .int .u8 f.src, .int .u8 f.dst, .int .u16 f.sinc, .int .u16 f.dinc, .int .u16 f.ec, .int .u8 f.ea, .int .u16 f.ei, .int .u16 f.hop, .int .u16 f.hc, .int .u8 f.ha, .int .u16 f.hi, .bool f.wants, .int .u8 f.blk, .int .u16 f.vinc, .int .u32 f.vseq, .int .u8 f.part, .int .u8 f.parts, .string f.bytes]] w fun e w' => e = .returned (.bool true) ∧ Below w.heap.size w w' := by
  have HE := Lib.hid hE
  have hbm : f.bytes.size ≤ maxLen := Nat.le_trans hs (by decide)
  have d : decide ((100 : Int) < (f.bytes.size : Int)) = false := by simp; omega
  have HQ : Hid (∀ W, Calls Tryd.prog 10 #[.agg #[.int .i64 f.kind, .int .u8 f.src, .int .u8 f.dst, .int .u16 f.sinc, .int .u16 f.dinc, .int .u16 f.ec, .int .u8 f.ea, .int .u16 f.ei, .int .u16 f.hop, .int .u16 f.hc, .int .u8 f.ha, .int .u16 f.hi, .bool f.wants, .int .u8 f.blk, .int .u16 f.vinc, .int .u32 f.vseq, .int .u8 f.part, .int .u8 f.parts, .string f.bytes]] W fun e w' => e = .returned (.bool true) ∧ Below W.heap.size W w') := Lib.hid (fun W => by have h := rright_any f W hbm; rw [hr0] at h; exact h)
  have HR : Hid (∀ W, Calls Tryd.prog 11 #[.agg #[.int .i64 f.kind, .int .u8 f.src, .int .u8 f.dst, .int .u16 f.sinc, .int .u16 f.dinc, .int .u16 f.ec, .int .u8 f.ea, .int .u16 f.ei, .int .u16 f.hop, .int .u16 f.hc, .int .u8 f.ha, .int .u16 f.hi, .bool f.wants, .int .u8 f.blk, .int .u16 f.vinc, .int .u32 f.vseq, .int .u8 f.part, .int .u8 f.parts, .string f.bytes]] W fun e w' => e = .returned (.bool true) ∧ Below W.heap.size W w') := Lib.hid (fun W => by have h := right_any f W hbm; rw [hr0] at h; exact h)
  have HT : Hid (∀ W, Env W → Calls Tryd.prog 12 #[.agg #[.int .i64 f.kind, .int .u8 f.src, .int .u8 f.dst, .int .u16 f.sinc, .int .u16 f.dinc, .int .u16 f.ec, .int .u8 f.ea, .int .u16 f.ei, .int .u16 f.hop, .int .u16 f.hc, .int .u8 f.ha, .int .u16 f.hi, .bool f.wants, .int .u8 f.blk, .int .u16 f.vinc, .int .u32 f.vseq, .int .u8 f.part, .int .u8 f.parts, .string f.bytes]] W fun e w' => e = .returned (.string (joinB (wordsB f))) ∧ Below W.heap.size W w') := Lib.hid (fun W h => ftext_any f hf W h)
  have HU : Hid (∀ W, Calls Tryd.prog 13 #[.agg #[.int .i64 f.kind, .int .u8 f.src, .int .u8 f.dst, .int .u16 f.sinc, .int .u16 f.dinc, .int .u16 f.ec, .int .u8 f.ea, .int .u16 f.ei, .int .u16 f.hop, .int .u16 f.hc, .int .u8 f.ha, .int .u16 f.hi, .bool f.wants, .int .u8 f.blk, .int .u16 f.vinc, .int .u32 f.vseq, .int .u8 f.part, .int .u8 f.parts, .string f.bytes]] W fun e w' => e = .returned (.string (joinB (wordsB f))) ∧ Below W.heap.size W w') := Lib.hid (fun W => rftext_any f hf W)
  generalize joinB (wordsB f) = T at HT HU
  have he : encE f = 0 := by unfold encE; rw [hr0]; rfl
  have HP : Hid (∀ W, Calls Tryd.prog 9 #[.agg #[.int .i64 f.kind, .int .u8 f.src, .int .u8 f.dst, .int .u16 f.sinc, .int .u16 f.dinc, .int .u16 f.ec, .int .u8 f.ea, .int .u16 f.ei, .int .u16 f.hop, .int .u16 f.hc, .int .u8 f.ha, .int .u16 f.hi, .bool f.wants, .int .u8 f.blk, .int .u16 f.vinc, .int .u32 f.vseq, .int .u8 f.part, .int .u8 f.parts, .string f.bytes]] W fun e w' => e = .returned (.tuple #[.string (encB f), .int .i64 0]) ∧ Below W.heap.size W w') := Lib.hid (fun W => by have h := encode_any f W hf; rw [he] at h; exact h)
  have HZ : Hid (∀ W, Calls Tryd.prog 14 #[.agg #[.int .i64 f.kind, .int .u8 f.src, .int .u8 f.dst, .int .u16 f.sinc, .int .u16 f.dinc, .int .u16 f.ec, .int .u8 f.ea, .int .u16 f.ei, .int .u16 f.hop, .int .u16 f.hc, .int .u8 f.ha, .int .u16 f.hi, .bool f.wants, .int .u8 f.blk, .int .u16 f.vinc, .int .u32 f.vseq, .int .u8 f.part, .int .u8 f.parts, .string f.bytes]] W fun e w' => e = .returned (.int .i64 ((encB f).size : Int)) ∧ Below W.heap.size W w') := Lib.hid (fun W => by have h := size_any f W hbm; rw [← enc_size f hr0] at h; exact h)
  have HB : Hid (∀ W, Calls Tryd.prog 16 #[.agg #[.int .i64 f.kind, .int .u8 f.src, .int .u8 f.dst, .int .u16 f.sinc, .int .u16 f.dinc, .int .u16 f.ec, .int .u8 f.ea, .int .u16 f.ei, .int .u16 f.hop, .int .u16 f.hc, .int .u8 f.ha, .int .u16 f.hi, .bool f.wants, .int .u8 f.blk, .int .u16 f.vinc, .int .u32 f.vseq, .int .u8 f.part, .int .u8 f.parts, .string f.bytes]] W fun e w' => e = .returned (.string (encB f)) ∧ Below W.heap.size W w') := Lib.hid (fun W => rbytes_any f hf hr0 W)
  have HD : Hid (∀ W, Calls Tryd.prog 15 #[.string (encB f)] W fun e w' => e = .returned (.tuple #[.agg #[.int .i64 f.kind, .int .u8 f.src, .int .u8 f.dst, .int .u16 f.sinc, .int .u16 f.dinc, .int .u16 f.ec, .int .u8 f.ea, .int .u16 f.ei, .int .u16 f.hop, .int .u16 f.hc, .int .u8 f.ha, .int .u16 f.hi, .bool f.wants, .int .u8 f.blk, .int .u16 f.vinc, .int .u32 f.vseq, .int .u8 f.part, .int .u8 f.parts, .string f.bytes], .int .i64 0]) ∧ Below W.heap.size W w') := Lib.hid (fun W => dec_enc f hf hr0 W)
  clear he
  generalize encB f = s at HP HZ HB HD
  clear hs hE hbm hf hr0
  go_enter Tryd.func3, Tryd.ntmps3
  go_wp2_with fail
  refine world_cut (G := fun W => Calls _ _ _ W _) (fun W => TS w.heap.size #[.int .i64 f.kind, .int .u8 f.src, .int .u8 f.dst, .int .u16 f.sinc, .int .u16 f.dinc, .int .u16 f.ec, .int .u8 f.ea, .int .u16 f.ei, .int .u16 f.hop, .int .u16 f.hc, .int .u8 f.ha, .int .u16 f.hi, .bool f.wants, .int .u8 f.blk, .int .u16 f.vinc, .int .u32 f.vseq, .int .u8 f.part, .int .u8 f.parts, .string f.bytes] w W) (TS.new rfl HE.out) ?_
  rintro W hA
  generalize hn : w.heap.size = n at *
  have HN := Lib.hid hn
  clear hn
  refine (awake_any _ hA.env).mono ?_
  rintro e w1 ⟨rfl, hb1⟩
  have hA1 := hA.mem hb1
  clear hA hb1
  have hk := hA1.1.1
  have hr := hA1.1.2.1
  have cb := hA1.1.cell 18 _ rfl
  go_wp2_with fail
  refine (HP.out _).mono ?_
  rintro e w2 ⟨rfl, hb2⟩
  have hA2 := hA1.mem hb2
  clear hA1 hb2 hk hr
  have hk := hA2.1.1
  have hr := hA2.1.2.1
  clear cb
  go_wp2_with fail
  refine (HQ.out _).mono ?_
  rintro e w3 ⟨rfl, hb3⟩
  have hA3 := hA2.mem hb3
  clear hA2 hb3 hk hr
  have hk := hA3.1.1
  have hr := hA3.1.2.1
  go_wp2
  have hA1 := hA3.drew
  clear hA3 hk hr
  go_region_held3 (fun W' => RowOk W' n ∧ rowArr W' n = #[.int .i64 f.kind, .int .u8 f.src, .int .u8 f.dst, .int .u16 f.sinc, .int .u16 f.dinc, .int .u16 f.ec, .int .u8 f.ea, .int .u16 f.ei, .int .u16 f.hop, .int .u16 f.hc, .int .u8 f.ha, .int .u16 f.hi, .bool f.wants, .int .u8 f.blk, .int .u16 f.vinc, .int .u32 f.vseq, .int .u8 f.part, .int .u8 f.parts, .string f.bytes]) (exact ⟨hA1.1.1, hA1.1.2.1⟩)
    (((first | (go_at_call 11; (with_reducible refine (HR.out _).mono ?_)) | (go_at_call 12; (with_reducible refine (HT.out _ hA1.env).mono ?_)) | (go_at_call 13; (with_reducible refine (HU.out _).mono ?_))); rintro e w1 ⟨rfl, hb1⟩; have hA2 := hA1.mem hb1; clear hA1 hb1; have hA1 := hA2; clear hA2))
  have hk := hA1.1.1
  have hr := hA1.1.2.1
  go_wp2_with fail
  refine (HD.out _).mono ?_
  rintro e w4 ⟨rfl, hb4⟩
  have hA4 := hA1.mem hb4
  clear hA1 hb4 hk hr
  have hk := hA4.1.1
  have hr := hA4.1.2.1
  have hlt : n < w4.heap.size := hA4.1.2.2.2
  go_wp2_with fail
  refine world_cut (G := fun W => Calls _ _ _ W _) (fun W => PS n w4.heap.size #[.int .i64 f.kind, .int .u8 f.src, .int .u8 f.dst, .int .u16 f.sinc, .int .u16 f.dinc, .int .u16 f.ec, .int .u8 f.ea, .int .u16 f.ei, .int .u16 f.hop, .int .u16 f.hc, .int .u8 f.ha, .int .u16 f.hi, .bool f.wants, .int .u8 f.blk, .int .u16 f.vinc, .int .u32 f.vseq, .int .u8 f.part, .int .u8 f.parts, .string f.bytes] w w4 W) (PS.new (c' := #[.int .i64 0, .int .u8 0, .int .u8 0, .int .u16 0, .int .u16 0, .int .u16 0, .int .u8 0, .int .u16 0, .int .u16 0, .int .u16 0, .int .u8 0, .int .u16 0, .bool false, .int .u8 0, .int .u16 0, .int .u32 0, .int .u8 0, .int .u8 0, .string ⟨#[]⟩]) (t := 29) hA4 rfl rfl) ?_
  clear hA4 hk hr hlt
  rintro w5 hA5
  generalize w4.heap.size = q at *
  refine (HB.out _).mono ?_
  rintro e w6 ⟨rfl, hb6⟩
  have hA6 := hA5.mem hb6
  clear hA5 hb6
  have hk := hA6.1.1.1
  have hr := hA6.1.1.2.1
  go_wp2_with fail
  refine (HZ.out _).mono ?_
  rintro e w7 ⟨rfl, hb7⟩
  have hA7 := hA6.mem hb7
  clear hA6 hb7 hk hr
  have hk := hA7.1.1.1
  have hr := hA7.1.1.2.1
  have hk2 := hA7.2.ok
  have hr2 := hA7.2.row
  have HA := Lib.hid hA7
  clear hA7
  go_wp2
  go_ret
  exact ⟨rfl, by rw [HN.out]; exact HA.out.1.1.2.2.1⟩

theorem makes_walk (f : Fr) (hf : f.fit) (w : World) (hE : Env w) : Calls Tryd.prog 3 #[.agg #[.int .i64 f.kind, .int .u8 f.src, .int .u8 f.dst, .int .u16 f.sinc, .int .u16 f.dinc, .int .u16 f.ec, .int .u8 f.ea, .int .u16 f.ei, .int .u16 f.hop, .int .u16 f.hc, .int .u8 f.ha, .int .u16 f.hi, .bool f.wants, .int .u8 f.blk, .int .u16 f.vinc, .int .u32 f.vseq, .int .u8 f.part, .int .u8 f.parts, .string f.bytes]] w fun e w' => e = .returned (.bool true) ∧ Below w.heap.size w w' := by
  by_cases hs : 100 < f.bytes.size
  · exact makes_long f hs w hE
  cases hr : rtB f with
  | false => exact makes_no f hf hr (by omega) w hE
  | true => exact makes_yes f hf hr (by omega) w hE

end Go.Proofs.YtindekpmicbbiaaDoor
