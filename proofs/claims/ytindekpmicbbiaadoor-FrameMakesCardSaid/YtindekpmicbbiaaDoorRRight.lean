/-
  Which frames may be: the document's answer, walked. Conditions: numbers such as their kinds hold.
-/
import Derived.Test.YtindekpmicbbiaaDoorRight
import Derived.Test.YtindekpmicbbiaaDoorMth
namespace Go.Proofs.YtindekpmicbbiaaDoor
open Go.RowKit
open Oct Sums

set_option linter.unusedSimpArgs false
attribute [local go_sem ↓] exec_bd exec_ld exec_st load_row loadVar_row store_row
attribute [local go_sem] bd_0 bd_1 bd_5 bd_6 ld_row st_row set_cell_lt set_cell_gt one_int one_bool one_str row_new ok_new free_new row_old ok_old_iff free_old_iff put_in put_cell_lt put_cell_gt put_frozen row_put_in row_put_lt row_put_gt ok_put_iff free_put_iff put_size row_set_in row_set_lt row_set_gt ok_set_iff free_set_iff drew_cell drew_frozen drew_size row_drew ok_drew free_drew
set_option linter.unusedVariables false

set_option maxRecDepth 100000 in
set_option maxHeartbeats 4000000 in
theorem rright_2 (f : Fr) (w : World) (hb : f.bytes.size ≤ maxLen) (h : f.kind = 2) : Calls Tryd.prog 10 #[.agg #[.int .i64 f.kind, .int .u8 f.src, .int .u8 f.dst, .int .u16 f.sinc, .int .u16 f.dinc, .int .u16 f.ec, .int .u8 f.ea, .int .u16 f.ei, .int .u16 f.hop, .int .u16 f.hc, .int .u8 f.ha, .int .u16 f.hi, .bool f.wants, .int .u8 f.blk, .int .u16 f.vinc, .int .u32 f.vseq, .int .u8 f.part, .int .u8 f.parts, .string f.bytes]] w fun e w' => e = .returned (.bool (rtB f)) ∧ Below w.heap.size w w' := by
  have d1 : (f.kind == 1) = false := by simp; omega
  have d2 : (f.kind == 2) = true := by simp; omega
  have d3 : (f.kind == 3) = false := by simp; omega
  have d4 : (f.kind == 4) = false := by simp; omega
  have q0 : ∀ W, (binOp .eql 29 (.agg #[.int .i64 f.kind, .int .u8 f.src, .int .u8 f.dst, .int .u16 f.sinc, .int .u16 f.dinc, .int .u16 f.ec, .int .u8 f.ea, .int .u16 f.ei, .int .u16 f.hop, .int .u16 f.hc, .int .u8 f.ha, .int .u16 f.hi, .bool f.wants, .int .u8 f.blk, .int .u16 f.vinc, .int .u32 f.vseq, .int .u8 f.part, .int .u8 f.parts, .string f.bytes]) (.agg #[.int .i64 f.kind, .int .u8 f.src, .int .u8 f.dst, .int .u16 f.sinc, .int .u16 f.dinc, .int .u16 f.ec, .int .u8 f.ea, .int .u16 f.ei, .int .u16 f.hop, .int .u16 0, .int .u8 0, .int .u16 0, .bool false, .int .u8 0, .int .u16 0, .int .u32 0, .int .u8 0, .int .u8 0, .string ⟨#[]⟩])).run Tryd.prog W = .ok (.bool (eqF f (own f))) W := fun W => by
    have h0 := eql_run f (own f) W
    have e : own f = _ := own_k2 f (by omega) (by omega)
    rw [e] at h0 ⊢
    exact h0
  unfold maxLen at hb
  have HK := Lib.hid h
  clear h
  by_cases he : f = own f
  · have q : ∀ W, (binOp .eql 29 (.agg #[.int .i64 f.kind, .int .u8 f.src, .int .u8 f.dst, .int .u16 f.sinc, .int .u16 f.dinc, .int .u16 f.ec, .int .u8 f.ea, .int .u16 f.ei, .int .u16 f.hop, .int .u16 f.hc, .int .u8 f.ha, .int .u16 f.hi, .bool f.wants, .int .u8 f.blk, .int .u16 f.vinc, .int .u32 f.vseq, .int .u8 f.part, .int .u8 f.parts, .string f.bytes]) (.agg #[.int .i64 f.kind, .int .u8 f.src, .int .u8 f.dst, .int .u16 f.sinc, .int .u16 f.dinc, .int .u16 f.ec, .int .u8 f.ea, .int .u16 f.ei, .int .u16 f.hop, .int .u16 0, .int .u8 0, .int .u16 0, .bool false, .int .u8 0, .int .u16 0, .int .u32 0, .int .u8 0, .int .u8 0, .string ⟨#[]⟩])).run Tryd.prog W = .ok (.bool true) W := fun W => by rw [q0 W, eqF_yes he]
    have HE := Lib.hid he
    clear he q0
    go_enter Tryd.func10, Tryd.ntmps10
    go_wp2
    all_goals
      go_ret
      refine ⟨ret_bool ?_, by
    (repeat' first | with_reducible exact Below.refl _ _ | with_reducible refine below_put ?_ _ ?_ | with_reducible refine below_set ?_ _ _ ?_ | with_reducible refine below_new ?_ ?_ _) <;> first | omega | (simp only [World.size_alloc, put_size]; omega) | (simp; done) | (simp; omega)⟩
      have hk := HK.out
      first
        | exact (rtB_no (fun h => by have h1 := h.2.2.2.1; have h2 := h.2.2.2.2.1; have h3 := h.2.2.2.2.2.1; have h4 := h.2.2.2.2.2.2.1; have h5 := h.1; have h6 := h.2.1; omega)).symm
        | (by_cases hh : f.ha < 32
           · rw [rtB_yes ⟨by omega, by omega, HE.out, by omega, by omega, by omega, hh, fun h => by omega⟩]; simp; omega
           · rw [rtB_no (fun h => hh h.2.2.2.2.2.2.1)]; simp; omega)
  · rw [rtB_no (fun h => he h.2.2.1)]
    have q : ∀ W, (binOp .eql 29 (.agg #[.int .i64 f.kind, .int .u8 f.src, .int .u8 f.dst, .int .u16 f.sinc, .int .u16 f.dinc, .int .u16 f.ec, .int .u8 f.ea, .int .u16 f.ei, .int .u16 f.hop, .int .u16 f.hc, .int .u8 f.ha, .int .u16 f.hi, .bool f.wants, .int .u8 f.blk, .int .u16 f.vinc, .int .u32 f.vseq, .int .u8 f.part, .int .u8 f.parts, .string f.bytes]) (.agg #[.int .i64 f.kind, .int .u8 f.src, .int .u8 f.dst, .int .u16 f.sinc, .int .u16 f.dinc, .int .u16 f.ec, .int .u8 f.ea, .int .u16 f.ei, .int .u16 f.hop, .int .u16 0, .int .u8 0, .int .u16 0, .bool false, .int .u8 0, .int .u16 0, .int .u32 0, .int .u8 0, .int .u8 0, .string ⟨#[]⟩])).run Tryd.prog W = .ok (.bool false) W := fun W => by rw [q0 W, eqF_no he]
    clear he q0
    go_enter Tryd.func10, Tryd.ntmps10
    go_wp2
    all_goals
      go_ret
      exact ⟨rfl, by
    (repeat' first | with_reducible exact Below.refl _ _ | with_reducible refine below_put ?_ _ ?_ | with_reducible refine below_set ?_ _ _ ?_ | with_reducible refine below_new ?_ ?_ _) <;> first | omega | (simp only [World.size_alloc, put_size]; omega) | (simp; done) | (simp; omega)⟩

set_option maxRecDepth 100000 in
set_option maxHeartbeats 4000000 in
theorem rright_1 (f : Fr) (w : World) (hb : f.bytes.size ≤ maxLen) (h : f.kind = 1) : Calls Tryd.prog 10 #[.agg #[.int .i64 f.kind, .int .u8 f.src, .int .u8 f.dst, .int .u16 f.sinc, .int .u16 f.dinc, .int .u16 f.ec, .int .u8 f.ea, .int .u16 f.ei, .int .u16 f.hop, .int .u16 f.hc, .int .u8 f.ha, .int .u16 f.hi, .bool f.wants, .int .u8 f.blk, .int .u16 f.vinc, .int .u32 f.vseq, .int .u8 f.part, .int .u8 f.parts, .string f.bytes]] w fun e w' => e = .returned (.bool (rtB f)) ∧ Below w.heap.size w w' := by
  have d1 : (f.kind == 1) = true := by simp; omega
  have d3 : (f.kind == 3) = false := by simp; omega
  have d4 : (f.kind == 4) = false := by simp; omega
  have q0 : ∀ W, (binOp .eql 29 (.agg #[.int .i64 f.kind, .int .u8 f.src, .int .u8 f.dst, .int .u16 f.sinc, .int .u16 f.dinc, .int .u16 f.ec, .int .u8 f.ea, .int .u16 f.ei, .int .u16 f.hop, .int .u16 f.hc, .int .u8 f.ha, .int .u16 f.hi, .bool f.wants, .int .u8 f.blk, .int .u16 f.vinc, .int .u32 f.vseq, .int .u8 f.part, .int .u8 f.parts, .string f.bytes]) (.agg #[.int .i64 f.kind, .int .u8 f.src, .int .u8 f.dst, .int .u16 f.sinc, .int .u16 f.dinc, .int .u16 f.ec, .int .u8 f.ea, .int .u16 f.ei, .int .u16 f.hop, .int .u16 0, .int .u8 0, .int .u16 0, .bool false, .int .u8 0, .int .u16 0, .int .u32 0, .int .u8 0, .int .u8 0, .string ⟨#[]⟩])).run Tryd.prog W = .ok (.bool (eqF f (own f))) W := fun W => by
    have h0 := eql_run f (own f) W
    have e : own f = _ := own_k2 f (by omega) (by omega)
    rw [e] at h0 ⊢
    exact h0
  unfold maxLen at hb
  have HK := Lib.hid h
  clear h
  by_cases he : f = own f
  · have q : ∀ W, (binOp .eql 29 (.agg #[.int .i64 f.kind, .int .u8 f.src, .int .u8 f.dst, .int .u16 f.sinc, .int .u16 f.dinc, .int .u16 f.ec, .int .u8 f.ea, .int .u16 f.ei, .int .u16 f.hop, .int .u16 f.hc, .int .u8 f.ha, .int .u16 f.hi, .bool f.wants, .int .u8 f.blk, .int .u16 f.vinc, .int .u32 f.vseq, .int .u8 f.part, .int .u8 f.parts, .string f.bytes]) (.agg #[.int .i64 f.kind, .int .u8 f.src, .int .u8 f.dst, .int .u16 f.sinc, .int .u16 f.dinc, .int .u16 f.ec, .int .u8 f.ea, .int .u16 f.ei, .int .u16 f.hop, .int .u16 0, .int .u8 0, .int .u16 0, .bool false, .int .u8 0, .int .u16 0, .int .u32 0, .int .u8 0, .int .u8 0, .string ⟨#[]⟩])).run Tryd.prog W = .ok (.bool true) W := fun W => by rw [q0 W, eqF_yes he]
    have HE := Lib.hid he
    clear he q0
    go_enter Tryd.func10, Tryd.ntmps10
    go_wp2
    all_goals
      go_ret
      refine ⟨ret_bool ?_, by
    (repeat' first | with_reducible exact Below.refl _ _ | with_reducible refine below_put ?_ _ ?_ | with_reducible refine below_set ?_ _ _ ?_ | with_reducible refine below_new ?_ ?_ _) <;> first | omega | (simp only [World.size_alloc, put_size]; omega) | (simp; done) | (simp; omega)⟩
      have hk := HK.out
      first
        | exact (rtB_no (fun h => by have h1 := h.2.2.2.1; have h2 := h.2.2.2.2.1; have h3 := h.2.2.2.2.2.1; have h4 := h.2.2.2.2.2.2.1; have h5 := h.1; have h6 := h.2.1; omega)).symm
        | (by_cases hh : f.ha < 32
           · rw [rtB_yes ⟨by omega, by omega, HE.out, by omega, by omega, by omega, hh, fun h => by omega⟩]; simp; omega
           · rw [rtB_no (fun h => hh h.2.2.2.2.2.2.1)]; simp; omega)
  · rw [rtB_no (fun h => he h.2.2.1)]
    have q : ∀ W, (binOp .eql 29 (.agg #[.int .i64 f.kind, .int .u8 f.src, .int .u8 f.dst, .int .u16 f.sinc, .int .u16 f.dinc, .int .u16 f.ec, .int .u8 f.ea, .int .u16 f.ei, .int .u16 f.hop, .int .u16 f.hc, .int .u8 f.ha, .int .u16 f.hi, .bool f.wants, .int .u8 f.blk, .int .u16 f.vinc, .int .u32 f.vseq, .int .u8 f.part, .int .u8 f.parts, .string f.bytes]) (.agg #[.int .i64 f.kind, .int .u8 f.src, .int .u8 f.dst, .int .u16 f.sinc, .int .u16 f.dinc, .int .u16 f.ec, .int .u8 f.ea, .int .u16 f.ei, .int .u16 f.hop, .int .u16 0, .int .u8 0, .int .u16 0, .bool false, .int .u8 0, .int .u16 0, .int .u32 0, .int .u8 0, .int .u8 0, .string ⟨#[]⟩])).run Tryd.prog W = .ok (.bool false) W := fun W => by rw [q0 W, eqF_no he]
    clear he q0
    go_enter Tryd.func10, Tryd.ntmps10
    go_wp2
    all_goals
      go_ret
      exact ⟨rfl, by
    (repeat' first | with_reducible exact Below.refl _ _ | with_reducible refine below_put ?_ _ ?_ | with_reducible refine below_set ?_ _ _ ?_ | with_reducible refine below_new ?_ ?_ _) <;> first | omega | (simp only [World.size_alloc, put_size]; omega) | (simp; done) | (simp; omega)⟩

set_option maxRecDepth 100000 in
set_option maxHeartbeats 4000000 in
theorem rright_5 (f : Fr) (w : World) (hb : f.bytes.size ≤ maxLen) (h : f.kind = 5) : Calls Tryd.prog 10 #[.agg #[.int .i64 f.kind, .int .u8 f.src, .int .u8 f.dst, .int .u16 f.sinc, .int .u16 f.dinc, .int .u16 f.ec, .int .u8 f.ea, .int .u16 f.ei, .int .u16 f.hop, .int .u16 f.hc, .int .u8 f.ha, .int .u16 f.hi, .bool f.wants, .int .u8 f.blk, .int .u16 f.vinc, .int .u32 f.vseq, .int .u8 f.part, .int .u8 f.parts, .string f.bytes]] w fun e w' => e = .returned (.bool (rtB f)) ∧ Below w.heap.size w w' := by
  have d1 : (f.kind == 1) = false := by simp; omega
  have d2 : (f.kind == 2) = false := by simp; omega
  have d3 : (f.kind == 3) = false := by simp; omega
  have d5 : (f.kind == 5) = true := by simp; omega
  have d4 : (f.kind == 4) = false := by simp; omega
  have q0 : ∀ W, (binOp .eql 29 (.agg #[.int .i64 f.kind, .int .u8 f.src, .int .u8 f.dst, .int .u16 f.sinc, .int .u16 f.dinc, .int .u16 f.ec, .int .u8 f.ea, .int .u16 f.ei, .int .u16 f.hop, .int .u16 f.hc, .int .u8 f.ha, .int .u16 f.hi, .bool f.wants, .int .u8 f.blk, .int .u16 f.vinc, .int .u32 f.vseq, .int .u8 f.part, .int .u8 f.parts, .string f.bytes]) (.agg #[.int .i64 f.kind, .int .u8 f.src, .int .u8 f.dst, .int .u16 f.sinc, .int .u16 f.dinc, .int .u16 f.ec, .int .u8 f.ea, .int .u16 f.ei, .int .u16 f.hop, .int .u16 0, .int .u8 0, .int .u16 0, .bool false, .int .u8 0, .int .u16 0, .int .u32 0, .int .u8 0, .int .u8 0, .string ⟨#[]⟩])).run Tryd.prog W = .ok (.bool (eqF f (own f))) W := fun W => by
    have h0 := eql_run f (own f) W
    have e : own f = _ := own_k2 f (by omega) (by omega)
    rw [e] at h0 ⊢
    exact h0
  unfold maxLen at hb
  have HK := Lib.hid h
  clear h
  by_cases he : f = own f
  · have q : ∀ W, (binOp .eql 29 (.agg #[.int .i64 f.kind, .int .u8 f.src, .int .u8 f.dst, .int .u16 f.sinc, .int .u16 f.dinc, .int .u16 f.ec, .int .u8 f.ea, .int .u16 f.ei, .int .u16 f.hop, .int .u16 f.hc, .int .u8 f.ha, .int .u16 f.hi, .bool f.wants, .int .u8 f.blk, .int .u16 f.vinc, .int .u32 f.vseq, .int .u8 f.part, .int .u8 f.parts, .string f.bytes]) (.agg #[.int .i64 f.kind, .int .u8 f.src, .int .u8 f.dst, .int .u16 f.sinc, .int .u16 f.dinc, .int .u16 f.ec, .int .u8 f.ea, .int .u16 f.ei, .int .u16 f.hop, .int .u16 0, .int .u8 0, .int .u16 0, .bool false, .int .u8 0, .int .u16 0, .int .u32 0, .int .u8 0, .int .u8 0, .string ⟨#[]⟩])).run Tryd.prog W = .ok (.bool true) W := fun W => by rw [q0 W, eqF_yes he]
    have HE := Lib.hid he
    clear he q0
    go_enter Tryd.func10, Tryd.ntmps10
    go_wp2
    all_goals
      go_ret
      refine ⟨ret_bool ?_, by
    (repeat' first | with_reducible exact Below.refl _ _ | with_reducible refine below_put ?_ _ ?_ | with_reducible refine below_set ?_ _ _ ?_ | with_reducible refine below_new ?_ ?_ _) <;> first | omega | (simp only [World.size_alloc, put_size]; omega) | (simp; done) | (simp; omega)⟩
      have hk := HK.out
      first
        | exact (rtB_no (fun h => by have h1 := h.2.2.2.1; have h2 := h.2.2.2.2.1; have h3 := h.2.2.2.2.2.1; have h4 := h.2.2.2.2.2.2.1; have h5 := h.1; have h6 := h.2.1; omega)).symm
        | (by_cases hh : f.ha < 32
           · rw [rtB_yes ⟨by omega, by omega, HE.out, by omega, by omega, by omega, hh, fun h => by omega⟩]; simp; omega
           · rw [rtB_no (fun h => hh h.2.2.2.2.2.2.1)]; simp; omega)
  · rw [rtB_no (fun h => he h.2.2.1)]
    have q : ∀ W, (binOp .eql 29 (.agg #[.int .i64 f.kind, .int .u8 f.src, .int .u8 f.dst, .int .u16 f.sinc, .int .u16 f.dinc, .int .u16 f.ec, .int .u8 f.ea, .int .u16 f.ei, .int .u16 f.hop, .int .u16 f.hc, .int .u8 f.ha, .int .u16 f.hi, .bool f.wants, .int .u8 f.blk, .int .u16 f.vinc, .int .u32 f.vseq, .int .u8 f.part, .int .u8 f.parts, .string f.bytes]) (.agg #[.int .i64 f.kind, .int .u8 f.src, .int .u8 f.dst, .int .u16 f.sinc, .int .u16 f.dinc, .int .u16 f.ec, .int .u8 f.ea, .int .u16 f.ei, .int .u16 f.hop, .int .u16 0, .int .u8 0, .int .u16 0, .bool false, .int .u8 0, .int .u16 0, .int .u32 0, .int .u8 0, .int .u8 0, .string ⟨#[]⟩])).run Tryd.prog W = .ok (.bool false) W := fun W => by rw [q0 W, eqF_no he]
    clear he q0
    go_enter Tryd.func10, Tryd.ntmps10
    go_wp2
    all_goals
      go_ret
      exact ⟨rfl, by
    (repeat' first | with_reducible exact Below.refl _ _ | with_reducible refine below_put ?_ _ ?_ | with_reducible refine below_set ?_ _ _ ?_ | with_reducible refine below_new ?_ ?_ _) <;> first | omega | (simp only [World.size_alloc, put_size]; omega) | (simp; done) | (simp; omega)⟩

set_option maxRecDepth 100000 in
set_option maxHeartbeats 4000000 in
theorem rright_3 (f : Fr) (w : World) (hb : f.bytes.size ≤ maxLen) (h : f.kind = 3) : Calls Tryd.prog 10 #[.agg #[.int .i64 f.kind, .int .u8 f.src, .int .u8 f.dst, .int .u16 f.sinc, .int .u16 f.dinc, .int .u16 f.ec, .int .u8 f.ea, .int .u16 f.ei, .int .u16 f.hop, .int .u16 f.hc, .int .u8 f.ha, .int .u16 f.hi, .bool f.wants, .int .u8 f.blk, .int .u16 f.vinc, .int .u32 f.vseq, .int .u8 f.part, .int .u8 f.parts, .string f.bytes]] w fun e w' => e = .returned (.bool (rtB f)) ∧ Below w.heap.size w w' := by
  have d1 : (f.kind == 1) = false := by simp; omega
  have d2 : (f.kind == 2) = false := by simp; omega
  have d3 : (f.kind == 3) = true := by simp; omega
  have d4 : (f.kind == 4) = false := by simp; omega
  have q0 : ∀ W, (binOp .eql 29 (.agg #[.int .i64 f.kind, .int .u8 f.src, .int .u8 f.dst, .int .u16 f.sinc, .int .u16 f.dinc, .int .u16 f.ec, .int .u8 f.ea, .int .u16 f.ei, .int .u16 f.hop, .int .u16 f.hc, .int .u8 f.ha, .int .u16 f.hi, .bool f.wants, .int .u8 f.blk, .int .u16 f.vinc, .int .u32 f.vseq, .int .u8 f.part, .int .u8 f.parts, .string f.bytes]) (.agg #[.int .i64 f.kind, .int .u8 f.src, .int .u8 f.dst, .int .u16 f.sinc, .int .u16 f.dinc, .int .u16 f.ec, .int .u8 f.ea, .int .u16 f.ei, .int .u16 f.hop, .int .u16 f.hc, .int .u8 f.ha, .int .u16 f.hi, .bool f.wants, .int .u8 0, .int .u16 0, .int .u32 0, .int .u8 0, .int .u8 0, .string ⟨#[]⟩])).run Tryd.prog W = .ok (.bool (eqF f (own f))) W := fun W => by
    have h0 := eql_run f (own f) W
    have e : own f = _ := own_k3 f h
    rw [e] at h0 ⊢
    exact h0
  unfold maxLen at hb
  have HK := Lib.hid h
  clear h
  by_cases he : f = own f
  · have q : ∀ W, (binOp .eql 29 (.agg #[.int .i64 f.kind, .int .u8 f.src, .int .u8 f.dst, .int .u16 f.sinc, .int .u16 f.dinc, .int .u16 f.ec, .int .u8 f.ea, .int .u16 f.ei, .int .u16 f.hop, .int .u16 f.hc, .int .u8 f.ha, .int .u16 f.hi, .bool f.wants, .int .u8 f.blk, .int .u16 f.vinc, .int .u32 f.vseq, .int .u8 f.part, .int .u8 f.parts, .string f.bytes]) (.agg #[.int .i64 f.kind, .int .u8 f.src, .int .u8 f.dst, .int .u16 f.sinc, .int .u16 f.dinc, .int .u16 f.ec, .int .u8 f.ea, .int .u16 f.ei, .int .u16 f.hop, .int .u16 f.hc, .int .u8 f.ha, .int .u16 f.hi, .bool f.wants, .int .u8 0, .int .u16 0, .int .u32 0, .int .u8 0, .int .u8 0, .string ⟨#[]⟩])).run Tryd.prog W = .ok (.bool true) W := fun W => by rw [q0 W, eqF_yes he]
    have HE := Lib.hid he
    clear he q0
    go_enter Tryd.func10, Tryd.ntmps10
    go_wp2
    all_goals
      go_ret
      refine ⟨ret_bool ?_, by
    (repeat' first | with_reducible exact Below.refl _ _ | with_reducible refine below_put ?_ _ ?_ | with_reducible refine below_set ?_ _ _ ?_ | with_reducible refine below_new ?_ ?_ _) <;> first | omega | (simp only [World.size_alloc, put_size]; omega) | (simp; done) | (simp; omega)⟩
      have hk := HK.out
      first
        | exact (rtB_no (fun h => by have h1 := h.2.2.2.1; have h2 := h.2.2.2.2.1; have h3 := h.2.2.2.2.2.1; have h4 := h.2.2.2.2.2.2.1; have h5 := h.1; have h6 := h.2.1; omega)).symm
        | (by_cases hh : f.ha < 32
           · rw [rtB_yes ⟨by omega, by omega, HE.out, by omega, by omega, by omega, hh, fun h => by omega⟩]; simp; omega
           · rw [rtB_no (fun h => hh h.2.2.2.2.2.2.1)]; simp; omega)
  · rw [rtB_no (fun h => he h.2.2.1)]
    have q : ∀ W, (binOp .eql 29 (.agg #[.int .i64 f.kind, .int .u8 f.src, .int .u8 f.dst, .int .u16 f.sinc, .int .u16 f.dinc, .int .u16 f.ec, .int .u8 f.ea, .int .u16 f.ei, .int .u16 f.hop, .int .u16 f.hc, .int .u8 f.ha, .int .u16 f.hi, .bool f.wants, .int .u8 f.blk, .int .u16 f.vinc, .int .u32 f.vseq, .int .u8 f.part, .int .u8 f.parts, .string f.bytes]) (.agg #[.int .i64 f.kind, .int .u8 f.src, .int .u8 f.dst, .int .u16 f.sinc, .int .u16 f.dinc, .int .u16 f.ec, .int .u8 f.ea, .int .u16 f.ei, .int .u16 f.hop, .int .u16 f.hc, .int .u8 f.ha, .int .u16 f.hi, .bool f.wants, .int .u8 0, .int .u16 0, .int .u32 0, .int .u8 0, .int .u8 0, .string ⟨#[]⟩])).run Tryd.prog W = .ok (.bool false) W := fun W => by rw [q0 W, eqF_no he]
    clear he q0
    go_enter Tryd.func10, Tryd.ntmps10
    go_wp2
    all_goals
      go_ret
      exact ⟨rfl, by
    (repeat' first | with_reducible exact Below.refl _ _ | with_reducible refine below_put ?_ _ ?_ | with_reducible refine below_set ?_ _ _ ?_ | with_reducible refine below_new ?_ ?_ _) <;> first | omega | (simp only [World.size_alloc, put_size]; omega) | (simp; done) | (simp; omega)⟩

set_option maxRecDepth 100000 in
set_option maxHeartbeats 4000000 in
theorem rright_4 (f : Fr) (w : World) (hb : f.bytes.size ≤ maxLen) (h : f.kind = 4) : Calls Tryd.prog 10 #[.agg #[.int .i64 f.kind, .int .u8 f.src, .int .u8 f.dst, .int .u16 f.sinc, .int .u16 f.dinc, .int .u16 f.ec, .int .u8 f.ea, .int .u16 f.ei, .int .u16 f.hop, .int .u16 f.hc, .int .u8 f.ha, .int .u16 f.hi, .bool f.wants, .int .u8 f.blk, .int .u16 f.vinc, .int .u32 f.vseq, .int .u8 f.part, .int .u8 f.parts, .string f.bytes]] w fun e w' => e = .returned (.bool (rtB f)) ∧ Below w.heap.size w w' := by
  have d1 : (f.kind == 1) = false := by simp; omega
  have d2 : (f.kind == 2) = false := by simp; omega
  have d3 : (f.kind == 3) = false := by simp; omega
  have d5 : (f.kind == 5) = false := by simp; omega
  have d4 : (f.kind == 4) = true := by simp; omega
  have q0 : ∀ W, (binOp .eql 29 (.agg #[.int .i64 f.kind, .int .u8 f.src, .int .u8 f.dst, .int .u16 f.sinc, .int .u16 f.dinc, .int .u16 f.ec, .int .u8 f.ea, .int .u16 f.ei, .int .u16 f.hop, .int .u16 f.hc, .int .u8 f.ha, .int .u16 f.hi, .bool f.wants, .int .u8 f.blk, .int .u16 f.vinc, .int .u32 f.vseq, .int .u8 f.part, .int .u8 f.parts, .string f.bytes]) (.agg #[.int .i64 f.kind, .int .u8 f.src, .int .u8 0, .int .u16 f.sinc, .int .u16 0, .int .u16 f.ec, .int .u8 f.ea, .int .u16 f.ei, .int .u16 f.hop, .int .u16 0, .int .u8 0, .int .u16 0, .bool false, .int .u8 f.blk, .int .u16 f.vinc, .int .u32 f.vseq, .int .u8 f.part, .int .u8 f.parts, .string f.bytes])).run Tryd.prog W = .ok (.bool (eqF f (own f))) W := fun W => by
    have h0 := eql_run f (own f) W
    have e : own f = _ := own_k4 f h
    rw [e] at h0 ⊢
    exact h0
  unfold maxLen at hb
  have HK := Lib.hid h
  clear h
  by_cases he : f = own f
  · have q : ∀ W, (binOp .eql 29 (.agg #[.int .i64 f.kind, .int .u8 f.src, .int .u8 f.dst, .int .u16 f.sinc, .int .u16 f.dinc, .int .u16 f.ec, .int .u8 f.ea, .int .u16 f.ei, .int .u16 f.hop, .int .u16 f.hc, .int .u8 f.ha, .int .u16 f.hi, .bool f.wants, .int .u8 f.blk, .int .u16 f.vinc, .int .u32 f.vseq, .int .u8 f.part, .int .u8 f.parts, .string f.bytes]) (.agg #[.int .i64 f.kind, .int .u8 f.src, .int .u8 0, .int .u16 f.sinc, .int .u16 0, .int .u16 f.ec, .int .u8 f.ea, .int .u16 f.ei, .int .u16 f.hop, .int .u16 0, .int .u8 0, .int .u16 0, .bool false, .int .u8 f.blk, .int .u16 f.vinc, .int .u32 f.vseq, .int .u8 f.part, .int .u8 f.parts, .string f.bytes])).run Tryd.prog W = .ok (.bool true) W := fun W => by rw [q0 W, eqF_yes he]
    have HE := Lib.hid he
    clear he q0
    go_enter Tryd.func10, Tryd.ntmps10
    go_wp2
    all_goals
      go_ret
      refine ⟨ret_bool ?_, by
    (repeat' first | with_reducible exact Below.refl _ _ | with_reducible refine below_put ?_ _ ?_ | with_reducible refine below_set ?_ _ _ ?_ | with_reducible refine below_new ?_ ?_ _) <;> first | omega | (simp only [World.size_alloc, put_size]; omega) | (simp; done) | (simp; omega)⟩
      have hk := HK.out
      first
        | exact (rtB_no (fun h => by have h1 := h.2.2.2.1; have h2 := h.2.2.2.2.1; have h3 := h.2.2.2.2.2.1; have h4 := h.2.2.2.2.2.2.1; have h5 := h.1; have h6 := h.2.1; obtain ⟨g1, g2, g3, g4, g5⟩ := h.2.2.2.2.2.2.2 hk; omega)).symm
        | (by_cases hh : f.ha < 32
           · rw [rtB_yes ⟨by omega, by omega, HE.out, by omega, by omega, by omega, hh, fun _ => ⟨by omega, by omega, by omega, by omega, by omega⟩⟩]; simp; omega
           · rw [rtB_no (fun h => hh h.2.2.2.2.2.2.1)]; simp; omega)
  · rw [rtB_no (fun h => he h.2.2.1)]
    have q : ∀ W, (binOp .eql 29 (.agg #[.int .i64 f.kind, .int .u8 f.src, .int .u8 f.dst, .int .u16 f.sinc, .int .u16 f.dinc, .int .u16 f.ec, .int .u8 f.ea, .int .u16 f.ei, .int .u16 f.hop, .int .u16 f.hc, .int .u8 f.ha, .int .u16 f.hi, .bool f.wants, .int .u8 f.blk, .int .u16 f.vinc, .int .u32 f.vseq, .int .u8 f.part, .int .u8 f.parts, .string f.bytes]) (.agg #[.int .i64 f.kind, .int .u8 f.src, .int .u8 0, .int .u16 f.sinc, .int .u16 0, .int .u16 f.ec, .int .u8 f.ea, .int .u16 f.ei, .int .u16 f.hop, .int .u16 0, .int .u8 0, .int .u16 0, .bool false, .int .u8 f.blk, .int .u16 f.vinc, .int .u32 f.vseq, .int .u8 f.part, .int .u8 f.parts, .string f.bytes])).run Tryd.prog W = .ok (.bool false) W := fun W => by rw [q0 W, eqF_no he]
    clear he q0
    go_enter Tryd.func10, Tryd.ntmps10
    go_wp2
    all_goals
      go_ret
      exact ⟨rfl, by
    (repeat' first | with_reducible exact Below.refl _ _ | with_reducible refine below_put ?_ _ ?_ | with_reducible refine below_set ?_ _ _ ?_ | with_reducible refine below_new ?_ ?_ _) <;> first | omega | (simp only [World.size_alloc, put_size]; omega) | (simp; done) | (simp; omega)⟩

set_option maxRecDepth 100000 in
set_option maxHeartbeats 4000000 in
theorem rright_none (f : Fr) (w : World) (hb : f.bytes.size ≤ maxLen) (h : ¬ (1 ≤ f.kind ∧ f.kind ≤ 5)) : Calls Tryd.prog 10 #[.agg #[.int .i64 f.kind, .int .u8 f.src, .int .u8 f.dst, .int .u16 f.sinc, .int .u16 f.dinc, .int .u16 f.ec, .int .u8 f.ea, .int .u16 f.ei, .int .u16 f.hop, .int .u16 f.hc, .int .u8 f.ha, .int .u16 f.hi, .bool f.wants, .int .u8 f.blk, .int .u16 f.vinc, .int .u32 f.vseq, .int .u8 f.part, .int .u8 f.parts, .string f.bytes]] w fun e w' => e = .returned (.bool (rtB f)) ∧ Below w.heap.size w w' := by
  rw [rtB_no (fun r => h ⟨r.1, r.2.1⟩)]
  have d1 : (f.kind == 1) = false := by simp; omega
  have d2 : (f.kind == 2) = false := by simp; omega
  have d3 : (f.kind == 3) = false := by simp; omega
  have d4 : (f.kind == 4) = false := by simp; omega
  have d5 : (f.kind == 5) = false := by simp; omega
  have q0 := fun W => eql_run f ⟨f.kind, f.src, 0, f.sinc, 0, f.ec, f.ea, f.ei, f.hop, 0, 0, 0, false, 0, 0, 0, 0, 0, ⟨#[]⟩⟩ W
  generalize eqF f ⟨f.kind, f.src, 0, f.sinc, 0, f.ec, f.ea, f.ei, f.hop, 0, 0, 0, false, 0, 0, 0, 0, 0, ⟨#[]⟩⟩ = b at q0
  have q : ∀ W, (binOp .eql 29 (.agg #[.int .i64 f.kind, .int .u8 f.src, .int .u8 f.dst, .int .u16 f.sinc, .int .u16 f.dinc, .int .u16 f.ec, .int .u8 f.ea, .int .u16 f.ei, .int .u16 f.hop, .int .u16 f.hc, .int .u8 f.ha, .int .u16 f.hi, .bool f.wants, .int .u8 f.blk, .int .u16 f.vinc, .int .u32 f.vseq, .int .u8 f.part, .int .u8 f.parts, .string f.bytes]) (.agg #[.int .i64 f.kind, .int .u8 f.src, .int .u8 0, .int .u16 f.sinc, .int .u16 0, .int .u16 f.ec, .int .u8 f.ea, .int .u16 f.ei, .int .u16 f.hop, .int .u16 0, .int .u8 0, .int .u16 0, .bool false, .int .u8 0, .int .u16 0, .int .u32 0, .int .u8 0, .int .u8 0, .string ⟨#[]⟩])).run Tryd.prog W = .ok (.bool b) W := fun W => q0 W
  have hd : (decide ((1 : Int) ≤ f.kind) = false) ∨ (decide ((1 : Int) ≤ f.kind) = true ∧ decide (f.kind ≤ (5 : Int)) = false) := by
    by_cases h1 : 1 ≤ f.kind
    · right; refine ⟨by simpa using h1, ?_⟩; simp; omega
    · left; simpa using h1
  clear q0 h hb
  cases b <;> rcases hd with e1 | ⟨e1, e2⟩
  all_goals
    go_enter Tryd.func10, Tryd.ntmps10
    go_wp2
    go_ret
    exact ⟨rfl, by
    (repeat' first | with_reducible exact Below.refl _ _ | with_reducible refine below_put ?_ _ ?_ | with_reducible refine below_set ?_ _ _ ?_ | with_reducible refine below_new ?_ ?_ _) <;> first | omega | (simp only [World.size_alloc, put_size]; omega) | (simp; done) | (simp; omega)⟩

theorem rright_any (f : Fr) (w : World) (hb : f.bytes.size ≤ maxLen) : Calls Tryd.prog 10 #[.agg #[.int .i64 f.kind, .int .u8 f.src, .int .u8 f.dst, .int .u16 f.sinc, .int .u16 f.dinc, .int .u16 f.ec, .int .u8 f.ea, .int .u16 f.ei, .int .u16 f.hop, .int .u16 f.hc, .int .u8 f.ha, .int .u16 f.hi, .bool f.wants, .int .u8 f.blk, .int .u16 f.vinc, .int .u32 f.vseq, .int .u8 f.part, .int .u8 f.parts, .string f.bytes]] w fun e w' => e = .returned (.bool (rtB f)) ∧ Below w.heap.size w w' := by
  by_cases h1 : f.kind = 1
  · exact rright_1 f w hb h1
  · by_cases h2 : f.kind = 2
    · exact rright_2 f w hb h2
    · by_cases h3 : f.kind = 3
      · exact rright_3 f w hb h3
      · by_cases h4 : f.kind = 4
        · exact rright_4 f w hb h4
        · by_cases h5 : f.kind = 5
          · exact rright_5 f w hb h5
          · exact rright_none f w hb (by omega)

end Go.Proofs.YtindekpmicbbiaaDoor
