/-
  A frame without what its kind does not have, walked. Conditions: none.
-/
import Derived.Test.YtedlfognpbbhhaaGreatDoorFrRow
namespace Go.Proofs.YtedlfognpbbhhaaGreatDoor.Frm
open Go.RowKit

set_option linter.unusedSimpArgs false
attribute [local go_sem ↓] exec_bd exec_ld exec_st load_row loadVar_row store_row
attribute [local go_sem] bd_0 bd_1 bd_5 bd_6 ld_row st_row set_cell_lt set_cell_gt one_int one_bool one_str row_new ok_new free_new row_old ok_old_iff free_old_iff put_in put_cell_lt put_cell_gt put_frozen row_put_in row_put_lt row_put_gt ok_put_iff free_put_iff put_size row_set_in row_set_lt row_set_gt ok_set_iff free_set_iff drew_cell drew_frozen drew_size row_drew ok_drew free_drew

set_option maxRecDepth 100000 in
set_option maxHeartbeats 4000000 in
theorem own_4 (f : Fr) (w : World) (h4 : (f.kind == 4) = true) : Calls Tryz.prog 61 #[.agg #[.int .i64 f.kind, .int .u8 f.src, .int .u8 f.dst, .int .u16 f.sinc, .int .u16 f.dinc, .int .u16 f.ec, .int .u8 f.ea, .int .u16 f.ei, .int .u16 f.hop, .int .u16 f.hc, .int .u8 f.ha, .int .u16 f.hi, .bool f.wants, .int .u8 f.blk, .int .u16 f.vinc, .int .u32 f.vseq, .int .u8 f.part, .int .u8 f.parts, .string f.bytes]] w fun e w' => e = .returned (.agg #[.int .i64 f.kind, .int .u8 f.src, .int .u8 0, .int .u16 f.sinc, .int .u16 0, .int .u16 f.ec, .int .u8 f.ea, .int .u16 f.ei, .int .u16 f.hop, .int .u16 0, .int .u8 0, .int .u16 0, .bool false, .int .u8 f.blk, .int .u16 f.vinc, .int .u32 f.vseq, .int .u8 f.part, .int .u8 f.parts, .string f.bytes]) ∧ Below w.heap.size w w' := by
  go_enter Tryz.func61, Tryz.ntmps61
  go_wp2
  refine world_cut (G := fun W => Code.wp _ _ _ _ W) (fun W => RowOk W w.heap.size ∧ rowArr W w.heap.size = #[.int .i64 f.kind, .int .u8 f.src, .int .u8 f.dst, .int .u16 f.sinc, .int .u16 f.dinc, .int .u16 f.ec, .int .u8 f.ea, .int .u16 f.ei, .int .u16 f.hop, .int .u16 f.hc, .int .u8 f.ha, .int .u16 f.hi, .bool f.wants, .int .u8 f.blk, .int .u16 f.vinc, .int .u32 f.vseq, .int .u8 f.part, .int .u8 f.parts, .string f.bytes] ∧ RowFree W (w.heap.size + 1) ∧ RowFree W (w.heap.size + 1 + 1) ∧ rowArr W (w.heap.size + 1 + 1) = #[.int .i64 f.kind, .int .u8 f.src, .int .u8 0, .int .u16 f.sinc, .int .u16 0, .int .u16 f.ec, .int .u8 f.ea, .int .u16 f.ei, .int .u16 f.hop, .int .u16 0, .int .u8 0, .int .u16 0, .bool false, .int .u8 0, .int .u16 0, .int .u32 0, .int .u8 0, .int .u8 0, .string ⟨#[]⟩] ∧ Below w.heap.size w W) (by
    refine ⟨?_, ?_, ?_, ?_, ?_, ?_⟩
    · go_simp
    · go_simp
    · go_simp
    · go_simp
    · go_simp
    · exact below_put (by omega) _ ((((Below.refl _ _).alloc (Nat.le_refl _) _).alloc (by simp) _).alloc (by simp; omega) _)) ?_
  rintro W ⟨hk, hr, hf2, hf, ho, hb⟩
  have hk1 := hf2.1
  have hk2 := hf.1
  generalize hN : w.heap.size = N at *
  have x13 := cell_of hk hr 13 (.int .u8 f.blk) rfl
  have x14 := cell_of hk hr 14 (.int .u16 f.vinc) rfl
  have x15 := cell_of hk hr 15 (.int .u32 f.vseq) rfl
  have x16 := cell_of hk hr 16 (.int .u8 f.part) rfl
  have x17 := cell_of hk hr 17 (.int .u8 f.parts) rfl
  have x18 := cell_of hk hr 18 (.string f.bytes) rfl
  have y13 := cell_of hf.1 ho 13 (.int .u8 0) rfl
  have g13 := hf.2 13 (by decide)
  have y14 := cell_of hf.1 ho 14 (.int .u16 0) rfl
  have g14 := hf.2 14 (by decide)
  have y15 := cell_of hf.1 ho 15 (.int .u32 0) rfl
  have g15 := hf.2 15 (by decide)
  have y16 := cell_of hf.1 ho 16 (.int .u8 0) rfl
  have g16 := hf.2 16 (by decide)
  have y17 := cell_of hf.1 ho 17 (.int .u8 0) rfl
  have g17 := hf.2 17 (by decide)
  have y18 := cell_of hf.1 ho 18 (.string ⟨#[]⟩) rfl
  have g18 := hf.2 18 (by decide)
  clear hr
  go_region_held3 (fun W' => W'.cell? ⟨N, 13, none⟩ = some (.int .u8 f.blk) ∧ W'.cell? ⟨N, 14, none⟩ = some (.int .u16 f.vinc) ∧ W'.cell? ⟨N, 15, none⟩ = some (.int .u32 f.vseq)) ((first | (go_simp; done) | (go_keep; done))) (fail)
  go_wp2
  go_region_held3 (fun W' => W'.cell? ⟨N, 16, none⟩ = some (.int .u8 f.part) ∧ W'.cell? ⟨N, 17, none⟩ = some (.int .u8 f.parts) ∧ W'.cell? ⟨N, 18, none⟩ = some (.string f.bytes)) ((first | (go_simp; done) | (go_keep; done))) (fail)
  go_wp2
  refine bodyPost_ret (v := .agg #[.int .i64 f.kind, .int .u8 f.src, .int .u8 0, .int .u16 f.sinc, .int .u16 0, .int .u16 f.ec, .int .u8 f.ea, .int .u16 f.ei, .int .u16 f.hop, .int .u16 0, .int .u8 0, .int .u16 0, .bool false, .int .u8 f.blk, .int .u16 f.vinc, .int .u32 f.vseq, .int .u8 f.part, .int .u8 f.parts, .string f.bytes]) (results_29 Tryz.results61 _ _ (N + 1) _ rfl (by go_simp) (by go_simp)) rfl ⟨rfl, by
    rw [hN]; (repeat' first | with_reducible exact hb | with_reducible refine below_put ?_ _ ?_ | with_reducible refine below_drew' ?_ | with_reducible refine below_set ?_ _ _ ?_) <;> omega⟩

set_option maxRecDepth 100000 in
set_option maxHeartbeats 4000000 in
theorem own_3 (f : Fr) (w : World) (h4 : (f.kind == 4) = false) (h3 : (f.kind == 3) = true) : Calls Tryz.prog 61 #[.agg #[.int .i64 f.kind, .int .u8 f.src, .int .u8 f.dst, .int .u16 f.sinc, .int .u16 f.dinc, .int .u16 f.ec, .int .u8 f.ea, .int .u16 f.ei, .int .u16 f.hop, .int .u16 f.hc, .int .u8 f.ha, .int .u16 f.hi, .bool f.wants, .int .u8 f.blk, .int .u16 f.vinc, .int .u32 f.vseq, .int .u8 f.part, .int .u8 f.parts, .string f.bytes]] w fun e w' => e = .returned (.agg #[.int .i64 f.kind, .int .u8 f.src, .int .u8 f.dst, .int .u16 f.sinc, .int .u16 f.dinc, .int .u16 f.ec, .int .u8 f.ea, .int .u16 f.ei, .int .u16 f.hop, .int .u16 f.hc, .int .u8 f.ha, .int .u16 f.hi, .bool f.wants, .int .u8 0, .int .u16 0, .int .u32 0, .int .u8 0, .int .u8 0, .string ⟨#[]⟩]) ∧ Below w.heap.size w w' := by
  go_enter Tryz.func61, Tryz.ntmps61
  go_wp2
  refine world_cut (G := fun W => Code.wp _ _ _ _ W) (fun W => RowOk W w.heap.size ∧ rowArr W w.heap.size = #[.int .i64 f.kind, .int .u8 f.src, .int .u8 f.dst, .int .u16 f.sinc, .int .u16 f.dinc, .int .u16 f.ec, .int .u8 f.ea, .int .u16 f.ei, .int .u16 f.hop, .int .u16 f.hc, .int .u8 f.ha, .int .u16 f.hi, .bool f.wants, .int .u8 f.blk, .int .u16 f.vinc, .int .u32 f.vseq, .int .u8 f.part, .int .u8 f.parts, .string f.bytes] ∧ RowFree W (w.heap.size + 1) ∧ RowFree W (w.heap.size + 1 + 1) ∧ rowArr W (w.heap.size + 1 + 1) = #[.int .i64 f.kind, .int .u8 f.src, .int .u8 0, .int .u16 f.sinc, .int .u16 0, .int .u16 f.ec, .int .u8 f.ea, .int .u16 f.ei, .int .u16 f.hop, .int .u16 0, .int .u8 0, .int .u16 0, .bool false, .int .u8 0, .int .u16 0, .int .u32 0, .int .u8 0, .int .u8 0, .string ⟨#[]⟩] ∧ Below w.heap.size w W) (by
    refine ⟨?_, ?_, ?_, ?_, ?_, ?_⟩
    · go_simp
    · go_simp
    · go_simp
    · go_simp
    · go_simp
    · exact below_put (by omega) _ ((((Below.refl _ _).alloc (Nat.le_refl _) _).alloc (by simp) _).alloc (by simp; omega) _)) ?_
  rintro W ⟨hk, hr, hf2, hf, ho, hb⟩
  have hk1 := hf2.1
  have hk2 := hf.1
  generalize hN : w.heap.size = N at *
  have x0 := cell_of hk hr 0 (.int .i64 f.kind) rfl
  have x2 := cell_of hk hr 2 (.int .u8 f.dst) rfl
  have x4 := cell_of hk hr 4 (.int .u16 f.dinc) rfl
  have x9 := cell_of hk hr 9 (.int .u16 f.hc) rfl
  have x10 := cell_of hk hr 10 (.int .u8 f.ha) rfl
  have x11 := cell_of hk hr 11 (.int .u16 f.hi) rfl
  have x12 := cell_of hk hr 12 (.bool f.wants) rfl
  have y0 := cell_of hf.1 ho 0 (.int .i64 f.kind) rfl
  have g0 := hf.2 0 (by decide)
  have y2 := cell_of hf.1 ho 2 (.int .u8 0) rfl
  have g2 := hf.2 2 (by decide)
  have y4 := cell_of hf.1 ho 4 (.int .u16 0) rfl
  have g4 := hf.2 4 (by decide)
  have y9 := cell_of hf.1 ho 9 (.int .u16 0) rfl
  have g9 := hf.2 9 (by decide)
  have y10 := cell_of hf.1 ho 10 (.int .u8 0) rfl
  have g10 := hf.2 10 (by decide)
  have y11 := cell_of hf.1 ho 11 (.int .u16 0) rfl
  have g11 := hf.2 11 (by decide)
  have y12 := cell_of hf.1 ho 12 (.bool false) rfl
  have g12 := hf.2 12 (by decide)
  clear hr
  go_region_held3 (fun W' => W'.cell? ⟨N, 2, none⟩ = some (.int .u8 f.dst) ∧ W'.cell? ⟨N, 4, none⟩ = some (.int .u16 f.dinc)) ((first | (go_simp; done) | (go_keep; done))) (fail)
  go_wp2
  go_region_held3 (fun W' => W'.cell? ⟨N, 9, none⟩ = some (.int .u16 f.hc) ∧ W'.cell? ⟨N, 10, none⟩ = some (.int .u8 f.ha) ∧ W'.cell? ⟨N, 11, none⟩ = some (.int .u16 f.hi) ∧ W'.cell? ⟨N, 12, none⟩ = some (.bool f.wants)) ((first | (go_simp; done) | (go_keep; done))) (fail)
  go_wp2
  refine bodyPost_ret (v := .agg #[.int .i64 f.kind, .int .u8 f.src, .int .u8 f.dst, .int .u16 f.sinc, .int .u16 f.dinc, .int .u16 f.ec, .int .u8 f.ea, .int .u16 f.ei, .int .u16 f.hop, .int .u16 f.hc, .int .u8 f.ha, .int .u16 f.hi, .bool f.wants, .int .u8 0, .int .u16 0, .int .u32 0, .int .u8 0, .int .u8 0, .string ⟨#[]⟩]) (results_29 Tryz.results61 _ _ (N + 1) _ rfl (by go_simp) (by go_simp)) rfl ⟨rfl, by
    rw [hN]; (repeat' first | with_reducible exact hb | with_reducible refine below_put ?_ _ ?_ | with_reducible refine below_drew' ?_ | with_reducible refine below_set ?_ _ _ ?_) <;> omega⟩

set_option maxRecDepth 100000 in
set_option maxHeartbeats 4000000 in
theorem own_2 (f : Fr) (w : World) (h4 : (f.kind == 4) = false) (h3 : (f.kind == 3) = false) : Calls Tryz.prog 61 #[.agg #[.int .i64 f.kind, .int .u8 f.src, .int .u8 f.dst, .int .u16 f.sinc, .int .u16 f.dinc, .int .u16 f.ec, .int .u8 f.ea, .int .u16 f.ei, .int .u16 f.hop, .int .u16 f.hc, .int .u8 f.ha, .int .u16 f.hi, .bool f.wants, .int .u8 f.blk, .int .u16 f.vinc, .int .u32 f.vseq, .int .u8 f.part, .int .u8 f.parts, .string f.bytes]] w fun e w' => e = .returned (.agg #[.int .i64 f.kind, .int .u8 f.src, .int .u8 f.dst, .int .u16 f.sinc, .int .u16 f.dinc, .int .u16 f.ec, .int .u8 f.ea, .int .u16 f.ei, .int .u16 f.hop, .int .u16 0, .int .u8 0, .int .u16 0, .bool false, .int .u8 0, .int .u16 0, .int .u32 0, .int .u8 0, .int .u8 0, .string ⟨#[]⟩]) ∧ Below w.heap.size w w' := by
  go_enter Tryz.func61, Tryz.ntmps61
  go_wp2
  refine world_cut (G := fun W => Code.wp _ _ _ _ W) (fun W => RowOk W w.heap.size ∧ rowArr W w.heap.size = #[.int .i64 f.kind, .int .u8 f.src, .int .u8 f.dst, .int .u16 f.sinc, .int .u16 f.dinc, .int .u16 f.ec, .int .u8 f.ea, .int .u16 f.ei, .int .u16 f.hop, .int .u16 f.hc, .int .u8 f.ha, .int .u16 f.hi, .bool f.wants, .int .u8 f.blk, .int .u16 f.vinc, .int .u32 f.vseq, .int .u8 f.part, .int .u8 f.parts, .string f.bytes] ∧ RowFree W (w.heap.size + 1) ∧ RowFree W (w.heap.size + 1 + 1) ∧ rowArr W (w.heap.size + 1 + 1) = #[.int .i64 f.kind, .int .u8 f.src, .int .u8 0, .int .u16 f.sinc, .int .u16 0, .int .u16 f.ec, .int .u8 f.ea, .int .u16 f.ei, .int .u16 f.hop, .int .u16 0, .int .u8 0, .int .u16 0, .bool false, .int .u8 0, .int .u16 0, .int .u32 0, .int .u8 0, .int .u8 0, .string ⟨#[]⟩] ∧ Below w.heap.size w W) (by
    refine ⟨?_, ?_, ?_, ?_, ?_, ?_⟩
    · go_simp
    · go_simp
    · go_simp
    · go_simp
    · go_simp
    · exact below_put (by omega) _ ((((Below.refl _ _).alloc (Nat.le_refl _) _).alloc (by simp) _).alloc (by simp; omega) _)) ?_
  rintro W ⟨hk, hr, hf2, hf, ho, hb⟩
  have hk1 := hf2.1
  have hk2 := hf.1
  generalize hN : w.heap.size = N at *
  have x0 := cell_of hk hr 0 (.int .i64 f.kind) rfl
  have x2 := cell_of hk hr 2 (.int .u8 f.dst) rfl
  have x4 := cell_of hk hr 4 (.int .u16 f.dinc) rfl
  have y0 := cell_of hf.1 ho 0 (.int .i64 f.kind) rfl
  have g0 := hf.2 0 (by decide)
  have y2 := cell_of hf.1 ho 2 (.int .u8 0) rfl
  have g2 := hf.2 2 (by decide)
  have y4 := cell_of hf.1 ho 4 (.int .u16 0) rfl
  have g4 := hf.2 4 (by decide)
  clear hr
  go_region_held3 (fun W' => W'.cell? ⟨N, 2, none⟩ = some (.int .u8 f.dst) ∧ W'.cell? ⟨N, 4, none⟩ = some (.int .u16 f.dinc)) ((first | (go_simp; done) | (go_keep; done))) (fail)
  go_wp2
  refine bodyPost_ret (v := .agg #[.int .i64 f.kind, .int .u8 f.src, .int .u8 f.dst, .int .u16 f.sinc, .int .u16 f.dinc, .int .u16 f.ec, .int .u8 f.ea, .int .u16 f.ei, .int .u16 f.hop, .int .u16 0, .int .u8 0, .int .u16 0, .bool false, .int .u8 0, .int .u16 0, .int .u32 0, .int .u8 0, .int .u8 0, .string ⟨#[]⟩]) (results_29 Tryz.results61 _ _ (N + 1) _ rfl (by go_simp) (by go_simp)) rfl ⟨rfl, by
    rw [hN]; (repeat' first | with_reducible exact hb | with_reducible refine below_put ?_ _ ?_ | with_reducible refine below_drew' ?_ | with_reducible refine below_set ?_ _ _ ?_) <;> omega⟩

end Go.Proofs.YtedlfognpbbhhaaGreatDoor.Frm
