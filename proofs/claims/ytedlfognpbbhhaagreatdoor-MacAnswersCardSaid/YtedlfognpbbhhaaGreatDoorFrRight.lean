/-
  Which frames may be: the code, walked. Conditions: numbers such as their kinds hold.
-/
import Derived.Test.YtedlfognpbbhhaaGreatDoorFrOwn
namespace Go.Proofs.YtedlfognpbbhhaaGreatDoor.Frm
open Go.RowKit

attribute [local go_sem ↓] exec_bd exec_ld exec_st load_row loadVar_row store_row
attribute [local go_sem] bd_0 bd_1 bd_5 bd_6 ld_row st_row set_cell_lt set_cell_gt one_int one_bool one_str row_new ok_new free_new row_old ok_old_iff free_old_iff put_in put_cell_lt put_cell_gt put_frozen row_put_in row_put_lt row_put_gt ok_put_iff free_put_iff put_size row_set_in row_set_lt row_set_gt ok_set_iff free_set_iff drew_cell drew_frozen drew_size row_drew ok_drew free_drew

theorem toList_inj {a b : ByteArray} (h : a.toList = b.toList) : a = b := by
  rw [ByteArray.toList_eq, ByteArray.toList_eq] at h
  cases a; cases b; simp at h; rw [h]
noncomputable def eqF (f g : Fr) : Bool := @decide (f = g) (Classical.propDecidable _)
theorem eqF_yes {f g : Fr} (h : f = g) : eqF f g = true := by unfold eqF; simp [h]
theorem eqF_no {f g : Fr} (h : f ≠ g) : eqF f g = false := by unfold eqF; simp [h]
theorem same_all {f g : Fr} (h1 : f.kind = g.kind) (h2 : (f.src : Int) = g.src) (h3 : (f.dst : Int) = g.dst) (h4 : (f.sinc : Int) = g.sinc) (h5 : (f.dinc : Int) = g.dinc) (h6 : (f.ec : Int) = g.ec) (h7 : (f.ea : Int) = g.ea) (h8 : (f.ei : Int) = g.ei) (h9 : (f.hop : Int) = g.hop)
    (h10 : (f.hc : Int) = g.hc) (h11 : (f.ha : Int) = g.ha) (h12 : (f.hi : Int) = g.hi) (h13 : f.wants = g.wants) (h14 : (f.blk : Int) = g.blk) (h15 : (f.vinc : Int) = g.vinc) (h16 : (f.vseq : Int) = g.vseq) (h17 : (f.part : Int) = g.part) (h18 : (f.parts : Int) = g.parts) (h19 : f.bytes.toList = g.bytes.toList) : f = g := by
  cases f; cases g
  simp only [Fr.mk.injEq]
  simp only at *
  exact ⟨h1, by omega, by omega, by omega, by omega, by omega, by omega, by omega, by omega, by omega, by omega, by omega, h13, by omega, by omega, by omega, by omega, by omega, toList_inj h19⟩

set_option maxRecDepth 100000 in
set_option maxHeartbeats 4000000 in
theorem neq_run (f g : Fr) (W : World) : (binOp .neq 38 (.agg #[.int .i64 f.kind, .int .u8 f.src, .int .u8 f.dst, .int .u16 f.sinc, .int .u16 f.dinc, .int .u16 f.ec, .int .u8 f.ea, .int .u16 f.ei, .int .u16 f.hop, .int .u16 f.hc, .int .u8 f.ha, .int .u16 f.hi, .bool f.wants, .int .u8 f.blk, .int .u16 f.vinc, .int .u32 f.vseq, .int .u8 f.part, .int .u8 f.parts, .string f.bytes]) (.agg #[.int .i64 g.kind, .int .u8 g.src, .int .u8 g.dst, .int .u16 g.sinc, .int .u16 g.dinc, .int .u16 g.ec, .int .u8 g.ea, .int .u16 g.ei, .int .u16 g.hop, .int .u16 g.hc, .int .u8 g.ha, .int .u16 g.hi, .bool g.wants, .int .u8 g.blk, .int .u16 g.vinc, .int .u32 g.vseq, .int .u8 g.part, .int .u8 g.parts, .string g.bytes])).run Tryz.prog W = .ok (.bool (!eqF f g)) W := by
  by_cases h : f = g
  · subst h
    rw [eqF_yes rfl]
    go_simp
  · rw [eqF_no h]
    go_simp
    intro h1 h2 h3 h4 h5 h6 h7 h8 h9 h10 h11 h12 h13 h14 h15 h16 h17 h18 h19
    exact h (same_all h1 h2 h3 h4 h5 h6 h7 h8 h9 h10 h11 h12 h13 h14 h15 h16 h17 h18 h19)
set_option maxRecDepth 100000 in
set_option maxHeartbeats 4000000 in
theorem eql_run (f g : Fr) (W : World) : (binOp .eql 38 (.agg #[.int .i64 f.kind, .int .u8 f.src, .int .u8 f.dst, .int .u16 f.sinc, .int .u16 f.dinc, .int .u16 f.ec, .int .u8 f.ea, .int .u16 f.ei, .int .u16 f.hop, .int .u16 f.hc, .int .u8 f.ha, .int .u16 f.hi, .bool f.wants, .int .u8 f.blk, .int .u16 f.vinc, .int .u32 f.vseq, .int .u8 f.part, .int .u8 f.parts, .string f.bytes]) (.agg #[.int .i64 g.kind, .int .u8 g.src, .int .u8 g.dst, .int .u16 g.sinc, .int .u16 g.dinc, .int .u16 g.ec, .int .u8 g.ea, .int .u16 g.ei, .int .u16 g.hop, .int .u16 g.hc, .int .u8 g.ha, .int .u16 g.hi, .bool g.wants, .int .u8 g.blk, .int .u16 g.vinc, .int .u32 g.vseq, .int .u8 g.part, .int .u8 g.parts, .string g.bytes])).run Tryz.prog W = .ok (.bool (eqF f g)) W := by
  by_cases h : f = g
  · subst h
    rw [eqF_yes rfl]
    go_simp
  · rw [eqF_no h]
    go_simp
    intro h1 h2 h3 h4 h5 h6 h7 h8 h9 h10 h11 h12 h13 h14 h15 h16 h17 h18 h19
    exact h (same_all h1 h2 h3 h4 h5 h6 h7 h8 h9 h10 h11 h12 h13 h14 h15 h16 h17 h18 h19)

set_option maxRecDepth 100000 in
set_option maxHeartbeats 4000000 in
theorem itsOwn_any (f : Fr) (w : World) : Calls Tryz.prog 61 #[.agg #[.int .i64 f.kind, .int .u8 f.src, .int .u8 f.dst, .int .u16 f.sinc, .int .u16 f.dinc, .int .u16 f.ec, .int .u8 f.ea, .int .u16 f.ei, .int .u16 f.hop, .int .u16 f.hc, .int .u8 f.ha, .int .u16 f.hi, .bool f.wants, .int .u8 f.blk, .int .u16 f.vinc, .int .u32 f.vseq, .int .u8 f.part, .int .u8 f.parts, .string f.bytes]] w fun e w' => e = .returned (.agg #[.int .i64 (own f).kind, .int .u8 (own f).src, .int .u8 (own f).dst, .int .u16 (own f).sinc, .int .u16 (own f).dinc, .int .u16 (own f).ec, .int .u8 (own f).ea, .int .u16 (own f).ei, .int .u16 (own f).hop, .int .u16 (own f).hc, .int .u8 (own f).ha, .int .u16 (own f).hi, .bool (own f).wants, .int .u8 (own f).blk, .int .u16 (own f).vinc, .int .u32 (own f).vseq, .int .u8 (own f).part, .int .u8 (own f).parts, .string (own f).bytes]) ∧ Below w.heap.size w w' := by
  by_cases h4 : f.kind = 4
  · have e : own f = ⟨f.kind, f.src, 0, f.sinc, 0, f.ec, f.ea, f.ei, f.hop, 0, 0, 0, false, f.blk, f.vinc, f.vseq, f.part, f.parts, f.bytes⟩ := by unfold own; rw [if_pos h4]
    rw [e]
    exact own_4 f w (by simpa using h4)
  · by_cases h3 : f.kind = 3
    · have e : own f = ⟨f.kind, f.src, f.dst, f.sinc, f.dinc, f.ec, f.ea, f.ei, f.hop, f.hc, f.ha, f.hi, f.wants, 0, 0, 0, 0, 0, ⟨#[]⟩⟩ := by unfold own; rw [if_neg h4, if_pos h3]
      rw [e]
      exact own_3 f w (by simpa using h4) (by simpa using h3)
    · have e : own f = ⟨f.kind, f.src, f.dst, f.sinc, f.dinc, f.ec, f.ea, f.ei, f.hop, 0, 0, 0, false, 0, 0, 0, 0, 0, ⟨#[]⟩⟩ := by unfold own; rw [if_neg h4, if_neg h3]
      rw [e]
      exact own_2 f w (by simpa using h4) (by simpa using h3)

theorem isKind_yes (k : Int) (w : World) (h1 : 1 ≤ k) (h2 : k ≤ 5) : Calls Tryz.prog 60 #[.int .i64 k] w fun e w' => e = .returned (.bool true) ∧ w = w' := by
  have d1 : decide ((1 : Int) ≤ k) = true := by simp; omega
  have d2 : decide (k ≤ (5 : Int)) = true := by simp; omega
  go_enter Tryz.func60, Tryz.ntmps60
  go_wp2
  go_ret
  exact ⟨rfl, rfl⟩
theorem isKind_no (k : Int) (w : World) (h : ¬ (1 ≤ k ∧ k ≤ 5)) : Calls Tryz.prog 60 #[.int .i64 k] w fun e w' => e = .returned (.bool false) ∧ w = w' := by
  by_cases h1 : 1 ≤ k
  · have d1 : decide ((1 : Int) ≤ k) = true := by simp; omega
    have d2 : decide (k ≤ (5 : Int)) = false := by simp; omega
    go_enter Tryz.func60, Tryz.ntmps60
    go_wp2
    go_ret
    exact ⟨rfl, rfl⟩
  · have d1 : decide ((1 : Int) ≤ k) = false := by simp; omega
    go_enter Tryz.func60, Tryz.ntmps60
    go_wp2
    go_ret
    exact ⟨rfl, rfl⟩

noncomputable def dataB (f : Fr) : Bool := @decide (dataOk f) (Classical.propDecidable _)
theorem dataB_yes {f : Fr} (h : dataOk f) : dataB f = true := by unfold dataB; simp [h]
theorem dataB_no {f : Fr} (h : ¬ dataOk f) : dataB f = false := by unfold dataB; simp [h]
theorem data_last {f : Fr} (h1 : f.blk < 16) (h2 : f.part < f.parts) (h3 : f.parts ≤ 4) (h4 : 0 < f.bytes.size) : decide ((f.bytes.size : Int) ≤ 16) = dataB f := by
  by_cases h : f.bytes.size ≤ 16
  · rw [dataB_yes ⟨h1, h2, h3, h4, h⟩]; simp; omega
  · rw [dataB_no (fun x => h x.2.2.2.2)]; simp; omega
theorem ret_bool {a b : Bool} (h : a = b) : Ending.returned (.bool a) = .returned (.bool b) := by rw [h]
set_option maxRecDepth 100000 in
set_option maxHeartbeats 4000000 in
theorem dataRight_any (f : Fr) (w : World) (hb : f.bytes.size ≤ maxLen) : Calls Tryz.prog 62 #[.agg #[.int .i64 f.kind, .int .u8 f.src, .int .u8 f.dst, .int .u16 f.sinc, .int .u16 f.dinc, .int .u16 f.ec, .int .u8 f.ea, .int .u16 f.ei, .int .u16 f.hop, .int .u16 f.hc, .int .u8 f.ha, .int .u16 f.hi, .bool f.wants, .int .u8 f.blk, .int .u16 f.vinc, .int .u32 f.vseq, .int .u8 f.part, .int .u8 f.parts, .string f.bytes]] w fun e w' => e = .returned (.bool (dataB f)) ∧ Below w.heap.size w w' := by
  unfold maxLen at hb
  go_enter Tryz.func62, Tryz.ntmps62
  go_wp2
  · go_ret
    exact ⟨ret_bool (data_last (by omega) (by omega) (by omega) (by omega)), (Below.refl _ _).alloc (Nat.le_refl _) _⟩
  all_goals
    go_ret
    exact ⟨ret_bool (dataB_no (by unfold dataOk; omega)).symm, (Below.refl _ _).alloc (Nat.le_refl _) _⟩

theorem still_of {P : Program} {f : FuncId} {args : Array Value} {v : Value} {w : World} (h : Calls P f args w fun e w' => e = .returned v ∧ w = w') :
    Calls P f args w fun e w' => e = .returned v ∧ w' = w := h.mono fun _ _ ⟨he, hw⟩ => ⟨he, hw.symm⟩

theorem max2_run (a b : Nat) (W : World) : (Builtin.max2 (.int .u8 a) (.int .u8 b)).run Tryz.prog W = .ok (.int .u8 ((max a b : Nat) : Int)) W := by
  have e : (if (b : Int) > (a : Int) then (b : Int) else (a : Int)) = ((max a b : Nat) : Int) := by split <;> omega
  rw [← e]
  simp [Builtin.max2]
theorem max4_run (a b c d : Nat) (ts : Array TypeId) (t : TypeId) (W : World) : (Builtin.max_ ts t #[.int .u8 a, .int .u8 b, .int .u8 c, .int .u8 d]).run Tryz.prog W = .ok (.int .u8 ((max (max (max a b) c) d : Nat) : Int)) W := by
  simp [Builtin.max_, max2_run]
theorem below_drewN {B : Nat} {a w : World} (h : Below B a w) (n : Nat) : Below B a (w.drewN n) := ⟨h.os, h.tape, h.output, h.size, h.block⟩

noncomputable def rtB (f : Fr) : Bool := @decide (Rt f) (Classical.propDecidable _)
theorem rtB_yes {f : Fr} (h : Rt f) : rtB f = true := by unfold rtB; simp [h]
theorem rtB_no {f : Fr} (h : ¬ Rt f) : rtB f = false := by unfold rtB; simp [h]
/-- The greatest of its addresses. -/
def top (f : Fr) : Nat := max (max (max f.src f.dst) f.ea) f.ha
theorem top_lt (f : Fr) : top f < 32 ↔ (f.src < 32 ∧ f.dst < 32 ∧ f.ea < 32 ∧ f.ha < 32) := by unfold top; omega

set_option maxRecDepth 100000 in
set_option maxHeartbeats 4000000 in
theorem right_any (f : Fr) (w : World) (hb : f.bytes.size ≤ maxLen) : Calls Tryz.prog 37 #[.agg #[.int .i64 f.kind, .int .u8 f.src, .int .u8 f.dst, .int .u16 f.sinc, .int .u16 f.dinc, .int .u16 f.ec, .int .u8 f.ea, .int .u16 f.ei, .int .u16 f.hop, .int .u16 f.hc, .int .u8 f.ha, .int .u16 f.hi, .bool f.wants, .int .u8 f.blk, .int .u16 f.vinc, .int .u32 f.vseq, .int .u8 f.part, .int .u8 f.parts, .string f.bytes]] w fun e w' => e = .returned (.bool (rtB f)) ∧ Below w.heap.size w w' := by
  by_cases hk : 1 ≤ f.kind ∧ f.kind ≤ 5
  · obtain ⟨k1, k2⟩ := hk
    by_cases he : f = own f
    · have HF : Hid (∀ W, (binOp .neq 38 (.agg #[.int .i64 f.kind, .int .u8 f.src, .int .u8 f.dst, .int .u16 f.sinc, .int .u16 f.dinc, .int .u16 f.ec, .int .u8 f.ea, .int .u16 f.ei, .int .u16 f.hop, .int .u16 f.hc, .int .u8 f.ha, .int .u16 f.hi, .bool f.wants, .int .u8 f.blk, .int .u16 f.vinc, .int .u32 f.vseq, .int .u8 f.part, .int .u8 f.parts, .string f.bytes]) (.agg #[.int .i64 (own f).kind, .int .u8 (own f).src, .int .u8 (own f).dst, .int .u16 (own f).sinc, .int .u16 (own f).dinc, .int .u16 (own f).ec, .int .u8 (own f).ea, .int .u16 (own f).ei, .int .u16 (own f).hop, .int .u16 (own f).hc, .int .u8 (own f).ha, .int .u16 (own f).hi, .bool (own f).wants, .int .u8 (own f).blk, .int .u16 (own f).vinc, .int .u32 (own f).vseq, .int .u8 (own f).part, .int .u8 (own f).parts, .string (own f).bytes])).run Tryz.prog W = .ok (.bool false) W) := Lib.hid (fun W => by have h := neq_run f (own f) W; rw [eqF_yes he] at h; exact h)
      have HE := Lib.hid he
      clear he
      have hd : decide ((32 : Int) ≤ (top f : Int)) = !decide (top f < 32) := by by_cases h : top f < 32 <;> simp [h] <;> omega
      have HG : Hid (top f < 32 ↔ (f.src < 32 ∧ f.dst < 32 ∧ f.ea < 32 ∧ f.ha < 32)) := Lib.hid (top_lt f)
      by_cases ht : top f < 32
      · have HH := Lib.hid ht
        rw [decide_eq_true ht] at hd
        clear ht
        by_cases k4 : f.kind = 4
        · have d4 : (f.kind != 4) = false := by simp [k4]
          have HK := Lib.hid k4
          clear k4
          have hx : ∀ W, (Builtin.max_ #[5, 5, 5, 5] 5 #[.int .u8 f.src, .int .u8 f.dst, .int .u8 f.ea, .int .u8 f.ha]).run Tryz.prog W = .ok (.int .u8 (top f : Int)) W := fun W => max4_run f.src f.dst f.ea f.ha _ _ W
          go_enter Tryz.func37, Tryz.ntmps37
          go_wp2
          refine world_cut (G := fun W => Code.wp _ _ _ _ W) (fun W => RowOk W w.heap.size ∧ rowArr W w.heap.size = #[.int .i64 f.kind, .int .u8 f.src, .int .u8 f.dst, .int .u16 f.sinc, .int .u16 f.dinc, .int .u16 f.ec, .int .u8 f.ea, .int .u16 f.ei, .int .u16 f.hop, .int .u16 f.hc, .int .u8 f.ha, .int .u16 f.hi, .bool f.wants, .int .u8 f.blk, .int .u16 f.vinc, .int .u32 f.vseq, .int .u8 f.part, .int .u8 f.parts, .string f.bytes] ∧ w.heap.size < W.heap.size ∧ Below w.heap.size w W) (by
            refine ⟨?_, ?_, ?_, ?_⟩
            · go_simp
            · go_simp
            · simp
            · exact (Below.refl _ _).alloc (Nat.le_refl _) _) ?_
          rintro W ⟨ho, hr, hlt, hbel⟩
          have hcmp := HF.out
          have HL := Lib.hid hbel
          have HT := Lib.hid hlt
          clear hbel hlt
          generalize hN : w.heap.size = N at *
          have x0 := cell_of ho hr 0 _ rfl
          go_region_held3 (fun W' => RowOk W' N ∧ rowArr W' N = #[.int .i64 f.kind, .int .u8 f.src, .int .u8 f.dst, .int .u16 f.sinc, .int .u16 f.dinc, .int .u16 f.ec, .int .u8 f.ea, .int .u16 f.ei, .int .u16 f.hop, .int .u16 f.hc, .int .u8 f.ha, .int .u16 f.hi, .bool f.wants, .int .u8 f.blk, .int .u16 f.vinc, .int .u32 f.vseq, .int .u8 f.part, .int .u8 f.parts, .string f.bytes] ∧ W'.cell? ⟨N, 0, none⟩ = some (.int .i64 f.kind)) ((first | (go_simp; done) | (go_keep; done)))
            ((first | (go_at_call 60; (with_reducible refine (isKind_yes _ _ k1 k2).mono ?_); rintro e w1 ⟨rfl, rfl⟩) | (go_at_call 61; (with_reducible refine (itsOwn_any f _).mono ?_); rintro e w1 ⟨rfl, hb1⟩; obtain ⟨ho1, hr1⟩ := row_below hb1 (show RowOk _ N by assumption); have hq1 : rowArr w1 N = #[.int .i64 f.kind, .int .u8 f.src, .int .u8 f.dst, .int .u16 f.sinc, .int .u16 f.dinc, .int .u16 f.ec, .int .u8 f.ea, .int .u16 f.ei, .int .u16 f.hop, .int .u16 f.hc, .int .u8 f.ha, .int .u16 f.hi, .bool f.wants, .int .u8 f.blk, .int .u16 f.vinc, .int .u32 f.vseq, .int .u8 f.part, .int .u8 f.parts, .string f.bytes] := hr1.trans (by assumption); have c1 := cell_of ho1 hq1 0 _ rfl)))
          have q1 := cell_of ho1 hq1 1 _ rfl
          have q2 := cell_of ho1 hq1 2 _ rfl
          have q6 := cell_of ho1 hq1 6 _ rfl
          have q10 := cell_of ho1 hq1 10 _ rfl
          have HB := Lib.hid hb1
          clear hb1 hr1 x0 ho hr hcmp
          go_wp2_with fail
          refine (dataRight_any f _ hb).mono ?_
          rintro e w2 ⟨rfl, hb2⟩
          go_wp2
          go_ret
          refine ⟨ret_bool ?_, ?_⟩
          · have h4 := HG.out.1 HH.out
            by_cases hd : dataOk f
            · rw [dataB_yes hd, rtB_yes ⟨k1, k2, HE.out, h4.1, h4.2.1, h4.2.2.1, h4.2.2.2, fun _ => hd⟩]
            · rw [dataB_no hd, rtB_no (fun h => hd (h.2.2.2.2.2.2.2 HK.out))]
          · rw [hN]
            have hb3 := HL.out.drew.trans (HB.out.mono (Nat.le_of_lt HT.out))
            exact hb3.trans (hb2.mono (by have h1 := hb3.size; have h2 := HB.out.size; have h3 := HT.out; simp only [drew_size] at h2; omega))
        · have d4 : (f.kind != 4) = true := by simp [k4]
          have HK := Lib.hid k4
          clear k4
          have hx : ∀ W, (Builtin.max_ #[5, 5, 5, 5] 5 #[.int .u8 f.src, .int .u8 f.dst, .int .u8 f.ea, .int .u8 f.ha]).run Tryz.prog W = .ok (.int .u8 (top f : Int)) W := fun W => max4_run f.src f.dst f.ea f.ha _ _ W
          go_enter Tryz.func37, Tryz.ntmps37
          go_wp2
          refine world_cut (G := fun W => Code.wp _ _ _ _ W) (fun W => RowOk W w.heap.size ∧ rowArr W w.heap.size = #[.int .i64 f.kind, .int .u8 f.src, .int .u8 f.dst, .int .u16 f.sinc, .int .u16 f.dinc, .int .u16 f.ec, .int .u8 f.ea, .int .u16 f.ei, .int .u16 f.hop, .int .u16 f.hc, .int .u8 f.ha, .int .u16 f.hi, .bool f.wants, .int .u8 f.blk, .int .u16 f.vinc, .int .u32 f.vseq, .int .u8 f.part, .int .u8 f.parts, .string f.bytes] ∧ w.heap.size < W.heap.size ∧ Below w.heap.size w W) (by
            refine ⟨?_, ?_, ?_, ?_⟩
            · go_simp
            · go_simp
            · simp
            · exact (Below.refl _ _).alloc (Nat.le_refl _) _) ?_
          rintro W ⟨ho, hr, hlt, hbel⟩
          have hcmp := HF.out
          have HL := Lib.hid hbel
          have HT := Lib.hid hlt
          clear hbel hlt
          generalize hN : w.heap.size = N at *
          have x0 := cell_of ho hr 0 _ rfl
          go_region_held3 (fun W' => RowOk W' N ∧ rowArr W' N = #[.int .i64 f.kind, .int .u8 f.src, .int .u8 f.dst, .int .u16 f.sinc, .int .u16 f.dinc, .int .u16 f.ec, .int .u8 f.ea, .int .u16 f.ei, .int .u16 f.hop, .int .u16 f.hc, .int .u8 f.ha, .int .u16 f.hi, .bool f.wants, .int .u8 f.blk, .int .u16 f.vinc, .int .u32 f.vseq, .int .u8 f.part, .int .u8 f.parts, .string f.bytes] ∧ W'.cell? ⟨N, 0, none⟩ = some (.int .i64 f.kind)) ((first | (go_simp; done) | (go_keep; done)))
            ((first | (go_at_call 60; (with_reducible refine (isKind_yes _ _ k1 k2).mono ?_); rintro e w1 ⟨rfl, rfl⟩) | (go_at_call 61; (with_reducible refine (itsOwn_any f _).mono ?_); rintro e w1 ⟨rfl, hb1⟩; obtain ⟨ho1, hr1⟩ := row_below hb1 (show RowOk _ N by assumption); have hq1 : rowArr w1 N = #[.int .i64 f.kind, .int .u8 f.src, .int .u8 f.dst, .int .u16 f.sinc, .int .u16 f.dinc, .int .u16 f.ec, .int .u8 f.ea, .int .u16 f.ei, .int .u16 f.hop, .int .u16 f.hc, .int .u8 f.ha, .int .u16 f.hi, .bool f.wants, .int .u8 f.blk, .int .u16 f.vinc, .int .u32 f.vseq, .int .u8 f.part, .int .u8 f.parts, .string f.bytes] := hr1.trans (by assumption); have c1 := cell_of ho1 hq1 0 _ rfl)))
          have q1 := cell_of ho1 hq1 1 _ rfl
          have q2 := cell_of ho1 hq1 2 _ rfl
          have q6 := cell_of ho1 hq1 6 _ rfl
          have q10 := cell_of ho1 hq1 10 _ rfl
          have HB := Lib.hid hb1
          clear hb1 hr1 x0 ho hr hcmp
          go_wp2
          go_ret
          have h4 := HG.out.1 HH.out
          exact ⟨ret_bool (rtB_yes ⟨k1, k2, HE.out, h4.1, h4.2.1, h4.2.2.1, h4.2.2.2, fun h => absurd h HK.out⟩).symm, by rw [hN]; exact HL.out.drew.trans (HB.out.mono (Nat.le_of_lt HT.out))⟩
      · rw [rtB_no (fun h => ht (HG.out.2 ⟨h.2.2.2.1, h.2.2.2.2.1, h.2.2.2.2.2.1, h.2.2.2.2.2.2.1⟩))]
        rw [decide_eq_false ht] at hd
        clear ht
        have hx : ∀ W, (Builtin.max_ #[5, 5, 5, 5] 5 #[.int .u8 f.src, .int .u8 f.dst, .int .u8 f.ea, .int .u8 f.ha]).run Tryz.prog W = .ok (.int .u8 (top f : Int)) W := fun W => max4_run f.src f.dst f.ea f.ha _ _ W
        go_enter Tryz.func37, Tryz.ntmps37
        go_wp2
        refine world_cut (G := fun W => Code.wp _ _ _ _ W) (fun W => RowOk W w.heap.size ∧ rowArr W w.heap.size = #[.int .i64 f.kind, .int .u8 f.src, .int .u8 f.dst, .int .u16 f.sinc, .int .u16 f.dinc, .int .u16 f.ec, .int .u8 f.ea, .int .u16 f.ei, .int .u16 f.hop, .int .u16 f.hc, .int .u8 f.ha, .int .u16 f.hi, .bool f.wants, .int .u8 f.blk, .int .u16 f.vinc, .int .u32 f.vseq, .int .u8 f.part, .int .u8 f.parts, .string f.bytes] ∧ w.heap.size < W.heap.size ∧ Below w.heap.size w W) (by
          refine ⟨?_, ?_, ?_, ?_⟩
          · go_simp
          · go_simp
          · simp
          · exact (Below.refl _ _).alloc (Nat.le_refl _) _) ?_
        rintro W ⟨ho, hr, hlt, hbel⟩
        have hcmp := HF.out
        have HL := Lib.hid hbel
        have HT := Lib.hid hlt
        clear hbel hlt
        generalize hN : w.heap.size = N at *
        have x0 := cell_of ho hr 0 _ rfl
        go_region_held3 (fun W' => RowOk W' N ∧ rowArr W' N = #[.int .i64 f.kind, .int .u8 f.src, .int .u8 f.dst, .int .u16 f.sinc, .int .u16 f.dinc, .int .u16 f.ec, .int .u8 f.ea, .int .u16 f.ei, .int .u16 f.hop, .int .u16 f.hc, .int .u8 f.ha, .int .u16 f.hi, .bool f.wants, .int .u8 f.blk, .int .u16 f.vinc, .int .u32 f.vseq, .int .u8 f.part, .int .u8 f.parts, .string f.bytes] ∧ W'.cell? ⟨N, 0, none⟩ = some (.int .i64 f.kind)) ((first | (go_simp; done) | (go_keep; done)))
          ((first | (go_at_call 60; (with_reducible refine (isKind_yes _ _ k1 k2).mono ?_); rintro e w1 ⟨rfl, rfl⟩) | (go_at_call 61; (with_reducible refine (itsOwn_any f _).mono ?_); rintro e w1 ⟨rfl, hb1⟩; obtain ⟨ho1, hr1⟩ := row_below hb1 (show RowOk _ N by assumption); have hq1 : rowArr w1 N = #[.int .i64 f.kind, .int .u8 f.src, .int .u8 f.dst, .int .u16 f.sinc, .int .u16 f.dinc, .int .u16 f.ec, .int .u8 f.ea, .int .u16 f.ei, .int .u16 f.hop, .int .u16 f.hc, .int .u8 f.ha, .int .u16 f.hi, .bool f.wants, .int .u8 f.blk, .int .u16 f.vinc, .int .u32 f.vseq, .int .u8 f.part, .int .u8 f.parts, .string f.bytes] := hr1.trans (by assumption); have c1 := cell_of ho1 hq1 0 _ rfl)))
        have q1 := cell_of ho1 hq1 1 _ rfl
        have q2 := cell_of ho1 hq1 2 _ rfl
        have q6 := cell_of ho1 hq1 6 _ rfl
        have q10 := cell_of ho1 hq1 10 _ rfl
        have HB := Lib.hid hb1
        clear hb1 hr1 x0 ho hr hcmp
        go_wp2
        go_ret
        exact ⟨rfl, by rw [hN]; exact HL.out.drew.trans (HB.out.mono (Nat.le_of_lt HT.out))⟩
    · rw [rtB_no (fun h => he h.2.2.1)]
      have HF : Hid (∀ W, (binOp .neq 38 (.agg #[.int .i64 f.kind, .int .u8 f.src, .int .u8 f.dst, .int .u16 f.sinc, .int .u16 f.dinc, .int .u16 f.ec, .int .u8 f.ea, .int .u16 f.ei, .int .u16 f.hop, .int .u16 f.hc, .int .u8 f.ha, .int .u16 f.hi, .bool f.wants, .int .u8 f.blk, .int .u16 f.vinc, .int .u32 f.vseq, .int .u8 f.part, .int .u8 f.parts, .string f.bytes]) (.agg #[.int .i64 (own f).kind, .int .u8 (own f).src, .int .u8 (own f).dst, .int .u16 (own f).sinc, .int .u16 (own f).dinc, .int .u16 (own f).ec, .int .u8 (own f).ea, .int .u16 (own f).ei, .int .u16 (own f).hop, .int .u16 (own f).hc, .int .u8 (own f).ha, .int .u16 (own f).hi, .bool (own f).wants, .int .u8 (own f).blk, .int .u16 (own f).vinc, .int .u32 (own f).vseq, .int .u8 (own f).part, .int .u8 (own f).parts, .string (own f).bytes])).run Tryz.prog W = .ok (.bool true) W) := Lib.hid (fun W => by have h := neq_run f (own f) W; rw [eqF_no he] at h; exact h)
      clear he
      have hx : ∀ W, (Builtin.max_ #[5, 5, 5, 5] 5 #[.int .u8 f.src, .int .u8 f.dst, .int .u8 f.ea, .int .u8 f.ha]).run Tryz.prog W = .ok (.int .u8 (top f : Int)) W := fun W => max4_run f.src f.dst f.ea f.ha _ _ W
      go_enter Tryz.func37, Tryz.ntmps37
      go_wp2
      refine world_cut (G := fun W => Code.wp _ _ _ _ W) (fun W => RowOk W w.heap.size ∧ rowArr W w.heap.size = #[.int .i64 f.kind, .int .u8 f.src, .int .u8 f.dst, .int .u16 f.sinc, .int .u16 f.dinc, .int .u16 f.ec, .int .u8 f.ea, .int .u16 f.ei, .int .u16 f.hop, .int .u16 f.hc, .int .u8 f.ha, .int .u16 f.hi, .bool f.wants, .int .u8 f.blk, .int .u16 f.vinc, .int .u32 f.vseq, .int .u8 f.part, .int .u8 f.parts, .string f.bytes] ∧ w.heap.size < W.heap.size ∧ Below w.heap.size w W) (by
        refine ⟨?_, ?_, ?_, ?_⟩
        · go_simp
        · go_simp
        · simp
        · exact (Below.refl _ _).alloc (Nat.le_refl _) _) ?_
      rintro W ⟨ho, hr, hlt, hbel⟩
      have hcmp := HF.out
      have HL := Lib.hid hbel
      have HT := Lib.hid hlt
      clear hbel hlt
      generalize hN : w.heap.size = N at *
      have x0 := cell_of ho hr 0 _ rfl
      go_region_held3 (fun W' => RowOk W' N ∧ rowArr W' N = #[.int .i64 f.kind, .int .u8 f.src, .int .u8 f.dst, .int .u16 f.sinc, .int .u16 f.dinc, .int .u16 f.ec, .int .u8 f.ea, .int .u16 f.ei, .int .u16 f.hop, .int .u16 f.hc, .int .u8 f.ha, .int .u16 f.hi, .bool f.wants, .int .u8 f.blk, .int .u16 f.vinc, .int .u32 f.vseq, .int .u8 f.part, .int .u8 f.parts, .string f.bytes] ∧ W'.cell? ⟨N, 0, none⟩ = some (.int .i64 f.kind)) ((first | (go_simp; done) | (go_keep; done)))
        ((first | (go_at_call 60; (with_reducible refine (isKind_yes _ _ k1 k2).mono ?_); rintro e w1 ⟨rfl, rfl⟩) | (go_at_call 61; (with_reducible refine (itsOwn_any f _).mono ?_); rintro e w1 ⟨rfl, hb1⟩; obtain ⟨ho1, hr1⟩ := row_below hb1 (show RowOk _ N by assumption); have hq1 : rowArr w1 N = #[.int .i64 f.kind, .int .u8 f.src, .int .u8 f.dst, .int .u16 f.sinc, .int .u16 f.dinc, .int .u16 f.ec, .int .u8 f.ea, .int .u16 f.ei, .int .u16 f.hop, .int .u16 f.hc, .int .u8 f.ha, .int .u16 f.hi, .bool f.wants, .int .u8 f.blk, .int .u16 f.vinc, .int .u32 f.vseq, .int .u8 f.part, .int .u8 f.parts, .string f.bytes] := hr1.trans (by assumption); have c1 := cell_of ho1 hq1 0 _ rfl)))
      go_wp2
      go_ret
      exact ⟨rfl, by rw [hN]; exact HL.out.drew.trans (hb1.mono (Nat.le_of_lt HT.out))⟩
  · rw [rtB_no (fun h => hk ⟨h.1, h.2.1⟩)]
    go_enter Tryz.func37, Tryz.ntmps37
    go_wp2
    go_quiet ((go_at_call 60; exact Calls.quiet_of_same (still_of (isKind_no _ _ hk))))
    go_wp2
    go_ret
    exact ⟨rfl, by exact below_drewN ((Below.refl _ _).alloc (Nat.le_refl _) _) _⟩

end Go.Proofs.YtedlfognpbbhhaaGreatDoor.Frm
