/-
  A mac's small steps: walked. Conditions: as each states.
-/
import Derived.Test.YtedlfognpbbhhaaGreatDoorMaA
namespace Go.Proofs.YtedlfognpbbhhaaGreatDoor.Ma
open Go.RowKit
open Go.Proofs.YtedlfognpbbhhaaGreatDoor.Epo (Ep cmpE newB maxE numE numM)
open Go.Proofs.YtedlfognpbbhhaaGreatDoor.Mem (St withB woB hasB passB nextI turnI gapB sv)
open Go.Proofs.YtedlfognpbbhhaaGreatDoor.Frm (Fr world_cut)
attribute [local go_sem ↓] exec_ldF exec_stF exec_bdF
attribute [local go_sem] bdF_5 bdF_9 bdF_0 stF_new0

variable {b : Nat} {M : Mc} {w : World}
theorem ret_b {x y : Bool} (h : x = y) : Ending.returned (.bool x) = .returned (.bool y) := by rw [h]
theorem fin {M' : Mc} (h : Mw w b M) (l : List (Nat × Value)) (e : setA (macL M) l = macL M') : Mw (setL w b l) b M' ∧ OnlyL [b] w (setL w b l) := ⟨h.sets l e, setL_only (by simp) l w⟩
theorem finD {M' : Mc} (h : Mw w b M) (l : List (Nat × Value)) (e : setA (macL M) l = macL M') : Mw (setL w b l).drew b M' ∧ OnlyL [b] w (setL w b l).drew := ⟨(h.sets l e).drew, (setL_only (by simp) l w).drew⟩
set_option maxRecDepth 100000 in
theorem cPatience (h : Mw w b M) (h1 : 0 ≤ M.sl ∧ M.sl ≤ 50) (h2 : M.ad < 32) : Calls Tryz.prog 74 #[.pointer (some ⟨b, 0, none⟩)] w (fun e w' => e = .returned (.int .i64 (patM M)) ∧ ∃ m, w' = w.drewN m) := by
  have c := h.cell 0 rfl
  have d := h.cell 2 rfl
  clear h
  have e1 : IntKind.i64.wrap (2 * (M.ad : Int)) = 2 * M.ad := by rw [IntKind.wrap_i64]; omega
  have e2 : IntKind.i64.wrap (4 + 2 * (M.ad : Int)) = 4 + 2 * M.ad := by rw [IntKind.wrap_i64]; omega
  have e3 : IntKind.i64.wrap (M.sl * (4 + 2 * (M.ad : Int))) = patM M := by
    have : M.sl * (4 + 2 * (M.ad : Int)) ≤ 50 * (4 + 2 * (M.ad : Int)) := Int.mul_le_mul_of_nonneg_right h1.2 (by omega)
    have : 0 ≤ M.sl * (4 + 2 * (M.ad : Int)) := Int.mul_nonneg h1.1 (by omega)
    rw [IntKind.wrap_i64]
    unfold patM
    generalize M.sl * (4 + 2 * (M.ad : Int)) = p at *
    omega
  clear h1 h2
  generalize patM M = p at *
  go_enter Tryz.func74, Tryz.ntmps74
  go_wp2
  go_quiet (fail)
  go_wp2
  go_ret
  exact ⟨rfl, _, rfl⟩
set_option maxRecDepth 100000 in
theorem cHasTime (h : Mw w b M) (h1 : 0 ≤ M.rot ∧ M.rot ≤ 1000000000) (h2 : 0 ≤ M.clock ∧ M.clock ≤ 1000000000) (h3 : 0 ≤ M.arrived ∧ M.arrived ≤ 1000000000) : Calls Tryz.prog 77 #[.pointer (some ⟨b, 0, none⟩)] w (fun e w' => e = .returned (.bool (timeB M)) ∧ ∃ m, w' = w.drewN m) := by
  have c := h.cell 19 rfl
  have d := h.cell 14 rfl
  have d2 := h.cell 18 rfl
  have d3 := h.cell 3 rfl
  clear h
  have e1 : IntKind.i64.wrap (M.rot + M.clock) = M.rot + M.clock := by rw [IntKind.wrap_i64]; omega
  have e2 : IntKind.i64.wrap (M.rot + M.clock - M.arrived) = M.rot + M.clock - M.arrived := by rw [IntKind.wrap_i64]; omega
  have HT := Lib.hid (show timeB M = decide (M.rot + M.clock - M.arrived < M.tt) from rfl)
  clear h1 h2 h3
  rw [HT.out]
  go_enter Tryz.func77, Tryz.ntmps77
  go_wp2
  go_quiet (fail)
  go_wp2
  go_ret
  exact ⟨rfl, _, rfl⟩
set_option maxRecDepth 100000 in
theorem cArrive (h : Mw w b M) (h1 : 0 ≤ M.arrived ∧ M.arrived ≤ M.clock) (h2 : M.clock ≤ 1000000000) (h3 : 0 ≤ M.visits ∧ M.visits ≤ 1000000000) : Calls Tryz.prog 47 #[.pointer (some ⟨b, 0, none⟩)] w (Turns w b (arriveM M)) := by
  have e1 : IntKind.i64.wrap (M.clock - M.arrived) = M.clock - M.arrived := by rw [IntKind.wrap_i64]; omega
  have e2 : IntKind.i64.wrap (M.visits + 1) = M.visits + 1 := by rw [IntKind.wrap_i64]; omega
  have c14 := h.cell 14 rfl
  have c17 := h.cell 17 rfl
  have c18 := h.cell 18 rfl
  have c19 := h.cell 19 rfl
  have c10 := h.cell 10 rfl
  have f17 := h.free 17
  have f18 := h.free 18
  have f19 := h.free 19
  have f10 := h.free 10
  have HW := Lib.hid h
  by_cases hv : 0 < M.visits
  · have hd : decide (0 < M.visits) = true := decide_eq_true hv
    have HE := Lib.hid (show arriveM M = { M with rot := M.clock - M.arrived, arrived := M.clock, visits := M.visits + 1, st := 4 } by unfold arriveM; rw [if_pos hv])
    rw [HE.out]
    clear h h1 h2 h3 hv HE
    go_enter Tryz.func47, Tryz.ntmps47
    go_wp2
    go_region
    go_wp2
    go_end0
    exact ⟨rfl, finD HW.out [(19, _), (18, _), (17, _), (10, _)] rfl⟩
  · have hd : decide (0 < M.visits) = false := decide_eq_false hv
    have HE := Lib.hid (show arriveM M = { M with arrived := M.clock, visits := M.visits + 1, st := 4 } by unfold arriveM; rw [if_neg hv])
    rw [HE.out]
    clear h h1 h2 h3 hv HE
    go_enter Tryz.func47, Tryz.ntmps47
    go_wp2
    go_end0
    exact ⟨rfl, fin HW.out [(18, _), (17, _), (10, _)] rfl⟩
set_option maxRecDepth 100000 in
theorem cMarks (h : Mw w b M) : Calls Tryz.prog 91 #[.pointer (some ⟨b, 0, none⟩)] w (Turns w b (marksM M)) := by
  have c0 := h.cell 56 rfl
  have c1 := h.cell 57 rfl
  have c2 := h.cell 58 rfl
  have c3 := h.cell 59 rfl
  have d0 := h.cell 60 rfl
  have d1 := h.cell 61 rfl
  have d2 := h.cell 62 rfl
  have d3 := h.cell 63 rfl
  have d4 := h.cell 64 rfl
  have d5 := h.cell 65 rfl
  have d6 := h.cell 66 rfl
  have d7 := h.cell 67 rfl
  have f0 := h.free 60
  have f1 := h.free 61
  have f2 := h.free 62
  have f3 := h.free 63
  have f4 := h.free 64
  have f5 := h.free 65
  have f6 := h.free 66
  have f7 := h.free 67
  have HW := Lib.hid h
  clear h
  go_enter Tryz.func91, Tryz.ntmps91
  go_region
  go_end0
  exact ⟨rfl, finD HW.out [(60, _), (61, _), (62, _), (63, _), (64, _), (65, _), (66, _), (67, _)] rfl⟩
set_option maxRecDepth 100000 in
theorem cLeave (h : Mw w b M) : Calls Tryz.prog 54 #[.pointer (some ⟨b, 0, none⟩)] w (Turns w b (leaveM M)) := by
  have c0 := h.cell 0 rfl
  have c12 := h.cell 12 rfl
  have c20 := h.cell 20 rfl
  have f12 := h.free 12
  have f20 := h.free 20
  have HW := Lib.hid h
  have HC := Lib.hid (fun W => Mem.Without_any M.list M.ad W)
  clear h
  go_enter Tryz.func54, Tryz.ntmps54
  go_wp2
  go_region_with ((go_at_call 40; refine (HC.out _).mono ?_; rintro e w1 ⟨rfl, rfl⟩))
  all_goals
    go_wp2
    go_end0
    exact ⟨rfl, finD HW.out [(12, _), (20, _)] rfl⟩
set_option maxRecDepth 100000 in
theorem cGap (h : Mw w b M) : Calls Tryz.prog 79 #[.pointer (some ⟨b, 0, none⟩)] w (fun e w' => e = .returned (sv (gapM M)) ∧ ∃ m, w' = w.drewN m) := by
  have c0 := h.cell 0 rfl
  have c7 := h.cell 7 rfl
  have c20 := h.cell 20 rfl
  have HC := Lib.hid (fun n => Mem.Gap_any M.list M.ad M.tp (w.drewN n) (h.drewN n).tz)
  have HT := Lib.hid h.tz
  have HV := Lib.hid (show gapM M = gapB M.list M.ad M.tp from rfl)
  rw [HV.out]
  clear h
  go_enter Tryz.func79, Tryz.ntmps79
  go_wp2
  go_quiet (exact Calls.quiet_of_same (Epo.still_of (HC.out _)))
  go_wp2
  go_ret
  exact ⟨rfl, _, rfl⟩
set_option maxRecDepth 100000 in
theorem cIsTo (h : Mw w b M) (f : Fr) (hf : f.fit) : Calls Tryz.prog 39 #[.pointer (some ⟨b, 0, none⟩), .agg (frA f)] w (Tells (.bool (isToB M f)) w) := by
  have HX := Lib.hid (⟨Fx.new [] w f, h.alloc (.cells (frA f) 38), h.lt⟩ : Fx [] w (w.alloc (.cells (frA f) 38)) w.heap.size f ∧ Mw (w.alloc (.cells (frA f) 38)) b M ∧ b < w.heap.size)
  have HV := Lib.hid (show isToB M f = (decide (f.dst = M.ad) && decide (f.dinc = M.inc)) from rfl)
  have ew : IntKind.i64.wrap (f.dst : Int) = f.dst := by rw [IntKind.wrap_i64]; have := hf.2.1; omega
  clear h hf
  go_enter Tryz.func39, Tryz.ntmps39
  go_wp2
  refine world_cut (G := fun W => Code.wp _ _ _ _ W) (fun W => Fx [] w W w.heap.size f ∧ Mw W b M ∧ b < w.heap.size) (by exact HX.out) ?_
  rintro W ⟨hx, hm, hlt⟩
  generalize w.heap.size = R at *
  have c0 := hm.cell 0 rfl
  have c1 := hm.cell 1 rfl
  have d2 := hx.box.at.at 2 rfl
  have d4 := hx.box.at.at 4 rfl
  have HB := Lib.hid hx
  clear HX hx hm
  by_cases h1 : f.dst = M.ad
  · have e1 : ((f.dst : Int) == (M.ad : Int)) = true := by rw [beq_iff_eq]; omega
    have HD := Lib.hid (decide_eq_true h1)
    have HI := Lib.hid (show ((f.dinc : Int) == (M.inc : Int)) = decide (f.dinc = M.inc) by by_cases e : f.dinc = M.inc <;> simp [e] <;> omega)
    clear h1
    go_quiet (fail)
    go_wp2
    go_ret
    exact ⟨ret_b (by rw [HV.out, HD.out, HI.out, Bool.true_and]), (HB.out.drewN _).bel⟩
  · have e1 : ((f.dst : Int) == (M.ad : Int)) = false := by rw [beq_eq_false_iff_ne]; omega
    have HD := Lib.hid (decide_eq_false h1)
    clear h1
    go_quiet (fail)
    go_wp2
    go_ret
    exact ⟨ret_b (by rw [HV.out, HD.out, Bool.false_and]), (HB.out.drewN _).bel⟩
set_option maxRecDepth 100000 in
set_option maxHeartbeats 2000000 in
theorem cPlain (h : Mw w b M) (had : M.ad < 32) (kind : Int) : Calls Tryz.prog 55 #[.pointer (some ⟨b, 0, none⟩), .int .i64 kind] w (Tells (.agg (frA (plF M kind))) w) := by
  have HX := Lib.hid (⟨Fx.new [] w noF, h.alloc (.cells (frA noF) 38), h.lt⟩ : Fx [] w (w.alloc (.cells (frA noF) 38)) w.heap.size noF ∧ Mw (w.alloc (.cells (frA noF) 38)) b M ∧ b < w.heap.size)
  have ew : IntKind.u8.wrap (M.ad : Int) = M.ad := by rw [IntKind.wrap_u8]; omega
  have HV : Hid (∀ W R, FrOwn W R noF → stF (.pointer (some ⟨R, 0, none⟩)) (.agg #[.int .i64 kind, .int .u8 M.ad, .int .u8 0, .int .u16 M.inc, .int .u16 0, .int .u16 M.tok.e.c, .int .u8 M.tok.e.a, .int .u16 M.tok.e.i, .int .u16 M.tok.h, .int .u16 0, .int .u8 0, .int .u16 0, .bool false, .int .u8 0, .int .u16 0, .int .u32 0, .int .u8 0, .int .u8 0, .string ⟨#[]⟩]) W = .ok .skip (W.setCells R 0 (frC (plF M kind)))) :=
    Lib.hid (fun W R h => h.st (plF M kind))
  clear h had
  generalize plF M kind = F at *
  go_enter Tryz.func55, Tryz.ntmps55
  go_wp2
  refine world_cut (G := fun W => Code.wp _ _ _ _ W) (fun W => Fx [] w W w.heap.size noF ∧ Mw W b M ∧ b < w.heap.size) (by exact HX.out) ?_
  rintro W ⟨hx, hm, hlt⟩
  generalize w.heap.size = R at *
  have c0 := hm.cell 0 rfl
  have c1 := hm.cell 1 rfl
  have c56 := hm.cell 56 rfl
  have c57 := hm.cell 57 rfl
  have c58 := hm.cell 58 rfl
  have c59 := hm.cell 59 rfl
  have hst := HV.out W.drew R hx.box
  have HB := Lib.hid hx
  clear HX hx hm
  have HY := Lib.hid (HB.out.drew.put F)
  go_region
  go_wp2
  refine bodyPost_ret (results_F1 Tryz.results55 _ _ R F rfl HY.out.box.at) rfl ⟨rfl, HY.out.bel⟩
set_option maxRecDepth 100000 in
set_option maxHeartbeats 2000000 in
theorem cTo (h : Mw w b M) (had : M.ad < 32) (kind : Int) (a inc : Nat) (ha : a < 256) : Calls Tryz.prog 92 #[.pointer (some ⟨b, 0, none⟩), .int .i64 kind, .int .i64 a, .int .u16 inc] w (Tells (.agg (frA (toF M kind a inc))) w) := by
  have HX := Lib.hid (⟨Fx.new [] w noF, h.alloc (.cells (frA noF) 38), h.lt⟩ : Fx [] w (w.alloc (.cells (frA noF) 38)) w.heap.size noF ∧ Mw (w.alloc (.cells (frA noF) 38)) b M ∧ b < w.heap.size)
  have ew : IntKind.u8.wrap (a : Int) = a := by rw [IntKind.wrap_u8]; omega
  have HP := Lib.hid (fun W (k : Mw W b M) => cPlain k had kind)
  have HF : Hid (((frA (plF M kind)).setIfInBounds 2 (.int .u8 a)).setIfInBounds 4 (.int .u16 inc) = frA (toF M kind a inc)) := Lib.hid rfl
  clear h had ha
  generalize toF M kind a inc = F at *
  generalize plF M kind = P at *
  go_enter Tryz.func92, Tryz.ntmps92
  go_wp2_with fail
  refine world_cut (G := fun W => Calls _ _ _ W _) (fun W => Fx [] w W w.heap.size noF ∧ Mw W b M ∧ b < w.heap.size) (by exact HX.out) ?_
  rintro W ⟨hx, hm, hlt⟩
  have hR := hx.box.lt
  have HW := Lib.hid (⟨hx, hm⟩ : _ ∧ _)
  clear HX hx hm
  generalize w.heap.size = R at *
  refine (HP.out _ HW.out.2).mono ?_
  rintro e w1 ⟨rfl, hb1⟩
  have HX1 := Lib.hid (HW.out.1.below hb1)
  have hR1 : R < w1.heap.size := HX1.out.box.lt
  have HX2 := Lib.hid (HX1.out.below (one_S w1 (frA F) 38))
  have HL := Lib.hid (FrOwn.new w1 F).at.ld
  have HS := Lib.hid (HX2.out.box.st F)
  have HY := Lib.hid (HX2.out.put F)
  clear hb1 HW
  go_wp2
  rw [HF.out, HL.out]
  have hs := HS.out
  go_wp2
  refine bodyPost_ret (results_F1 Tryz.results92 _ _ R F rfl HY.out.box.at) rfl ⟨rfl, HY.out.bel⟩
end Go.Proofs.YtedlfognpbbhhaaGreatDoor.Ma
