/-
  A new mac: walked. Conditions: as each states.
-/
import Derived.Test.YtedlfognpbbhhaaGreatDoorMaJ
namespace Go.Proofs.YtedlfognpbbhhaaGreatDoor.Ma
open Go.RowKit
open Go.Proofs.YtedlfognpbbhhaaGreatDoor.Epo (Ep cmpE newB maxE numE numM)
open Go.Proofs.YtedlfognpbbhhaaGreatDoor.Mem (St withB woB hasB passB nextI turnI gapB sv)
open Go.Proofs.YtedlfognpbbhhaaGreatDoor.Frm (Fr world_cut)
attribute [local go_sem ↓] exec_ldF exec_stF exec_bdF
attribute [local go_sem] bdF_5 bdF_9 bdF_0 stF_new0

variable {b : Nat} {M : Mc} {w : World}
theorem cWithin (n a b : Int) (w : World) (h : a ≤ n ∧ n ≤ b) : Calls Tryz.prog 68 #[.int .i64 n, .int .i64 a, .int .i64 b] w fun e w' => e = .returned (.bool true) ∧ w = w' := by
  have e1 : decide (a ≤ n) = true := decide_eq_true h.1
  have e2 : decide (n ≤ b) = true := decide_eq_true h.2
  clear h
  go_enter Tryz.func68, Tryz.ntmps68
  go_wp2
  go_ret
  exact ⟨rfl, rfl⟩
/-- A cluster's numbers as they must be. -/
structure Nums (sl tt gp rt lm tp : Int) : Prop where
  sl : 4 ≤ sl ∧ sl ≤ 50
  tt : 1 ≤ tt ∧ tt ≤ 10000
  gp : 1 ≤ gp ∧ gp ≤ 50
  rt : 0 ≤ rt ∧ rt ≤ 3
  lm : 1 ≤ lm ∧ lm ≤ 65535
  tp : 0 ≤ tp ∧ tp ≤ 31
set_option maxRecDepth 100000 in
set_option maxHeartbeats 2000000 in
theorem cTimed {sl tt gp rt lm tp : Int} (w : World) (h : Nums sl tt gp rt lm tp) : Calls Tryz.prog 49 #[.agg #[.int .i64 sl, .int .i64 tt, .int .i64 gp, .int .i64 rt, .int .i64 lm, .int .i64 tp, .slice none 0 0, .slice none 0 0]] w (Tells (.bool true) w) := by
  have HB := Lib.hid (one_S w #[.int .i64 sl, .int .i64 tt, .int .i64 gp, .int .i64 rt, .int .i64 lm, .int .i64 tp, .slice none 0 0, .slice none 0 0] 28)
  have H1 := Lib.hid (fun W => cWithin sl 4 50 W h.sl)
  have H2 := Lib.hid (fun W => cWithin tt 1 10000 W h.tt)
  have H3 := Lib.hid (fun W => cWithin gp 1 50 W h.gp)
  have H4 := Lib.hid (fun W => cWithin rt 0 3 W h.rt)
  have H5 := Lib.hid (fun W => cWithin lm 1 65535 W h.lm)
  have H6 := Lib.hid (fun W => cWithin tp 0 31 W h.tp)
  clear h
  go_enter Tryz.func49, Tryz.ntmps49
  go_wp2_with fail
  refine (H1.out _).mono ?_
  rintro e w1 ⟨rfl, rfl⟩
  go_wp2_with fail
  refine (H2.out _).mono ?_
  rintro e w1 ⟨rfl, rfl⟩
  go_wp2_with fail
  refine (H3.out _).mono ?_
  rintro e w1 ⟨rfl, rfl⟩
  go_wp2_with fail
  refine (H4.out _).mono ?_
  rintro e w1 ⟨rfl, rfl⟩
  go_wp2_with fail
  refine (H5.out _).mono ?_
  rintro e w1 ⟨rfl, rfl⟩
  go_wp2_with fail
  refine (H6.out _).mono ?_
  rintro e w1 ⟨rfl, rfl⟩
  go_wp2
  go_ret
  exact ⟨rfl, HB.out⟩
theorem cBCheck (w : World) : Calls Tryz.prog 50 #[.slice none 0 0] w fun e w' => e = .returned (.tuple #[.int .i64 0, .int .i64 0]) ∧ w = w' := by
  go_enter Tryz.func50, Tryz.ntmps50
  go_wp2
  go_loop [13] (fun i => i = .int .i64 0) (fun _ => 0)
  case atStart => rfl
  case round =>
    subst hrel
    go_wp2
    go_ret2
    exact ⟨rfl, rfl⟩
set_option maxRecDepth 100000 in
set_option maxHeartbeats 2000000 in
theorem cCCheck {sl tt gp rt lm tp : Int} (w : World) (h : Nums sl tt gp rt lm tp) : Calls Tryz.prog 34 #[.agg #[.int .i64 sl, .int .i64 tt, .int .i64 gp, .int .i64 rt, .int .i64 lm, .int .i64 tp, .slice none 0 0, .slice none 0 0]] w (Tells (.tuple #[.int .i64 2, .int .i64 100]) w) := by
  have HB := Lib.hid (one_S w #[.int .i64 sl, .int .i64 tt, .int .i64 gp, .int .i64 rt, .int .i64 lm, .int .i64 tp, .slice none 0 0, .slice none 0 0] 28)
  have HT := Lib.hid (fun W => cTimed W h)
  have HN := Lib.hid (heap_alloc_new w (.cells #[.int .i64 sl, .int .i64 tt, .int .i64 gp, .int .i64 rt, .int .i64 lm, .int .i64 tp, .slice none 0 0, .slice none 0 0] 28 (0, 0)))
  clear h
  go_enter Tryz.func34, Tryz.ntmps34
  go_wp2_with fail
  refine (HT.out _).mono ?_
  rintro e w1 ⟨rfl, hb1⟩
  have hr := (hb1.block w.heap.size (by simp)).trans HN.out
  have c6 : w1.cell? ⟨w.heap.size, 6, none⟩ = some (.slice none 0 0) := by rw [cell_of_row _ _ _ _ _ _ hr]; rfl
  have c7 : w1.cell? ⟨w.heap.size, 7, none⟩ = some (.slice none 0 0) := by rw [cell_of_row _ _ _ _ _ _ hr]; rfl
  have HC := Lib.hid (HB.out.trans (hb1.mono (by simp)))
  clear hb1 hr
  go_wp2_with fail
  refine (cBCheck _).mono ?_
  rintro e w2 ⟨rfl, rfl⟩
  go_wp2
  go_ret2
  exact ⟨rfl, HC.out⟩
set_option maxRecDepth 100000 in
set_option maxHeartbeats 2000000 in
theorem cMayBe {sl tt gp rt lm tp : Int} (w : World) (h : Nums sl tt gp rt lm tp) : Calls Tryz.prog 26 #[.agg #[.int .i64 sl, .int .i64 tt, .int .i64 gp, .int .i64 rt, .int .i64 lm, .int .i64 tp, .slice none 0 0, .slice none 0 0]] w (Tells (.bool true) w) := by
  have HB := Lib.hid (one_S w #[.int .i64 sl, .int .i64 tt, .int .i64 gp, .int .i64 rt, .int .i64 lm, .int .i64 tp, .slice none 0 0, .slice none 0 0] 28)
  have HT := Lib.hid (fun W => cCCheck W h)
  clear h
  go_enter Tryz.func26, Tryz.ntmps26
  go_wp2_with fail
  refine (HT.out _).mono ?_
  rintro e w1 ⟨rfl, hb1⟩
  have HC := Lib.hid (HB.out.trans (hb1.mono (by simp)))
  clear hb1
  go_wp2
  go_ret
  exact ⟨rfl, HC.out⟩
set_option maxRecDepth 100000 in
set_option maxHeartbeats 2000000 in
theorem cNumbersOf {sl tt gp rt lm tp : Int} (w : World) : Calls Tryz.prog 25 #[.agg #[.int .i64 sl, .int .i64 tt, .int .i64 gp, .int .i64 rt, .int .i64 lm, .int .i64 tp, .slice none 0 0, .slice none 0 0]] w (Tells (.agg #[.int .i64 sl, .int .i64 tt, .int .i64 gp, .int .i64 rt, .int .i64 lm, .int .i64 tp, .slice none 0 0, .slice none 0 0]) w) := by
  have HB := Lib.hid ((one_S w #[.int .i64 sl, .int .i64 tt, .int .i64 gp, .int .i64 rt, .int .i64 lm, .int .i64 tp, .slice none 0 0, .slice none 0 0] 28).trans ((one_S (w.alloc (.cells #[.int .i64 sl, .int .i64 tt, .int .i64 gp, .int .i64 rt, .int .i64 lm, .int .i64 tp, .slice none 0 0, .slice none 0 0] 28)) #[.int .i64 sl, .int .i64 tt, .int .i64 gp, .int .i64 rt, .int .i64 lm, .int .i64 tp, .slice none 0 0, .slice none 0 0] 28).mono (by simp)))
  go_enter Tryz.func25, Tryz.ntmps25
  go_wp2
  exact bodyPost_ret (v := .agg #[.int .i64 sl, .int .i64 tt, .int .i64 gp, .int .i64 rt, .int .i64 lm, .int .i64 tp, .slice none 0 0, .slice none 0 0]) (by simp [results, Tryz.results25, go_sem]) rfl ⟨rfl, HB.out⟩
noncomputable def bdM (parts : Array (Nat × Value)) (W : World) : Result Next := (do pure (Next.value (← Instr.build 66 parts)) : Sem Next).run Tryz.prog W
theorem exec_bdM (ρ : Operand → Value) (d : Option Tmp) (ps : Array (Nat × Operand)) (t : TypeId) (pos : String) (af : _) (g : _) (W : World) :
    (execOp ρ ⟨d, .build 66 ps, t, pos, af, g⟩).run Tryz.prog W = bdM (ps.map fun x => (x.1, ρ x.2)) W := rfl
set_option maxRecDepth 100000 in
set_option maxHeartbeats 2000000 in
theorem built_mac (sl tt gp rt lm tp : Int) (ad inc : Nat) (wants : Bool) : Tryz.prog.built 66 [(0, .int .i64 ad), (1, .int .u16 inc), (2, .agg #[.int .i64 sl, .int .i64 tt, .int .i64 gp, .int .i64 rt, .int .i64 lm, .int .i64 tp, .slice none 0 0, .slice none 0 0]), (3, .int .i64 1), (4, .bool wants)] = some ((macL { mac0 sl tt gp rt lm tp ad inc wants with partner := 0, ask := 0, last := 0 }).toArray) := by kernel_rfl
theorem bdM_1 (sl tt gp rt lm tp : Int) (ad inc : Nat) (wants : Bool) (W : World) : bdM #[(0, .int .i64 ad), (1, .int .u16 inc), (2, .agg #[.int .i64 sl, .int .i64 tt, .int .i64 gp, .int .i64 rt, .int .i64 lm, .int .i64 tp, .slice none 0 0, .slice none 0 0]), (3, .int .i64 1), (4, .bool wants)] W = .ok (.value (.agg ((macL { mac0 sl tt gp rt lm tp ad inc wants with partner := 0, ask := 0, last := 0 }).toArray))) W := by
  unfold bdM
  rw [Sem.run_bind, run_build W 66 _ _ (built_mac sl tt gp rt lm tp ad inc wants)]
  rfl
attribute [local go_sem ↓] exec_bdM
attribute [local go_sem] bdM_1
set_option maxRecDepth 100000 in
set_option maxHeartbeats 2000000 in
theorem cNew {sl tt gp rt lm tp : Int} (w : World) (h : Nums sl tt gp rt lm tp) (ad inc : Nat) (had : (ad : Int) ≤ tp) (wants : Bool) (hT : Mem.Tz w) : Calls Tryz.prog 10 #[.agg #[.int .i64 sl, .int .i64 tt, .int .i64 gp, .int .i64 rt, .int .i64 lm, .int .i64 tp, .slice none 0 0, .slice none 0 0], .int .i64 ad, .int .u16 inc, .bool wants] w (fun e w' => ∃ b, e = .returned (.pointer (some ⟨b, 0, none⟩)) ∧ Mw w' b (mac0 sl tt gp rt lm tp ad inc wants) ∧ Below w.heap.size w w' ∧ w.heap.size ≤ b) := by
  have HN := Lib.hid (fun W => cNumbersOf (sl := sl) (tt := tt) (gp := gp) (rt := rt) (lm := lm) (tp := tp) W)
  have HM := Lib.hid (fun W => cMayBe W h)
  have HB := Lib.hid (one_S w #[.int .i64 sl, .int .i64 tt, .int .i64 gp, .int .i64 rt, .int .i64 lm, .int .i64 tp, .slice none 0 0, .slice none 0 0] 28)
  have HN2 := Lib.hid (heap_alloc_new w (.cells #[.int .i64 sl, .int .i64 tt, .int .i64 gp, .int .i64 rt, .int .i64 lm, .int .i64 tp, .slice none 0 0, .slice none 0 0] 28 (0, 0)))
  have HTz := Lib.hid hT
  have d1 : decide ((ad : Int) < 0) = false := decide_eq_false (by omega)
  have d2 : decide (tp < (ad : Int)) = false := decide_eq_false (by omega)
  clear h hT had
  go_enter Tryz.func10, Tryz.ntmps10
  go_wp2_with fail
  refine (HN.out _).mono ?_
  rintro e w1 ⟨rfl, hb1⟩
  have hr := (hb1.block w.heap.size (by simp)).trans HN2.out
  have hb2 := (HB.out.trans (hb1.mono (by simp)))
  have HX := Lib.hid (⟨hb2, by have := hb1.size; first | omega | (simp at this; omega)⟩ : Below w.heap.size w w1 ∧ w.heap.size < w1.heap.size)
  have HR := Lib.hid hr
  have HW := Lib.hid (heap_alloc_new w1 (.cells #[.int .i64 sl, .int .i64 tt, .int .i64 gp, .int .i64 rt, .int .i64 lm, .int .i64 tp, .slice none 0 0, .slice none 0 0] 28 (0, 0)))
  have HBB := Lib.hid (one_S w1 #[.int .i64 sl, .int .i64 tt, .int .i64 gp, .int .i64 rt, .int .i64 lm, .int .i64 tp, .slice none 0 0, .slice none 0 0] 28)
  clear hb1 hr hb2 HB HN2
  go_wp2_with fail
  refine (HM.out _).mono ?_
  rintro e w2 ⟨rfl, hb3⟩
  have hr2 := (hb3.block w.heap.size (by have := HX.out.2; simp; omega)).trans ((HBB.out.block w.heap.size HX.out.2).trans HR.out)
  have hn2 := (hb3.block w1.heap.size (by simp)).trans HW.out
  have hbw : Below w.heap.size w w2 := HX.out.1.trans ((HBB.out.trans (hb3.mono (by simp))).mono HX.out.1.size)
  have t5 : w2.cell? ⟨w.heap.size, 5, none⟩ = some (.int .i64 tp) := by rw [cell_of_row _ _ _ _ _ _ hr2]; rfl
  have n0 : w2.cell? ⟨w1.heap.size, 0, none⟩ = some (.int .i64 sl) := by rw [cell_of_row _ _ _ _ _ _ hn2]; rfl
  have n1 : w2.cell? ⟨w1.heap.size, 1, none⟩ = some (.int .i64 tt) := by rw [cell_of_row _ _ _ _ _ _ hn2]; rfl
  have n2 : w2.cell? ⟨w1.heap.size, 2, none⟩ = some (.int .i64 gp) := by rw [cell_of_row _ _ _ _ _ _ hn2]; rfl
  have n3 : w2.cell? ⟨w1.heap.size, 3, none⟩ = some (.int .i64 rt) := by rw [cell_of_row _ _ _ _ _ _ hn2]; rfl
  have n4 : w2.cell? ⟨w1.heap.size, 4, none⟩ = some (.int .i64 lm) := by rw [cell_of_row _ _ _ _ _ _ hn2]; rfl
  have n5 : w2.cell? ⟨w1.heap.size, 5, none⟩ = some (.int .i64 tp) := by rw [cell_of_row _ _ _ _ _ _ hn2]; rfl
  have n6 : w2.cell? ⟨w1.heap.size, 6, none⟩ = some (.slice none 0 0) := by rw [cell_of_row _ _ _ _ _ _ hn2]; rfl
  have n7 : w2.cell? ⟨w1.heap.size, 7, none⟩ = some (.slice none 0 0) := by rw [cell_of_row _ _ _ _ _ _ hn2]; rfl
  have HBw := Lib.hid (⟨hbw, by have := hb3.size; have := HX.out.2; first | omega | (simp at *; omega)⟩ : Below w.heap.size w w2 ∧ w.heap.size < w2.heap.size)
  generalize w1.heap.size = g1 at *
  have htz := tz_only HTz.out (OnlyL.of_below HBw.out.1) (ms := []) (by simp)
  have HZ := Lib.hid (heap_alloc_new w2 (.cells (macL (mac0 sl tt gp rt lm tp ad inc wants)).toArray 66 (0, 0)))
  have HE : Hid (((((macL { mac0 sl tt gp rt lm tp ad inc wants with partner := 0, ask := 0, last := 0 }).set 68 (.int .i64 (-1))).set 73 (.int .i64 (-1))).set 72 (.int .i64 ad)) = macL (mac0 sl tt gp rt lm tp ad inc wants)) := Lib.hid rfl
  have HT2 := Lib.hid htz
  clear hb3 hr2 hn2 hbw HX HR HW HBB HM htz HTz
  go_wp2
  go_ret
  rw [HE.out]
  exact ⟨_, rfl, ⟨HZ.out, HT2.out.below ((Below.refl _ _).alloc (Nat.le_refl _) _), by have := tz_lt HT2.out; omega⟩, HBw.out.1.alloc (Nat.le_of_lt HBw.out.2) _, Nat.le_of_lt HBw.out.2⟩
end Go.Proofs.YtedlfognpbbhhaaGreatDoor.Ma
