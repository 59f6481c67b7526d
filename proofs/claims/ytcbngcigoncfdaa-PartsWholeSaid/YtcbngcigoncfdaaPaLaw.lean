/-
  What the laws share: a glue that there isn't, frames made, awake. Conditions: as each states.
-/
import Derived.Test.YtcbngcigoncfdaaPaPut
import Derived.Test.YtcbngcigoncfdaaPaSplit
namespace Go.Proofs.Ytcbngcigoncfdaa.Pa
open Go.RowKit

set_option maxRecDepth 100000 in
set_option maxHeartbeats 2000000 in
theorem cRefuse_nil (f : Fr) (w : World) : Calls Try.prog 16 #[.pointer none, .agg (frA f)] w (Tells (.int .i64 1) w) := by
  have hb := Lib.hid (one_S w (frA f) 37)
  go_enter Try.func16, Try.ntmps16
  go_wp2
  go_ret
  exact ⟨rfl, hb.out⟩
attribute [local go_sem ↓] exec_ldF
set_option maxRecDepth 100000 in
set_option maxHeartbeats 2000000 in
theorem cPut_nil (f : Fr) (w : World) : Calls Try.prog 8 #[.pointer none, .agg (frA f)] w (Tells (.tuple #[.string ⟨#[]⟩, .bool false, .int .i64 1]) w) := by
  have hb := Lib.hid (one_S w (frA f) 37)
  have hld := (FrAt.new w f 37).ld
  have HR := Lib.hid (fun W => cRefuse_nil f W)
  go_enter Try.func8, Try.ntmps8
  go_wp2_with fail
  refine (HR.out _).mono ?_
  rintro e w1 ⟨rfl, hb1⟩
  have HB := Lib.hid (hb.out.trans (hb1.mono (by simp)))
  clear hb1
  go_wp2
  go_ret3
  exact ⟨rfl, HB.out⟩

/-! ### Frames made -/
noncomputable def bdF (parts : Array (Nat × Value)) (W : World) : Result Next := (do pure (Next.value (← Instr.build 37 parts)) : Sem Next).run Try.prog W
theorem exec_bdF (ρ : Operand → Value) (d : Option Tmp) (ps : Array (Nat × Operand)) (t : TypeId) (pos : String) (af : _) (g : _) (W : World) :
    (execOp ρ ⟨d, .build 37 ps, t, pos, af, g⟩).run Try.prog W = bdF (ps.map fun x => (x.1, ρ x.2)) W := rfl
def frK (k : Int) : Fr := ⟨k, 0, 0, 0, 0, 0, 0, 0, 0, 0, 0, 0, false, 0, 0, 0, 0, 0, []⟩
def frW (i s : Nat) : Fr := ⟨0, 0, 0, 0, 0, 0, 0, 0, 0, 0, 0, 0, false, 0, i, s, 0, 0, []⟩
theorem bdF_k (k : Int) (W : World) : bdF #[(0, .int .i64 k)] W = .ok (.value (.agg (frA (frK k)))) W := by
  unfold bdF
  rw [Sem.run_bind, run_build W 37 #[(0, .int .i64 k)] (frA (frK k)) (by kernel_rfl)]
  rfl
theorem bdF_w (i s : Nat) (W : World) : bdF #[(10, .agg #[.int .u16 i, .int .u32 s])] W = .ok (.value (.agg (frA (frW i s)))) W := by
  unfold bdF
  rw [Sem.run_bind, run_build W 37 #[(10, .agg #[.int .u16 i, .int .u32 s])] (frA (frW i s)) (by kernel_rfl)]
  rfl
theorem fitW {i s : Nat} (hi : i ≤ 65535) (hs : s ≤ 4294967295) : FitF (frW i s) := ⟨hi, hs, by simp [frW], by simp [frW]⟩
theorem fitP {f : Fr} (h : FitF f) {n p : Nat} (b : Bs) (hn : n ≤ 255) (hp : p ≤ 255) : FitF (frP f n p b) := ⟨h.vi, h.vs, hp, hn⟩

/-! ### awake -/
def awT : Bs := [48, 49, 50, 51, 52, 53, 54, 55, 56, 57, 97, 98, 99, 100, 101, 102, 103, 104]
def aw0 : Fr := frP (frW 0 2) 2 0 (awT.take 16)
def aw1 : Fr := frP (frW 0 2) 2 1 (awT.drop 16)
theorem aw_sp : spL (frW 0 2) awT (nP awT) = [aw0, aw1] := rfl
theorem aw_e1 : errB 18 g0 aw1 = 0 ∧ doneB 18 g0 aw1 = false := by decide +kernel
theorem aw_e0 : errB 18 (putG 18 g0 aw1) aw0 = 0 ∧ doneB 18 (putG 18 g0 aw1) aw0 = true ∧ joinB (putG 18 (putG 18 g0 aw1) aw0).came = awT := by decide +kernel
theorem aw_p1 : putV 18 g0 aw1 = .tuple #[.string ⟨#[]⟩, .bool false, .int .i64 0] := by
  unfold putV outB
  rw [aw_e1.1, aw_e1.2]
  rfl
theorem aw_p0 : putV 18 (putG 18 g0 aw1) aw0 = .tuple #[.string (S awT), .bool true, .int .i64 0] := by
  unfold putV outB
  rw [aw_e0.1, aw_e0.2.1, if_pos rfl, aw_e0.2.2]
  rfl
attribute [local go_sem ↓] exec_bdF
attribute [local go_sem] bdF_k bdF_w
theorem bdF_2 (W : World) : bdF #[(10, .agg #[.int .u16 0, .int .u32 2])] W = .ok (.value (.agg (frA (frW 0 2)))) W := bdF_w 0 2 W
set_option maxRecDepth 100000 in
set_option maxHeartbeats 4000000 in
theorem wake_any (w : World) : Calls Try.prog 6 #[] w (Tells (.bool true) w) := by
  have HSp := Lib.hid (cSplit (frW 0 2) awT w (by simp [awT]; unfold maxLen; omega))
  rw [aw_sp] at HSp
  have hb2 := bdF_2
  obtain ⟨X, hX⟩ : ∃ X, X = frA (frW 0 2) := ⟨_, rfl⟩
  rw [← hX] at hb2 HSp
  have hT : (⟨#[48, 49, 50, 51, 52, 53, 54, 55, 56, 57, 97, 98, 99, 100, 101, 102, 103, 104]⟩ : ByteArray) = S awT := rfl
  clear hX
  go_enter Try.func6, Try.ntmps6
  go_wp2_with fail
  refine HSp.out.mono ?_
  rintro e w1 ⟨u, rfl, hr, hb1⟩
  obtain ⟨A, c, rfl⟩ := own_form hr
  obtain ⟨g, cap, he, hNg, hgl⟩ := World.ownsRow.form (show w1.ownsRow w.heap.size 37 19 _ 2 (frs [aw0, aw1]) from hr) (by decide)
  injection he with hA _ hc
  subst hA hc
  have hf0 : FrAt w1 g 0 aw0 := FRow.at (k := 0) hr rfl
  have hf1 : FrAt w1 g 19 aw1 := FRow.at (k := 1) hr rfl
  have HN := Lib.hid (show Calls Try.prog 7 #[.int .i64 18] w1 (fun e w' => e = .returned (.pointer (some ⟨w1.heap.size, 0, none⟩)) ∧ GAt w' w1.heap.size 18 g0 ∧ Below w1.heap.size w1 w' ∧ w'.heap.size = w1.heap.size + 1) from cNew 18 w1 (by decide))
  have HF := Lib.hid (⟨hf0, hf1⟩ : _ ∧ _)
  have HB1 := Lib.hid hb1
  clear hf0 hf1 hr hb1 HSp
  go_wp2_with fail
  refine HN.out.mono ?_
  rintro e w2 ⟨rfl, hg2, hb2, hz2⟩
  have hf2 := FrAt.below HF.out.2 hb2
  have hf02 := FrAt.below HF.out.1 hb2
  generalize hb : w1.heap.size = b at *
  have hs1 : w.heap.size ≤ b := by have := HB1.out.size; omega
  have hl1 := hf2.ld
  have HF0 := Lib.hid hf02
  have hP1 := cPut b 18 g0 aw1 w2 hg2 (wg_0 _) (by decide) ⟨by decide, by decide, by decide, by decide⟩ (by show 2 ≤ maxLen; unfold maxLen; omega)
  rw [aw_p1] at hP1
  have HP1 := Lib.hid hP1
  have HB2 := Lib.hid hb2
  clear hb2 hz2 hg2 hP1 HF HN hf2 hf02
  go_wp2_with fail
  refine HP1.out.mono ?_
  rintro e w3 ⟨rfl, hg3, ho3⟩
  have hl0 := (FrAt.only HF0.out ho3 (by simp; omega)).ld
  have hP2 := cPut b 18 (putG 18 g0 aw1) aw0 w3 hg3 (put_wg (wg_0 _) ⟨by decide, by decide, by decide, by decide⟩) (by decide) ⟨by decide, by decide, by decide, by decide⟩ (by show 16 ≤ maxLen; unfold maxLen; omega)
  rw [aw_p0] at hP2
  have HP2 := Lib.hid hP2
  have HO3 := Lib.hid ho3
  clear hl1 hg3 ho3 hP2 HF0 HP1
  go_wp2_with fail
  refine HP2.out.mono ?_
  rintro e w4 ⟨rfl, hg4, ho4⟩
  have HO4 := Lib.hid (HB1.out.trans ((HB2.out.mono (by omega)).trans ((HO3.out.tr ho4).below (by simp; omega) (by have := HB2.out.size; omega))))
  clear hl0 hg4 ho4 HP2
  go_wp2
  go_ret
  exact ⟨rfl, HO4.out⟩
end Go.Proofs.Ytcbngcigoncfdaa.Pa
