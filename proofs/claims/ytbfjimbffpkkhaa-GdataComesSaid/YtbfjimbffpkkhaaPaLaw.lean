/-
  What the laws share: a glue that there isn't, frames made, awake. Conditions: as each states.
-/
import Derived.Test.YtbfjimbffpkkhaaPaPut
import Derived.Test.YtbfjimbffpkkhaaPaSplit
namespace Go.Proofs.Ytbfjimbffpkkhaa.Pa
open Go.RowKit

set_option maxRecDepth 100000 in
set_option maxHeartbeats 2000000 in
theorem cRefuse_nil (f : Fr) (w : World) : Calls Try.prog 37 #[.pointer none, .agg (frA f)] w (Tells (.int .i64 1) w) := by
  have hb := Lib.hid (one_S w (frA f) 33)
  go_enter Try.func37, Try.ntmps37
  go_wp2
  go_ret
  exact ⟨rfl, hb.out⟩
attribute [local go_sem ↓] exec_ldF
set_option maxRecDepth 100000 in
set_option maxHeartbeats 2000000 in
theorem cPut_nil (f : Fr) (w : World) : Calls Try.prog 32 #[.pointer none, .agg (frA f)] w (Tells (.tuple #[.string ⟨#[]⟩, .bool false, .int .i64 1]) w) := by
  have hb := Lib.hid (one_S w (frA f) 33)
  have hld := (FrAt.new w f 33).ld
  have HR := Lib.hid (fun W => cRefuse_nil f W)
  go_enter Try.func32, Try.ntmps32
  go_wp2_with fail
  refine (HR.out _).mono ?_
  rintro e w1 ⟨rfl, hb1⟩
  have HB := Lib.hid (hb.out.trans (hb1.mono (by simp)))
  clear hb1
  go_wp2
  go_ret3
  exact ⟨rfl, HB.out⟩

/-! ### Frames made -/
noncomputable def bdF (parts : Array (Nat × Value)) (W : World) : Result Next := (do pure (Next.value (← Instr.build 33 parts)) : Sem Next).run Try.prog W
theorem exec_bdF (ρ : Operand → Value) (d : Option Tmp) (ps : Array (Nat × Operand)) (t : TypeId) (pos : String) (af : _) (g : _) (W : World) :
    (execOp ρ ⟨d, .build 33 ps, t, pos, af, g⟩).run Try.prog W = bdF (ps.map fun x => (x.1, ρ x.2)) W := rfl
def frK (k : Int) : Fr := ⟨k, 0, 0, 0, 0, 0, 0, 0, 0, 0, 0, 0, false, 0, 0, 0, 0, 0, []⟩
def frW (i s : Nat) : Fr := ⟨0, 0, 0, 0, 0, 0, 0, 0, 0, 0, 0, 0, false, 0, i, s, 0, 0, []⟩
theorem bdF_k (k : Int) (W : World) : bdF #[(0, .int .i64 k)] W = .ok (.value (.agg (frA (frK k)))) W := by
  unfold bdF
  rw [Sem.run_bind, run_build W 33 #[(0, .int .i64 k)] (frA (frK k)) (by kernel_rfl)]
  rfl
theorem bdF_w (i s : Nat) (W : World) : bdF #[(10, .agg #[.int .u16 i, .int .u32 s])] W = .ok (.value (.agg (frA (frW i s)))) W := by
  unfold bdF
  rw [Sem.run_bind, run_build W 33 #[(10, .agg #[.int .u16 i, .int .u32 s])] (frA (frW i s)) (by kernel_rfl)]
  rfl
theorem fitW {i s : Nat} (hi : i ≤ 65535) (hs : s ≤ 4294967295) : FitF (frW i s) := ⟨hi, hs, by simp [frW], by simp [frW]⟩
theorem fitP {f : Fr} (h : FitF f) {n p : Nat} (b : Bs) (hn : n ≤ 255) (hp : p ≤ 255) : FitF (frP f n p b) := ⟨h.vi, h.vs, hp, hn⟩

/-! ### awake -/
def awT : Bs := [48, 49, 50, 51, 52, 53, 54, 55, 56, 57, 97, 98, 99, 100, 101, 102, 103, 104]
def aw0 : Fr := frP (frW 0 2) 2 0 (awT.take 16)
def aw1 : Fr := frP (frW 0 2) 2 1 (awT.drop 16)
theorem aw_sp : spL (frW 0 2) awT (nP awT) = [aw0, aw1] := rfl
theorem aw_e1 : errB 18 g0 aw1 = 0 ∧ doneB 18 g0 aw1 = false := by decide +kernel
theorem aw_e0 : errB 18 (putG 18 g0 aw1) aw0 = 0 ∧ doneB 18 (putG 18 g0 aw1) aw0 = true ∧ joinB (putG 18 (putG 18 g0 aw1) aw0).came = awT := by decide +kernel
theorem aw_p1 : putV 18 g0 aw1 = .tuple #[.string ⟨#[]⟩, .bool false, .int .i64 0] := by
  unfold putV outB
  rw [aw_e1.1, aw_e1.2]
  rfl
theorem aw_p0 : putV 18 (putG 18 g0 aw1) aw0 = .tuple #[.string (S awT), .bool true, .int .i64 0] := by
  unfold putV outB
  rw [aw_e0.1, aw_e0.2.1, if_pos rfl, aw_e0.2.2]
  rfl
attribute [local go_sem ↓] exec_bdF
attribute [local go_sem] bdF_k bdF_w
theorem bdF_2 (W : World) : bdF #[(10, .agg #[.int .u16 0, .int .u32 2])] W = .ok (.value (.agg (frA (frW 0 2)))) W := bdF_w 0 2 W
end Go.Proofs.Ytbfjimbffpkkhaa.Pa
