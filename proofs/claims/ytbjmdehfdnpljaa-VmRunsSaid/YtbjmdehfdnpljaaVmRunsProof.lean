/-
  The law VmRuns returns true of each program, all areas and times, and leaves its arguments as they were. Conditions: none.
-/
import Derived.Test.YtbjmdehfdnpljaaRows
import Derived.WalkKit
import Derived.ProofKit
import Derived.OpenShut
import Derived.ShutString
import Derived.ChangeOld
import Derived.Below
import Derived.Test.YtbjmdehfdnpljaaVnRx
import Derived.Test.YtbjmdehfdnpljaaVwOc
namespace Go.Proofs.Ytbjmdehfdnpljaa.vmRuns
open Go.ChangeShapes Go.WideShapes Go.ChangeAt Go.RowKit Vm Ve
open Go.ChangeMaps (open_string shut_string)
set_option linter.unusedVariables false

theorem own : ownKnob Try.prog.godebug = none := by kernel_rfl

set_option maxRecDepth 100000 in
theorem lifted (os : Os) (started : os.Started) (H : Type) (enc : TypeId × Value → H) :
    ReturnsInHanded {} Try.checked os 4 .any (Rows.vmRunsSpec.pre6 enc Try.prog Try.f4 Rows.vmRunsRow.domain false) (Rows.vmRunsSpec.post enc Try.prog Try.f4 false true false false) := by
  refine returnsInHanded_of_change (C := Try.checked) own started (by kernel_rfl) Try.func4
    (ChangeSpec.witness6 (enc := enc) (C := Try.checked) false ⟨#[], #[.slice none 0 0, .agg #[.string ByteArray.empty, .string ByteArray.empty, .string ByteArray.empty, .string ByteArray.empty], .int .i64 0], []⟩ 8 (by kernel_rfl) (by kernel_rfl) (by kernel_rfl) (by kernel_rfl)) ?_
  intro W base args ds gs before hval0 hW hcnd _
  have hval : ∀ (j : Nat) t v, Try.f4.params[j]? = some t → args[j]? = some v → Value.okWide Try.prog W .any base t v := hval0
  have hW' := hW
  obtain ⟨p, q, hA0, hV, rfl, hfz, hnd⟩ := hW
  have hA : DataW.TrodAll enc Try.prog W 0 (fun _ => true) true Try.f4.params.toList args.toList ds p := hA0
  rw [Try.params4] at hA hval
  obtain ⟨v0, vs0, d0, ds0, p0, q0, hargs, rfl, rfl, h0, r0⟩ := trodAll_cons hA
  obtain ⟨v1, vs1, d1, ds1, p1, q1, rfl, rfl, rfl, h1, r1⟩ := trodAll_cons r0
  obtain ⟨v2, vs2, d2, ds2, p2, q2, rfl, rfl, rfl, h2, r2⟩ := trodAll_cons r1
  obtain ⟨rfl, rfl, rfl⟩ := trodAll_nil r2
  obtain rfl : args = #[v0, v1, v2] := by cases args; simp_all
  obtain ⟨rfl, rfl⟩ := trodVars_none hV
  have k0 := h0
  obtain ⟨ao0, len0, cap0, rfl⟩ := okWide_slice Try.underlying22 (hval 0 22 v0 rfl rfl)
  obtain ⟨fuel0, hf0⟩ := h0
  have C0 := cap_ins hf0
  obtain ⟨xs0, rfl, I0, F0, L0⟩ := open_ins hf0
  have k1 := h1
  obtain ⟨I1, Q1, M1, R1, rfl⟩ := open_img (hval 1 32 v1 rfl rfl) h1
  have k2 := h2
  obtain ⟨i2, rfl, -, -, f2⟩ := open_int Try.underlying3 (hval 2 3 v2 rfl rfl) h2
  clear hA0 hval0
  simp only [List.append_nil] at hW'
  refine (runs_walk xs0 ao0 cap0 I1 Q1 M1 R1 i2 W I0 F0 L0 C0.2.2).mono fun e W' ⟨he, bel⟩ => ?_
  subst he
  have A0 := bel.trod (by kernel_rfl) (by kernel_rfl) (by decide +kernel) k0 (fun x hx => hW'.lt x (by simp [hx]))
  have A1 := bel.trod (by kernel_rfl) (by kernel_rfl) (by decide +kernel) k1 (fun x hx => hW'.lt x (by simp [hx]))
  have A2 := bel.trod (by kernel_rfl) (by kernel_rfl) (by decide +kernel) k2 (fun x hx => hW'.lt x (by simp [hx]))
  exact ⟨_, rfl, _, _, _, [], _, [], hW', (trodAll_cons_mk (shut_bool Try.underlying4 _) trodAll_mk0), (trodAll_cons_mk A0 (trodAll_cons_mk A1 (trodAll_cons_mk A2 trodAll_mk0))), rfl, bel.frame _, fun h => by cases h⟩

theorem over : Rows.vmRunsRow.holds Try.pinned (OpenSpec.ofChange Rows.vmRunsSpec) :=
  OpenClaim.holds_of_wide 4 Try.f4 rfl rfl rfl rfl rfl rfl rfl ⟨rfl, rfl, rfl, rfl, rfl⟩ rfl rfl rfl rfl rfl (by kernel_rfl) Try.func4 (by kernel_rfl)
    (of_decide_eq_true (by kernel_rfl)) (by unfold Func.isWrapper; first | (rw [if_pos (by decide +kernel)]; kernel_rfl) | (rw [if_neg (by decide +kernel)]; exact ⟨rfl, rfl⟩))
    (fun os started H enc _ => lifted os started H enc)

theorem proved : Rows.VmRunsSaid :=
  over
end Go.Proofs.Ytbjmdehfdnpljaa.vmRuns
namespace Go.Proofs.Ytbjmdehfdnpljaa
theorem vmRuns_holds : Rows.VmRunsSaid := vmRuns.proved
#print axioms vmRuns_holds
end Go.Proofs.Ytbjmdehfdnpljaa
