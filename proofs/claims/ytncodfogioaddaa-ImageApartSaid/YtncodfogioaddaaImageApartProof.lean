/-
  The law ImageApart returns true for all locals, spots and directories, and leaves its arguments as they were. Conditions: none.
-/
import Derived.Test.YtncodfogioaddaaRows
import Derived.WalkKit
import Derived.ProofKit
import Derived.OpenShut
import Derived.ShutString
import Derived.ChangeOld
import Derived.Below
import Derived.Test.YtncodfogioaddaaImOpen
import Derived.Test.YtncodfogioaddaaImApart
namespace Go.Proofs.Ytncodfogioaddaa.imageApart
open Go.ChangeShapes Go.WideShapes Go.ChangeAt Go.RowKit Bl
open Go.ChangeMaps (open_string shut_string)
set_option linter.unusedVariables false

theorem own : ownKnob Try.prog.godebug = none := by kernel_rfl

set_option maxRecDepth 100000 in
theorem lifted (os : Os) (started : os.Started) (H : Type) (enc : TypeId × Value → H) :
    ReturnsInHanded {} Try.checked os 5 .any (Rows.imageApartSpec.pre6 enc Try.prog Try.f5 Rows.imageApartRow.domain false) (Rows.imageApartSpec.post enc Try.prog Try.f5 false true false false) := by
  refine returnsInHanded_of_change (C := Try.checked) own started (by kernel_rfl) Try.func5
    (ChangeSpec.witness6 (enc := enc) (C := Try.checked) false ⟨#[], #[.int .i64 0, .slice none 0 0, .slice none 0 0], []⟩ 8 (by kernel_rfl) (by kernel_rfl) (by kernel_rfl) (by kernel_rfl)) ?_
  intro W base args ds gs before hval0 hW hcnd _
  have hval : ∀ (j : Nat) t v, Try.f5.params[j]? = some t → args[j]? = some v → Value.okWide Try.prog W .any base t v := hval0
  have hW' := hW
  obtain ⟨p, q, hA0, hV, rfl, hfz, hnd⟩ := hW
  have hA : DataW.TrodAll enc Try.prog W 0 (fun _ => true) true Try.f5.params.toList args.toList ds p := hA0
  rw [Try.params5] at hA hval
  obtain ⟨v0, vs0, d0, ds0, p0, q0, hargs, rfl, rfl, h0, r0⟩ := trodAll_cons hA
  obtain ⟨v1, vs1, d1, ds1, p1, q1, rfl, rfl, rfl, h1, r1⟩ := trodAll_cons r0
  obtain ⟨v2, vs2, d2, ds2, p2, q2, rfl, rfl, rfl, h2, r2⟩ := trodAll_cons r1
  obtain ⟨rfl, rfl, rfl⟩ := trodAll_nil r2
  obtain rfl : args = #[v0, v1, v2] := by cases args; simp_all
  obtain ⟨rfl, rfl⟩ := trodVars_none hV
  have k0 := h0
  obtain ⟨i0, rfl, -, -, f0⟩ := open_int Try.underlying3 (hval 0 3 v0 rfl rfl) h0
  have k1 := h1
  obtain ⟨ao1, len1, cap1, rfl⟩ := okWide_slice Try.underlying22 (hval 1 22 v1 rfl rfl)
  obtain ⟨fuel1, hf1⟩ := h1
  obtain ⟨xs1, rfl, I1, F1, L1⟩ := open_spots hf1
  have k2 := h2
  obtain ⟨ao2, len2, cap2, rfl⟩ := okWide_slice Try.underlying23 (hval 2 23 v2 rfl rfl)
  obtain ⟨fuel2, hf2⟩ := h2
  obtain ⟨xs2, rfl, I2, C2, L2⟩ := open_blks hf2
  clear hA0 hval0
  simp only [List.append_nil] at hW'
  refine (apart_walk i0 xs1 ao1 cap1 xs2 ao2 cap2 W (Im.first I1 I2) F1 L1.1 L1.2).mono fun e W' ⟨he, bel⟩ => ?_
  subst he
  have A0 := bel.trod (by kernel_rfl) (by kernel_rfl) (by decide +kernel) k0 (fun x hx => hW'.lt x (by simp [hx]))
  have A1 := bel.trod (by kernel_rfl) (by kernel_rfl) (by decide +kernel) k1 (fun x hx => hW'.lt x (by simp [hx]))
  have A2 := bel.trod (by kernel_rfl) (by kernel_rfl) (by decide +kernel) k2 (fun x hx => hW'.lt x (by simp [hx]))
  exact ⟨_, rfl, _, _, _, [], _, [], hW', (trodAll_cons_mk (shut_bool Try.underlying4 _) trodAll_mk0), (trodAll_cons_mk A0 (trodAll_cons_mk A1 (trodAll_cons_mk A2 trodAll_mk0))), rfl, bel.frame _, fun h => by cases h⟩

theorem over : Rows.imageApartRow.holds Try.pinned (OpenSpec.ofChange Rows.imageApartSpec) :=
  OpenClaim.holds_of_wide 5 Try.f5 rfl rfl rfl rfl rfl rfl rfl ⟨rfl, rfl, rfl, rfl, rfl⟩ rfl rfl rfl rfl rfl (by kernel_rfl) Try.func5 (by kernel_rfl)
    (of_decide_eq_true (by kernel_rfl)) (by unfold Func.isWrapper; first | (rw [if_pos (by decide +kernel)]; kernel_rfl) | (rw [if_neg (by decide +kernel)]; exact ⟨rfl, rfl⟩))
    (fun os started H enc _ => lifted os started H enc)

theorem proved : Rows.ImageApartSaid :=
  over
end Go.Proofs.Ytncodfogioaddaa.imageApart
namespace Go.Proofs.Ytncodfogioaddaa
theorem imageApart_holds : Rows.ImageApartSaid := imageApart.proved
#print axioms imageApart_holds
end Go.Proofs.Ytncodfogioaddaa
