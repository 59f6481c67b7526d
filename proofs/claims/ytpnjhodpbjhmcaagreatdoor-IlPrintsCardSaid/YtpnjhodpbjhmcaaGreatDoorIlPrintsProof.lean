/-
  The law IlPrints returns true for every slice of instructions, and leaves its arguments as they were. Conditions: the library's package-level variables that the row lists are as the program's text lays them (the card ties them to it).
-/
import Derived.Test.YtpnjhodpbjhmcaaGreatDoorRows
import Derived.Test.YtpnjhodpbjhmcaaGreatDoorCards
import Derived.Test.YtpnjhodpbjhmcaaGreatDoorTie
import Derived.WalkKit
import Derived.ProofKit
import Derived.OpenShut
import Derived.ShutString
import Derived.ChangeOld
import Derived.Below
import Derived.SevenTiedAt
import Derived.Test.YtpnjhodpbjhmcaaGreatDoorIlPrintW
import Derived.Test.YtpnjhodpbjhmcaaGreatDoorIlOpen
import Derived.Test.YtpnjhodpbjhmcaaGreatDoorIlLaid
import Derived.Test.YtpnjhodpbjhmcaaGreatDoorIkZ
namespace Go.Proofs.YtpnjhodpbjhmcaaGreatDoor.ilPrints
open Go.ChangeShapes Go.WideShapes Go.ChangeAt Go.RowKit Il
open Go.ChangeMaps (open_string shut_string)
set_option linter.unusedVariables false

theorem own : ownKnob Tryz.prog.godebug = none := by kernel_rfl

set_option maxRecDepth 100000 in
theorem lifted (os : Os) (started : os.Started) (H : Type) (enc : TypeId × Value → H) :
    ReturnsInHanded {} Tryz.checked os 3 .any (fun w args => (Rows.ilPrintsSpec.pre enc Tryz.prog Tryz.f3 Rows.ilPrintsRow.domain false w args ∧ laidMet Tryz.prog Rows.ilPrintsRow.laid w) ∧ sizedMet enc Tryz.prog Tryz.f3 (OpenSpec.ofChange Rows.ilPrintsSpec) false w args)
      (Rows.ilPrintsSpec.post enc Tryz.prog Tryz.f3 false true false false) := by
  refine returns_laid (C := Tryz.checked) (X := fun w _ => laidMet Tryz.prog Rows.ilPrintsRow.laid w) (fun _ _ _ hh h => h.of_heap hh) own started (by kernel_rfl) Tryz.func3
    (ChangeSpec.witness_at (enc := enc) (C := Tryz.checked) (os := os) (X := fun w _ => laidMet Tryz.prog Rows.ilPrintsRow.laid w) false (laidWorld os) #[.slice none 0 0] 8 rfl (by kernel_rfl) (by kernel_rfl) (by kernel_rfl) (by kernel_rfl) (by kernel_rfl) (laidWorld_met os _)) ?_
  intro W base args ds gs before hsh hL hval0 hW
  have hval : ∀ (j : Nat) t v, Tryz.f3.params[j]? = some t → args[j]? = some v → Value.okWide Tryz.prog W .any base t v := hval0
  have hE := env_of_laid hL hsh
  have hW' := hW
  obtain ⟨p, q, hA0, hV, rfl, hfz, hnd⟩ := hW
  have hA : DataW.TrodAll enc Tryz.prog W 0 (fun _ => true) true Tryz.f3.params.toList args.toList ds p := hA0
  rw [Tryz.params3] at hA hval
  obtain ⟨v0, vs0, d0, ds0, p0, q0, hargs, rfl, rfl, h0, r0⟩ := trodAll_cons hA
  obtain ⟨rfl, rfl, rfl⟩ := trodAll_nil r0
  obtain rfl : args = #[v0] := by cases args; simp_all
  obtain ⟨rfl, rfl⟩ := trodVars_none hV
  have k0 := h0
  obtain ⟨ao0, len0, cap0, rfl⟩ := okWide_slice Tryz.underlying22 (hval 0 22 v0 rfl rfl)
  obtain ⟨fuel0, hf0⟩ := h0
  obtain ⟨xs0, rfl, I0, F0, L0⟩ := open_ins hf0
  clear hA0 hval0
  simp only [List.append_nil] at hW'
  refine (prints_walk the_code the_print cap0 ao0 xs0 W (noB_first hE) I0 F0).mono fun e W' ⟨he, bel⟩ => ?_
  subst he
  have A0 := bel.trod (by kernel_rfl) (by kernel_rfl) (by decide +kernel) k0 (fun x hx => hW'.lt x (by simp [hx]))
  exact ⟨_, rfl, _, _, _, [], _, [], hW', (trodAll_cons_mk (shut_bool Tryz.underlying4 _) trodAll_mk0), (trodAll_cons_mk A0 trodAll_mk0), rfl, bel.frame _, fun h => by cases h⟩

theorem over : Rows.ilPrintsRow.holds Tryz.pinned (OpenSpec.ofChange Rows.ilPrintsSpec) :=
  OpenClaim.holds_of_wide 3 Tryz.f3 rfl rfl rfl rfl rfl rfl rfl ⟨rfl, rfl, rfl, rfl, rfl⟩ rfl rfl rfl rfl rfl (by kernel_rfl) Tryz.func3 (by kernel_rfl)
    (of_decide_eq_true (by kernel_rfl)) (by unfold Func.isWrapper; first | (rw [if_pos (by decide +kernel)]; kernel_rfl) | (rw [if_neg (by decide +kernel)]; exact ⟨rfl, rfl⟩))
    (fun os started H enc _ => lifted os started H enc)

theorem card : Rows.IlPrintsCardSaid :=
  Claim7.holds_tied_plain_at .later [] [.data, .data, .data, .data, .pinned] true (true, "6daa73e20f16ff62c428174e904d5c0d911b3370a51005192e1e1079dd02399b") false
    over (fun _ h => by cases h) (by kernel_rfl) (fun _ h => by cases h) ilPrints_row_tie rfl ⟨rfl, rfl⟩ (by kernel_rfl) rfl
    (fun f fn hf hfn => by
      obtain rfl : f = 3 := Option.some.inj ((show Tryz.prog.funcNamed "fugleman/fuglemanlaw12.IlPrints" = some 3 by kernel_rfl).symm.trans hf) |>.symm
      obtain rfl : fn = Tryz.f3 := (Option.some.inj (Tryz.func3.symm.trans hfn)).symm
      exact ⟨by kernel_rfl, fun j t ht => by
        rw [Tryz.params3] at ht
        have hall : ∀ t ∈ (#[22] : Array TypeId), Tryz.prog.wantsStandIn t = false := by
          intro t ht
          simp at ht
          rcases ht with rfl <;> kernel_rfl
        exact hall t (Array.mem_of_getElem? ht)⟩)
    (by kernel_rfl)
end Go.Proofs.YtpnjhodpbjhmcaaGreatDoor.ilPrints
namespace Go.Proofs.YtpnjhodpbjhmcaaGreatDoor
theorem ilPrints_holds : Rows.IlPrintsCardSaid := ilPrints.card
#print axioms ilPrints_holds
end Go.Proofs.YtpnjhodpbjhmcaaGreatDoor
