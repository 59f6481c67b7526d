/-
  The law IlNames returns true for every slice of instructions, and leaves its arguments as they were. Conditions: the library's package-level variables that the row lists are as the program's text lays them (the card ties them to it).
-/
import Derived.Test.YtpnjhodpbjhmcaaDoorRows
import Derived.Test.YtpnjhodpbjhmcaaDoorCards
import Derived.Test.YtpnjhodpbjhmcaaDoorTie
import Derived.WalkKit
import Derived.ProofKit
import Derived.OpenShut
import Derived.ShutString
import Derived.ChangeOld
import Derived.Below
import Derived.SevenTiedAt
import Derived.Test.YtpnjhodpbjhmcaaDoorIlNamesW
import Derived.Test.YtpnjhodpbjhmcaaDoorIlOpen
import Derived.Test.YtpnjhodpbjhmcaaDoorIlLaid
namespace Go.Proofs.YtpnjhodpbjhmcaaDoor.ilNames
open Go.ChangeShapes Go.WideShapes Go.ChangeAt Go.RowKit Il
open Go.ChangeMaps (open_string shut_string)
set_option linter.unusedVariables false

theorem own : ownKnob Tryd.prog.godebug = none := by kernel_rfl

set_option maxRecDepth 100000 in
theorem lifted (os : Os) (started : os.Started) (H : Type) (enc : TypeId × Value → H) :
    ReturnsInHanded {} Tryd.checked os 5 .any (fun w args => (Rows.ilNamesSpec.pre enc Tryd.prog Tryd.f5 Rows.ilNamesRow.domain false w args ∧ laidMet Tryd.prog Rows.ilNamesRow.laid w) ∧ sizedMet enc Tryd.prog Tryd.f5 (OpenSpec.ofChange Rows.ilNamesSpec) false w args)
      (Rows.ilNamesSpec.post enc Tryd.prog Tryd.f5 false true false false) := by
  refine returns_laid (C := Tryd.checked) (X := fun w _ => laidMet Tryd.prog Rows.ilNamesRow.laid w) (fun _ _ _ hh h => h.of_heap hh) own started (by kernel_rfl) Tryd.func5
    (ChangeSpec.witness_at (enc := enc) (C := Tryd.checked) (os := os) (X := fun w _ => laidMet Tryd.prog Rows.ilNamesRow.laid w) false (laidWorld os) #[.slice none 0 0] 8 rfl (by kernel_rfl) (by kernel_rfl) (by kernel_rfl) (by kernel_rfl) (by kernel_rfl) (laidWorld_met os _)) ?_
  intro W base args ds gs before hsh hL hval0 hW
  have hval : ∀ (j : Nat) t v, Tryd.f5.params[j]? = some t → args[j]? = some v → Value.okWide Tryd.prog W .any base t v := hval0
  have hE := env_of_laid hL hsh
  have hW' := hW
  obtain ⟨p, q, hA0, hV, rfl, hfz, hnd⟩ := hW
  have hA : DataW.TrodAll enc Tryd.prog W 0 (fun _ => true) true Tryd.f5.params.toList args.toList ds p := hA0
  rw [Tryd.params5] at hA hval
  obtain ⟨v0, vs0, d0, ds0, p0, q0, hargs, rfl, rfl, h0, r0⟩ := trodAll_cons hA
  obtain ⟨rfl, rfl, rfl⟩ := trodAll_nil r0
  obtain rfl : args = #[v0] := by cases args; simp_all
  obtain ⟨rfl, rfl⟩ := trodVars_none hV
  have k0 := h0
  obtain ⟨ao0, len0, cap0, rfl⟩ := okWide_slice Tryd.underlying33 (hval 0 33 v0 rfl rfl)
  obtain ⟨fuel0, hf0⟩ := h0
  obtain ⟨xs0, rfl, I0, F0, L0⟩ := open_ins hf0
  clear hA0 hval0
  simp only [List.append_nil] at hW'
  refine (names_walk the_code cap0 ao0 xs0 W (noB_first hE) I0 F0).mono fun e W' ⟨he, bel⟩ => ?_
  subst he
  have A0 := bel.trod (by kernel_rfl) (by kernel_rfl) (by decide +kernel) k0 (fun x hx => hW'.lt x (by simp [hx]))
  exact ⟨_, rfl, _, _, _, [], _, [], hW', (trodAll_cons_mk (shut_bool Tryd.underlying4 _) trodAll_mk0), (trodAll_cons_mk A0 trodAll_mk0), rfl, bel.frame _, fun h => by cases h⟩

theorem over : Rows.ilNamesRow.holds Tryd.pinned (OpenSpec.ofChange Rows.ilNamesSpec) :=
  OpenClaim.holds_of_wide 5 Tryd.f5 rfl rfl rfl rfl rfl rfl rfl ⟨rfl, rfl, rfl, rfl, rfl⟩ rfl rfl rfl rfl rfl (by kernel_rfl) Tryd.func5 (by kernel_rfl)
    (of_decide_eq_true (by kernel_rfl)) (by unfold Func.isWrapper; first | (rw [if_pos (by decide +kernel)]; kernel_rfl) | (rw [if_neg (by decide +kernel)]; exact ⟨rfl, rfl⟩))
    (fun os started H enc _ => lifted os started H enc)

theorem card : Rows.IlNamesCardSaid :=
  Claim7.holds_tied_plain_at .later [] [.data, .data, .data, .data, .pinned] true (true, "a046bba6b370c20b7530ba9c85a7e6f6597ae818724483f924135a9efdf85bc5") false
    over (fun _ h => by cases h) (by kernel_rfl) (fun _ h => by cases h) ilNames_row_tie rfl ⟨rfl, rfl⟩ (by kernel_rfl) rfl
    (fun f fn hf hfn => by
      obtain rfl : f = 5 := Option.some.inj ((show Tryd.prog.funcNamed "fugleman/fuglemanlaw12.IlNames" = some 5 by kernel_rfl).symm.trans hf) |>.symm
      obtain rfl : fn = Tryd.f5 := (Option.some.inj (Tryd.func5.symm.trans hfn)).symm
      exact ⟨by kernel_rfl, fun j t ht => by
        rw [Tryd.params5] at ht
        have hall : ∀ t ∈ (#[33] : Array TypeId), Tryd.prog.wantsStandIn t = false := by
          intro t ht
          simp at ht
          rcases ht with rfl <;> kernel_rfl
        exact hall t (Array.mem_of_getElem? ht)⟩)
    (by kernel_rfl)
end Go.Proofs.YtpnjhodpbjhmcaaDoor.ilNames
namespace Go.Proofs.YtpnjhodpbjhmcaaDoor
theorem ilNames_holds : Rows.IlNamesCardSaid := ilNames.card
#print axioms ilNames_holds
end Go.Proofs.YtpnjhodpbjhmcaaDoor
