/-
  The law RetainEnds returns true for every record and number, and leaves its arguments as they were. Conditions: the library's package-level variables that the row lists are as the program's text lays them (the card ties them to it).
-/
import Derived.Test.YtahmngmbgbcmhaaDoorRows
import Derived.Test.YtahmngmbgbcmhaaDoorCards
import Derived.Test.YtahmngmbgbcmhaaDoorTie
import Derived.WalkKit
import Derived.ProofKit
import Derived.OpenShut
import Derived.ShutString
import Derived.ChangeOld
import Derived.Below
import Derived.SevenTiedAt
import Derived.Test.YtahmngmbgbcmhaaDoorRtOpen
import Derived.Test.YtahmngmbgbcmhaaDoorRtEndW
import Derived.Test.YtahmngmbgbcmhaaDoorRtCode
namespace Go.Proofs.YtahmngmbgbcmhaaDoor.retainEnds
open Go.ChangeShapes Go.WideShapes Go.ChangeAt Go.RowKit Ret
open Go.ChangeMaps (open_string shut_string)
set_option linter.unusedVariables false

theorem own : ownKnob Tryd.prog.godebug = none := by kernel_rfl

set_option maxRecDepth 100000 in
theorem lifted (os : Os) (started : os.Started) (H : Type) (enc : TypeId × Value → H) :
    ReturnsInHanded {} Tryd.checked os 6 .any (fun w args => (Rows.retainEndsSpec.pre enc Tryd.prog Tryd.f6 Rows.retainEndsRow.domain false w args ∧ laidMet Tryd.prog Rows.retainEndsRow.laid w) ∧ sizedMet enc Tryd.prog Tryd.f6 (OpenSpec.ofChange Rows.retainEndsSpec) false w args)
      (Rows.retainEndsSpec.post enc Tryd.prog Tryd.f6 false true false false) := by
  refine returnsInHanded_of_change_and (C := Tryd.checked) (X := fun w _ => laidMet Tryd.prog Rows.retainEndsRow.laid w) (fun _ _ _ hh h => h.of_heap hh) own started (by kernel_rfl) Tryd.func6
    (ChangeSpec.witness_at (enc := enc) (C := Tryd.checked) (os := os) (X := fun w _ => laidMet Tryd.prog Rows.retainEndsRow.laid w) false (laidWorld os) #[.agg #[.int .u32 0, .int .u16 0, .string ⟨#[]⟩], .int .u8 0] 8 rfl (by kernel_rfl) (by kernel_rfl) (by kernel_rfl) (by kernel_rfl) (by kernel_rfl) (laidWorld_met os _)) ?_
  intro W base args ds gs before hval0 hW _ _ hL _
  have hval : ∀ (j : Nat) t v, Tryd.f6.params[j]? = some t → args[j]? = some v → Value.okWide Tryd.prog W .any base t v := hval0
  have hE := env_of_laid hL
  have hW' := hW
  obtain ⟨p, q, hA0, hV, rfl, hfz, hnd⟩ := hW
  have hA : DataW.TrodAll enc Tryd.prog W 0 (fun _ => true) true Tryd.f6.params.toList args.toList ds p := hA0
  rw [Tryd.params6] at hA hval
  obtain ⟨v0, vs0, d0, ds0, p0, q0, hargs, rfl, rfl, h0, r0⟩ := trodAll_cons hA
  obtain ⟨v1, vs1, d1, ds1, p1, q1, rfl, rfl, rfl, h1, r1⟩ := trodAll_cons r0
  obtain ⟨rfl, rfl, rfl⟩ := trodAll_nil r1
  obtain rfl : args = #[v0, v1] := by cases args; simp_all
  obtain ⟨rfl, rfl⟩ := trodVars_none hV
  have k0 := h0
  obtain ⟨x0, f0, rfl⟩ := open_record (hval 0 39 v0 rfl rfl) h0
  have k1 := h1
  obtain ⟨z1, rfl, -, -, f1⟩ := open_int Tryd.underlying5 (hval 1 5 v1 rfl rfl) h1
  obtain ⟨n1, rfl, g1⟩ := u8_nat f1
  clear hA0 hval0
  simp only [List.append_nil] at hW'
  refine (ends_walk the_code x0.q x0.i n1 x0.d W f0.2.2 g1 f0.1 f0.2.1).mono fun e W' ⟨he, bel⟩ => ?_
  subst he
  have A0 := bel.trod (by kernel_rfl) (by kernel_rfl) (by decide +kernel) k0 (fun x hx => hW'.lt x (by simp [hx]))
  have A1 := bel.trod (by kernel_rfl) (by kernel_rfl) (by decide +kernel) k1 (fun x hx => hW'.lt x (by simp [hx]))
  exact ⟨_, rfl, _, _, _, [], _, [], hW', (trodAll_cons_mk (shut_bool Tryd.underlying4 _) trodAll_mk0), (trodAll_cons_mk A0 (trodAll_cons_mk A1 trodAll_mk0)), rfl, bel.frame _, fun h => by cases h⟩

theorem over : Rows.retainEndsRow.holds Tryd.pinned (OpenSpec.ofChange Rows.retainEndsSpec) :=
  OpenClaim.holds_of_wide 6 Tryd.f6 rfl rfl rfl rfl rfl rfl rfl ⟨rfl, rfl, rfl, rfl, rfl⟩ rfl rfl rfl rfl rfl (by kernel_rfl) Tryd.func6 (by kernel_rfl)
    (of_decide_eq_true (by kernel_rfl)) (by unfold Func.isWrapper; first | (rw [if_pos (by decide +kernel)]; kernel_rfl) | (rw [if_neg (by decide +kernel)]; exact ⟨rfl, rfl⟩))
    (fun os started H enc _ => lifted os started H enc)

theorem card : Rows.RetainEndsCardSaid :=
  Claim7.holds_tied_plain_at .later [] [.data, .pinned] true (true, "465382ad5f9bdc10093eec78e0a5a65d4c56d8b1c295605d1fc6236e1b0ab26d") false
    over (fun _ h => by cases h) (by kernel_rfl) (fun _ h => by cases h) retainEnds_row_tie rfl ⟨rfl, rfl⟩ (by kernel_rfl) rfl
    (fun f fn hf hfn => by
      obtain rfl : f = 6 := Option.some.inj ((show Tryd.prog.funcNamed "fugleman/fuglemanlaw07.RetainEnds" = some 6 by kernel_rfl).symm.trans hf) |>.symm
      obtain rfl : fn = Tryd.f6 := (Option.some.inj (Tryd.func6.symm.trans hfn)).symm
      exact ⟨by kernel_rfl, fun j t ht => by
        rw [Tryd.params6] at ht
        have hall : ∀ t ∈ (#[39, 5] : Array TypeId), Tryd.prog.wantsStandIn t = false := by
          intro t ht
          simp at ht
          rcases ht with rfl | rfl <;> kernel_rfl
        exact hall t (Array.mem_of_getElem? ht)⟩)
    (by kernel_rfl)
end Go.Proofs.YtahmngmbgbcmhaaDoor.retainEnds
namespace Go.Proofs.YtahmngmbgbcmhaaDoor
theorem retainEnds_holds : Rows.RetainEndsCardSaid := retainEnds.card
#print axioms retainEnds_holds
end Go.Proofs.YtahmngmbgbcmhaaDoor
