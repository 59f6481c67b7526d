/-
  The law MembersParts returns true for every set and two bytes, and leaves its arguments as they were. Conditions: the library's package-level variables that the row lists are as the program's text lays them (the card ties them to it).
-/
import Derived.Test.YtgeelnpdahlcpaaDoorRows
import Derived.Test.YtgeelnpdahlcpaaDoorCards
import Derived.Test.YtgeelnpdahlcpaaDoorTie
import Derived.WalkKit
import Derived.ProofKit
import Derived.OpenShut
import Derived.ShutString
import Derived.ChangeOld
import Derived.Below
import Derived.SevenTiedAt
import Derived.Test.YtgeelnpdahlcpaaDoorMemOpen
import Derived.Test.YtgeelnpdahlcpaaDoorMemLaws
namespace Go.Proofs.YtgeelnpdahlcpaaDoor.membersParts
open Go.ChangeShapes Go.WideShapes Go.ChangeAt Go.RowKit
open Go.ChangeMaps (open_string shut_string)
set_option linter.unusedVariables false

theorem own : ownKnob Tryd.prog.godebug = none := by kernel_rfl

set_option maxRecDepth 100000 in
theorem lifted (os : Os) (started : os.Started) (H : Type) (enc : TypeId × Value → H) :
    ReturnsInHanded {} Tryd.checked os 7 .any (fun w args => (Rows.membersPartsSpec.pre enc Tryd.prog Tryd.f7 Rows.membersPartsRow.domain false w args ∧ laidMet Tryd.prog Rows.membersPartsRow.laid w) ∧ sizedMet enc Tryd.prog Tryd.f7 (OpenSpec.ofChange Rows.membersPartsSpec) false w args)
      (Rows.membersPartsSpec.post enc Tryd.prog Tryd.f7 false true false false) := by
  refine returnsInHanded_of_change_and (C := Tryd.checked) (X := fun w _ => laidMet Tryd.prog Rows.membersPartsRow.laid w) (fun _ _ _ hh h => h.of_heap hh) own started (by kernel_rfl) Tryd.func7
    (ChangeSpec.witness_at (enc := enc) (C := Tryd.checked) (os := os) (X := fun w _ => laidMet Tryd.prog Rows.membersPartsRow.laid w) false (laidWorld os) #[.int .u32 0, .agg #[.int .u8 0, .int .u8 0]] 8 rfl (by kernel_rfl) (by kernel_rfl) (by kernel_rfl) (by kernel_rfl) (by kernel_rfl) (laidWorld_met os _)) ?_
  intro W base args ds gs before hval0 hW _ _ hL _
  have hval : ∀ (j : Nat) t v, Tryd.f7.params[j]? = some t → args[j]? = some v → Value.okWide Tryd.prog W .any base t v := hval0
  have hE := env_of_laid hL
  have hW' := hW
  obtain ⟨p, q, hA0, hV, rfl, hfz, hnd⟩ := hW
  have hA : DataW.TrodAll enc Tryd.prog W 0 (fun _ => true) true Tryd.f7.params.toList args.toList ds p := hA0
  rw [Tryd.params7] at hA hval
  obtain ⟨v0, vs0, d0, ds0, p0, q0, hargs, rfl, rfl, h0, r0⟩ := trodAll_cons hA
  obtain ⟨v1, vs1, d1, ds1, p1, q1, rfl, rfl, rfl, h1, r1⟩ := trodAll_cons r0
  obtain ⟨rfl, rfl, rfl⟩ := trodAll_nil r1
  obtain rfl : args = #[v0, v1] := by cases args; simp_all
  obtain ⟨rfl, rfl⟩ := trodVars_none hV
  have k0 := h0
  obtain ⟨z0, rfl, -, -, f0⟩ := open_int Tryd.underlying23 (hval 0 23 v0 rfl rfl) h0
  obtain ⟨s0, rfl⟩ := u32_set f0
  have k1 := h1
  obtain ⟨x1, y1, f1, g1, rfl⟩ := open_pair (hval 1 41 v1 rfl rfl) h1
  clear hA0 hval0
  simp only [List.append_nil] at hW'
  refine (parts_walk s0 x1 y1 f1 g1 W hE).mono fun e W' ⟨he, bel⟩ => ?_
  subst he
  have A0 := bel.trod (by kernel_rfl) (by kernel_rfl) (by decide +kernel) k0 (fun x hx => hW'.lt x (by simp [hx]))
  have A1 := bel.trod (by kernel_rfl) (by kernel_rfl) (by decide +kernel) k1 (fun x hx => hW'.lt x (by simp [hx]))
  exact ⟨_, rfl, _, _, _, [], _, [], hW', (trodAll_cons_mk (shut_bool Tryd.underlying4 _) trodAll_mk0), (trodAll_cons_mk A0 (trodAll_cons_mk A1 trodAll_mk0)), rfl, bel.frame _, fun h => by cases h⟩

theorem over : Rows.membersPartsRow.holds Tryd.pinned (OpenSpec.ofChange Rows.membersPartsSpec) :=
  OpenClaim.holds_of_wide 7 Tryd.f7 rfl rfl rfl rfl rfl rfl rfl ⟨rfl, rfl, rfl, rfl, rfl⟩ rfl rfl rfl rfl rfl (by kernel_rfl) Tryd.func7 (by kernel_rfl)
    (of_decide_eq_true (by kernel_rfl)) (by unfold Func.isWrapper; first | (rw [if_pos (by decide +kernel)]; kernel_rfl) | (rw [if_neg (by decide +kernel)]; exact ⟨rfl, rfl⟩))
    (fun os started H enc _ => lifted os started H enc)

theorem card : Rows.MembersPartsCardSaid :=
  Claim7.holds_tied_plain_at .later [] [.data, .data, .data] true (true, "1eefa9a295c7d133889b5a2789209e9f7188e39ac98ab43b7d5af13e00e36f82") false
    over (fun _ h => by cases h) (by kernel_rfl) (fun _ h => by cases h) membersParts_row_tie rfl ⟨rfl, rfl⟩ (by kernel_rfl) rfl
    (fun f fn hf hfn => by
      obtain rfl : f = 7 := Option.some.inj ((show Tryd.prog.funcNamed "fugleman/fuglemanlaw05.MembersParts" = some 7 by kernel_rfl).symm.trans hf) |>.symm
      obtain rfl : fn = Tryd.f7 := (Option.some.inj (Tryd.func7.symm.trans hfn)).symm
      exact ⟨by kernel_rfl, fun j t ht => by
        rw [Tryd.params7] at ht
        have hall : ∀ t ∈ (#[23, 41] : Array TypeId), Tryd.prog.wantsStandIn t = false := by
          intro t ht
          simp at ht
          rcases ht with rfl | rfl <;> kernel_rfl
        exact hall t (Array.mem_of_getElem? ht)⟩)
    (by kernel_rfl)
end Go.Proofs.YtgeelnpdahlcpaaDoor.membersParts
namespace Go.Proofs.YtgeelnpdahlcpaaDoor
theorem membersParts_holds : Rows.MembersPartsCardSaid := membersParts.card
#print axioms membersParts_holds
end Go.Proofs.YtgeelnpdahlcpaaDoor
