/-
  The law MembersBetween returns true for every set and two numbers, and leaves its arguments as they were. Conditions: the library's package-level variables that the row lists are as the program's text lays them (the card ties them to it).
-/
import Derived.Test.YtgeelnpdahlcpaaDoorRows
import Derived.Test.YtgeelnpdahlcpaaDoorCards
import Derived.Test.YtgeelnpdahlcpaaDoorTie
import Derived.WalkKit
import Derived.ProofKit
import Derived.OpenShut
import Derived.ShutString
import Derived.ChangeOld
import Derived.Below
import Derived.SevenTiedAt
import Derived.Test.YtgeelnpdahlcpaaDoorMemOpen
import Derived.Test.YtgeelnpdahlcpaaDoorMemAwake
namespace Go.Proofs.YtgeelnpdahlcpaaDoor.membersBetween
open Go.ChangeShapes Go.WideShapes Go.ChangeAt Go.RowKit
open Go.ChangeMaps (open_string shut_string)
set_option linter.unusedVariables false

theorem own : ownKnob Tryd.prog.godebug = none := by kernel_rfl

set_option maxRecDepth 100000 in
theorem lifted (os : Os) (started : os.Started) (H : Type) (enc : TypeId × Value → H) :
    ReturnsInHanded {} Tryd.checked os 5 .any (fun w args => (Rows.membersBetweenSpec.pre enc Tryd.prog Tryd.f5 Rows.membersBetweenRow.domain false w args ∧ laidMet Tryd.prog Rows.membersBetweenRow.laid w) ∧ sizedMet enc Tryd.prog Tryd.f5 (OpenSpec.ofChange Rows.membersBetweenSpec) false w args)
      (Rows.membersBetweenSpec.post enc Tryd.prog Tryd.f5 false true false false) := by
  refine returnsInHanded_of_change_and (C := Tryd.checked) (X := fun w _ => laidMet Tryd.prog Rows.membersBetweenRow.laid w) (fun _ _ _ hh h => h.of_heap hh) own started (by kernel_rfl) Tryd.func5
    (ChangeSpec.witness_at (enc := enc) (C := Tryd.checked) (os := os) (X := fun w _ => laidMet Tryd.prog Rows.membersBetweenRow.laid w) false (laidWorld os) #[.int .u32 0, .int .i64 0, .int .i64 0] 8 rfl (by kernel_rfl) (by kernel_rfl) (by kernel_rfl) (by kernel_rfl) (by kernel_rfl) (laidWorld_met os _)) ?_
  intro W base args ds gs before hval0 hW _ _ hL _
  have hval : ∀ (j : Nat) t v, Tryd.f5.params[j]? = some t → args[j]? = some v → Value.okWide Tryd.prog W .any base t v := hval0
  have hE := env_of_laid hL
  have hW' := hW
  obtain ⟨p, q, hA0, hV, rfl, hfz, hnd⟩ := hW
  have hA : DataW.TrodAll enc Tryd.prog W 0 (fun _ => true) true Tryd.f5.params.toList args.toList ds p := hA0
  rw [Tryd.params5] at hA hval
  obtain ⟨v0, vs0, d0, ds0, p0, q0, hargs, rfl, rfl, h0, r0⟩ := trodAll_cons hA
  obtain ⟨v1, vs1, d1, ds1, p1, q1, rfl, rfl, rfl, h1, r1⟩ := trodAll_cons r0
  obtain ⟨v2, vs2, d2, ds2, p2, q2, rfl, rfl, rfl, h2, r2⟩ := trodAll_cons r1
  obtain ⟨rfl, rfl, rfl⟩ := trodAll_nil r2
  obtain rfl : args = #[v0, v1, v2] := by cases args; simp_all
  obtain ⟨rfl, rfl⟩ := trodVars_none hV
  have k0 := h0
  obtain ⟨z0, rfl, -, -, f0⟩ := open_int Tryd.underlying23 (hval 0 23 v0 rfl rfl) h0
  obtain ⟨s0, rfl⟩ := u32_set f0
  have k1 := h1
  obtain ⟨i1, rfl, -, -, f1⟩ := open_int Tryd.underlying3 (hval 1 3 v1 rfl rfl) h1
  have k2 := h2
  obtain ⟨i2, rfl, -, -, f2⟩ := open_int Tryd.underlying3 (hval 2 3 v2 rfl rfl) h2
  clear hA0 hval0
  simp only [List.append_nil] at hW'
  refine (between_walk s0 i1 i2 W hE).mono fun e W' ⟨he, bel⟩ => ?_
  subst he
  have A0 := bel.trod (by kernel_rfl) (by kernel_rfl) (by decide +kernel) k0 (fun x hx => hW'.lt x (by simp [hx]))
  have A1 := bel.trod (by kernel_rfl) (by kernel_rfl) (by decide +kernel) k1 (fun x hx => hW'.lt x (by simp [hx]))
  have A2 := bel.trod (by kernel_rfl) (by kernel_rfl) (by decide +kernel) k2 (fun x hx => hW'.lt x (by simp [hx]))
  exact ⟨_, rfl, _, _, _, [], _, [], hW', (trodAll_cons_mk (shut_bool Tryd.underlying4 _) trodAll_mk0), (trodAll_cons_mk A0 (trodAll_cons_mk A1 (trodAll_cons_mk A2 trodAll_mk0))), rfl, bel.frame _, fun h => by cases h⟩

theorem over : Rows.membersBetweenRow.holds Tryd.pinned (OpenSpec.ofChange Rows.membersBetweenSpec) :=
  OpenClaim.holds_of_wide 5 Tryd.f5 rfl rfl rfl rfl rfl rfl rfl ⟨rfl, rfl, rfl, rfl, rfl⟩ rfl rfl rfl rfl rfl (by kernel_rfl) Tryd.func5 (by kernel_rfl)
    (of_decide_eq_true (by kernel_rfl)) (by unfold Func.isWrapper; first | (rw [if_pos (by decide +kernel)]; kernel_rfl) | (rw [if_neg (by decide +kernel)]; exact ⟨rfl, rfl⟩))
    (fun os started H enc _ => lifted os started H enc)

theorem card : Rows.MembersBetweenCardSaid :=
  Claim7.holds_tied_plain_at .later [] [.data, .data, .data] true (true, "1eefa9a295c7d133889b5a2789209e9f7188e39ac98ab43b7d5af13e00e36f82") false
    over (fun _ h => by cases h) (by kernel_rfl) (fun _ h => by cases h) membersBetween_row_tie rfl ⟨rfl, rfl⟩ (by kernel_rfl) rfl
    (fun f fn hf hfn => by
      obtain rfl : f = 5 := Option.some.inj ((show Tryd.prog.funcNamed "fugleman/fuglemanlaw05.MembersBetween" = some 5 by kernel_rfl).symm.trans hf) |>.symm
      obtain rfl : fn = Tryd.f5 := (Option.some.inj (Tryd.func5.symm.trans hfn)).symm
      exact ⟨by kernel_rfl, fun j t ht => by
        rw [Tryd.params5] at ht
        have hall : ∀ t ∈ (#[23, 3, 3] : Array TypeId), Tryd.prog.wantsStandIn t = false := by
          intro t ht
          simp at ht
          rcases ht with rfl | rfl | rfl <;> kernel_rfl
        exact hall t (Array.mem_of_getElem? ht)⟩)
    (by kernel_rfl)
end Go.Proofs.YtgeelnpdahlcpaaDoor.membersBetween
namespace Go.Proofs.YtgeelnpdahlcpaaDoor
theorem membersBetween_holds : Rows.MembersBetweenCardSaid := membersBetween.card
#print axioms membersBetween_holds
end Go.Proofs.YtgeelnpdahlcpaaDoor
