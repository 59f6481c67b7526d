/-
  The arguments of the law VerifyBehind, opened: how much room is behind a list. Conditions: none.
-/
import Derived.Test.YtbjmdehfdnpljaaVwOpen
namespace Go.Proofs.Ytbjmdehfdnpljaa.Ve
open Go.RowKit Go.ChangeShapes Go.WideShapes Go.Deep
open Go.Proofs.Ytbjmdehfdnpljaa.Il

theorem cap_ins {H : Type} {enc : TypeId × Value → H} {w : World} {base : Nat} {held : Bool} {fuel : Nat} {ao : Option Addr} {len cap : Nat} {x : DataW H × List MemPlace}
    (h : DataW.trod enc Try.prog w base (fun _ => true) held fuel 22 (Value.slice ao len cap).cells.toList = some x) : len ≤ cap ∧ cap ≤ maxLen ∧ (ao = none → cap = 0) := by
  rcases open_slice_fields Try.underlying22 Try.underlying54 (one_ins _ Try.underlying54) (by rw [cells_ins]; rfl) h with ⟨hcs, _⟩ | ⟨a, len', cap', m, hcs, hl, hm, hmm, hi⟩
  · simp [Value.cells] at hcs
    obtain ⟨rfl, rfl, rfl⟩ := hcs
    exact ⟨Nat.le_refl _, by unfold maxLen; omega, fun _ => rfl⟩
  · simp [Value.cells] at hcs
    obtain ⟨rfl, rfl, rfl⟩ := hcs
    exact ⟨hl, hm, fun h => by cases h⟩
end Go.Proofs.Ytbjmdehfdnpljaa.Ve
