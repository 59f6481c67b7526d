/-
  The reference's numbers of epochs and marks, walked. Conditions: numbers such as their kinds hold.
-/
import Derived.Test.YtindekpmicbbiaaDoorEpCmp
namespace Go.Proofs.YtindekpmicbbiaaDoor.Epo
open Go.RowKit

/-- One argument's own block. -/
def Box (w W : World) (b : Nat) (c : List Value) : Prop :=
  w.heap.size ≤ b ∧ b < W.heap.size ∧ (∀ k v, c[k]? = some v → W.cell? ⟨b, k, none⟩ = some v) ∧ Below w.heap.size w W
theorem box_mk (w : World) (c : List Value) (t : TypeId) : Box w (w.alloc (.cells c.toArray t)) w.heap.size c :=
  ⟨Nat.le_refl _, by simp, fun k v h => box_cell _ _ _ _ _ (by simpa using h), (Below.refl _ _).alloc (Nat.le_refl _) _⟩

/-- What a call that makes memory leaves of a cell that lay there. -/
theorem kept_cell {W W' : World} (hb : Below W.heap.size W W') {b k : Nat} {v : Value} (hc : W.cell? ⟨b, k, none⟩ = some v) : W'.cell? ⟨b, k, none⟩ = some v :=
  (hb.cell (p := ⟨b, k, none⟩) (World.block_lt_of_cell? W ⟨b, k, none⟩ hc)).trans hc

/-- A mark as one number. -/
def numM (x : Ep) (h : Nat) : Nat := numE x * 65536 + h

end Go.Proofs.YtindekpmicbbiaaDoor.Epo
