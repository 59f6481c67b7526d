/-
  At: walked. Conditions: as it states.
-/
import Derived.Test.YtbfjimbffpkkhaaPaGlue
namespace Go.Proofs.Ytbfjimbffpkkhaa.Pa
open Go.RowKit

structure Ap (w W : World) (B b n : Nat) (g : Gl) : Prop where
  gl : GAt W b n g
  bel : Below w.heap.size w W
  own : B = w.heap.size
  lt : b < B
  two : (∃ x y, W.heap[B]? = some (.cells #[x, y] 31 (0, 0)))
section
variable {w W : World} {B b n : Nat} {g : Gl}
theorem Ap.drew (h : Ap w W B b n g) : Ap w W.drew B b n g := ⟨h.gl, h.bel.drew, h.own, h.lt, h.two⟩
theorem Ap.set (h : Ap w W B b n g) (k : Nat) (v : Value) : Ap w (W.setCell ⟨B, k, none⟩ v) B b n g := by
  refine ⟨h.gl.only (ms := [B]) (OnlyL.set (by simp) k v) (by have := h.lt; simp; omega), h.bel.setCell (p := ⟨B, k, none⟩) (by have := h.own; simp; omega) v, h.own, h.lt, ?_⟩
  obtain ⟨x, y, hc⟩ := h.two
  have := heap_setCell_same W B k _ _ v hc
  match k with
  | 0 => exact ⟨v, y, by simpa using this⟩
  | 1 => exact ⟨x, v, by simpa using this⟩
  | k + 2 => exact ⟨x, y, by simpa [Array.setIfInBounds] using this⟩
theorem Ap.new (hg : GAt w b n g) (x y : Value) : Ap w (w.alloc (.cells #[x, y] 31)) w.heap.size b n g :=
  ⟨hg.below (one_S _ _ _), one_S _ _ _, rfl, hg.lt, _, _, heap_alloc_new _ _⟩
theorem Ap.frees (h : Ap w W B b n g) (k : Nat) : W.frozen? ⟨B, k, none⟩ = false := by
  obtain ⟨x, y, hc⟩ := h.two
  exact frozen_of _ _ _ _ _ hc
theorem Ap.some (h : Ap w W B b n g) : (∃ v, W.cell? ⟨B, 0, none⟩ = .some v) ∧ ∃ v, W.cell? ⟨B, 1, none⟩ = .some v := by
  obtain ⟨x, y, hc⟩ := h.two
  exact ⟨⟨x, by rw [cell_of_row _ _ _ _ _ _ hc]; rfl⟩, ⟨y, by rw [cell_of_row _ _ _ _ _ _ hc]; rfl⟩⟩
end

end Go.Proofs.Ytbfjimbffpkkhaa.Pa
