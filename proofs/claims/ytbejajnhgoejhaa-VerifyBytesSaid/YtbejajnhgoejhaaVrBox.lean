/-
  Four new blocks, and what a call behind them keeps. Conditions: none.
-/
import Derived.Test.YtbejajnhgoejhaaVrJoin
import Derived.Test.YtbejajnhgoejhaaVeFits
import Derived.Laws.BytesArg
namespace Go.Proofs.Ytbejajnhgoejhaa.Ve
open Go.RowKit
open Go.Proofs.Ytbejajnhgoejhaa.Il hiding Next
open Go.Proofs.Ytbejajnhgoejhaa.Ic

theorem box_four (w : World) (A B C D : Array Value) (t s u v : TypeId) : Below w.heap.size w ((((w.alloc (.cells A t)).alloc (.cells B s)).alloc (.cells C u)).alloc (.cells D v)) :=
  (box_three w A B C t s u).alloc (by simp; omega) _
theorem keep_new {w W w1 : World} {n : Nat} {A : Array Value} {t : TypeId} (hn : n = W.heap.size) (hb : Below (W.alloc (.cells A t)).heap.size (W.alloc (.cells A t)) w) (hb1 : Below w.heap.size w w1) :
    (∀ j x, A[j]? = some x → w1.cell? ⟨n, j, none⟩ = some x) ∧ ∀ j, w1.frozen? ⟨n, j, none⟩ = false := by
  subst hn
  have hlt : W.heap.size < (W.alloc (.cells A t)).heap.size := by simp
  refine ⟨fun j x hx => kept_cell hb1 (kept_cell hb (by rw [World.cell?_alloc_new]; exact hx)), fun j => ?_⟩
  have e1 := World.frozen?_of_block (a := ⟨W.heap.size, j, none⟩) (hb1.block W.heap.size (Nat.lt_of_lt_of_le hlt hb.size))
  have e2 := World.frozen?_of_block (a := ⟨W.heap.size, j, none⟩) (hb.block W.heap.size hlt)
  exact e1.trans (e2.trans (World.frozen?_alloc_new _ _ _ _))
/-- Four new blocks, and a call behind them. -/
structure Rb (w W : World) (I A R B : Array Value) : Prop where
  i : ∀ j x, I[j]? = some x → W.cell? ⟨w.heap.size, j, none⟩ = some x
  a : ∀ j x, A[j]? = some x → W.cell? ⟨w.heap.size + 1, j, none⟩ = some x
  r : ∀ j x, R[j]? = some x → W.cell? ⟨w.heap.size + 1 + 1, j, none⟩ = some x
  b : ∀ j x, B[j]? = some x → W.cell? ⟨w.heap.size + 1 + 1 + 1, j, none⟩ = some x
  fr : ∀ j, W.frozen? ⟨w.heap.size + 1 + 1, j, none⟩ = false
  fb : ∀ j, W.frozen? ⟨w.heap.size + 1 + 1 + 1, j, none⟩ = false
  below : Below w.heap.size w W
theorem four_boxes {w w1 : World} {A B C D : Array Value} {t s u v : TypeId} (hb : Below ((((w.alloc (.cells A t)).alloc (.cells B s)).alloc (.cells C u)).alloc (.cells D v)).heap.size ((((w.alloc (.cells A t)).alloc (.cells B s)).alloc (.cells C u)).alloc (.cells D v)) w1) : Rb w w1 A B C D := by
  have k0 := keep_new (w := (((w.alloc (.cells A t)).alloc (.cells B s)).alloc (.cells C u)).alloc (.cells D v)) (W := w) (n := w.heap.size) rfl (box_three (w.alloc (.cells A t)) B C D s u v) hb
  have k1 := keep_new (w := (((w.alloc (.cells A t)).alloc (.cells B s)).alloc (.cells C u)).alloc (.cells D v)) (W := w.alloc (.cells A t)) (n := w.heap.size + 1) (by simp) (box_two ((w.alloc (.cells A t)).alloc (.cells B s)) C D u v) hb
  have k2 := keep_new (w := (((w.alloc (.cells A t)).alloc (.cells B s)).alloc (.cells C u)).alloc (.cells D v)) (W := (w.alloc (.cells A t)).alloc (.cells B s)) (n := w.heap.size + 1 + 1) (by simp) ((Below.refl _ _).alloc (Nat.le_refl _) (.cells D v)) hb
  have k3 := keep_new (w := (((w.alloc (.cells A t)).alloc (.cells B s)).alloc (.cells C u)).alloc (.cells D v)) (W := ((w.alloc (.cells A t)).alloc (.cells B s)).alloc (.cells C u)) (n := w.heap.size + 1 + 1 + 1) (by simp) (Below.refl _ _) hb
  exact ⟨k0.1, k1.1, k2.1, k3.1, k2.2, k3.2, (box_four w A B C D t s u v).trans (hb.mono (by simp; omega))⟩
theorem below_set {N : Nat} {W0 W : World} {b : Nat} (hb : N ≤ b) (j : Nat) (v : Value) (h : Below N W0 W) : Below N W0 (W.setCell ⟨b, j, none⟩ v) := h.setCell (p := ⟨b, j, none⟩) hb v

end Go.Proofs.Ytbejajnhgoejhaa.Ve
