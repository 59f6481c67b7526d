/-
  Comparing epochs, walked. Conditions: none.
-/
import Derived.Test.YtindekpmicbbiaaDoorEpOrd
import Derived.Deep.RegionHeld3
namespace Go.Proofs.YtindekpmicbbiaaDoor.Epo
open Go.RowKit

theorem still_of {P : Program} {f : FuncId} {args : Array Value} {v : Value} {w : World} (h : Calls P f args w fun e w' => e = .returned v ∧ w = w') :
    Calls P f args w fun e w' => e = .returned v ∧ w' = w := h.mono fun _ _ ⟨he, hw⟩ => ⟨he, hw.symm⟩

/-- A new block's cells. -/
theorem box_cell (w : World) (c : Array Value) (t : TypeId) (k : Nat) (v : Value) (h : c[k]? = some v) : (w.alloc (.cells c t)).cell? ⟨w.heap.size, k, none⟩ = some v := by
  rw [World.cell?_alloc_new]; exact h
theorem old_cell (w : World) (o : Obj) (b k : Nat) (h : b < w.heap.size) : (w.alloc o).cell? ⟨b, k, none⟩ = w.cell? ⟨b, k, none⟩ :=
  ((Below.refl w.heap.size w).alloc (Nat.le_refl _) o).cell (p := ⟨b, k, none⟩) h

/-- Two arguments' own blocks, of three cells each. -/
def Boxes (w W : World) (b1 b2 : Nat) (c1 c2 : List Value) : Prop :=
  w.heap.size ≤ b1 ∧ w.heap.size ≤ b2 ∧ b1 < W.heap.size ∧ b2 < W.heap.size ∧ (∀ k v, c1[k]? = some v → W.cell? ⟨b1, k, none⟩ = some v) ∧ (∀ k v, c2[k]? = some v → W.cell? ⟨b2, k, none⟩ = some v) ∧ Below w.heap.size w W

theorem boxes_mk (w : World) (c1 c2 : List Value) (t1 t2 : TypeId) : Boxes w ((w.alloc (.cells c1.toArray t1)).alloc (.cells c2.toArray t2)) w.heap.size (w.heap.size + 1) c1 c2 := by
  refine ⟨Nat.le_refl _, Nat.le_succ _, by simp; omega, by simp, fun k v h => ?_, fun k v h => ?_, ((Below.refl _ _).alloc (Nat.le_refl _) _).alloc (by simp) _⟩
  · rw [old_cell _ _ _ _ (by simp)]
    exact box_cell _ _ _ _ _ (by simpa using h)
  · have := box_cell (w.alloc (.cells c1.toArray t1)) c2.toArray t2 k v (by simpa using h)
    simpa using this

theorem Boxes.below {w W W' : World} {b1 b2 : Nat} {c1 c2 : List Value} (h : Boxes w W b1 b2 c1 c2) (hb : Below W.heap.size W W') : Boxes w W' b1 b2 c1 c2 := by
  obtain ⟨h1, h2, h3, h4, h5, h6, h7⟩ := h
  refine ⟨h1, h2, Nat.lt_of_lt_of_le h3 hb.size, Nat.lt_of_lt_of_le h4 hb.size, fun k v hk => (hb.cell (p := ⟨b1, k, none⟩) h3).trans (h5 k v hk), fun k v hk => (hb.cell (p := ⟨b2, k, none⟩) h4).trans (h6 k v hk), h7.trans (hb.mono h7.size)⟩

end Go.Proofs.YtindekpmicbbiaaDoor.Epo
