/-
  Comparing epochs, walked. Conditions: none.
-/
import Derived.Test.YtedlfognpbbhhaaGreatDoorEpOrd
import Derived.Deep.RegionHeld3
namespace Go.Proofs.YtedlfognpbbhhaaGreatDoor.Epo
open Go.RowKit

theorem still_of {P : Program} {f : FuncId} {args : Array Value} {v : Value} {w : World} (h : Calls P f args w fun e w' => e = .returned v ∧ w = w') :
    Calls P f args w fun e w' => e = .returned v ∧ w' = w := h.mono fun _ _ ⟨he, hw⟩ => ⟨he, hw.symm⟩

/-- A new block's cells. -/
theorem box_cell (w : World) (c : Array Value) (t : TypeId) (k : Nat) (v : Value) (h : c[k]? = some v) : (w.alloc (.cells c t)).cell? ⟨w.heap.size, k, none⟩ = some v := by
  rw [World.cell?_alloc_new]; exact h
theorem old_cell (w : World) (o : Obj) (b k : Nat) (h : b < w.heap.size) : (w.alloc o).cell? ⟨b, k, none⟩ = w.cell? ⟨b, k, none⟩ :=
  ((Below.refl w.heap.size w).alloc (Nat.le_refl _) o).cell (p := ⟨b, k, none⟩) h

/-- Two arguments' own blocks, of three cells each. -/
def Boxes (w W : World) (b1 b2 : Nat) (c1 c2 : List Value) : Prop :=
  w.heap.size ≤ b1 ∧ w.heap.size ≤ b2 ∧ b1 < W.heap.size ∧ b2 < W.heap.size ∧ (∀ k v, c1[k]? = some v → W.cell? ⟨b1, k, none⟩ = some v) ∧ (∀ k v, c2[k]? = some v → W.cell? ⟨b2, k, none⟩ = some v) ∧ Below w.heap.size w W

theorem boxes_mk (w : World) (c1 c2 : List Value) (t1 t2 : TypeId) : Boxes w ((w.alloc (.cells c1.toArray t1)).alloc (.cells c2.toArray t2)) w.heap.size (w.heap.size + 1) c1 c2 := by
  refine ⟨Nat.le_refl _, Nat.le_succ _, by simp; omega, by simp, fun k v h => ?_, fun k v h => ?_, ((Below.refl _ _).alloc (Nat.le_refl _) _).alloc (by simp) _⟩
  · rw [old_cell _ _ _ _ (by simp)]
    exact box_cell _ _ _ _ _ (by simpa using h)
  · have := box_cell (w.alloc (.cells c1.toArray t1)) c2.toArray t2 k v (by simpa using h)
    simpa using this

theorem Boxes.below {w W W' : World} {b1 b2 : Nat} {c1 c2 : List Value} (h : Boxes w W b1 b2 c1 c2) (hb : Below W.heap.size W W') : Boxes w W' b1 b2 c1 c2 := by
  obtain ⟨h1, h2, h3, h4, h5, h6, h7⟩ := h
  refine ⟨h1, h2, Nat.lt_of_lt_of_le h3 hb.size, Nat.lt_of_lt_of_le h4 hb.size, fun k v hk => (hb.cell (p := ⟨b1, k, none⟩) h3).trans (h5 k v hk), fun k v hk => (hb.cell (p := ⟨b2, k, none⟩) h4).trans (h6 k v hk), h7.trans (hb.mono h7.size)⟩

theorem or3 (a b c : Int) (w : World) : Calls Tryz.prog 42 #[.slice (some ⟨w.heap.size, 0, none⟩) 3 3] (w.alloc (.cells #[.int .i64 a, .int .i64 b, .int .i64 c] 3)).drew fun e w' => e = .returned (.int .i64 (orL [a, b, c])) ∧ (w.alloc (.cells #[.int .i64 a, .int .i64 b, .int .i64 c] 3)).drew = w' := by
  refine or_any w.heap.size 3 [a, b, c] _ (by simp) fun k x hk => ?_
  refine box_cell w _ _ k _ ?_
  match k with
  | 0 => cases hk; rfl
  | 1 => cases hk; rfl
  | 2 => cases hk; rfl
  | k + 3 => simp at hk
theorem or2 (a b : Int) (w : World) : Calls Tryz.prog 42 #[.slice (some ⟨w.heap.size, 0, none⟩) 2 2] (w.alloc (.cells #[.int .i64 a, .int .i64 b] 3)).drew fun e w' => e = .returned (.int .i64 (orL [a, b])) ∧ (w.alloc (.cells #[.int .i64 a, .int .i64 b] 3)).drew = w' := by
  refine or_any w.heap.size 2 [a, b] _ (by simp) fun k x hk => ?_
  refine box_cell w _ _ k _ ?_
  match k with
  | 0 => cases hk; rfl
  | 1 => cases hk; rfl
  | k + 2 => simp at hk

set_option maxRecDepth 100000 in
set_option maxHeartbeats 1000000 in
theorem cmpE_any (x y : Ep) (w : World) : Calls Tryz.prog 31 #[.agg #[.int .u16 x.c, .int .u8 x.a, .int .u16 x.i], .agg #[.int .u16 y.c, .int .u8 y.a, .int .u16 y.i]] w fun e w' => e = .returned (.int .i64 (cmpE x y)) ∧ Below w.heap.size w w' := by
  have hB := boxes_mk w [.int .u16 x.c, .int .u8 x.a, .int .u16 x.i] [.int .u16 y.c, .int .u8 y.a, .int .u16 y.i] 33 33
  have HB := Lib.hid hB
  clear hB
  go_enter Tryz.func31, Tryz.ntmps31
  go_wp2_with fail
  obtain ⟨W, HW⟩ : ∃ W, Hid (W = ((w.alloc (.cells [.int .u16 x.c, .int .u8 x.a, .int .u16 x.i].toArray 33)).alloc (.cells [.int .u16 y.c, .int .u8 y.a, .int .u16 y.i].toArray 33))) := ⟨_, Lib.hid rfl⟩
  rw [← HW.out] at HB
  rw [← HW.out]
  generalize w.heap.size + 1 = b2 at *
  have hB := HB.out
  have c5 := hB.2.2.2.2.1
  have c6 := hB.2.2.2.2.2.1
  have x0 := c5 0 _ rfl
  have x1 := c5 1 _ rfl
  have x2 := c5 2 _ rfl
  have y0 := c6 0 _ rfl
  have y1 := c6 1 _ rfl
  have y2 := c6 2 _ rfl
  clear c5 c6 hB
  have hlt := HB.out.2.2.1
  have hlt2 := HB.out.2.2.2.1
  have hbel := HB.out.2.2.2.2.2.2
  clear HB HW
  generalize hN : w.heap.size = N at *
  go_region_held3 (fun W' => W'.cell? ⟨N, 0, none⟩ = some (.int .u16 x.c) ∧ W'.cell? ⟨N, 1, none⟩ = some (.int .u8 x.a) ∧ W'.cell? ⟨N, 2, none⟩ = some (.int .u16 x.i) ∧ W'.cell? ⟨b2, 0, none⟩ = some (.int .u16 y.c) ∧ W'.cell? ⟨b2, 1, none⟩ = some (.int .u8 y.a) ∧ W'.cell? ⟨b2, 2, none⟩ = some (.int .u16 y.i)) (go_keep)
    (first | (go_at_call 43; refine (cmp16 _ _ _).mono ?_; rintro e w1 ⟨rfl, rfl⟩) | (go_at_call 44; refine (cmp8 _ _ _).mono ?_; rintro e w1 ⟨rfl, rfl⟩) | (go_at_call 42; refine (or3 _ _ _ _).mono ?_; rintro e w1 ⟨rfl, rfl⟩))
  go_wp2
  go_ret
  exact ⟨rfl, by rw [hN]; exact (hbel.alloc (Nat.le_of_lt hlt) _).drew⟩

end Go.Proofs.YtedlfognpbbhhaaGreatDoor.Epo
