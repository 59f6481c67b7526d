/-
  The code's timers and the reference's side by side; the laws' four acts on both, walked one by one. Conditions: that the calls answer as is asked.
-/
import Derived.Test.YtmjbdpgjalkbpaaWhApp
namespace Go.Proofs.Ytmjbdpgjalkbpaa.Whl
open Go.RowKit

/-- The code's object and the reference's, of the call's own, apart. -/
structure Pair (F : Face) (N : Nat) (w0 w : World) (p g b : Nat) (x y : Wh) : Prop where
  run : Run F N w0 w p g x
  ref : RefAt w b y
  nb : N ≤ b
  n1 : b ≠ p
  n2 : b ≠ g
section
variable {F : Face} {N p g b : Nat} {w0 w w' : World} {x y z : Wh}
theorem Pair.code (h : Pair F N w0 w p g b x y) (hx : F.At w' p g z) (ho : Only p g w w') : Pair F N w0 w' p g b z y := ⟨h.run.done hx ho, h.ref.only ho h.n1 h.n2, h.nb, h.n1, h.n2⟩
theorem Pair.refd (h : Pair F N w0 w p g b x y) (hx : RefAt w' b z) (ho : Only b b w w') : Pair F N w0 w' p g b x z :=
  ⟨⟨Face.only h.run.at_ ho h.n1.symm h.n1.symm h.n2.symm h.n2.symm, h.run.below.trans (ho.below h.nb h.nb h.run.size), h.run.hp, h.run.hg, Nat.le_trans h.run.size ho.size⟩, hx, h.nb, h.n1, h.n2⟩
theorem Pair.more (h : Pair F N w0 w p g b x y) (hb : Below w.heap.size w w') : Pair F N w0 w' p g b x y := ⟨h.run.more hb, h.ref.below hb, h.nb, h.n1, h.n2⟩
theorem Pair.drew (h : Pair F N w0 w p g b x y) : Pair F N w0 w.drew p g b x y := h.more (Below.refl _ _).drew
theorem Pair.low {B : Nat} (h : Pair F N w0 w p g b x y) (hb : Below B w w') (hN : N ≤ B) (h1 : p < B) (h2 : g < B) (h3 : b < B) : Pair F N w0 w' p g b x y :=
  ⟨⟨F.of h.run.at_ (hb.block p h1) (hb.block g h2), h.run.below.trans (hb.mono hN), h.run.hp, h.run.hg, Nat.le_trans h.run.size hb.size⟩, h.ref.of (hb.block b h3), h.nb, h.n1, h.n2⟩
theorem Pair.put (h : Pair F N w0 w p g b x y) (i v : Nat) (hi : i < 16) (hv : v ≤ 10000) : Pair F N w0 (w.setCell ⟨b, i, none⟩ (.int .i64 (v : Int))) p g b x (y.set i v) := h.refd (h.ref.put i v hi hv) (Only.set _ _ _ _ _)
theorem Pair.new (h : Run F N w0 w p g x) (t : TypeId) : Pair F N w0 (w.alloc (.cells (List.replicate 16 (Value.int .i64 0)).toArray t)) p g w.heap.size x zero := by
  have h1 := F.plt h.at_
  have h2 := F.glt h.at_
  have hb := (Below.refl w.heap.size w).alloc (Nat.le_refl _) (Obj.cells (List.replicate 16 (Value.int .i64 0)).toArray t)
  refine ⟨h.more hb, ⟨zero_ok, fun i hi => ⟨?_, by simp [go_sem]⟩⟩, h.size, by omega, by omega⟩
  rw [cell_of_row _ _ i _ t (0, 0) (heap_alloc_new w _)]
  match i, hi with
  | 0, _ | 1, _ | 2, _ | 3, _ | 4, _ | 5, _ | 6, _ | 7, _ | 8, _ | 9, _ | 10, _ | 11, _ | 12, _ | 13, _ | 14, _ | 15, _ => rfl
  | n + 16, h => exact absurd h (by omega)
end

theorem can_same {x : Wh} (hx : Ok x) (id : Int) (h : leftN x id = 0) : canX x id = x := by
  unfold canX
  split
  · rename_i hb
    have hb' := hb
    simp [idB] at hb'
    unfold leftN at h
    rw [if_pos hb] at h
    refine ext_getD (by rw [List.length_set]) fun i _ => ?_
    rw [getD_set _ _ _ _ (by rw [hx.len]; omega)]
    split
    · rename_i e; rw [← e, h]
    · rfl
  · rfl
theorem left_in {x : Wh} {id : Int} (h : 0 < leftN x id) : ∃ i : Nat, id = i ∧ i < 16 ∧ canX x id = x.set i 0 := by
  unfold leftN at h
  split at h
  · rename_i hb
    have hb' := hb
    simp [idB] at hb'
    refine ⟨id.toNat, by omega, by omega, ?_⟩
    unfold canX
    rw [if_pos hb]
  · omega

/-- What max and min make of a number of ticks. -/
def maxI (n : Int) : Int := if n < 0 then 0 else n
theorem run_maxI (n : Int) (ts : Array TypeId) (t : TypeId) (W : World) : (Builtin.max_ ts t #[.int .i64 n, .int .i64 0]).run Try.prog W = .ok (.int .i64 (maxI n)) W := by
  have e : (if 0 > n then 0 else n) = maxI n := rfl
  rw [run_max_int2, e]
theorem run_minI (n : Int) (ts : Array TypeId) (t : TypeId) (W : World) : (Builtin.min_ ts t #[.int .i64 (maxI n), .int .i64 20000]).run Try.prog W = .ok (.int .i64 ((skipN n : Nat) : Int)) W := by
  have e : (if 20000 < maxI n then 20000 else maxI n) = ((skipN n : Nat) : Int) := by unfold skipN maxI; split <;> split <;> omega
  rw [run_min_int2, e]

end Go.Proofs.Ytmjbdpgjalkbpaa.Whl
