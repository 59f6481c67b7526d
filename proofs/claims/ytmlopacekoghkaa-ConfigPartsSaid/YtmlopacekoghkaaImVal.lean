/-
  Value, Put: walked. Conditions: as each states.
-/
import Derived.Test.YtmlopacekoghkaaImPut
namespace Go.Proofs.Ytmlopacekoghkaa.Bl
open Go.RowKit

theorem info_parts {P : Program} {t : TypeId} {z : Option Value} {a b : Nat} (h : (P.info? t).map (fun i => (i.zero, i.size, i.bytes)) = some (z, a, b)) : ∃ i, P.info? t = some i ∧ i.zero = z ∧ i.size = a ∧ i.bytes = b := by
  cases hi : P.info? t with
  | none => rw [hi] at h; cases h
  | some i =>
    rw [hi] at h
    simp at h
    exact ⟨i, rfl, h.1, h.2.1, h.2.2⟩
theorem infoU8 : (Try.prog.info? 5).map (fun i => (i.zero, i.size, i.bytes)) = some (some (.int .u8 0), 1, 1) := by kernel_rfl
theorem mkU8 (n : Nat) (hn : n ≤ 1000) : ∀ w : World, (Instr.makeSlice 101 (.int .i64 (n : Int)) (.int .i64 (n : Int))).run Try.prog w = .ok (.slice (some ⟨w.heap.size, 0, none⟩) n n) (w.alloc (.cells (madeCells #[.int .u8 0] n) 5)) := fun w => by
  obtain ⟨i0, hi0, hi1, hi2, hi3⟩ := info_parts infoU8
  have h := run_make (P := Try.prog) w 101 5 i0 _ Try.underlying101 hi0 hi1 .i64 .i64 n n (by omega) (by omega) (by rw [hi3]; omega) (by omega)
  rw [hi2, Int.toNat_natCast, Nat.mul_one] at h
  exact h
theorem AreaAt.conv (w : World) (v : Bs) : AreaAt (w.drew.alloc (.cells (bytesRow (S v) (grownCap w (S v).size 0 5)) 5 ((bytesRow (S v) (grownCap w (S v).size 0 5)).size, (bytesRow (S v) (grownCap w (S v).size 0 5)).size + 1))) w.heap.size v := fun j x hx => by
  have hj : j < v.length := (List.getElem?_eq_some_iff.1 hx).1
  have hs : (S v).size = v.length := S_size v
  have hd : j < (S v).data.size := hj
  refine ⟨?_, ?_⟩
  · have h1 := bytesRow_at (S v) (grownCap w (S v).size 0 5) j hd
    unfold World.cell?
    have h2 : (w.drew.alloc (.cells (bytesRow (S v) (grownCap w (S v).size 0 5)) 5 ((bytesRow (S v) (grownCap w (S v).size 0 5)).size, (bytesRow (S v) (grownCap w (S v).size 0 5)).size + 1))).heap[w.heap.size]? = some _ := heap_alloc_new w.drew _
    rw [h2]
    simp only
    rw [h1]
    obtain ⟨_, rfl⟩ := List.getElem?_eq_some_iff.1 hx
    rfl
  · rw [show w.heap.size = w.drew.heap.size from rfl, World.frozen?_alloc_mark]
    have : j < (bytesRow (S v) (grownCap w (S v).size 0 5)).size := by
      unfold bytesRow
      rw [Array.size_append, Array.size_map]
      omega
    simp
    omega
end Go.Proofs.Ytmlopacekoghkaa.Bl
