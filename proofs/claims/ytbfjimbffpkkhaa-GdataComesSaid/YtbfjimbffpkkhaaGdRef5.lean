/-
  The reference's glue in memory; Number, lengths, Count: walked. Conditions: as each states.
-/
import Derived.Test.YtbfjimbffpkkhaaGdPut
import Derived.Laws.MakeOwn
import Derived.Laws.OwnMore
namespace Go.Proofs.Ytbfjimbffpkkhaa.Pa
open Go.RowKit

theorem numV_bd {i s : Nat} (hi : i ≤ 65535) (hs : s ≤ 4294967295) : numV i s ≤ 281474976710655 := by unfold numV; omega
set_option maxRecDepth 100000 in
set_option maxHeartbeats 2000000 in
theorem rNumber (i s : Nat) (w : World) (hi : i ≤ 65535) (hs : s ≤ 4294967295) : Calls Try.prog 24 #[.agg #[.int .u16 i, .int .u32 s]] w (Tells (.int .u64 (numV i s : Nat)) w) := by
  have hb := Lib.hid (one_S w #[.int .u16 i, .int .u32 s] 31)
  have h1 : (i : Int) ≤ 65535 := by omega
  have h2 : (s : Int) ≤ 4294967295 := by omega
  have HV := Lib.hid (show (i : Int) * 4294967296 + (s : Int) = ((numV i s : Nat) : Int) by unfold numV; omega)
  clear hi hs
  go_enter Try.func24, Try.ntmps24
  go_wp2
  go_ret
  exact ⟨ret_int HV.out, hb.out⟩

/-! ### lengths -/
def lens (n : Nat) : List Bs := pcsL (List.replicate n 0) (pN n)
theorem lens_len (n : Nat) : (lens n).length = pN n := pcs_len _ _
theorem lens_at {n p : Nat} (h : p < pN n) : ((lens n).getD p []).length = pL n p := by
  unfold lens
  rw [List.getD_eq_getElem?_getD, pcs_at _ h]
  show (pcL _ p).length = _
  unfold pcL pL
  rw [List.length_take, List.length_drop, List.length_replicate]
  omega
theorem conv_made (n : Nat) (w : World) : (convert 69 9 (.slice (some ⟨w.heap.size, 0, none⟩) n n)).run Try.prog (w.alloc (.cells (madeCells #[.int .u8 0] n) 5)) = .ok (.string (S (List.replicate n 0))) (w.alloc (.cells (madeCells #[.int .u8 0] n) 5)) := by
  have := run_convert_bytes_back (P := Try.prog) (w.alloc (.cells (madeCells #[.int .u8 0] n) 5)) 69 9 5 ⟨w.heap.size, 0, none⟩ n (List.replicate n 0) Try.underlying69 Try.underlying5 Try.underlying9 (fun j hj => by
    have e : (⟨w.heap.size, 0, none⟩ : Addr).add j = ⟨w.heap.size, 0 + j, none⟩ := Addr.add_mid _ 0 j
    rw [e, Nat.zero_add, World.cell?_alloc_new, ← Array.getElem?_toList, toList_madeCells_one]
    simp at hj
    simp [hj])
  rw [List.length_replicate] at this
  exact this
set_option maxRecDepth 100000 in
set_option maxHeartbeats 2000000 in
theorem rlengths (n : Nat) (w : World) (hn : n ≤ 64) : Calls Try.prog 43 #[.int .i64 n] w fun e w' => ∃ u, e = .returned u ∧ SRow w.heap.size w' u (lens n) ∧ Below w.heap.size w w' := by
  have hmk := mkU8 n (by omega)
  have hcv := conv_made n w
  have hr := (rAll_any (List.replicate n 0) (w.alloc (.cells (madeCells #[.int .u8 0] n) 5)) (by rw [List.length_replicate]; omega))
  have hb := Lib.hid (one_S w (madeCells #[.int .u8 0] n) 5)
  have hsz : (w.alloc (.cells (madeCells #[.int .u8 0] n) 5)).heap.size = w.heap.size + 1 := by simp
  have HS := Lib.hid hsz
  clear hsz hn
  obtain ⟨Y, hY⟩ : ∃ Y, Y = S (List.replicate n 0) := ⟨_, rfl⟩
  rw [← hY] at hcv hr
  clear hY
  have HR := Lib.hid hr
  clear hr
  go_enter Try.func43, Try.ntmps43
  go_wp2_with fail
  refine HR.out.mono ?_
  rintro e w1 ⟨u, rfl, hu, hb1⟩
  have hnum : numN (List.replicate n (0 : UInt8)) = pN n := by unfold numN pN; rw [List.length_replicate]
  have HE := Lib.hid (show SRow w.heap.size w1 u (lens n) ∧ Below w.heap.size w w1 from ⟨by unfold lens; rw [← hnum]; rw [HS.out] at hu; exact ⟨hu.1, hu.2.imp_right fun ⟨g, cap, cur, h1, h2, h3⟩ => ⟨g, cap, cur, h1, by omega, h3⟩⟩, hb.out.trans (hb1.mono (by rw [HS.out]; omega))⟩)
  clear hu hb1 hnum
  go_wp2
  go_ret
  exact ⟨_, rfl, HE.out⟩

/-! ### A glue of the reference's -/
def camV (r : Nat) (g : Gl) : Value := if g.is then .slice (some ⟨r, 0, none⟩) g.came.length g.came.length else .slice none 0 0
structure RAt (T : List Value) (W : World) (b r n : Nat) (g : Gl) : Prop where
  head : W.heap[b]? = some (.cells (.int .i64 n :: .bool g.is :: .int .u16 g.inc :: .int .u32 g.seq :: camV r g :: T).toArray 63 (0, 0))
  row : g.is = true → W.heap[r]? = some (.cells (strs g.came).toArray 9 (0, 0)) ∧ r ≠ b
section
variable {T : List Value} {W W' : World} {b r n : Nat} {g : Gl}
theorem RAt.lt (h : RAt T W b r n g) : b < W.heap.size := lt_of_heap h.head
theorem RAt.c0 (h : RAt T W b r n g) : W.cell? ⟨b, 0, none⟩ = some (.int .i64 n) := by rw [cell_of_row _ _ _ _ _ _ h.head]; simp
theorem RAt.c1 (h : RAt T W b r n g) : W.cell? ⟨b, 1, none⟩ = some (.bool g.is) := by rw [cell_of_row _ _ _ _ _ _ h.head]; simp
theorem RAt.c2 (h : RAt T W b r n g) : W.cell? ⟨b, 2, none⟩ = some (.int .u16 g.inc) := by rw [cell_of_row _ _ _ _ _ _ h.head]; simp
theorem RAt.c3 (h : RAt T W b r n g) : W.cell? ⟨b, 3, none⟩ = some (.int .u32 g.seq) := by rw [cell_of_row _ _ _ _ _ _ h.head]; simp
theorem RAt.c4 (h : RAt T W b r n g) : W.cell? ⟨b, 4, none⟩ = some (camV r g) := by rw [cell_of_row _ _ _ _ _ _ h.head]; simp
theorem RAt.ct (h : RAt T W b r n g) {k : Nat} {v : Value} (hk : T[k]? = some v) : W.cell? ⟨b, 5 + k, none⟩ = some v := by
  rw [cell_of_row _ _ _ _ _ _ h.head, List.getElem?_toArray, show 5 + k = k + 1 + 1 + 1 + 1 + 1 by omega]
  simpa using hk
theorem RAt.free (h : RAt T W b r n g) (j : Nat) : W.frozen? ⟨b, j, none⟩ = false := frozen_of _ _ _ _ _ h.head
theorem RAt.came (h : RAt T W b r n g) (hi : g.is = true) {p : Nat} (hp : p < g.came.length) : W.cell? ⟨r, p, none⟩ = some (.string (S (g.came.getD p []))) := by
  rw [cell_of_row _ _ _ _ _ _ (h.row hi).1]
  simpa using strs_at g.came p hp
theorem RAt.rfree (h : RAt T W b r n g) (hi : g.is = true) (j : Nat) : W.frozen? ⟨r, j, none⟩ = false := frozen_of _ _ _ _ _ (h.row hi).1
theorem RAt.rlt (h : RAt T W b r n g) (hi : g.is = true) : r < W.heap.size := lt_of_heap (h.row hi).1
theorem RAt.below (h : RAt T W b r n g) (hb : Below W.heap.size W W') : RAt T W' b r n g :=
  ⟨(hb.block b h.lt).trans h.head, fun hi => ⟨(hb.block r (h.rlt hi)).trans (h.row hi).1, (h.row hi).2⟩⟩
theorem RAt.only {ms : List Nat} (h : RAt T W b r n g) (hb : OnlyL ms W W') (h1 : b ∉ ms) (h2 : g.is = true → r ∉ ms) : RAt T W' b r n g :=
  ⟨(hb.block b h.lt h1).trans h.head, fun hi => ⟨(hb.block r (h.rlt hi) (h2 hi)).trans (h.row hi).1, (h.row hi).2⟩⟩
theorem RAt.drew (h : RAt T W b r n g) : RAt T W.drew b r n g := ⟨h.head, h.row⟩
theorem RAt.tset (h : RAt T W b r n g) (k : Nat) (v : Value) : RAt (T.set k v) (W.setCell ⟨b, 5 + k, none⟩ v) b r n g := by
  have hh := heap_setCell_same _ b (5 + k) _ _ v h.head
  refine ⟨?_, fun hi => ⟨?_, (h.row hi).2⟩⟩
  · rw [hh, show 5 + k = k + 1 + 1 + 1 + 1 + 1 by omega]
    simp
  · rw [set_other (h.row hi).2]
    exact (h.row hi).1
end

end Go.Proofs.Ytbfjimbffpkkhaa.Pa
