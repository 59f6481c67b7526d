/-
  The reference's glue in memory; Number, lengths, Count: walked. Conditions: as each states.
-/
import Derived.Test.YtcbngcigoncfdaaPaSplit
import Derived.Laws.MakeOwn
import Derived.Laws.OwnMore
namespace Go.Proofs.Ytcbngcigoncfdaa.Pa
open Go.RowKit

theorem numV_bd {i s : Nat} (hi : i ≤ 65535) (hs : s ≤ 4294967295) : numV i s ≤ 281474976710655 := by unfold numV; omega
set_option maxRecDepth 100000 in
set_option maxHeartbeats 2000000 in
theorem rNumber (i s : Nat) (w : World) (hi : i ≤ 65535) (hs : s ≤ 4294967295) : Calls Try.prog 22 #[.agg #[.int .u16 i, .int .u32 s]] w (Tells (.int .u64 (numV i s : Nat)) w) := by
  have hb := Lib.hid (one_S w #[.int .u16 i, .int .u32 s] 35)
  have h1 : (i : Int) ≤ 65535 := by omega
  have h2 : (s : Int) ≤ 4294967295 := by omega
  have HV := Lib.hid (show (i : Int) * 4294967296 + (s : Int) = ((numV i s : Nat) : Int) by unfold numV; omega)
  clear hi hs
  go_enter Try.func22, Try.ntmps22
  go_wp2
  go_ret
  exact ⟨ret_int HV.out, hb.out⟩

/-! ### lengths -/
def lens (n : Nat) : List Bs := pcsL (List.replicate n 0) (pN n)
theorem lens_len (n : Nat) : (lens n).length = pN n := pcs_len _ _
theorem lens_at {n p : Nat} (h : p < pN n) : ((lens n).getD p []).length = pL n p := by
  unfold lens
  rw [List.getD_eq_getElem?_getD, pcs_at _ h]
  show (pcL _ p).length = _
  unfold pcL pL
  rw [List.length_take, List.length_drop, List.length_replicate]
  omega
theorem infoU8 : (Try.prog.info? 5).map (fun i => (i.zero, i.size, i.bytes)) = some (some (.int .u8 0), 1, 1) := by kernel_rfl
theorem mkU8 (n : Nat) (hn : n ≤ 1000) : ∀ w : World, (Instr.makeSlice 23 (.int .i64 (n : Int)) (.int .i64 (n : Int))).run Try.prog w = .ok (.slice (some ⟨w.heap.size, 0, none⟩) n n) (w.alloc (.cells (madeCells #[.int .u8 0] n) 5)) := fun w => by
  obtain ⟨i0, hi0, hi1, hi2, hi3⟩ := info_parts infoU8
  have h := run_make (P := Try.prog) w 23 5 i0 _ Try.underlying23 hi0 hi1 .i64 .i64 n n (by omega) (by omega) (by rw [hi3]; omega) (by omega)
  rw [hi2, Int.toNat_natCast, Nat.mul_one] at h
  exact h
theorem conv_made (n : Nat) (w : World) : (convert 23 9 (.slice (some ⟨w.heap.size, 0, none⟩) n n)).run Try.prog (w.alloc (.cells (madeCells #[.int .u8 0] n) 5)) = .ok (.string (S (List.replicate n 0))) (w.alloc (.cells (madeCells #[.int .u8 0] n) 5)) := by
  have := run_convert_bytes_back (P := Try.prog) (w.alloc (.cells (madeCells #[.int .u8 0] n) 5)) 23 9 5 ⟨w.heap.size, 0, none⟩ n (List.replicate n 0) Try.underlying23 Try.underlying5 Try.underlying9 (fun j hj => by
    have e : (⟨w.heap.size, 0, none⟩ : Addr).add j = ⟨w.heap.size, 0 + j, none⟩ := Addr.add_mid _ 0 j
    rw [e, Nat.zero_add, World.cell?_alloc_new, ← Array.getElem?_toList, toList_madeCells_one]
    simp at hj
    simp [hj])
  rw [List.length_replicate] at this
  exact this
set_option maxRecDepth 100000 in
set_option maxHeartbeats 2000000 in
theorem rlengths (n : Nat) (w : World) (hn : n ≤ 64) : Calls Try.prog 21 #[.int .i64 n] w fun e w' => ∃ u, e = .returned u ∧ SRow w.heap.size w' u (lens n) ∧ Below w.heap.size w w' := by
  have hmk := mkU8 n (by omega)
  have hcv := conv_made n w
  have hr := (rAll_any (List.replicate n 0) (w.alloc (.cells (madeCells #[.int .u8 0] n) 5)) (by rw [List.length_replicate]; omega))
  have hb := Lib.hid (one_S w (madeCells #[.int .u8 0] n) 5)
  have hsz : (w.alloc (.cells (madeCells #[.int .u8 0] n) 5)).heap.size = w.heap.size + 1 := by simp
  have HS := Lib.hid hsz
  clear hsz hn
  obtain ⟨Y, hY⟩ : ∃ Y, Y = S (List.replicate n 0) := ⟨_, rfl⟩
  rw [← hY] at hcv hr
  clear hY
  have HR := Lib.hid hr
  clear hr
  go_enter Try.func21, Try.ntmps21
  go_wp2_with fail
  refine HR.out.mono ?_
  rintro e w1 ⟨u, rfl, hu, hb1⟩
  have hnum : numN (List.replicate n (0 : UInt8)) = pN n := by unfold numN pN; rw [List.length_replicate]
  have HE := Lib.hid (show SRow w.heap.size w1 u (lens n) ∧ Below w.heap.size w w1 from ⟨by unfold lens; rw [← hnum]; rw [HS.out] at hu; exact ⟨hu.1, hu.2.imp_right fun ⟨g, cap, cur, h1, h2, h3⟩ => ⟨g, cap, cur, h1, by omega, h3⟩⟩, hb.out.trans (hb1.mono (by rw [HS.out]; omega))⟩)
  clear hu hb1 hnum
  go_wp2
  go_ret
  exact ⟨_, rfl, HE.out⟩

/-! ### A glue of the reference's -/
def camV (r : Nat) (g : Gl) : Value := if g.is then .slice (some ⟨r, 0, none⟩) g.came.length g.came.length else .slice none 0 0
structure RAt (W : World) (b r n : Nat) (g : Gl) : Prop where
  head : W.heap[b]? = some (.cells #[.int .i64 n, .bool g.is, .int .u16 g.inc, .int .u32 g.seq, camV r g] 41 (0, 0))
  row : g.is = true → W.heap[r]? = some (.cells (strs g.came).toArray 9 (0, 0)) ∧ r ≠ b
section
variable {W W' : World} {b r n : Nat} {g : Gl}
theorem RAt.lt (h : RAt W b r n g) : b < W.heap.size := lt_of_heap h.head
theorem RAt.c0 (h : RAt W b r n g) : W.cell? ⟨b, 0, none⟩ = some (.int .i64 n) := by rw [cell_of_row _ _ _ _ _ _ h.head]; rfl
theorem RAt.c1 (h : RAt W b r n g) : W.cell? ⟨b, 1, none⟩ = some (.bool g.is) := by rw [cell_of_row _ _ _ _ _ _ h.head]; rfl
theorem RAt.c2 (h : RAt W b r n g) : W.cell? ⟨b, 2, none⟩ = some (.int .u16 g.inc) := by rw [cell_of_row _ _ _ _ _ _ h.head]; rfl
theorem RAt.c3 (h : RAt W b r n g) : W.cell? ⟨b, 3, none⟩ = some (.int .u32 g.seq) := by rw [cell_of_row _ _ _ _ _ _ h.head]; rfl
theorem RAt.c4 (h : RAt W b r n g) : W.cell? ⟨b, 4, none⟩ = some (camV r g) := by rw [cell_of_row _ _ _ _ _ _ h.head]; rfl
theorem RAt.free (h : RAt W b r n g) (j : Nat) : W.frozen? ⟨b, j, none⟩ = false := frozen_of _ _ _ _ _ h.head
theorem RAt.came (h : RAt W b r n g) (hi : g.is = true) {p : Nat} (hp : p < g.came.length) : W.cell? ⟨r, p, none⟩ = some (.string (S (g.came.getD p []))) := by
  rw [cell_of_row _ _ _ _ _ _ (h.row hi).1]
  simpa using strs_at g.came p hp
theorem RAt.rfree (h : RAt W b r n g) (hi : g.is = true) (j : Nat) : W.frozen? ⟨r, j, none⟩ = false := frozen_of _ _ _ _ _ (h.row hi).1
theorem RAt.rlt (h : RAt W b r n g) (hi : g.is = true) : r < W.heap.size := lt_of_heap (h.row hi).1
theorem RAt.below (h : RAt W b r n g) (hb : Below W.heap.size W W') : RAt W' b r n g :=
  ⟨(hb.block b h.lt).trans h.head, fun hi => ⟨(hb.block r (h.rlt hi)).trans (h.row hi).1, (h.row hi).2⟩⟩
theorem RAt.only {ms : List Nat} (h : RAt W b r n g) (hb : OnlyL ms W W') (h1 : b ∉ ms) (h2 : g.is = true → r ∉ ms) : RAt W' b r n g :=
  ⟨(hb.block b h.lt h1).trans h.head, fun hi => ⟨(hb.block r (h.rlt hi) (h2 hi)).trans (h.row hi).1, (h.row hi).2⟩⟩
theorem RAt.drew (h : RAt W b r n g) : RAt W.drew b r n g := ⟨h.head, h.row⟩
theorem RAt.new (w : World) (n r : Nat) : RAt (w.alloc (.cells #[.int .i64 n, .bool false, .int .u16 0, .int .u32 0, .slice none 0 0] 41)) w.heap.size r n g0 :=
  ⟨heap_alloc_new _ _, fun h => by simp [g0] at h⟩
end

set_option maxRecDepth 100000 in
set_option maxHeartbeats 2000000 in
theorem rCount (b r n : Nat) (g : Gl) (w : World) (hg : RAt w b r n g) (hw : g.is = false → g = g0) (hl : g.came.length ≤ 100) : Calls Try.prog 12 #[.pointer (some ⟨b, 0, none⟩)] w (fun e w' => e = .returned (.int .i64 (cntB g.came : Nat)) ∧ w = w') := by
  have c4 := hg.c4
  cases hi : g.is
  · have := hw hi
    subst this
    have c4' : w.cell? ⟨b, 4, none⟩ = some (.slice none 0 0) := c4
    clear c4 hg hw hi
    go_enter Try.func12, Try.ntmps12
    go_wp2
    go_loop [3, 4] (fun t i => t = .int .i64 0 ∧ i = .int .i64 0) (fun _ _ => 0)
    case atStart => exact ⟨rfl, rfl⟩
    case round =>
      obtain ⟨rfl, rfl⟩ := hrel
      go_wp2
      go_ret
      exact ⟨rfl, rfl⟩
  · unfold camV at c4
    rw [hi, if_pos rfl] at c4
    have HC := Lib.hid (fun p h => hg.came hi (p := p) h)
    have hc : ∀ k, k ≤ g.came.length → cntB (g.came.take k) ≤ k := fun k hk => by
      have := cnt_le (g.came.take k)
      rw [List.length_take] at this
      omega
    have HB := Lib.hid hc
    generalize g.came = l at *
    clear hg hw hi hc
    go_enter Try.func12, Try.ntmps12
    go_wp2
    go_loop [3, 4] (fun t i => ∃ k : Nat, k ≤ l.length ∧ i = .int .i64 k ∧ t = .int .i64 (cntB (l.take k) : Nat)) (fun _ i => l.length - (intOf i).toNat)
    case atStart => exact ⟨0, Nat.zero_le _, rfl, rfl⟩
    case round =>
      obtain ⟨k, hk, rfl, rfl⟩ := hrel
      by_cases hlt : k < l.length
      · have e1 : decide (k < l.length) = true := decide_eq_true hlt
        have c5 := HC.out k hlt
        have hbk := HB.out k hk
        have hn : cntB (l.take (k + 1)) = cntB (l.take k) + if l.getD k [] = [] then 0 else 1 := by
          rw [List.take_succ_eq_append_getElem hlt]
          unfold cntB
          rw [List.filter_append, List.length_append, List.getD_eq_getElem?_getD, List.getElem?_eq_getElem hlt]
          simp only [Option.getD_some, List.filter_cons, List.filter_nil]
          by_cases hx : l[k] = []
          · simp [hx]
          · simp [hx]
        generalize l.getD k [] = x at *
        by_cases hx : x = []
        · rw [if_pos hx, Nat.add_zero] at hn
          have e2 : (S x).toList.isEmpty = true := by rw [toL, hx]; rfl
          have HN := Lib.hid hn
          clear hx hn
          go_wp2
          go_round
          case rel => exact ⟨k + 1, by omega, by go_num, by rw [HN.out]; rfl⟩
          case measure => simp [intOf]; omega
        · rw [if_neg hx] at hn
          have e2 : (S x).toList.isEmpty = false := by rw [toL, ← Bool.not_eq_true, List.isEmpty_iff]; exact hx
          have HN := Lib.hid hn
          clear hx hn
          go_wp2
          go_round
          case rel => exact ⟨k + 1, by omega, by go_num, by rw [HN.out]; go_num⟩
          case measure => simp [intOf]; omega
      · obtain rfl : k = l.length := by omega
        have e1 : decide (l.length < l.length) = false := by simp
        go_wp2
        go_ret
        exact ⟨rfl, rfl⟩
end Go.Proofs.Ytcbngcigoncfdaa.Pa
