/-
  Value, Put: walked. Conditions: as each states.
-/
import Derived.Test.YtncodfogioaddaaImPut
namespace Go.Proofs.Ytncodfogioaddaa.Bl
open Go.RowKit

theorem info_parts {P : Program} {t : TypeId} {z : Option Value} {a b : Nat} (h : (P.info? t).map (fun i => (i.zero, i.size, i.bytes)) = some (z, a, b)) : ∃ i, P.info? t = some i ∧ i.zero = z ∧ i.size = a ∧ i.bytes = b := by
  cases hi : P.info? t with
  | none => rw [hi] at h; cases h
  | some i =>
    rw [hi] at h
    simp at h
    exact ⟨i, rfl, h.1, h.2.1, h.2.2⟩
theorem infoU8 : (Try.prog.info? 5).map (fun i => (i.zero, i.size, i.bytes)) = some (some (.int .u8 0), 1, 1) := by kernel_rfl
theorem mkU8 (n : Nat) (hn : n ≤ 1000) : ∀ w : World, (Instr.makeSlice 41 (.int .i64 (n : Int)) (.int .i64 (n : Int))).run Try.prog w = .ok (.slice (some ⟨w.heap.size, 0, none⟩) n n) (w.alloc (.cells (madeCells #[.int .u8 0] n) 5)) := fun w => by
  obtain ⟨i0, hi0, hi1, hi2, hi3⟩ := info_parts infoU8
  have h := run_make (P := Try.prog) w 41 5 i0 _ Try.underlying41 hi0 hi1 .i64 .i64 n n (by omega) (by omega) (by rw [hi3]; omega) (by omega)
  rw [hi2, Int.toNat_natCast, Nat.mul_one] at h
  exact h
set_option maxRecDepth 100000 in
set_option maxHeartbeats 2000000 in
theorem cValue_any (A : Bs) (p z : Int) (w : World) (hA : A.length ≤ maxLen) (h0 : 0 ≤ p) (h64 : p ≤ 64) : Calls Try.prog 13 #[.string (S A), .int .i64 p, .int .i64 z] w (Tells (.string (S (valB A p z))) w) := by
  have hwp : IntKind.i64.wrap (-p) = -p := by rw [IntKind.wrap_i64]; omega
  have hn := bring_le z
  have HB := Lib.hid (fun W => cBring z W)
  unfold valB
  generalize bringN z = n at *
  have hmk := mkU8 n (by omega)
  have hl := zero_len n
  have HP := Lib.hid (cPut_any (zeroA n) A w.heap.size n (-p) (w.alloc (.cells (madeCells #[.int .u8 0] n) 5)) (AreaAt.zeros n) (by rw [hl]; exact Nat.le_refl _) (by unfold maxLen; omega) (by unfold I64; omega) hA)
  rw [hl] at HP
  have HB2 := Lib.hid (one_S w (madeCells #[.int .u8 0] n) 5)
  have hpl : (putB (zeroA n) (-p) A).length = n := by rw [put_len, hl]
  generalize putB (zeroA n) (-p) A = R at *
  clear hA h0 h64 hl
  go_enter Try.func13, Try.ntmps13
  go_wp2_with fail
  refine (HB.out _).mono ?_
  rintro e w1 ⟨rfl, rfl⟩
  go_wp2_with fail
  refine HP.out.mono ?_
  rintro e w2 ⟨rfl, hb, hz, hr⟩
  have hcv := conv_area w2 (cap := n) hr hpl
  have HX := Lib.hid (HB2.out.trans hb)
  clear hb hz hr HP HB2
  go_wp2
  go_ret
  exact ⟨rfl, HX.out⟩
theorem AreaAt.conv (w : World) (v : Bs) : AreaAt (w.drew.alloc (.cells (bytesRow (S v) (grownCap w (S v).size 0 5)) 5 ((bytesRow (S v) (grownCap w (S v).size 0 5)).size, (bytesRow (S v) (grownCap w (S v).size 0 5)).size + 1))) w.heap.size v := fun j x hx => by
  have hj : j < v.length := (List.getElem?_eq_some_iff.1 hx).1
  have hs : (S v).size = v.length := S_size v
  have hd : j < (S v).data.size := hj
  refine ⟨?_, ?_⟩
  · have h1 := bytesRow_at (S v) (grownCap w (S v).size 0 5) j hd
    unfold World.cell?
    have h2 : (w.drew.alloc (.cells (bytesRow (S v) (grownCap w (S v).size 0 5)) 5 ((bytesRow (S v) (grownCap w (S v).size 0 5)).size, (bytesRow (S v) (grownCap w (S v).size 0 5)).size + 1))).heap[w.heap.size]? = some _ := heap_alloc_new w.drew _
    rw [h2]
    simp only
    rw [h1]
    obtain ⟨_, rfl⟩ := List.getElem?_eq_some_iff.1 hx
    rfl
  · rw [show w.heap.size = w.drew.heap.size from rfl, World.frozen?_alloc_mark]
    have : j < (bytesRow (S v) (grownCap w (S v).size 0 5)).size := by
      unfold bytesRow
      rw [Array.size_append, Array.size_map]
      omega
    simp
    omega
set_option maxRecDepth 100000 in
set_option maxHeartbeats 2000000 in
theorem cPutS_any (A v : Bs) (p : Int) (w : World) (hA : A.length ≤ maxLen) (hv : v.length ≤ maxLen) (hp : I64 p) : Calls Try.prog 15 #[.string (S A), .int .i64 p, .string (S v)] w (Tells (.string (S (putB A p v))) w) := by
  have hcv0 := fun w : World => run_bytes_of_string (P := Try.prog) w 9 41 5 (S A) Try.underlying9 Try.underlying41 Try.underlying5
  have hc1 := grownCap_ge w (S A).size 0 5
  have hc2 := grownCap_le_maxLen w (S A).size 0 5 (by rw [S_size]; exact hA)
  have hC := AreaAt.conv w A
  generalize hcap : grownCap w (S A).size 0 5 = cap at *
  have hsz := S_size A
  rw [hsz] at hc1
  have hcv := hcv0 w
  rw [hcap, hsz] at hcv
  clear hcv0
  generalize bytesRow (S A) cap = X at *
  have HP := Lib.hid (cPut_any A v w.heap.size cap p (w.drew.alloc (.cells X 5 (X.size, X.size + 1))) hC hc1 hc2 hp hv)
  have HB := Lib.hid ((below_draw w.heap.size w).trans ((Below.refl w.heap.size w.drew).alloc (Nat.le_refl _) (.cells X 5 (X.size, X.size + 1))))
  have hpl := put_len A p v
  generalize putB A p v = R at *
  clear hA hv hp hc1 hc2 hC hcap
  go_enter Try.func15, Try.ntmps15
  go_wp2_with fail
  refine HP.out.mono ?_
  rintro e w2 ⟨rfl, hb, hz, hr⟩
  have hcv2 := conv_area w2 (cap := cap) hr hpl
  have HX := Lib.hid (HB.out.trans hb)
  clear hb hz hr HP HB
  go_wp2
  go_ret
  exact ⟨rfl, HX.out⟩
end Go.Proofs.Ytncodfogioaddaa.Bl
