/-
  The reference's behind, walked: brackets. Conditions: an operation that there is; what is ahead is well formed.
-/
import Derived.Test.YtmlopacekoghkaaVrA
namespace Go.Proofs.Ytmlopacekoghkaa.Ve
open Go.RowKit
open Go.Proofs.Ytmlopacekoghkaa.Il hiding Next
open Go.Proofs.Ytmlopacekoghkaa.Ic
set_option linter.unusedSimpArgs false

theorem two_cells (w : World) (a b : Int) : ∀ i, i < 2 → (w.alloc (.cells #[.int .u8 a, .int .u8 b] 5)).cell? ⟨w.heap.size, 0 + i, none⟩ = some (.int .u8 ([a, b].getD i 0)) := by
  intro i hi
  have h := cell_two_new w (.int .u8 a) (.int .u8 b) 5
  match i, hi with
  | 0, _ => exact h 0 _ rfl
  | 1, _ => exact h 1 _ rfl
section
variable (kd ar nn : Int) (k n : Int) (ao : Bool) (ak : Int) (s : ByteArray) (d : Nat)


set_option maxRecDepth 100000 in
set_option maxHeartbeats 4000000 in
theorem rb_32_no (pl : Int) (w : World) (hs : s.size = 2 * d) (h8 : (d : Int) ≤ 8) (hl : mayI pl ak = false) :
    Calls Try.prog 46 #[insV ⟨(32 : Int), kd, ar, pl, nn⟩, .int .i64 k, .int .i64 n, .agg #[.bool ao, .int .i64 (ak : Int), .string (s)]] w (Tells (.tuple #[.agg #[.bool ao, .int .i64 (ak : Int), .string (s)], .int .i64 (6 : Int)]) w) := by
  unfold insV
  have HL := Lib.hid (fun W => rMay_any pl ak W)
  rw [hl] at HL
  clear hl
  go_enter Try.func46, Try.ntmps46
  go_wp2_with fail
  refine (HL.out _).mono ?_
  rintro e w1 ⟨rfl, hb⟩
  have HR := Lib.hid (four_boxes hb)
  have i0 := HR.out.i 0 _ rfl
  have i1 := HR.out.i 1 _ rfl
  have i3 := HR.out.i 3 _ rfl
  have a0 := HR.out.a 0 _ rfl
  have a1 := HR.out.a 1 _ rfl
  have a2 := HR.out.a 2 _ rfl
  have r0 := HR.out.r 0 _ rfl
  have r1 := HR.out.r 1 _ rfl
  have r2 := HR.out.r 2 _ rfl
  have b0 := HR.out.b 0 _ rfl
  have b1 := HR.out.b 1 _ rfl
  have b2 := HR.out.b 2 _ rfl
  have fr0 := HR.out.fr 0
  have fb0 := HR.out.fb 0
  have fr1 := HR.out.fr 1
  have fb1 := HR.out.fb 1
  have fr2 := HR.out.fr 2
  have fb2 := HR.out.fb 2
  clear hb
  go_wp2
  refine bodyPost_ret (v := .tuple #[.agg #[.bool ao, .int .i64 (ak : Int), .string (s)], .int .i64 (6 : Int)]) (by simp [results, Try.results46, go_sem, r0, r1, r2, b0, b1, b2]) rfl ⟨rfl, ?_⟩
  (repeat' first | with_reducible exact HR.out.below | with_reducible refine below_set ?_ _ _ ?_) <;> omega
set_option maxRecDepth 100000 in
set_option maxHeartbeats 4000000 in
theorem rb_32_full (pl : Int) (w : World) (hs : s.size = 2 * d) (h8 : (d : Int) ≤ 8) (hl : mayI pl ak = true) (hd : d = 8) :
    Calls Try.prog 46 #[insV ⟨(32 : Int), kd, ar, pl, nn⟩, .int .i64 k, .int .i64 n, .agg #[.bool ao, .int .i64 (ak : Int), .string (s)]] w (Tells (.tuple #[.agg #[.bool ao, .int .i64 (ak : Int), .string (s)], .int .i64 (8 : Int)]) w) := by
  unfold insV
  have HL := Lib.hid (fun W => rMay_any pl ak W)
  rw [hl] at HL
  clear hl
  subst hd
  go_enter Try.func46, Try.ntmps46
  go_wp2_with fail
  refine (HL.out _).mono ?_
  rintro e w1 ⟨rfl, hb⟩
  have HR := Lib.hid (four_boxes hb)
  have i0 := HR.out.i 0 _ rfl
  have i1 := HR.out.i 1 _ rfl
  have i3 := HR.out.i 3 _ rfl
  have a0 := HR.out.a 0 _ rfl
  have a1 := HR.out.a 1 _ rfl
  have a2 := HR.out.a 2 _ rfl
  have r0 := HR.out.r 0 _ rfl
  have r1 := HR.out.r 1 _ rfl
  have r2 := HR.out.r 2 _ rfl
  have b0 := HR.out.b 0 _ rfl
  have b1 := HR.out.b 1 _ rfl
  have b2 := HR.out.b 2 _ rfl
  have fr0 := HR.out.fr 0
  have fb0 := HR.out.fb 0
  have fr1 := HR.out.fr 1
  have fb1 := HR.out.fb 1
  have fr2 := HR.out.fr 2
  have fb2 := HR.out.fb 2
  clear hb
  go_wp2
  refine bodyPost_ret (v := .tuple #[.agg #[.bool ao, .int .i64 (ak : Int), .string (s)], .int .i64 (8 : Int)]) (by simp [results, Try.results46, go_sem, r0, r1, r2, b0, b1, b2]) rfl ⟨rfl, ?_⟩
  (repeat' first | with_reducible exact HR.out.below | with_reducible refine below_set ?_ _ _ ?_) <;> omega
set_option maxRecDepth 100000 in
set_option maxHeartbeats 4000000 in
theorem rb_32_ok (pl : Int) (t : ByteArray) (w : World) (hs : s.size = 2 * d) (h8 : (d : Int) ≤ 8) (hl : mayI pl ak = true) (hd : (d : Int) < 8) (ht : s ++ strOfNums [pl, ak] = t) :
    Calls Try.prog 46 #[insV ⟨(32 : Int), kd, ar, pl, nn⟩, .int .i64 k, .int .i64 n, .agg #[.bool ao, .int .i64 (ak : Int), .string (s)]] w (Tells (.tuple #[.agg #[.bool ao, .int .i64 0, .string t], .int .i64 (0 : Int)]) w) := by
  unfold insV
  have hpk := may_kd hl
  have HL := Lib.hid (fun W => rMay_any pl ak W)
  rw [hl] at HL
  have hu1 : IntKind.u8.wrap pl = pl := by rw [IntKind.wrap_u8]; omega
  have hu2 : IntKind.u8.wrap ak = ak := by rw [IntKind.wrap_u8]; omega
  have hk := fun (w : World) => run_convert_bytes_arg (P := Try.prog) (w.alloc (.cells #[.int .u8 pl, .int .u8 ak] 5)) 101 5 Try.underlying101 Try.underlying5 w.heap.size 0 2 2 [pl, ak] rfl (two_cells w pl ak) 9 Try.underlying9
  have hk2 : ∀ (W : World) (x : Addr) (v : Value), (convert 101 9 (.slice (some ⟨W.heap.size, 0, none⟩) 2 2)).run Try.prog ((W.setCell x v).alloc (.cells #[.int .u8 pl, .int .u8 ak] 5)) = .ok (.string (strOfNums [pl, ak])) ((W.setCell x v).alloc (.cells #[.int .u8 pl, .int .u8 ak] 5)) := fun W x v => by
    have h := hk (W.setCell x v)
    rwa [show (W.setCell x v).heap.size = W.heap.size by simp] at h
  have hadd := fun (W : World) => run_string_add_sum (P := Try.prog) W s (strOfNums [pl, ak]) (by rw [strOfNums_size, hs]; simp; omega)
  rw [ht] at hadd
  generalize strOfNums [pl, ak] = u at *
  have hne8 : ((d : Int) == 8) = false := by rw [beq_eq_false_iff_ne]; omega
  clear hl ht hpk hk
  go_enter Try.func46, Try.ntmps46
  go_wp2_with fail
  refine (HL.out _).mono ?_
  rintro e w1 ⟨rfl, hb⟩
  have HR := Lib.hid (four_boxes hb)
  have i0 := HR.out.i 0 _ rfl
  have i1 := HR.out.i 1 _ rfl
  have i3 := HR.out.i 3 _ rfl
  have a0 := HR.out.a 0 _ rfl
  have a1 := HR.out.a 1 _ rfl
  have a2 := HR.out.a 2 _ rfl
  have r0 := HR.out.r 0 _ rfl
  have r1 := HR.out.r 1 _ rfl
  have r2 := HR.out.r 2 _ rfl
  have b0 := HR.out.b 0 _ rfl
  have b1 := HR.out.b 1 _ rfl
  have b2 := HR.out.b 2 _ rfl
  have fr0 := HR.out.fr 0
  have fb0 := HR.out.fb 0
  have fr1 := HR.out.fr 1
  have fb1 := HR.out.fb 1
  have fr2 := HR.out.fr 2
  have fb2 := HR.out.fb 2
  clear hb
  have hlt : w.heap.size + 1 + 1 + 1 < w1.heap.size := World.block_lt_of_cell? w1 _ b0
  have hlt2 : w.heap.size + 1 + 1 < w1.heap.size := World.block_lt_of_cell? w1 _ r0
  go_wp2
  refine bodyPost_ret (v := .tuple #[.agg #[.bool ao, .int .i64 0, .string t], .int .i64 0]) (by simp [results, Try.results46, go_sem, r0, r1, r2, hlt2]) rfl ⟨rfl, ?_⟩
  refine Below.alloc ?_ (by simp; omega) _
  (repeat' first | with_reducible exact HR.out.below | with_reducible refine below_set ?_ _ _ ?_) <;> omega
set_option maxRecDepth 100000 in
set_option maxHeartbeats 4000000 in
theorem rb_33_none (pl : Int) (w : World) (hs : s.size = 2 * d) (h8 : (d : Int) ≤ 8) (hd : d = 0) :
    Calls Try.prog 46 #[insV ⟨(33 : Int), kd, ar, pl, nn⟩, .int .i64 k, .int .i64 n, .agg #[.bool ao, .int .i64 (ak : Int), .string (s)]] w (Tells (.tuple #[.agg #[.bool ao, .int .i64 (ak : Int), .string (s)], .int .i64 (3 : Int)]) w) := by
  unfold insV
  subst hd
  go_enter Try.func46, Try.ntmps46
  go_wp2
  refine bodyPost_ret (v := .tuple #[.agg #[.bool ao, .int .i64 (ak : Int), .string (s)], .int .i64 (3 : Int)]) (by simp [results, Try.results46, go_sem]) rfl ⟨rfl, box_four _ _ _ _ _ _ _ _ _⟩
set_option maxRecDepth 100000 in
set_option maxHeartbeats 4000000 in
theorem rb_33_no (pl : Int) (E : ByteArray) (k1 : Nat) (w : World) (hs : s.size = 2 * d) (h8 : (d : Int) ≤ 8) (hd : (0 : Int) < d) (hx : s.extract (2 * d - 2) (2 * d) = E) (hE : E.size = 2) (hE1 : ∀ h : 1 < E.size, (E[1]'h).toNat = k1) (hk1 : (k1 : Int) ≤ 7) (hk : ak ≠ k1) :
    Calls Try.prog 46 #[insV ⟨(33 : Int), kd, ar, pl, nn⟩, .int .i64 k, .int .i64 n, .agg #[.bool ao, .int .i64 (ak : Int), .string (s)]] w (Tells (.tuple #[.agg #[.bool ao, .int .i64 (ak : Int), .string (s)], .int .i64 (6 : Int)]) w) := by
  unfold insV
  have hd0 : ((d : Int) == 0) = false := by rw [beq_eq_false_iff_ne]; omega
  have hkw : IntKind.i64.wrap (k1 : Int) = k1 := by rw [IntKind.wrap_i64]; omega
  have hkb : (ak != (k1 : Int)) = true := by simpa using hk
  clear hk
  go_enter Try.func46, Try.ntmps46
  go_wp2
  refine bodyPost_ret (v := .tuple #[.agg #[.bool ao, .int .i64 (ak : Int), .string (s)], .int .i64 (6 : Int)]) (by simp [results, Try.results46, go_sem]) rfl ⟨rfl, box_four _ _ _ _ _ _ _ _ _⟩
set_option maxRecDepth 100000 in
set_option maxHeartbeats 4000000 in
theorem rb_33_ord (pl : Int) (E : ByteArray) (k1 o1 : Nat) (T : ByteArray) (w : World) (hs : s.size = 2 * d) (h8 : (d : Int) ≤ 8) (hd : (0 : Int) < d) (hx : s.extract (2 * d - 2) (2 * d) = E) (hE : E.size = 2) (hE1 : ∀ h : 1 < E.size, (E[1]'h).toNat = k1) (hE0 : ∀ h : 0 < E.size, (E[0]'h).toNat = o1) (hk1 : (k1 : Int) ≤ 7) (hT : s.extract 0 (2 * d - 2) = T) (hk : ak = k1) (ho : 19 ≤ o1) :
    Calls Try.prog 46 #[insV ⟨(33 : Int), kd, ar, pl, nn⟩, .int .i64 k, .int .i64 n, .agg #[.bool ao, .int .i64 (ak : Int), .string (s)]] w (Tells (.tuple #[.agg #[.bool ao, .int .i64 (1 : Int), .string T], .int .i64 (0 : Int)]) w) := by
  unfold insV
  have hd0 : ((d : Int) == 0) = false := by rw [beq_eq_false_iff_ne]; omega
  have hkw : IntKind.i64.wrap (k1 : Int) = k1 := by rw [IntKind.wrap_i64]; omega
  have hkb : (ak != (k1 : Int)) = false := by simpa using hk
  have hob : (19 : Int) ≤ o1 := by omega
  clear hk ho
  go_enter Try.func46, Try.ntmps46
  go_wp2
  refine bodyPost_ret (v := .tuple #[.agg #[.bool ao, .int .i64 (1 : Int), .string T], .int .i64 (0 : Int)]) (by simp [results, Try.results46, go_sem]) rfl ⟨rfl, box_four _ _ _ _ _ _ _ _ _⟩
set_option maxRecDepth 100000 in
set_option maxHeartbeats 4000000 in
theorem rb_33_ok (pl : Int) (E : ByteArray) (k1 o1 : Nat) (T : ByteArray) (w : World) (hs : s.size = 2 * d) (h8 : (d : Int) ≤ 8) (hd : (0 : Int) < d) (hx : s.extract (2 * d - 2) (2 * d) = E) (hE : E.size = 2) (hE1 : ∀ h : 1 < E.size, (E[1]'h).toNat = k1) (hE0 : ∀ h : 0 < E.size, (E[0]'h).toNat = o1) (hk1 : (k1 : Int) ≤ 7) (hT : s.extract 0 (2 * d - 2) = T) (hk : ak = k1) (ho : ¬ 19 ≤ o1) :
    Calls Try.prog 46 #[insV ⟨(33 : Int), kd, ar, pl, nn⟩, .int .i64 k, .int .i64 n, .agg #[.bool ao, .int .i64 (ak : Int), .string (s)]] w (Tells (.tuple #[.agg #[.bool ao, .int .i64 (ak : Int), .string T], .int .i64 (0 : Int)]) w) := by
  unfold insV
  have hd0 : ((d : Int) == 0) = false := by rw [beq_eq_false_iff_ne]; omega
  have hkw : IntKind.i64.wrap (k1 : Int) = k1 := by rw [IntKind.wrap_i64]; omega
  have hkb : (ak != (k1 : Int)) = false := by simpa using hk
  have hob : ¬ (19 : Int) ≤ o1 := by omega
  clear hk ho
  go_enter Try.func46, Try.ntmps46
  go_wp2
  refine bodyPost_ret (v := .tuple #[.agg #[.bool ao, .int .i64 (ak : Int), .string T], .int .i64 (0 : Int)]) (by simp [results, Try.results46, go_sem]) rfl ⟨rfl, box_four _ _ _ _ _ _ _ _ _⟩
end
end Go.Proofs.Ytmlopacekoghkaa.Ve
