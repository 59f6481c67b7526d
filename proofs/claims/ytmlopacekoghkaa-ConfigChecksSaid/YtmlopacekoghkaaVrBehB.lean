/-
  The reference's behind, walked: operations on two values. Conditions: an operation that there is; what is ahead is well formed.
-/
import Derived.Test.YtmlopacekoghkaaVrA
namespace Go.Proofs.Ytmlopacekoghkaa.Ve
open Go.RowKit
open Go.Proofs.Ytmlopacekoghkaa.Il hiding Next
open Go.Proofs.Ytmlopacekoghkaa.Ic
set_option linter.unusedSimpArgs false

section
variable (kd ar nn : Int) (k n : Int) (ao : Bool) (ak : Int) (s : ByteArray) (d : Nat)

set_option maxRecDepth 100000 in
set_option maxHeartbeats 4000000 in
theorem rb_low_no (pl : Int) (op : Int) (w : World) (hs : s.size = 2 * d) (h8 : (d : Int) ≤ 8) (h1 : 7 ≤ op) (h2 : op ≤ 12) (hk : ak ≠ kd) :
    Calls Try.prog 46 #[insV ⟨op, kd, ar, pl, nn⟩, .int .i64 k, .int .i64 n, .agg #[.bool ao, .int .i64 (ak : Int), .string (s)]] w (Tells (.tuple #[.agg #[.bool ao, .int .i64 (ak : Int), .string (s)], .int .i64 (6 : Int)]) w) := by
  unfold insV
  have e1 : (op == 1) = false := by rw [beq_eq_false_iff_ne]; omega
  have e2 : (op == 2) = false := by rw [beq_eq_false_iff_ne]; omega
  have e3 : (op == 3) = false := by rw [beq_eq_false_iff_ne]; omega
  have e4 : (op == 4) = false := by rw [beq_eq_false_iff_ne]; omega
  have e5 : (op == 5) = false := by rw [beq_eq_false_iff_ne]; omega
  have e6 : (op == 6) = false := by rw [beq_eq_false_iff_ne]; omega
  have e13 : (op == 13) = false := by rw [beq_eq_false_iff_ne]; omega
  have hkb : (ak != kd) = true := by simpa using hk
  clear hk
  go_enter Try.func46, Try.ntmps46
  go_wp2
  refine bodyPost_ret (v := .tuple #[.agg #[.bool ao, .int .i64 (ak : Int), .string (s)], .int .i64 (6 : Int)]) (by simp [results, Try.results46, go_sem]) rfl ⟨rfl, box_four _ _ _ _ _ _ _ _ _⟩
set_option maxRecDepth 100000 in
set_option maxHeartbeats 4000000 in
theorem rb_low_may (pl : Int) (op : Int) (w : World) (hs : s.size = 2 * d) (h8 : (d : Int) ≤ 8) (h1 : 7 ≤ op) (h2 : op ≤ 12) (hk : ak = kd) (hl : mayI op ak = false) :
    Calls Try.prog 46 #[insV ⟨op, kd, ar, pl, nn⟩, .int .i64 k, .int .i64 n, .agg #[.bool ao, .int .i64 (ak : Int), .string (s)]] w (Tells (.tuple #[.agg #[.bool ao, .int .i64 (ak : Int), .string (s)], .int .i64 (6 : Int)]) w) := by
  unfold insV
  have e1 : (op == 1) = false := by rw [beq_eq_false_iff_ne]; omega
  have e2 : (op == 2) = false := by rw [beq_eq_false_iff_ne]; omega
  have e3 : (op == 3) = false := by rw [beq_eq_false_iff_ne]; omega
  have e4 : (op == 4) = false := by rw [beq_eq_false_iff_ne]; omega
  have e5 : (op == 5) = false := by rw [beq_eq_false_iff_ne]; omega
  have e6 : (op == 6) = false := by rw [beq_eq_false_iff_ne]; omega
  have e13 : (op == 13) = false := by rw [beq_eq_false_iff_ne]; omega
  have hkb : (ak != kd) = false := by simpa using hk
  have HL := Lib.hid (fun W => rMay_any op ak W)
  rw [hl] at HL
  clear hl hk
  go_enter Try.func46, Try.ntmps46
  go_wp2_with fail
  refine (HL.out _).mono ?_
  rintro e w1 ⟨rfl, hb⟩
  have HR := Lib.hid (four_boxes hb)
  have i0 := HR.out.i 0 _ rfl
  have i1 := HR.out.i 1 _ rfl
  have i3 := HR.out.i 3 _ rfl
  have a0 := HR.out.a 0 _ rfl
  have a1 := HR.out.a 1 _ rfl
  have a2 := HR.out.a 2 _ rfl
  have r0 := HR.out.r 0 _ rfl
  have r1 := HR.out.r 1 _ rfl
  have r2 := HR.out.r 2 _ rfl
  have b0 := HR.out.b 0 _ rfl
  have b1 := HR.out.b 1 _ rfl
  have b2 := HR.out.b 2 _ rfl
  have fr0 := HR.out.fr 0
  have fb0 := HR.out.fb 0
  have fr1 := HR.out.fr 1
  have fb1 := HR.out.fb 1
  have fr2 := HR.out.fr 2
  have fb2 := HR.out.fb 2
  clear hb
  go_wp2
  refine bodyPost_ret (v := .tuple #[.agg #[.bool ao, .int .i64 (ak : Int), .string (s)], .int .i64 (6 : Int)]) (by simp [results, Try.results46, go_sem, r0, r1, r2, b0, b1, b2]) rfl ⟨rfl, ?_⟩
  (repeat' first | with_reducible exact HR.out.below | with_reducible refine below_set ?_ _ _ ?_) <;> omega
set_option maxRecDepth 100000 in
set_option maxHeartbeats 4000000 in
theorem rb_low_ok (pl : Int) (op : Int) (w : World) (hs : s.size = 2 * d) (h8 : (d : Int) ≤ 8) (h1 : 7 ≤ op) (h2 : op ≤ 12) (hk : ak = kd) (hl : mayI op ak = true) :
    Calls Try.prog 46 #[insV ⟨op, kd, ar, pl, nn⟩, .int .i64 k, .int .i64 n, .agg #[.bool ao, .int .i64 (ak : Int), .string (s)]] w (Tells (.tuple #[.agg #[.bool ao, .int .i64 (ak : Int), .string (s)], .int .i64 (0 : Int)]) w) := by
  unfold insV
  have e1 : (op == 1) = false := by rw [beq_eq_false_iff_ne]; omega
  have e2 : (op == 2) = false := by rw [beq_eq_false_iff_ne]; omega
  have e3 : (op == 3) = false := by rw [beq_eq_false_iff_ne]; omega
  have e4 : (op == 4) = false := by rw [beq_eq_false_iff_ne]; omega
  have e5 : (op == 5) = false := by rw [beq_eq_false_iff_ne]; omega
  have e6 : (op == 6) = false := by rw [beq_eq_false_iff_ne]; omega
  have e13 : (op == 13) = false := by rw [beq_eq_false_iff_ne]; omega
  have hkb : (ak != kd) = false := by simpa using hk
  have HL := Lib.hid (fun W => rMay_any op ak W)
  rw [hl] at HL
  clear hl hk
  go_enter Try.func46, Try.ntmps46
  go_wp2_with fail
  refine (HL.out _).mono ?_
  rintro e w1 ⟨rfl, hb⟩
  have HR := Lib.hid (four_boxes hb)
  have i0 := HR.out.i 0 _ rfl
  have i1 := HR.out.i 1 _ rfl
  have i3 := HR.out.i 3 _ rfl
  have a0 := HR.out.a 0 _ rfl
  have a1 := HR.out.a 1 _ rfl
  have a2 := HR.out.a 2 _ rfl
  have r0 := HR.out.r 0 _ rfl
  have r1 := HR.out.r 1 _ rfl
  have r2 := HR.out.r 2 _ rfl
  have b0 := HR.out.b 0 _ rfl
  have b1 := HR.out.b 1 _ rfl
  have b2 := HR.out.b 2 _ rfl
  have fr0 := HR.out.fr 0
  have fb0 := HR.out.fb 0
  have fr1 := HR.out.fr 1
  have fb1 := HR.out.fb 1
  have fr2 := HR.out.fr 2
  have fb2 := HR.out.fb 2
  clear hb
  go_wp2
  refine bodyPost_ret (v := .tuple #[.agg #[.bool ao, .int .i64 (ak : Int), .string (s)], .int .i64 (0 : Int)]) (by simp [results, Try.results46, go_sem, r0, r1, r2, b0, b1, b2]) rfl ⟨rfl, ?_⟩
  (repeat' first | with_reducible exact HR.out.below | with_reducible refine below_set ?_ _ _ ?_) <;> omega
set_option maxRecDepth 100000 in
set_option maxHeartbeats 4000000 in
theorem rb_mid_no (pl : Int) (op : Int) (w : World) (hs : s.size = 2 * d) (h8 : (d : Int) ≤ 8) (h1 : 14 ≤ op) (h2 : op ≤ 18) (hk : ak ≠ kd) :
    Calls Try.prog 46 #[insV ⟨op, kd, ar, pl, nn⟩, .int .i64 k, .int .i64 n, .agg #[.bool ao, .int .i64 (ak : Int), .string (s)]] w (Tells (.tuple #[.agg #[.bool ao, .int .i64 (ak : Int), .string (s)], .int .i64 (6 : Int)]) w) := by
  unfold insV
  have e1 : (op == 1) = false := by rw [beq_eq_false_iff_ne]; omega
  have e2 : (op == 2) = false := by rw [beq_eq_false_iff_ne]; omega
  have e3 : (op == 3) = false := by rw [beq_eq_false_iff_ne]; omega
  have e4 : (op == 4) = false := by rw [beq_eq_false_iff_ne]; omega
  have e5 : (op == 5) = false := by rw [beq_eq_false_iff_ne]; omega
  have e6 : (op == 6) = false := by rw [beq_eq_false_iff_ne]; omega
  have e13 : (op == 13) = false := by rw [beq_eq_false_iff_ne]; omega
  have hkb : (ak != kd) = true := by simpa using hk
  clear hk
  go_enter Try.func46, Try.ntmps46
  go_wp2
  refine bodyPost_ret (v := .tuple #[.agg #[.bool ao, .int .i64 (ak : Int), .string (s)], .int .i64 (6 : Int)]) (by simp [results, Try.results46, go_sem]) rfl ⟨rfl, box_four _ _ _ _ _ _ _ _ _⟩
set_option maxRecDepth 100000 in
set_option maxHeartbeats 4000000 in
theorem rb_mid_may (pl : Int) (op : Int) (w : World) (hs : s.size = 2 * d) (h8 : (d : Int) ≤ 8) (h1 : 14 ≤ op) (h2 : op ≤ 18) (hk : ak = kd) (hl : mayI op ak = false) :
    Calls Try.prog 46 #[insV ⟨op, kd, ar, pl, nn⟩, .int .i64 k, .int .i64 n, .agg #[.bool ao, .int .i64 (ak : Int), .string (s)]] w (Tells (.tuple #[.agg #[.bool ao, .int .i64 (ak : Int), .string (s)], .int .i64 (6 : Int)]) w) := by
  unfold insV
  have e1 : (op == 1) = false := by rw [beq_eq_false_iff_ne]; omega
  have e2 : (op == 2) = false := by rw [beq_eq_false_iff_ne]; omega
  have e3 : (op == 3) = false := by rw [beq_eq_false_iff_ne]; omega
  have e4 : (op == 4) = false := by rw [beq_eq_false_iff_ne]; omega
  have e5 : (op == 5) = false := by rw [beq_eq_false_iff_ne]; omega
  have e6 : (op == 6) = false := by rw [beq_eq_false_iff_ne]; omega
  have e13 : (op == 13) = false := by rw [beq_eq_false_iff_ne]; omega
  have hkb : (ak != kd) = false := by simpa using hk
  have HL := Lib.hid (fun W => rMay_any op ak W)
  rw [hl] at HL
  clear hl hk
  go_enter Try.func46, Try.ntmps46
  go_wp2_with fail
  refine (HL.out _).mono ?_
  rintro e w1 ⟨rfl, hb⟩
  have HR := Lib.hid (four_boxes hb)
  have i0 := HR.out.i 0 _ rfl
  have i1 := HR.out.i 1 _ rfl
  have i3 := HR.out.i 3 _ rfl
  have a0 := HR.out.a 0 _ rfl
  have a1 := HR.out.a 1 _ rfl
  have a2 := HR.out.a 2 _ rfl
  have r0 := HR.out.r 0 _ rfl
  have r1 := HR.out.r 1 _ rfl
  have r2 := HR.out.r 2 _ rfl
  have b0 := HR.out.b 0 _ rfl
  have b1 := HR.out.b 1 _ rfl
  have b2 := HR.out.b 2 _ rfl
  have fr0 := HR.out.fr 0
  have fb0 := HR.out.fb 0
  have fr1 := HR.out.fr 1
  have fb1 := HR.out.fb 1
  have fr2 := HR.out.fr 2
  have fb2 := HR.out.fb 2
  clear hb
  go_wp2
  refine bodyPost_ret (v := .tuple #[.agg #[.bool ao, .int .i64 (ak : Int), .string (s)], .int .i64 (6 : Int)]) (by simp [results, Try.results46, go_sem, r0, r1, r2, b0, b1, b2]) rfl ⟨rfl, ?_⟩
  (repeat' first | with_reducible exact HR.out.below | with_reducible refine below_set ?_ _ _ ?_) <;> omega
set_option maxRecDepth 100000 in
set_option maxHeartbeats 4000000 in
theorem rb_mid_ok (pl : Int) (op : Int) (w : World) (hs : s.size = 2 * d) (h8 : (d : Int) ≤ 8) (h1 : 14 ≤ op) (h2 : op ≤ 18) (hk : ak = kd) (hl : mayI op ak = true) :
    Calls Try.prog 46 #[insV ⟨op, kd, ar, pl, nn⟩, .int .i64 k, .int .i64 n, .agg #[.bool ao, .int .i64 (ak : Int), .string (s)]] w (Tells (.tuple #[.agg #[.bool ao, .int .i64 (ak : Int), .string (s)], .int .i64 (0 : Int)]) w) := by
  unfold insV
  have e1 : (op == 1) = false := by rw [beq_eq_false_iff_ne]; omega
  have e2 : (op == 2) = false := by rw [beq_eq_false_iff_ne]; omega
  have e3 : (op == 3) = false := by rw [beq_eq_false_iff_ne]; omega
  have e4 : (op == 4) = false := by rw [beq_eq_false_iff_ne]; omega
  have e5 : (op == 5) = false := by rw [beq_eq_false_iff_ne]; omega
  have e6 : (op == 6) = false := by rw [beq_eq_false_iff_ne]; omega
  have e13 : (op == 13) = false := by rw [beq_eq_false_iff_ne]; omega
  have hkb : (ak != kd) = false := by simpa using hk
  have HL := Lib.hid (fun W => rMay_any op ak W)
  rw [hl] at HL
  clear hl hk
  go_enter Try.func46, Try.ntmps46
  go_wp2_with fail
  refine (HL.out _).mono ?_
  rintro e w1 ⟨rfl, hb⟩
  have HR := Lib.hid (four_boxes hb)
  have i0 := HR.out.i 0 _ rfl
  have i1 := HR.out.i 1 _ rfl
  have i3 := HR.out.i 3 _ rfl
  have a0 := HR.out.a 0 _ rfl
  have a1 := HR.out.a 1 _ rfl
  have a2 := HR.out.a 2 _ rfl
  have r0 := HR.out.r 0 _ rfl
  have r1 := HR.out.r 1 _ rfl
  have r2 := HR.out.r 2 _ rfl
  have b0 := HR.out.b 0 _ rfl
  have b1 := HR.out.b 1 _ rfl
  have b2 := HR.out.b 2 _ rfl
  have fr0 := HR.out.fr 0
  have fb0 := HR.out.fb 0
  have fr1 := HR.out.fr 1
  have fb1 := HR.out.fb 1
  have fr2 := HR.out.fr 2
  have fb2 := HR.out.fb 2
  clear hb
  go_wp2
  refine bodyPost_ret (v := .tuple #[.agg #[.bool ao, .int .i64 (ak : Int), .string (s)], .int .i64 (0 : Int)]) (by simp [results, Try.results46, go_sem, r0, r1, r2, b0, b1, b2]) rfl ⟨rfl, ?_⟩
  (repeat' first | with_reducible exact HR.out.below | with_reducible refine below_set ?_ _ _ ?_) <;> omega
set_option maxRecDepth 100000 in
set_option maxHeartbeats 4000000 in
theorem rb_high_no (pl : Int) (op : Int) (w : World) (hs : s.size = 2 * d) (h8 : (d : Int) ≤ 8) (h1 : 19 ≤ op) (h2 : op ≤ 24) (hk : ak ≠ kd) :
    Calls Try.prog 46 #[insV ⟨op, kd, ar, pl, nn⟩, .int .i64 k, .int .i64 n, .agg #[.bool ao, .int .i64 (ak : Int), .string (s)]] w (Tells (.tuple #[.agg #[.bool ao, .int .i64 (ak : Int), .string (s)], .int .i64 (6 : Int)]) w) := by
  unfold insV
  have e1 : (op == 1) = false := by rw [beq_eq_false_iff_ne]; omega
  have e2 : (op == 2) = false := by rw [beq_eq_false_iff_ne]; omega
  have e3 : (op == 3) = false := by rw [beq_eq_false_iff_ne]; omega
  have e4 : (op == 4) = false := by rw [beq_eq_false_iff_ne]; omega
  have e5 : (op == 5) = false := by rw [beq_eq_false_iff_ne]; omega
  have e6 : (op == 6) = false := by rw [beq_eq_false_iff_ne]; omega
  have e13 : (op == 13) = false := by rw [beq_eq_false_iff_ne]; omega
  have hkb : (ak != kd) = true := by simpa using hk
  clear hk
  go_enter Try.func46, Try.ntmps46
  go_wp2
  refine bodyPost_ret (v := .tuple #[.agg #[.bool ao, .int .i64 (ak : Int), .string (s)], .int .i64 (6 : Int)]) (by simp [results, Try.results46, go_sem]) rfl ⟨rfl, box_four _ _ _ _ _ _ _ _ _⟩
set_option maxRecDepth 100000 in
set_option maxHeartbeats 4000000 in
theorem rb_high_may (pl : Int) (op : Int) (w : World) (hs : s.size = 2 * d) (h8 : (d : Int) ≤ 8) (h1 : 19 ≤ op) (h2 : op ≤ 24) (hk : ak = kd) (hl : mayI op ak = false) :
    Calls Try.prog 46 #[insV ⟨op, kd, ar, pl, nn⟩, .int .i64 k, .int .i64 n, .agg #[.bool ao, .int .i64 (ak : Int), .string (s)]] w (Tells (.tuple #[.agg #[.bool ao, .int .i64 (ak : Int), .string (s)], .int .i64 (6 : Int)]) w) := by
  unfold insV
  have e1 : (op == 1) = false := by rw [beq_eq_false_iff_ne]; omega
  have e2 : (op == 2) = false := by rw [beq_eq_false_iff_ne]; omega
  have e3 : (op == 3) = false := by rw [beq_eq_false_iff_ne]; omega
  have e4 : (op == 4) = false := by rw [beq_eq_false_iff_ne]; omega
  have e5 : (op == 5) = false := by rw [beq_eq_false_iff_ne]; omega
  have e6 : (op == 6) = false := by rw [beq_eq_false_iff_ne]; omega
  have e13 : (op == 13) = false := by rw [beq_eq_false_iff_ne]; omega
  have hkb : (ak != kd) = false := by simpa using hk
  have HL := Lib.hid (fun W => rMay_any op ak W)
  rw [hl] at HL
  clear hl hk
  go_enter Try.func46, Try.ntmps46
  go_wp2_with fail
  refine (HL.out _).mono ?_
  rintro e w1 ⟨rfl, hb⟩
  have HR := Lib.hid (four_boxes hb)
  have i0 := HR.out.i 0 _ rfl
  have i1 := HR.out.i 1 _ rfl
  have i3 := HR.out.i 3 _ rfl
  have a0 := HR.out.a 0 _ rfl
  have a1 := HR.out.a 1 _ rfl
  have a2 := HR.out.a 2 _ rfl
  have r0 := HR.out.r 0 _ rfl
  have r1 := HR.out.r 1 _ rfl
  have r2 := HR.out.r 2 _ rfl
  have b0 := HR.out.b 0 _ rfl
  have b1 := HR.out.b 1 _ rfl
  have b2 := HR.out.b 2 _ rfl
  have fr0 := HR.out.fr 0
  have fb0 := HR.out.fb 0
  have fr1 := HR.out.fr 1
  have fb1 := HR.out.fb 1
  have fr2 := HR.out.fr 2
  have fb2 := HR.out.fb 2
  clear hb
  go_wp2
  refine bodyPost_ret (v := .tuple #[.agg #[.bool ao, .int .i64 (ak : Int), .string (s)], .int .i64 (6 : Int)]) (by simp [results, Try.results46, go_sem, r0, r1, r2, b0, b1, b2]) rfl ⟨rfl, ?_⟩
  (repeat' first | with_reducible exact HR.out.below | with_reducible refine below_set ?_ _ _ ?_) <;> omega
set_option maxRecDepth 100000 in
set_option maxHeartbeats 4000000 in
theorem rb_high_ok (pl : Int) (op : Int) (w : World) (hs : s.size = 2 * d) (h8 : (d : Int) ≤ 8) (h1 : 19 ≤ op) (h2 : op ≤ 24) (hk : ak = kd) (hl : mayI op ak = true) :
    Calls Try.prog 46 #[insV ⟨op, kd, ar, pl, nn⟩, .int .i64 k, .int .i64 n, .agg #[.bool ao, .int .i64 (ak : Int), .string (s)]] w (Tells (.tuple #[.agg #[.bool ao, .int .i64 (1 : Int), .string (s)], .int .i64 (0 : Int)]) w) := by
  unfold insV
  have e1 : (op == 1) = false := by rw [beq_eq_false_iff_ne]; omega
  have e2 : (op == 2) = false := by rw [beq_eq_false_iff_ne]; omega
  have e3 : (op == 3) = false := by rw [beq_eq_false_iff_ne]; omega
  have e4 : (op == 4) = false := by rw [beq_eq_false_iff_ne]; omega
  have e5 : (op == 5) = false := by rw [beq_eq_false_iff_ne]; omega
  have e6 : (op == 6) = false := by rw [beq_eq_false_iff_ne]; omega
  have e13 : (op == 13) = false := by rw [beq_eq_false_iff_ne]; omega
  have hkb : (ak != kd) = false := by simpa using hk
  have HL := Lib.hid (fun W => rMay_any op ak W)
  rw [hl] at HL
  clear hl hk
  go_enter Try.func46, Try.ntmps46
  go_wp2_with fail
  refine (HL.out _).mono ?_
  rintro e w1 ⟨rfl, hb⟩
  have HR := Lib.hid (four_boxes hb)
  have i0 := HR.out.i 0 _ rfl
  have i1 := HR.out.i 1 _ rfl
  have i3 := HR.out.i 3 _ rfl
  have a0 := HR.out.a 0 _ rfl
  have a1 := HR.out.a 1 _ rfl
  have a2 := HR.out.a 2 _ rfl
  have r0 := HR.out.r 0 _ rfl
  have r1 := HR.out.r 1 _ rfl
  have r2 := HR.out.r 2 _ rfl
  have b0 := HR.out.b 0 _ rfl
  have b1 := HR.out.b 1 _ rfl
  have b2 := HR.out.b 2 _ rfl
  have fr0 := HR.out.fr 0
  have fb0 := HR.out.fb 0
  have fr1 := HR.out.fr 1
  have fb1 := HR.out.fb 1
  have fr2 := HR.out.fr 2
  have fb2 := HR.out.fb 2
  clear hb
  go_wp2
  refine bodyPost_ret (v := .tuple #[.agg #[.bool ao, .int .i64 (1 : Int), .string (s)], .int .i64 (0 : Int)]) (by simp [results, Try.results46, go_sem, r0, r1, r2, b0, b1, b2]) rfl ⟨rfl, ?_⟩
  (repeat' first | with_reducible exact HR.out.below | with_reducible refine below_set ?_ _ _ ?_) <;> omega

end
end Go.Proofs.Ytmlopacekoghkaa.Ve
