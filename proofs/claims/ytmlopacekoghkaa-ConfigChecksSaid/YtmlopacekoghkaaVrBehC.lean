/-
  The reference's behind, walked: jumps, ends, CONV, blocks. Conditions: an operation that there is; what is ahead is well formed.
-/
import Derived.Test.YtmlopacekoghkaaVrA
namespace Go.Proofs.Ytmlopacekoghkaa.Ve
open Go.RowKit
open Go.Proofs.Ytmlopacekoghkaa.Il hiding Next
open Go.Proofs.Ytmlopacekoghkaa.Ic
set_option linter.unusedSimpArgs false

section
variable (kd ar nn : Int) (k n : Int) (ao : Bool) (ak : Int) (s : ByteArray) (d : Nat)

set_option maxRecDepth 100000 in
set_option maxHeartbeats 4000000 in
theorem rb_25_lo (pl : Int) (w : World) (hs : s.size = 2 * d) (h8 : (d : Int) ≤ 8) (hp : pl ≤ k) :
    Calls Try.prog 46 #[insV ⟨(25 : Int), kd, ar, pl, nn⟩, .int .i64 k, .int .i64 n, .agg #[.bool ao, .int .i64 (ak : Int), .string (s)]] w (Tells (.tuple #[.agg #[.bool ao, .int .i64 (ak : Int), .string (s)], .int .i64 (7 : Int)]) w) := by
  unfold insV
  go_enter Try.func46, Try.ntmps46
  go_wp2
  refine bodyPost_ret (v := .tuple #[.agg #[.bool ao, .int .i64 (ak : Int), .string (s)], .int .i64 (7 : Int)]) (by simp [results, Try.results46, go_sem]) rfl ⟨rfl, box_four _ _ _ _ _ _ _ _ _⟩
set_option maxRecDepth 100000 in
set_option maxHeartbeats 4000000 in
theorem rb_25_hi (pl : Int) (w : World) (hs : s.size = 2 * d) (h8 : (d : Int) ≤ 8) (hp : ¬ pl ≤ k) (hq : n < pl) :
    Calls Try.prog 46 #[insV ⟨(25 : Int), kd, ar, pl, nn⟩, .int .i64 k, .int .i64 n, .agg #[.bool ao, .int .i64 (ak : Int), .string (s)]] w (Tells (.tuple #[.agg #[.bool ao, .int .i64 (ak : Int), .string (s)], .int .i64 (7 : Int)]) w) := by
  unfold insV
  go_enter Try.func46, Try.ntmps46
  go_wp2
  refine bodyPost_ret (v := .tuple #[.agg #[.bool ao, .int .i64 (ak : Int), .string (s)], .int .i64 (7 : Int)]) (by simp [results, Try.results46, go_sem]) rfl ⟨rfl, box_four _ _ _ _ _ _ _ _ _⟩
set_option maxRecDepth 100000 in
set_option maxHeartbeats 4000000 in
theorem rb_25_ok (pl : Int) (w : World) (hs : s.size = 2 * d) (h8 : (d : Int) ≤ 8) (hp : ¬ pl ≤ k) (hq : ¬ n < pl) :
    Calls Try.prog 46 #[insV ⟨(25 : Int), kd, ar, pl, nn⟩, .int .i64 k, .int .i64 n, .agg #[.bool ao, .int .i64 (ak : Int), .string (s)]] w (Tells (.tuple #[.agg #[.bool ao, .int .i64 (ak : Int), .string (s)], .int .i64 (0 : Int)]) w) := by
  unfold insV
  go_enter Try.func46, Try.ntmps46
  go_wp2
  refine bodyPost_ret (v := .tuple #[.agg #[.bool ao, .int .i64 (ak : Int), .string (s)], .int .i64 (0 : Int)]) (by simp [results, Try.results46, go_sem]) rfl ⟨rfl, box_four _ _ _ _ _ _ _ _ _⟩
set_option maxRecDepth 100000 in
set_option maxHeartbeats 4000000 in
theorem rb_26_lo (pl : Int) (w : World) (hs : s.size = 2 * d) (h8 : (d : Int) ≤ 8) (hp : pl ≤ k) :
    Calls Try.prog 46 #[insV ⟨(26 : Int), kd, ar, pl, nn⟩, .int .i64 k, .int .i64 n, .agg #[.bool ao, .int .i64 (ak : Int), .string (s)]] w (Tells (.tuple #[.agg #[.bool ao, .int .i64 (ak : Int), .string (s)], .int .i64 (7 : Int)]) w) := by
  unfold insV
  go_enter Try.func46, Try.ntmps46
  go_wp2
  refine bodyPost_ret (v := .tuple #[.agg #[.bool ao, .int .i64 (ak : Int), .string (s)], .int .i64 (7 : Int)]) (by simp [results, Try.results46, go_sem]) rfl ⟨rfl, box_four _ _ _ _ _ _ _ _ _⟩
set_option maxRecDepth 100000 in
set_option maxHeartbeats 4000000 in
theorem rb_26_hi (pl : Int) (w : World) (hs : s.size = 2 * d) (h8 : (d : Int) ≤ 8) (hp : ¬ pl ≤ k) (hq : n < pl) :
    Calls Try.prog 46 #[insV ⟨(26 : Int), kd, ar, pl, nn⟩, .int .i64 k, .int .i64 n, .agg #[.bool ao, .int .i64 (ak : Int), .string (s)]] w (Tells (.tuple #[.agg #[.bool ao, .int .i64 (ak : Int), .string (s)], .int .i64 (7 : Int)]) w) := by
  unfold insV
  go_enter Try.func46, Try.ntmps46
  go_wp2
  refine bodyPost_ret (v := .tuple #[.agg #[.bool ao, .int .i64 (ak : Int), .string (s)], .int .i64 (7 : Int)]) (by simp [results, Try.results46, go_sem]) rfl ⟨rfl, box_four _ _ _ _ _ _ _ _ _⟩
set_option maxRecDepth 100000 in
set_option maxHeartbeats 4000000 in
theorem rb_26_no (pl : Int) (w : World) (hs : s.size = 2 * d) (h8 : (d : Int) ≤ 8) (hp : ¬ pl ≤ k) (hq : ¬ n < pl) (hk : ak ≠ 1) :
    Calls Try.prog 46 #[insV ⟨(26 : Int), kd, ar, pl, nn⟩, .int .i64 k, .int .i64 n, .agg #[.bool ao, .int .i64 (ak : Int), .string (s)]] w (Tells (.tuple #[.agg #[.bool ao, .int .i64 (ak : Int), .string (s)], .int .i64 (6 : Int)]) w) := by
  unfold insV
  have hkb : (ak != 1) = true := by simpa using hk
  clear hk
  go_enter Try.func46, Try.ntmps46
  go_wp2
  refine bodyPost_ret (v := .tuple #[.agg #[.bool ao, .int .i64 (ak : Int), .string (s)], .int .i64 (6 : Int)]) (by simp [results, Try.results46, go_sem]) rfl ⟨rfl, box_four _ _ _ _ _ _ _ _ _⟩
set_option maxRecDepth 100000 in
set_option maxHeartbeats 4000000 in
theorem rb_26_ok (pl : Int) (w : World) (hs : s.size = 2 * d) (h8 : (d : Int) ≤ 8) (hp : ¬ pl ≤ k) (hq : ¬ n < pl) (hk : ak = 1) :
    Calls Try.prog 46 #[insV ⟨(26 : Int), kd, ar, pl, nn⟩, .int .i64 k, .int .i64 n, .agg #[.bool ao, .int .i64 (ak : Int), .string (s)]] w (Tells (.tuple #[.agg #[.bool ao, .int .i64 (ak : Int), .string (s)], .int .i64 (0 : Int)]) w) := by
  unfold insV
  have hkb : (ak != 1) = false := by simpa using hk
  clear hk
  go_enter Try.func46, Try.ntmps46
  go_wp2
  refine bodyPost_ret (v := .tuple #[.agg #[.bool ao, .int .i64 (ak : Int), .string (s)], .int .i64 (0 : Int)]) (by simp [results, Try.results46, go_sem]) rfl ⟨rfl, box_four _ _ _ _ _ _ _ _ _⟩
set_option maxRecDepth 100000 in
set_option maxHeartbeats 4000000 in
theorem rb_27_lo (pl : Int) (w : World) (hs : s.size = 2 * d) (h8 : (d : Int) ≤ 8) (hp : pl ≤ k) :
    Calls Try.prog 46 #[insV ⟨(27 : Int), kd, ar, pl, nn⟩, .int .i64 k, .int .i64 n, .agg #[.bool ao, .int .i64 (ak : Int), .string (s)]] w (Tells (.tuple #[.agg #[.bool ao, .int .i64 (ak : Int), .string (s)], .int .i64 (7 : Int)]) w) := by
  unfold insV
  go_enter Try.func46, Try.ntmps46
  go_wp2
  refine bodyPost_ret (v := .tuple #[.agg #[.bool ao, .int .i64 (ak : Int), .string (s)], .int .i64 (7 : Int)]) (by simp [results, Try.results46, go_sem]) rfl ⟨rfl, box_four _ _ _ _ _ _ _ _ _⟩
set_option maxRecDepth 100000 in
set_option maxHeartbeats 4000000 in
theorem rb_27_hi (pl : Int) (w : World) (hs : s.size = 2 * d) (h8 : (d : Int) ≤ 8) (hp : ¬ pl ≤ k) (hq : n < pl) :
    Calls Try.prog 46 #[insV ⟨(27 : Int), kd, ar, pl, nn⟩, .int .i64 k, .int .i64 n, .agg #[.bool ao, .int .i64 (ak : Int), .string (s)]] w (Tells (.tuple #[.agg #[.bool ao, .int .i64 (ak : Int), .string (s)], .int .i64 (7 : Int)]) w) := by
  unfold insV
  go_enter Try.func46, Try.ntmps46
  go_wp2
  refine bodyPost_ret (v := .tuple #[.agg #[.bool ao, .int .i64 (ak : Int), .string (s)], .int .i64 (7 : Int)]) (by simp [results, Try.results46, go_sem]) rfl ⟨rfl, box_four _ _ _ _ _ _ _ _ _⟩
set_option maxRecDepth 100000 in
set_option maxHeartbeats 4000000 in
theorem rb_27_no (pl : Int) (w : World) (hs : s.size = 2 * d) (h8 : (d : Int) ≤ 8) (hp : ¬ pl ≤ k) (hq : ¬ n < pl) (hk : ak ≠ 1) :
    Calls Try.prog 46 #[insV ⟨(27 : Int), kd, ar, pl, nn⟩, .int .i64 k, .int .i64 n, .agg #[.bool ao, .int .i64 (ak : Int), .string (s)]] w (Tells (.tuple #[.agg #[.bool ao, .int .i64 (ak : Int), .string (s)], .int .i64 (6 : Int)]) w) := by
  unfold insV
  have hkb : (ak != 1) = true := by simpa using hk
  clear hk
  go_enter Try.func46, Try.ntmps46
  go_wp2
  refine bodyPost_ret (v := .tuple #[.agg #[.bool ao, .int .i64 (ak : Int), .string (s)], .int .i64 (6 : Int)]) (by simp [results, Try.results46, go_sem]) rfl ⟨rfl, box_four _ _ _ _ _ _ _ _ _⟩
set_option maxRecDepth 100000 in
set_option maxHeartbeats 4000000 in
theorem rb_27_ok (pl : Int) (w : World) (hs : s.size = 2 * d) (h8 : (d : Int) ≤ 8) (hp : ¬ pl ≤ k) (hq : ¬ n < pl) (hk : ak = 1) :
    Calls Try.prog 46 #[insV ⟨(27 : Int), kd, ar, pl, nn⟩, .int .i64 k, .int .i64 n, .agg #[.bool ao, .int .i64 (ak : Int), .string (s)]] w (Tells (.tuple #[.agg #[.bool ao, .int .i64 (ak : Int), .string (s)], .int .i64 (0 : Int)]) w) := by
  unfold insV
  have hkb : (ak != 1) = false := by simpa using hk
  clear hk
  go_enter Try.func46, Try.ntmps46
  go_wp2
  refine bodyPost_ret (v := .tuple #[.agg #[.bool ao, .int .i64 (ak : Int), .string (s)], .int .i64 (0 : Int)]) (by simp [results, Try.results46, go_sem]) rfl ⟨rfl, box_four _ _ _ _ _ _ _ _ _⟩
set_option maxRecDepth 100000 in
set_option maxHeartbeats 4000000 in
theorem rb_28_br (pl : Int) (w : World) (hs : s.size = 2 * d) (h8 : (d : Int) ≤ 8) (hd : (0 : Int) < d) :
    Calls Try.prog 46 #[insV ⟨(28 : Int), kd, ar, pl, nn⟩, .int .i64 k, .int .i64 n, .agg #[.bool ao, .int .i64 (ak : Int), .string (s)]] w (Tells (.tuple #[.agg #[.bool ao, .int .i64 (ak : Int), .string (s)], .int .i64 (3 : Int)]) w) := by
  unfold insV
  go_enter Try.func46, Try.ntmps46
  go_wp2
  refine bodyPost_ret (v := .tuple #[.agg #[.bool ao, .int .i64 (ak : Int), .string (s)], .int .i64 (3 : Int)]) (by simp [results, Try.results46, go_sem]) rfl ⟨rfl, box_four _ _ _ _ _ _ _ _ _⟩
set_option maxRecDepth 100000 in
set_option maxHeartbeats 4000000 in
theorem rb_28_ok (pl : Int) (w : World) (hs : s.size = 2 * d) (h8 : (d : Int) ≤ 8) (hd : ¬ (0 : Int) < d) :
    Calls Try.prog 46 #[insV ⟨(28 : Int), kd, ar, pl, nn⟩, .int .i64 k, .int .i64 n, .agg #[.bool ao, .int .i64 (ak : Int), .string (s)]] w (Tells (.tuple #[.agg #[.bool ao, .int .i64 (ak : Int), .string (s)], .int .i64 (0 : Int)]) w) := by
  unfold insV
  go_enter Try.func46, Try.ntmps46
  go_wp2
  refine bodyPost_ret (v := .tuple #[.agg #[.bool ao, .int .i64 (ak : Int), .string (s)], .int .i64 (0 : Int)]) (by simp [results, Try.results46, go_sem]) rfl ⟨rfl, box_four _ _ _ _ _ _ _ _ _⟩
set_option maxRecDepth 100000 in
set_option maxHeartbeats 4000000 in
theorem rb_29_no (pl : Int) (w : World) (hs : s.size = 2 * d) (h8 : (d : Int) ≤ 8) (hk : ak ≠ 1) :
    Calls Try.prog 46 #[insV ⟨(29 : Int), kd, ar, pl, nn⟩, .int .i64 k, .int .i64 n, .agg #[.bool ao, .int .i64 (ak : Int), .string (s)]] w (Tells (.tuple #[.agg #[.bool ao, .int .i64 (ak : Int), .string (s)], .int .i64 (6 : Int)]) w) := by
  unfold insV
  have hkb : (ak != 1) = true := by simpa using hk
  clear hk
  go_enter Try.func46, Try.ntmps46
  go_wp2
  refine bodyPost_ret (v := .tuple #[.agg #[.bool ao, .int .i64 (ak : Int), .string (s)], .int .i64 (6 : Int)]) (by simp [results, Try.results46, go_sem]) rfl ⟨rfl, box_four _ _ _ _ _ _ _ _ _⟩
set_option maxRecDepth 100000 in
set_option maxHeartbeats 4000000 in
theorem rb_29_br (pl : Int) (w : World) (hs : s.size = 2 * d) (h8 : (d : Int) ≤ 8) (hk : ak = 1) (hd : (0 : Int) < d) :
    Calls Try.prog 46 #[insV ⟨(29 : Int), kd, ar, pl, nn⟩, .int .i64 k, .int .i64 n, .agg #[.bool ao, .int .i64 (ak : Int), .string (s)]] w (Tells (.tuple #[.agg #[.bool ao, .int .i64 (ak : Int), .string (s)], .int .i64 (3 : Int)]) w) := by
  unfold insV
  have hkb : (ak != 1) = false := by simpa using hk
  clear hk
  go_enter Try.func46, Try.ntmps46
  go_wp2
  refine bodyPost_ret (v := .tuple #[.agg #[.bool ao, .int .i64 (ak : Int), .string (s)], .int .i64 (3 : Int)]) (by simp [results, Try.results46, go_sem]) rfl ⟨rfl, box_four _ _ _ _ _ _ _ _ _⟩
set_option maxRecDepth 100000 in
set_option maxHeartbeats 4000000 in
theorem rb_29_ok (pl : Int) (w : World) (hs : s.size = 2 * d) (h8 : (d : Int) ≤ 8) (hk : ak = 1) (hd : ¬ (0 : Int) < d) :
    Calls Try.prog 46 #[insV ⟨(29 : Int), kd, ar, pl, nn⟩, .int .i64 k, .int .i64 n, .agg #[.bool ao, .int .i64 (ak : Int), .string (s)]] w (Tells (.tuple #[.agg #[.bool ao, .int .i64 (ak : Int), .string (s)], .int .i64 (0 : Int)]) w) := by
  unfold insV
  have hkb : (ak != 1) = false := by simpa using hk
  clear hk
  go_enter Try.func46, Try.ntmps46
  go_wp2
  refine bodyPost_ret (v := .tuple #[.agg #[.bool ao, .int .i64 (ak : Int), .string (s)], .int .i64 (0 : Int)]) (by simp [results, Try.results46, go_sem]) rfl ⟨rfl, box_four _ _ _ _ _ _ _ _ _⟩
set_option maxRecDepth 100000 in
set_option maxHeartbeats 4000000 in
theorem rb_30_no (pl : Int) (w : World) (hs : s.size = 2 * d) (h8 : (d : Int) ≤ 8) (hk : ak ≠ 1) :
    Calls Try.prog 46 #[insV ⟨(30 : Int), kd, ar, pl, nn⟩, .int .i64 k, .int .i64 n, .agg #[.bool ao, .int .i64 (ak : Int), .string (s)]] w (Tells (.tuple #[.agg #[.bool ao, .int .i64 (ak : Int), .string (s)], .int .i64 (6 : Int)]) w) := by
  unfold insV
  have hkb : (ak != 1) = true := by simpa using hk
  clear hk
  go_enter Try.func46, Try.ntmps46
  go_wp2
  refine bodyPost_ret (v := .tuple #[.agg #[.bool ao, .int .i64 (ak : Int), .string (s)], .int .i64 (6 : Int)]) (by simp [results, Try.results46, go_sem]) rfl ⟨rfl, box_four _ _ _ _ _ _ _ _ _⟩
set_option maxRecDepth 100000 in
set_option maxHeartbeats 4000000 in
theorem rb_30_br (pl : Int) (w : World) (hs : s.size = 2 * d) (h8 : (d : Int) ≤ 8) (hk : ak = 1) (hd : (0 : Int) < d) :
    Calls Try.prog 46 #[insV ⟨(30 : Int), kd, ar, pl, nn⟩, .int .i64 k, .int .i64 n, .agg #[.bool ao, .int .i64 (ak : Int), .string (s)]] w (Tells (.tuple #[.agg #[.bool ao, .int .i64 (ak : Int), .string (s)], .int .i64 (3 : Int)]) w) := by
  unfold insV
  have hkb : (ak != 1) = false := by simpa using hk
  clear hk
  go_enter Try.func46, Try.ntmps46
  go_wp2
  refine bodyPost_ret (v := .tuple #[.agg #[.bool ao, .int .i64 (ak : Int), .string (s)], .int .i64 (3 : Int)]) (by simp [results, Try.results46, go_sem]) rfl ⟨rfl, box_four _ _ _ _ _ _ _ _ _⟩
set_option maxRecDepth 100000 in
set_option maxHeartbeats 4000000 in
theorem rb_30_ok (pl : Int) (w : World) (hs : s.size = 2 * d) (h8 : (d : Int) ≤ 8) (hk : ak = 1) (hd : ¬ (0 : Int) < d) :
    Calls Try.prog 46 #[insV ⟨(30 : Int), kd, ar, pl, nn⟩, .int .i64 k, .int .i64 n, .agg #[.bool ao, .int .i64 (ak : Int), .string (s)]] w (Tells (.tuple #[.agg #[.bool ao, .int .i64 (ak : Int), .string (s)], .int .i64 (0 : Int)]) w) := by
  unfold insV
  have hkb : (ak != 1) = false := by simpa using hk
  clear hk
  go_enter Try.func46, Try.ntmps46
  go_wp2
  refine bodyPost_ret (v := .tuple #[.agg #[.bool ao, .int .i64 (ak : Int), .string (s)], .int .i64 (0 : Int)]) (by simp [results, Try.results46, go_sem]) rfl ⟨rfl, box_four _ _ _ _ _ _ _ _ _⟩
set_option maxRecDepth 100000 in
set_option maxHeartbeats 4000000 in
theorem rb_31_no (pl : Int) (w : World) (hs : s.size = 2 * d) (h8 : (d : Int) ≤ 8) (hk : ak = 0) :
    Calls Try.prog 46 #[insV ⟨(31 : Int), kd, ar, pl, nn⟩, .int .i64 k, .int .i64 n, .agg #[.bool ao, .int .i64 (ak : Int), .string (s)]] w (Tells (.tuple #[.agg #[.bool ao, .int .i64 (ak : Int), .string (s)], .int .i64 (6 : Int)]) w) := by
  unfold insV
  have hkb : (ak == 0) = true := by simpa using hk
  clear hk
  go_enter Try.func46, Try.ntmps46
  go_wp2
  refine bodyPost_ret (v := .tuple #[.agg #[.bool ao, .int .i64 (ak : Int), .string (s)], .int .i64 (6 : Int)]) (by simp [results, Try.results46, go_sem]) rfl ⟨rfl, box_four _ _ _ _ _ _ _ _ _⟩
set_option maxRecDepth 100000 in
set_option maxHeartbeats 4000000 in
theorem rb_31_ok (pl : Int) (w : World) (hs : s.size = 2 * d) (h8 : (d : Int) ≤ 8) (hk : ak ≠ 0) :
    Calls Try.prog 46 #[insV ⟨(31 : Int), kd, ar, pl, nn⟩, .int .i64 k, .int .i64 n, .agg #[.bool ao, .int .i64 (ak : Int), .string (s)]] w (Tells (.tuple #[.agg #[.bool ao, .int .i64 (kd : Int), .string (s)], .int .i64 (0 : Int)]) w) := by
  unfold insV
  have hkb : (ak == 0) = false := by simpa using hk
  clear hk
  go_enter Try.func46, Try.ntmps46
  go_wp2
  refine bodyPost_ret (v := .tuple #[.agg #[.bool ao, .int .i64 (kd : Int), .string (s)], .int .i64 (0 : Int)]) (by simp [results, Try.results46, go_sem]) rfl ⟨rfl, box_four _ _ _ _ _ _ _ _ _⟩
set_option maxRecDepth 100000 in
set_option maxHeartbeats 4000000 in
theorem rb_34_no (pl : Int) (w : World) (hs : s.size = 2 * d) (h8 : (d : Int) ≤ 8) (hk : ak ≠ 1) :
    Calls Try.prog 46 #[insV ⟨(34 : Int), kd, ar, pl, nn⟩, .int .i64 k, .int .i64 n, .agg #[.bool ao, .int .i64 (ak : Int), .string (s)]] w (Tells (.tuple #[.agg #[.bool ao, .int .i64 (ak : Int), .string (s)], .int .i64 (6 : Int)]) w) := by
  unfold insV
  have hkb : (ak != 1) = true := by simpa using hk
  clear hk
  go_enter Try.func46, Try.ntmps46
  go_wp2
  refine bodyPost_ret (v := .tuple #[.agg #[.bool ao, .int .i64 (ak : Int), .string (s)], .int .i64 (6 : Int)]) (by simp [results, Try.results46, go_sem]) rfl ⟨rfl, box_four _ _ _ _ _ _ _ _ _⟩
set_option maxRecDepth 100000 in
set_option maxHeartbeats 4000000 in
theorem rb_34_ok (pl : Int) (w : World) (hs : s.size = 2 * d) (h8 : (d : Int) ≤ 8) (hk : ak = 1) :
    Calls Try.prog 46 #[insV ⟨(34 : Int), kd, ar, pl, nn⟩, .int .i64 k, .int .i64 n, .agg #[.bool ao, .int .i64 (ak : Int), .string (s)]] w (Tells (.tuple #[.agg #[.bool ao, .int .i64 (ak : Int), .string (s)], .int .i64 (0 : Int)]) w) := by
  unfold insV
  have hkb : (ak != 1) = false := by simpa using hk
  clear hk
  go_enter Try.func46, Try.ntmps46
  go_wp2
  refine bodyPost_ret (v := .tuple #[.agg #[.bool ao, .int .i64 (ak : Int), .string (s)], .int .i64 (0 : Int)]) (by simp [results, Try.results46, go_sem]) rfl ⟨rfl, box_four _ _ _ _ _ _ _ _ _⟩
set_option maxRecDepth 100000 in
set_option maxHeartbeats 4000000 in
theorem rb_35_no (pl : Int) (w : World) (hs : s.size = 2 * d) (h8 : (d : Int) ≤ 8) (hk : ak ≠ 1) :
    Calls Try.prog 46 #[insV ⟨(35 : Int), kd, ar, pl, nn⟩, .int .i64 k, .int .i64 n, .agg #[.bool ao, .int .i64 (ak : Int), .string (s)]] w (Tells (.tuple #[.agg #[.bool ao, .int .i64 (ak : Int), .string (s)], .int .i64 (6 : Int)]) w) := by
  unfold insV
  have hkb : (ak != 1) = true := by simpa using hk
  clear hk
  go_enter Try.func46, Try.ntmps46
  go_wp2
  refine bodyPost_ret (v := .tuple #[.agg #[.bool ao, .int .i64 (ak : Int), .string (s)], .int .i64 (6 : Int)]) (by simp [results, Try.results46, go_sem]) rfl ⟨rfl, box_four _ _ _ _ _ _ _ _ _⟩
set_option maxRecDepth 100000 in
set_option maxHeartbeats 4000000 in
theorem rb_35_ok (pl : Int) (w : World) (hs : s.size = 2 * d) (h8 : (d : Int) ≤ 8) (hk : ak = 1) :
    Calls Try.prog 46 #[insV ⟨(35 : Int), kd, ar, pl, nn⟩, .int .i64 k, .int .i64 n, .agg #[.bool ao, .int .i64 (ak : Int), .string (s)]] w (Tells (.tuple #[.agg #[.bool ao, .int .i64 (ak : Int), .string (s)], .int .i64 (0 : Int)]) w) := by
  unfold insV
  have hkb : (ak != 1) = false := by simpa using hk
  clear hk
  go_enter Try.func46, Try.ntmps46
  go_wp2
  refine bodyPost_ret (v := .tuple #[.agg #[.bool ao, .int .i64 (ak : Int), .string (s)], .int .i64 (0 : Int)]) (by simp [results, Try.results46, go_sem]) rfl ⟨rfl, box_four _ _ _ _ _ _ _ _ _⟩
set_option maxRecDepth 100000 in
set_option maxHeartbeats 4000000 in
theorem rb_36_no (pl : Int) (w : World) (hs : s.size = 2 * d) (h8 : (d : Int) ≤ 8) (hk : ak ≠ 1) :
    Calls Try.prog 46 #[insV ⟨(36 : Int), kd, ar, pl, nn⟩, .int .i64 k, .int .i64 n, .agg #[.bool ao, .int .i64 (ak : Int), .string (s)]] w (Tells (.tuple #[.agg #[.bool ao, .int .i64 (ak : Int), .string (s)], .int .i64 (6 : Int)]) w) := by
  unfold insV
  have hkb : (ak != 1) = true := by simpa using hk
  clear hk
  go_enter Try.func46, Try.ntmps46
  go_wp2
  refine bodyPost_ret (v := .tuple #[.agg #[.bool ao, .int .i64 (ak : Int), .string (s)], .int .i64 (6 : Int)]) (by simp [results, Try.results46, go_sem]) rfl ⟨rfl, box_four _ _ _ _ _ _ _ _ _⟩
set_option maxRecDepth 100000 in
set_option maxHeartbeats 4000000 in
theorem rb_36_ok (pl : Int) (w : World) (hs : s.size = 2 * d) (h8 : (d : Int) ≤ 8) (hk : ak = 1) :
    Calls Try.prog 46 #[insV ⟨(36 : Int), kd, ar, pl, nn⟩, .int .i64 k, .int .i64 n, .agg #[.bool ao, .int .i64 (ak : Int), .string (s)]] w (Tells (.tuple #[.agg #[.bool ao, .int .i64 (ak : Int), .string (s)], .int .i64 (0 : Int)]) w) := by
  unfold insV
  have hkb : (ak != 1) = false := by simpa using hk
  clear hk
  go_enter Try.func46, Try.ntmps46
  go_wp2
  refine bodyPost_ret (v := .tuple #[.agg #[.bool ao, .int .i64 (ak : Int), .string (s)], .int .i64 (0 : Int)]) (by simp [results, Try.results46, go_sem]) rfl ⟨rfl, box_four _ _ _ _ _ _ _ _ _⟩
end
end Go.Proofs.Ytmlopacekoghkaa.Ve
