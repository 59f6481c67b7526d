/-
  The law CrcFlips, walked: it returns true. Conditions: arguments fit their kinds.
-/
import Derived.Test.YthajfgdgocgfbaaFlipMath
import Derived.Test.YthajfgdgocgfbaaBurstsWalk
namespace Go.Proofs.Ythajfgdgocgfbaa
open Go.RowKit
open Sums

theorem flip_call (z : ByteArray) (hz : z.size ≤ 4000) (n : Int) (hn : n ≤ 9223372036854775807) (p : BitVec 16) :
    ∃ b : ByteArray, (∀ w, Calls Try.prog 18 #[.string z, .int .i64 n, .int .u16 (p.toNat : Int)] w fun e w' => e = .returned (.string b) ∧ Below w.heap.size w w') ∧
      (∀ w, Calls Try.prog 19 #[.string z, .int .i64 n, .int .u16 (p.toNat : Int)] w fun e w' => e = .returned (.string b) ∧ Below w.heap.size w w') ∧
      (∀ w, Calls Try.prog 18 #[.string b, .int .i64 n, .int .u16 (p.toNat : Int)] w fun e w' => e = .returned (.string z) ∧ Below w.heap.size w w') := by
  by_cases h0 : n < 0
  · exact ⟨z, fun w => burst_out z n _ w h0, fun w => rburst_out z n _ w h0, fun w => burst_out z n _ w h0⟩
  · obtain ⟨a, rfl⟩ := Int.eq_ofNat_of_zero_le (show 0 ≤ n by omega)
    by_cases h1 : a < 8 * z.size
    · refine ⟨burstB z a p, fun w => burst_in z a (min 3 (z.size - a / 8)) p w hz h1 (by omega), fun w => ?_, fun w => ?_⟩
      · have h := rburst_in z a p w hz h1
        rwa [burst_ref] at h
      · have h := burst_in (burstB z a p) a (min 3 (z.size - a / 8)) p w (by rw [burst_size]; exact hz) (by rw [burst_size]; exact h1) (by rw [burst_size]; omega)
        rwa [burst_twice] at h
    · exact ⟨z, fun w => burst_past z a _ w (by omega) hn, fun w => rburst_past z a _ w hz (by omega), fun w => burst_past z a _ w (by omega) hn⟩

set_option maxHeartbeats 400000 in
theorem flips_long (s : ByteArray) (n p : Int) (hs : s.size ≤ maxLen) (h : 2000 < s.size) (w : World) :
    Calls Try.prog 7 #[.string s, .int .i64 n, .int .u16 p] w fun e w' => e = .returned (.bool true) ∧ Below w.heap.size w w' := by
  unfold maxLen at hs
  go_enter Try.func7, Try.ntmps7
  go_wp2_with (go_at_call 8; refine (awake_any _).mono ?_; rintro e w' ⟨rfl, hb⟩)
  go_ret
  exact ⟨rfl, by assumption⟩

set_option maxHeartbeats 1000000 in
theorem flips_short (s b : ByteArray) (n : Int) (p : BitVec 16) (hs : s.size ≤ 2000)
    (h18 : ∀ w, Calls Try.prog 18 #[.string s, .int .i64 n, .int .u16 (p.toNat : Int)] w fun e w' => e = .returned (.string b) ∧ Below w.heap.size w w')
    (h19 : ∀ w, Calls Try.prog 19 #[.string s, .int .i64 n, .int .u16 (p.toNat : Int)] w fun e w' => e = .returned (.string b) ∧ Below w.heap.size w w')
    (h18b : ∀ w, Calls Try.prog 18 #[.string b, .int .i64 n, .int .u16 (p.toNat : Int)] w fun e w' => e = .returned (.string s) ∧ Below w.heap.size w w')
    (h2 : ¬ 2 ≤ s.size) (w : World) :
    Calls Try.prog 7 #[.string s, .int .i64 n, .int .u16 (p.toNat : Int)] w fun e w' => e = .returned (.bool true) ∧ Below w.heap.size w w' := by
  have H16 := Lib.hid (fun w => open_short s w h2)
  have H18 := Lib.hid h18
  have H18b := Lib.hid h18b
  have H19 := Lib.hid h19
  clear h18 h18b h19
  go_enter Try.func7, Try.ntmps7
  go_wp2_with fail
  refine (awake_any _).mono ?_
  rintro e w1 ⟨rfl, hb1⟩
  go_wp2_with fail
  refine (H18.out _).mono ?_
  rintro e w2 ⟨rfl, hb2⟩
  go_wp2_with fail
  refine (H19.out _).mono ?_
  rintro e w3 ⟨rfl, hb3⟩
  go_wp2_with fail
  refine (H18b.out _).mono ?_
  rintro e w4 ⟨rfl, hb4⟩
  go_wp2_with fail
  refine (H16.out _).mono ?_
  rintro e w5 ⟨rfl, hb5⟩
  go_wp2_with fail
  go_ret
  exact ⟨rfl, below_next (below_next (below_next (below_next hb1 hb2) hb3) hb4) hb5⟩

set_option maxHeartbeats 1000000 in
theorem flips_yes (s b : ByteArray) (n : Int) (p : BitVec 16) (hs : s.size ≤ 2000)
    (h18 : ∀ w, Calls Try.prog 18 #[.string s, .int .i64 n, .int .u16 (p.toNat : Int)] w fun e w' => e = .returned (.string b) ∧ Below w.heap.size w w')
    (h19 : ∀ w, Calls Try.prog 19 #[.string s, .int .i64 n, .int .u16 (p.toNat : Int)] w fun e w' => e = .returned (.string b) ∧ Below w.heap.size w w')
    (h18b : ∀ w, Calls Try.prog 18 #[.string b, .int .i64 n, .int .u16 (p.toNat : Int)] w fun e w' => e = .returned (.string s) ∧ Below w.heap.size w w')
    (h2 : 2 ≤ s.size) (h : sealedB (s.extract 0 (s.size - 2)) = s) (w : World) :
    Calls Try.prog 7 #[.string s, .int .i64 n, .int .u16 (p.toNat : Int)] w fun e w' => e = .returned (.bool true) ∧ Below w.heap.size w w' := by
  have hx := extract_small s (s.size - 2) (show s.size ≤ 4000 by omega)
  have H16 := Lib.hid (fun w => open_yes s w (by omega) h2 h)
  have H18 := Lib.hid h18
  have H18b := Lib.hid h18b
  have H19 := Lib.hid h19
  have hq := str_eq h
  clear h18 h18b h19 h
  go_enter Try.func7, Try.ntmps7
  go_wp2_with fail
  refine (awake_any _).mono ?_
  rintro e w1 ⟨rfl, hb1⟩
  go_wp2_with fail
  refine (H18.out _).mono ?_
  rintro e w2 ⟨rfl, hb2⟩
  go_wp2_with fail
  refine (H19.out _).mono ?_
  rintro e w3 ⟨rfl, hb3⟩
  go_wp2_with fail
  refine (H18b.out _).mono ?_
  rintro e w4 ⟨rfl, hb4⟩
  go_wp2_with fail
  refine (H16.out _).mono ?_
  rintro e w5 ⟨rfl, hb5⟩
  go_wp2_with fail
  refine (rsealed_any _ _ hx).mono ?_
  rintro e w6 ⟨rfl, hb6⟩
  go_wp2_with fail
  go_ret
  exact ⟨rfl, below_next (below_next (below_next (below_next (below_next hb1 hb2) hb3) hb4) hb5) hb6⟩

set_option maxHeartbeats 1000000 in
theorem flips_no (s b : ByteArray) (n : Int) (p : BitVec 16) (hs : s.size ≤ 2000)
    (h18 : ∀ w, Calls Try.prog 18 #[.string s, .int .i64 n, .int .u16 (p.toNat : Int)] w fun e w' => e = .returned (.string b) ∧ Below w.heap.size w w')
    (h19 : ∀ w, Calls Try.prog 19 #[.string s, .int .i64 n, .int .u16 (p.toNat : Int)] w fun e w' => e = .returned (.string b) ∧ Below w.heap.size w w')
    (h18b : ∀ w, Calls Try.prog 18 #[.string b, .int .i64 n, .int .u16 (p.toNat : Int)] w fun e w' => e = .returned (.string s) ∧ Below w.heap.size w w')
    (h2 : 2 ≤ s.size) (h : sealedB (s.extract 0 (s.size - 2)) ≠ s) (w : World) :
    Calls Try.prog 7 #[.string s, .int .i64 n, .int .u16 (p.toNat : Int)] w fun e w' => e = .returned (.bool true) ∧ Below w.heap.size w w' := by
  have hx := extract_small s (s.size - 2) (show s.size ≤ 4000 by omega)
  have H16 := Lib.hid (fun w => open_no s w (by omega) h2 h)
  have H18 := Lib.hid h18
  have H18b := Lib.hid h18b
  have H19 := Lib.hid h19
  have hq := str_ne h
  clear h18 h18b h19 h
  go_enter Try.func7, Try.ntmps7
  go_wp2_with fail
  refine (awake_any _).mono ?_
  rintro e w1 ⟨rfl, hb1⟩
  go_wp2_with fail
  refine (H18.out _).mono ?_
  rintro e w2 ⟨rfl, hb2⟩
  go_wp2_with fail
  refine (H19.out _).mono ?_
  rintro e w3 ⟨rfl, hb3⟩
  go_wp2_with fail
  refine (H18b.out _).mono ?_
  rintro e w4 ⟨rfl, hb4⟩
  go_wp2_with fail
  refine (H16.out _).mono ?_
  rintro e w5 ⟨rfl, hb5⟩
  go_wp2_with fail
  refine (rsealed_any _ _ hx).mono ?_
  rintro e w6 ⟨rfl, hb6⟩
  go_wp2_with fail
  all_goals
    go_ret
    exact ⟨rfl, below_next (below_next (below_next (below_next (below_next hb1 hb2) hb3) hb4) hb5) hb6⟩

theorem flips_walk (s : ByteArray) (n : Int) (p : BitVec 16) (hs : s.size ≤ maxLen) (hn : n ≤ 9223372036854775807) (w : World) :
    Calls Try.prog 7 #[.string s, .int .i64 n, .int .u16 (p.toNat : Int)] w fun e w' => e = .returned (.bool true) ∧ Below w.heap.size w w' := by
  by_cases h : 2000 < s.size
  · exact flips_long s n _ hs h w
  · obtain ⟨b, h18, h19, h18b⟩ := flip_call s (by omega) n hn p
    by_cases h2 : 2 ≤ s.size
    · by_cases he : sealedB (s.extract 0 (s.size - 2)) = s
      · exact flips_yes s b n p (by omega) h18 h19 h18b h2 he w
      · exact flips_no s b n p (by omega) h18 h19 h18b h2 he w
    · exact flips_short s b n p (by omega) h18 h19 h18b h2 w
end Go.Proofs.Ythajfgdgocgfbaa
