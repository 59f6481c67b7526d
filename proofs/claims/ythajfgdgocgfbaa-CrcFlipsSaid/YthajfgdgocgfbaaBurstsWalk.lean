/-
  The law CrcBursts, walked: it returns true. Conditions: arguments fit their kinds.
-/
import Derived.Test.YthajfgdgocgfbaaBurstMath
import Derived.Test.YthajfgdgocgfbaaSumsWalk
namespace Go.Proofs.Ythajfgdgocgfbaa
open Go.RowKit
open Sums

/-- crc.Burst, whatever the bit: the text itself, or the one that is turned. -/
theorem burst_call (z : ByteArray) (hz : z.size ≤ 4000) (n : Int) (hn : n ≤ 9223372036854775807) (p : BitVec 16) :
    ∃ b : ByteArray, (∀ w, Calls Try.prog 18 #[.string z, .int .i64 n, .int .u16 (p.toNat : Int)] w fun e w' => e = .returned (.string b) ∧ Below w.heap.size w w') ∧
      (((n < 0 ∨ (8 * z.size : Int) ≤ n) ∧ b = z) ∨ ∃ a : Nat, n = a ∧ a < 8 * z.size ∧ b = burstB z a p) := by
  by_cases h0 : n < 0
  · exact ⟨z, fun w => burst_out z n _ w h0, .inl ⟨.inl h0, rfl⟩⟩
  · obtain ⟨a, rfl⟩ := Int.eq_ofNat_of_zero_le (show 0 ≤ n by omega)
    by_cases h1 : a < 8 * z.size
    · refine ⟨burstB z a p, fun w => burst_in z a (min 3 (z.size - a / 8)) p w hz h1 (by omega), .inr ⟨a, rfl, h1, rfl⟩⟩
    · exact ⟨z, fun w => burst_past z a _ w (by omega) hn, .inl ⟨.inr (by omega), rfl⟩⟩

theorem open_sealed (s : ByteArray) (hs : s.size ≤ 3000) (w : World) :
    Calls Try.prog 16 #[.string (sealedB s)] w fun e w' => e = .returned (.tuple #[.string s, .bool true]) ∧ Below w.heap.size w w' := by
  have h := open_yes (sealedB s) w (by rw [sealed_size]; omega) (by rw [sealed_size]; omega) (by rw [sealed_inner])
  rwa [sealed_inner] at h

set_option maxHeartbeats 400000 in
theorem bursts_long (s : ByteArray) (n p : Int) (hs : s.size ≤ maxLen) (h : 2000 < s.size) (w : World) :
    Calls Try.prog 6 #[.string s, .int .i64 n, .int .u16 p] w fun e w' => e = .returned (.bool true) ∧ Below w.heap.size w w' := by
  unfold maxLen at hs
  go_enter Try.func6, Try.ntmps6
  go_wp2_with (go_at_call 8; refine (awake_any _).mono ?_; rintro e w' ⟨rfl, hb⟩)
  go_ret
  exact ⟨rfl, by assumption⟩

theorem below_next {w w1 w2 : World} (h1 : Below w.heap.size w w1) (h2 : Below w1.heap.size w1 w2) : Below w.heap.size w w2 := h1.trans (h2.mono h1.size)

set_option maxHeartbeats 400000 in
theorem bursts_same (s z : ByteArray) (n : Int) (p : BitVec 16) (hs : s.size ≤ 2000)
    (h15 : ∀ w, Calls Try.prog 15 #[.string s] w fun e w' => e = .returned (.string z) ∧ Below w.heap.size w w')
    (h17 : ∀ w, Calls Try.prog 17 #[.string s] w fun e w' => e = .returned (.string z) ∧ Below w.heap.size w w')
    (h16 : ∀ w, Calls Try.prog 16 #[.string z] w fun e w' => e = .returned (.tuple #[.string s, .bool true]) ∧ Below w.heap.size w w')
    (h18 : ∀ w, Calls Try.prog 18 #[.string z, .int .i64 n, .int .u16 (p.toNat : Int)] w fun e w' => e = .returned (.string z) ∧ Below w.heap.size w w') (w : World) :
    Calls Try.prog 6 #[.string s, .int .i64 n, .int .u16 (p.toNat : Int)] w fun e w' => e = .returned (.bool true) ∧ Below w.heap.size w w' := by
  have H15 := Lib.hid h15
  have H16 := Lib.hid h16
  have H17 := Lib.hid h17
  have H18 := Lib.hid h18
  clear h15 h16 h17 h18
  go_enter Try.func6, Try.ntmps6
  go_wp2_with fail
  refine (awake_any _).mono ?_
  rintro e w1 ⟨rfl, hb1⟩
  go_wp2_with fail
  refine (H15.out _).mono ?_
  rintro e w2 ⟨rfl, hb2⟩
  go_wp2_with fail
  refine (H16.out _).mono ?_
  rintro e w3 ⟨rfl, hb3⟩
  go_wp2_with fail
  refine (H17.out _).mono ?_
  rintro e w4 ⟨rfl, hb4⟩
  go_wp2_with fail
  refine (H18.out _).mono ?_
  rintro e w5 ⟨rfl, hb5⟩
  go_wp2_with fail
  refine (H16.out _).mono ?_
  rintro e w6 ⟨rfl, hb6⟩
  go_wp2_with fail
  go_ret
  exact ⟨rfl, below_next (below_next (below_next (below_next (below_next hb1 hb2) hb3) hb4) hb5) hb6⟩

set_option maxHeartbeats 400000 in
theorem bursts_other (s z b : ByteArray) (n : Int) (p : BitVec 16) (hs : s.size ≤ 2000) (hne : b ≠ z)
    (h15 : ∀ w, Calls Try.prog 15 #[.string s] w fun e w' => e = .returned (.string z) ∧ Below w.heap.size w w')
    (h17 : ∀ w, Calls Try.prog 17 #[.string s] w fun e w' => e = .returned (.string z) ∧ Below w.heap.size w w')
    (h16 : ∀ w, Calls Try.prog 16 #[.string z] w fun e w' => e = .returned (.tuple #[.string s, .bool true]) ∧ Below w.heap.size w w')
    (h16b : ∀ w, Calls Try.prog 16 #[.string b] w fun e w' => e = .returned (.tuple #[.string ⟨#[]⟩, .bool false]) ∧ Below w.heap.size w w')
    (h18 : ∀ w, Calls Try.prog 18 #[.string z, .int .i64 n, .int .u16 (p.toNat : Int)] w fun e w' => e = .returned (.string b) ∧ Below w.heap.size w w') (w : World) :
    Calls Try.prog 6 #[.string s, .int .i64 n, .int .u16 (p.toNat : Int)] w fun e w' => e = .returned (.bool true) ∧ Below w.heap.size w w' := by
  have hq := str_ne hne
  have H15 := Lib.hid h15
  have H16 := Lib.hid h16
  have H16b := Lib.hid h16b
  have H17 := Lib.hid h17
  have H18 := Lib.hid h18
  clear h15 h16 h16b h17 h18 hne
  go_enter Try.func6, Try.ntmps6
  go_wp2_with fail
  refine (awake_any _).mono ?_
  rintro e w1 ⟨rfl, hb1⟩
  go_wp2_with fail
  refine (H15.out _).mono ?_
  rintro e w2 ⟨rfl, hb2⟩
  go_wp2_with fail
  refine (H16.out _).mono ?_
  rintro e w3 ⟨rfl, hb3⟩
  go_wp2_with fail
  refine (H17.out _).mono ?_
  rintro e w4 ⟨rfl, hb4⟩
  go_wp2_with fail
  refine (H18.out _).mono ?_
  rintro e w5 ⟨rfl, hb5⟩
  go_wp2_with fail
  refine (H16b.out _).mono ?_
  rintro e w6 ⟨rfl, hb6⟩
  go_wp2_with fail
  go_ret
  exact ⟨rfl, below_next (below_next (below_next (below_next (below_next hb1 hb2) hb3) hb4) hb5) hb6⟩

theorem bursts_walk (s : ByteArray) (n : Int) (p : BitVec 16) (hs : s.size ≤ maxLen) (hn : n ≤ 9223372036854775807) (w : World) :
    Calls Try.prog 6 #[.string s, .int .i64 n, .int .u16 (p.toNat : Int)] w fun e w' => e = .returned (.bool true) ∧ Below w.heap.size w w' := by
  by_cases h : 2000 < s.size
  · exact bursts_long s n _ hs h w
  · have h15 := fun w => sealed_any s w (by omega)
    have h17 := fun w => rsealed_any s w (by omega)
    have h16 := open_sealed s (by omega)
    have hz : (sealedB s).size ≤ 4000 := by rw [sealed_size]; omega
    obtain ⟨b, hb, hc⟩ := burst_call (sealedB s) hz n hn p
    by_cases he : b = sealedB s
    · subst he
      exact bursts_same s _ n p (by omega) h15 h17 h16 hb w
    · rcases hc with ⟨_, hc⟩ | ⟨a, rfl, ha, rfl⟩
      · exact absurd hc he
      · have h16b := fun w => open_no (burstB (sealedB s) a p) w (by rw [burst_size]; exact hz) (by rw [burst_size, sealed_size]; omega) (burst_none s a p ha he)
        exact bursts_other s _ _ a p (by omega) he h15 h17 h16 h16b hb w
end Go.Proofs.Ythajfgdgocgfbaa
