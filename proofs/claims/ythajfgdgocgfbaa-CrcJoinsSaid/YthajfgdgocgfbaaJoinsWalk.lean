/-
  The law CrcJoins, walked: it returns true. Conditions: the texts are no longer than a text can be.
-/
import Derived.Test.YthajfgdgocgfbaaSumsWalk
namespace Go.Proofs.Ythajfgdgocgfbaa
open Go.RowKit
open Sums

theorem join_sum (a : BitVec 16) (l : List UInt8) (n : Nat) (hn : n = l.length) : joinOf (n : Int) a (sum l) = more a l := by
  unfold joinOf
  rw [if_neg (by omega), Int.toNat_natCast, hn]
  unfold sum
  rw [← more_xor, BitVec.xor_assoc]
  simp

theorem sum_both (s t : ByteArray) (w : World) (h : s.size ≤ 2000) (h' : t.size ≤ 2000) :
    Calls Try.prog 9 #[.string (s ++ t)] w fun e w' => e = .returned (.int .u16 ((more (sum s.data.toList) t.data.toList).toNat : Int)) ∧ w = w' := by
  have hz : (s ++ t).size ≤ 4000 := by rw [ByteArray.size_append]; omega
  have e : sum (s ++ t).data.toList = more (sum s.data.toList) t.data.toList := by
    rw [ByteArray.data_append, Array.toList_append]
    exact more_append _ _ _
  have h := sum_any (s ++ t) w (le_max hz)
  rwa [e] at h

theorem join_both (s t : ByteArray) (w : World) (h' : t.size ≤ 2000) :
    Calls Try.prog 14 #[.int .u16 ((sum s.data.toList).toNat : Int), .int .u16 ((sum t.data.toList).toNat : Int), .int .i64 (t.size : Int)] w
      fun e w' => e = .returned (.int .u16 ((more (sum s.data.toList) t.data.toList).toNat : Int)) ∧ w = w' := by
  have h := join_any _ _ (t.size : Int) (sum s.data.toList) (sum t.data.toList) rfl rfl (by omega) w
  rwa [join_sum _ _ _ (by simp)] at h

theorem join_neg (k : Int) (hk : k < 0) (a b : BitVec 16) (w : World) :
    Calls Try.prog 14 #[.int .u16 (a.toNat : Int), .int .u16 (b.toNat : Int), .int .i64 k] w fun e w' => e = .returned (.int .u16 (a.toNat : Int)) ∧ w = w' := by
  have h := join_any _ _ k a b rfl rfl (by omega) w
  rwa [show joinOf k a b = a from if_pos hk] at h

set_option maxHeartbeats 400000 in
theorem joins_long (s t : ByteArray) (hs : s.size ≤ maxLen) (ht : t.size ≤ maxLen) (h : 2000 < s.size ∨ 2000 < t.size) (w : World) :
    Calls Try.prog 5 #[.string s, .string t] w fun e w' => e = .returned (.bool true) ∧ Below w.heap.size w w' := by
  unfold maxLen at hs ht
  by_cases h1 : 2000 < s.size
  · clear h
    go_enter Try.func5, Try.ntmps5
    go_wp2_with (go_at_call 8; refine (awake_any _).mono ?_; rintro e w' ⟨rfl, hb⟩)
    go_ret
    exact ⟨rfl, by assumption⟩
  · have h2 : 2000 < t.size := by omega
    clear h
    go_enter Try.func5, Try.ntmps5
    go_wp2_with (go_at_call 8; refine (awake_any _).mono ?_; rintro e w' ⟨rfl, hb⟩)
    go_ret
    exact ⟨rfl, by assumption⟩

set_option maxHeartbeats 400000 in
theorem joins_short (s t : ByteArray) (hs : s.size ≤ 2000) (ht : t.size ≤ 2000) (w : World) :
    Calls Try.prog 5 #[.string s, .string t] w fun e w' => e = .returned (.bool true) ∧ Below w.heap.size w w' := by
  have HM := fun w => more_any _ (sum s.data.toList) rfl t w (le_max (Nat.le_trans ht (by decide)))
  have HM' := Lib.hid HM
  clear HM
  go_enter Try.func5, Try.ntmps5
  go_wp2_with fail
  refine (awake_any _).mono ?_
  rintro e w1 ⟨rfl, hb1⟩
  go_wp2_with fail
  refine (sum_any s _ (le_max (by omega))).mono ?_
  rintro e w2 ⟨rfl, rfl⟩
  go_wp2_with fail
  refine (sum_any t _ (le_max (by omega))).mono ?_
  rintro e w2 ⟨rfl, rfl⟩
  go_wp2_with fail
  refine (join_both s t _ ht).mono ?_
  rintro e w2 ⟨rfl, rfl⟩
  go_wp2_with fail
  refine (sum_both s t _ hs ht).mono ?_
  rintro e w2 ⟨rfl, rfl⟩
  go_wp2_with fail
  refine (HM'.out _).mono ?_
  rintro e w2 ⟨rfl, rfl⟩
  go_wp2_with fail
  refine (sum_both s t _ hs ht).mono ?_
  rintro e w2 ⟨rfl, rfl⟩
  go_wp2_with fail
  refine (join_neg _ (by omega) _ _ _).mono ?_
  rintro e w2 ⟨rfl, rfl⟩
  go_wp2_with fail
  go_ret
  exact ⟨rfl, hb1⟩

theorem joins_walk (s t : ByteArray) (hs : s.size ≤ maxLen) (ht : t.size ≤ maxLen) (w : World) :
    Calls Try.prog 5 #[.string s, .string t] w fun e w' => e = .returned (.bool true) ∧ Below w.heap.size w w' := by
  by_cases h : 2000 < s.size ∨ 2000 < t.size
  · exact joins_long s t hs ht h w
  · exact joins_short s t (by omega) (by omega) w
end Go.Proofs.Ythajfgdgocgfbaa
