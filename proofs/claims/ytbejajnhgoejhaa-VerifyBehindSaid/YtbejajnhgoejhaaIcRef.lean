/-
  The reference's kinds: Size, Name, many, least, walked. Conditions: none.
-/
import Derived.Test.YtbejajnhgoejhaaRows
import Derived.Test.YtbejajnhgoejhaaIcMath
import Derived.WalkKit
import Derived.WalkSpells
import Derived.WalkLawsBesides
import Derived.Lib.Hide
import Derived.Below
import Derived.LoopTactic
namespace Go.Proofs.Ytbejajnhgoejhaa.Ic
open Go.RowKit

/-- What a call tells that makes memory at most. -/
def Tells (v : Value) (w : World) (e : Ending) (w' : World) : Prop := e = .returned v ∧ Below w.heap.size w w'

set_option maxRecDepth 100000 in
set_option maxHeartbeats 4000000 in
theorem rSize_any (k : Int) (w : World) : Calls Try.prog 19 #[.int .i64 k] w (Tells (.int .i64 (szI k : Nat)) w) := by
  rcases kinds k with h | rfl | rfl | rfl | rfl | rfl | rfl | rfl
  · rw [sz_none k h]
    by_cases h0 : k = 0
    · subst h0
      go_enter Try.func19, Try.ntmps19
      go_wp2
      go_ret
      exact ⟨rfl, (Below.refl _ _).alloc (Nat.le_refl _) _⟩
    · by_cases h1 : k < 0
      · clear h h0
        go_enter Try.func19, Try.ntmps19
        go_wp2
        go_ret
        exact ⟨rfl, (Below.refl _ _).alloc (Nat.le_refl _) _⟩
      · have h2 : 7 < k := by omega
        clear h h0
        go_enter Try.func19, Try.ntmps19
        go_wp2
        go_ret
        exact ⟨rfl, (Below.refl _ _).alloc (Nat.le_refl _) _⟩
  all_goals
    go_enter Try.func19, Try.ntmps19
    go_wp2
    go_ret
    exact ⟨rfl, (Below.refl _ _).alloc (Nat.le_refl _) _⟩

theorem name_none (k : Int) (h : k < 1 ∨ 7 < k) : nameI k = ⟨#[]⟩ := by
  unfold nameI
  rw [if_neg (by omega), if_neg (by omega), if_neg (by omega), if_neg (by omega), if_neg (by omega), if_neg (by omega), if_neg (by omega)]
set_option maxRecDepth 100000 in
set_option maxHeartbeats 4000000 in
theorem rMany_any (k : Int) (w : World) : Calls Try.prog 32 #[.int .i64 k] w (Tells (.int .i64 (manyI k)) w) := by
  by_cases h1 : k = 1
  · subst h1
    go_enter Try.func32, Try.ntmps32
    go_wp2
    go_ret
    exact ⟨rfl, Below.refl _ _⟩
  · have HM := Lib.hid (pw_many k h1)
    have h4 := sz_le k
    have HS := Lib.hid (fun W => rSize_any k W)
    generalize manyI k = m at *
    generalize szI k = n at *
    have hk : (k == 1) = false := by simpa using h1
    clear h1
    go_enter Try.func32, Try.ntmps32
    go_wp2
    go_loopw [3, 4] (fun v i wr => ∃ j : Nat, j ≤ n ∧ i = .int .i64 j ∧ v = .int .i64 (pwI j) ∧ Hid (Below w.heap.size w wr)) (fun _ i _ => n - (intOf i).toNat)
    case atStart => exact ⟨0, Nat.zero_le _, rfl, rfl, Lib.hid (Below.refl _ _)⟩
    case round =>
      obtain ⟨j, hj, rfl, rfl, hb⟩ := hrel
      by_cases hlt : j < n
      · have hI : (j : Int) < (n : Int) := by omega
        have hp := Lib.hid (pw_step j (by omega))
        have hq := Lib.hid (pw_pos (j + 1))
        have e1 : IntKind.i64.wrap (pwI j * 256) = pwI (j + 1) := by
          rw [hp.out, IntKind.wrap_i64]
          have := hq.out
          omega
        go_wp2_with fail
        refine (HS.out _).mono ?_
        rintro e w1 ⟨rfl, hb1⟩
        have hb2 := Lib.hid (hb.out.trans (hb1.mono hb.out.size))
        clear hb1
        go_wp2
        go_roundw
        case rel => exact ⟨j + 1, by omega, by go_num, rfl, hb2⟩
        case measure => simp [intOf]; omega
      · obtain rfl : j = n := by omega
        go_wp2_with fail
        refine (HS.out _).mono ?_
        rintro e w1 ⟨rfl, hb1⟩
        have hb2 := Lib.hid (hb.out.trans (hb1.mono hb.out.size))
        clear hb1
        go_wp2
        go_ret
        exact ⟨by rw [← HM.out]; rfl, hb2.out⟩

set_option maxRecDepth 100000 in
set_option maxHeartbeats 4000000 in
theorem rLeast_any (k : Int) (w : World) : Calls Try.prog 31 #[.int .i64 k] w (Tells (.int .i64 (leastI k)) w) := by
  have HM := Lib.hid (fun W => rMany_any k W)
  by_cases h1 : 2 ≤ k
  · by_cases h2 : k ≤ 4
    · obtain rfl | rfl | rfl : k = 2 ∨ k = 3 ∨ k = 4 := by omega
      · rw [show manyI 2 = 256 from rfl] at HM
        rw [show leastI 2 = -128 from rfl]
        go_enter Try.func31, Try.ntmps31
        go_wp2_with fail
        refine (HM.out _).mono ?_
        rintro e w1 ⟨rfl, hb1⟩
        go_wp2
        go_ret
        exact ⟨rfl, hb1⟩
      · rw [show manyI 3 = 65536 from rfl] at HM
        rw [show leastI 3 = -32768 from rfl]
        go_enter Try.func31, Try.ntmps31
        go_wp2_with fail
        refine (HM.out _).mono ?_
        rintro e w1 ⟨rfl, hb1⟩
        go_wp2
        go_ret
        exact ⟨rfl, hb1⟩
      · rw [show manyI 4 = 4294967296 from rfl] at HM
        rw [show leastI 4 = -2147483648 from rfl]
        go_enter Try.func31, Try.ntmps31
        go_wp2_with fail
        refine (HM.out _).mono ?_
        rintro e w1 ⟨rfl, hb1⟩
        go_wp2
        go_ret
        exact ⟨rfl, hb1⟩
    · have h3 : 4 < k := by omega
      have e : leastI k = 0 := by unfold leastI; rw [if_neg (by omega), if_neg (by omega), if_neg (by omega)]
      rw [e]
      clear h2
      go_enter Try.func31, Try.ntmps31
      go_wp2
      go_ret
      exact ⟨rfl, Below.refl _ _⟩
  · have h3 : k < 2 := by omega
    have e : leastI k = 0 := by unfold leastI; rw [if_neg (by omega), if_neg (by omega), if_neg (by omega)]
    rw [e]
    clear h1
    go_enter Try.func31, Try.ntmps31
    go_wp2
    go_ret
    exact ⟨rfl, Below.refl _ _⟩

end Go.Proofs.Ytbejajnhgoejhaa.Ic
