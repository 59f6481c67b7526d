/-
  The reference of layer 11, walked. Conditions: as each states.
-/
import Derived.Test.YtmlopacekoghkaaRows
import Derived.Test.YtmlopacekoghkaaIcP
import Derived.WalkKit
import Derived.WalkSpells
import Derived.WalkLawsBesides
import Derived.Lib.Hide
import Derived.Below
import Derived.LoopTactic
namespace Go.Proofs.Ytmlopacekoghkaa.Ic
open Go.RowKit

/-- What a call tells that makes memory at most. -/
def Tells (v : Value) (w : World) (e : Ending) (w' : World) : Prop := e = .returned v ∧ Below w.heap.size w w'

set_option maxRecDepth 100000 in
set_option maxHeartbeats 4000000 in
theorem rSize_any (k : Int) (w : World) : Calls Try.prog 54 #[.int .i64 k] w (Tells (.int .i64 (szI k : Nat)) w) := by
  rcases kinds k with h | rfl | rfl | rfl | rfl | rfl | rfl | rfl
  · rw [sz_none k h]
    by_cases h0 : k = 0
    · subst h0
      go_enter Try.func54, Try.ntmps54
      go_wp2
      go_ret
      exact ⟨rfl, (Below.refl _ _).alloc (Nat.le_refl _) _⟩
    · by_cases h1 : k < 0
      · clear h h0
        go_enter Try.func54, Try.ntmps54
        go_wp2
        go_ret
        exact ⟨rfl, (Below.refl _ _).alloc (Nat.le_refl _) _⟩
      · have h2 : 7 < k := by omega
        clear h h0
        go_enter Try.func54, Try.ntmps54
        go_wp2
        go_ret
        exact ⟨rfl, (Below.refl _ _).alloc (Nat.le_refl _) _⟩
  all_goals
    go_enter Try.func54, Try.ntmps54
    go_wp2
    go_ret
    exact ⟨rfl, (Below.refl _ _).alloc (Nat.le_refl _) _⟩

theorem name_none (k : Int) (h : k < 1 ∨ 7 < k) : nameI k = ⟨#[]⟩ := by
  unfold nameI
  rw [if_neg (by omega), if_neg (by omega), if_neg (by omega), if_neg (by omega), if_neg (by omega), if_neg (by omega), if_neg (by omega)]
set_option maxRecDepth 100000 in
set_option maxHeartbeats 4000000 in
theorem rMany_any (k : Int) (w : World) : Calls Try.prog 63 #[.int .i64 k] w (Tells (.int .i64 (manyI k)) w) := by
  by_cases h1 : k = 1
  · subst h1
    go_enter Try.func63, Try.ntmps63
    go_wp2
    go_ret
    exact ⟨rfl, Below.refl _ _⟩
  · have HM := Lib.hid (pw_many k h1)
    have h4 := sz_le k
    have HS := Lib.hid (fun W => rSize_any k W)
    generalize manyI k = m at *
    generalize szI k = n at *
    have hk : (k == 1) = false := by simpa using h1
    clear h1
    go_enter Try.func63, Try.ntmps63
    go_wp2
    go_loopw [3, 4] (fun v i wr => ∃ j : Nat, j ≤ n ∧ i = .int .i64 j ∧ v = .int .i64 (pwI j) ∧ Hid (Below w.heap.size w wr)) (fun _ i _ => n - (intOf i).toNat)
    case atStart => exact ⟨0, Nat.zero_le _, rfl, rfl, Lib.hid (Below.refl _ _)⟩
    case round =>
      obtain ⟨j, hj, rfl, rfl, hb⟩ := hrel
      by_cases hlt : j < n
      · have hI : (j : Int) < (n : Int) := by omega
        have hp := Lib.hid (pw_step j (by omega))
        have hq := Lib.hid (pw_pos (j + 1))
        have e1 : IntKind.i64.wrap (pwI j * 256) = pwI (j + 1) := by
          rw [hp.out, IntKind.wrap_i64]
          have := hq.out
          omega
        go_wp2_with fail
        refine (HS.out _).mono ?_
        rintro e w1 ⟨rfl, hb1⟩
        have hb2 := Lib.hid (hb.out.trans (hb1.mono hb.out.size))
        clear hb1
        go_wp2
        go_roundw
        case rel => exact ⟨j + 1, by omega, by go_num, rfl, hb2⟩
        case measure => simp [intOf]; omega
      · obtain rfl : j = n := by omega
        go_wp2_with fail
        refine (HS.out _).mono ?_
        rintro e w1 ⟨rfl, hb1⟩
        have hb2 := Lib.hid (hb.out.trans (hb1.mono hb.out.size))
        clear hb1
        go_wp2
        go_ret
        exact ⟨by rw [← HM.out]; rfl, hb2.out⟩

set_option maxRecDepth 100000 in
set_option maxHeartbeats 4000000 in
theorem rLeast_any (k : Int) (w : World) : Calls Try.prog 62 #[.int .i64 k] w (Tells (.int .i64 (leastI k)) w) := by
  have HM := Lib.hid (fun W => rMany_any k W)
  by_cases h1 : 2 ≤ k
  · by_cases h2 : k ≤ 4
    · obtain rfl | rfl | rfl : k = 2 ∨ k = 3 ∨ k = 4 := by omega
      · rw [show manyI 2 = 256 from rfl] at HM
        rw [show leastI 2 = -128 from rfl]
        go_enter Try.func62, Try.ntmps62
        go_wp2_with fail
        refine (HM.out _).mono ?_
        rintro e w1 ⟨rfl, hb1⟩
        go_wp2
        go_ret
        exact ⟨rfl, hb1⟩
      · rw [show manyI 3 = 65536 from rfl] at HM
        rw [show leastI 3 = -32768 from rfl]
        go_enter Try.func62, Try.ntmps62
        go_wp2_with fail
        refine (HM.out _).mono ?_
        rintro e w1 ⟨rfl, hb1⟩
        go_wp2
        go_ret
        exact ⟨rfl, hb1⟩
      · rw [show manyI 4 = 4294967296 from rfl] at HM
        rw [show leastI 4 = -2147483648 from rfl]
        go_enter Try.func62, Try.ntmps62
        go_wp2_with fail
        refine (HM.out _).mono ?_
        rintro e w1 ⟨rfl, hb1⟩
        go_wp2
        go_ret
        exact ⟨rfl, hb1⟩
    · have h3 : 4 < k := by omega
      have e : leastI k = 0 := by unfold leastI; rw [if_neg (by omega), if_neg (by omega), if_neg (by omega)]
      rw [e]
      clear h2
      go_enter Try.func62, Try.ntmps62
      go_wp2
      go_ret
      exact ⟨rfl, Below.refl _ _⟩
  · have h3 : k < 2 := by omega
    have e : leastI k = 0 := by unfold leastI; rw [if_neg (by omega), if_neg (by omega), if_neg (by omega)]
    rw [e]
    clear h1
    go_enter Try.func62, Try.ntmps62
    go_wp2
    go_ret
    exact ⟨rfl, Below.refl _ _⟩

end Go.Proofs.Ytmlopacekoghkaa.Ic

namespace Go.Proofs.Ytmlopacekoghkaa.Ic
open Go.RowKit

set_option maxRecDepth 100000 in
set_option maxHeartbeats 4000000 in
theorem rIs_any (k v : Int) (w : World) : Calls Try.prog 51 #[.int .i64 k, .int .i64 v] w (Tells (.bool (isI k v)) w) := by
  have HS := Lib.hid (fun W => rSize_any k W)
  have HM := Lib.hid (fun W => rMany_any k W)
  have HL := Lib.hid (fun W => rLeast_any k W)
  obtain ⟨m1, m2⟩ := many_le k
  obtain ⟨l1, l2⟩ := least_le k
  have hv : isI k v = (decide (szI k ≠ 0) && (decide (leastI k ≤ v) && decide (v ≤ leastI k + manyI k - 1))) := by
    unfold isI
    by_cases a : szI k ≠ 0 <;> by_cases b : leastI k ≤ v <;> by_cases c : v < leastI k + manyI k <;> simp [a, b, c] <;> omega
  rw [hv]
  clear hv
  generalize manyI k = m at *
  generalize leastI k = l at *
  generalize szI k = n at *
  by_cases h0 : n = 0
  · subst h0
    go_enter Try.func51, Try.ntmps51
    go_wp2_with fail
    refine (HS.out _).mono ?_
    rintro e w1 ⟨rfl, hb1⟩
    go_wp2
    go_ret
    exact ⟨rfl, hb1⟩
  · have hn : (0 : Int) < (n : Int) := by omega
    rw [decide_eq_true (show n ≠ 0 from h0)]
    by_cases c1 : l ≤ v
    · rw [decide_eq_true c1]
      go_enter Try.func51, Try.ntmps51
      go_wp2_with fail
      refine (HS.out _).mono ?_
      rintro e w1 ⟨rfl, hb1⟩
      go_wp2_with fail
      refine (HL.out _).mono ?_
      rintro e w2 ⟨rfl, hb2⟩
      replace hb2 := Lib.hid (hb1.trans (hb2.mono hb1.size))
      clear hb1
      go_wp2_with fail
      refine (HL.out _).mono ?_
      rintro e w3 ⟨rfl, hb3⟩
      replace hb3 := Lib.hid (hb2.out.trans (hb3.mono hb2.out.size))
      clear hb2
      go_wp2_with fail
      refine (HM.out _).mono ?_
      rintro e w4 ⟨rfl, hb4⟩
      replace hb4 := Lib.hid (hb3.out.trans (hb4.mono hb3.out.size))
      clear hb3
      have e1 : IntKind.i64.wrap (l + m) = l + m := by rw [IntKind.wrap_i64]; omega
      have e2 : IntKind.i64.wrap (l + m - 1) = l + m - 1 := by rw [IntKind.wrap_i64]; omega
      go_wp2
      go_ret
      exact ⟨by simp, hb4.out⟩
    · have c2 : v < l := by omega
      rw [decide_eq_false c1]
      clear c1
      go_enter Try.func51, Try.ntmps51
      go_wp2_with fail
      refine (HS.out _).mono ?_
      rintro e w1 ⟨rfl, hb1⟩
      go_wp2_with fail
      refine (HL.out _).mono ?_
      rintro e w2 ⟨rfl, hb2⟩
      replace hb2 := Lib.hid (hb1.trans (hb2.mono hb1.size))
      clear hb1
      go_wp2
      go_ret
      exact ⟨rfl, hb2.out⟩

end Go.Proofs.Ytmlopacekoghkaa.Ic

namespace Go.Proofs.Ytmlopacekoghkaa.Ic
open Go.RowKit

set_option maxRecDepth 100000 in
set_option maxHeartbeats 8000000 in
theorem rMay_any (op k : Int) (w : World) : Calls Try.prog 56 #[.int .i64 op, .int .i64 k] w (Tells (.bool (mayI op k)) w) := by
  have HS := Lib.hid (fun W => rSize_any k W)
  by_cases h0 : szI k = 0
  · have hv : mayI op k = false := by unfold mayI; rw [decide_eq_false_iff_not]; exact fun h => h.1 h0
    rw [hv]
    rw [h0] at HS
    clear h0 hv
    rcases (by omega : op < 7 ∨ (7 ≤ op ∧ op ≤ 13) ∨ (14 ≤ op ∧ op ≤ 18) ∨ (19 ≤ op ∧ op ≤ 24) ∨ 24 < op) with ho | ⟨ho, hp⟩ | ⟨ho, hp⟩ | ⟨ho, hp⟩ | ho
    all_goals
      go_enter Try.func56, Try.ntmps56
      go_wp2_with fail
      refine (HS.out _).mono ?_
      rintro e w1 ⟨rfl, hb1⟩
      go_wp2
      go_ret
      exact ⟨rfl, hb1⟩
  · have hk := (sz_iff k).1 h0
    have hn : ¬ ((szI k : Nat) : Int) = 0 := by omega
    have HV := Lib.hid (show mayI op k = decide ((14 ≤ op ∧ op ≤ 18 ∧ 2 ≤ k ∧ k ≤ 5) ∨ (7 ≤ op ∧ op ≤ 13 ∧ (k = 1 ∨ 6 ≤ k)) ∨ (19 ≤ op ∧ op ≤ 24)) from by
      unfold mayI
      by_cases hd : (14 ≤ op ∧ op ≤ 18 ∧ 2 ≤ k ∧ k ≤ 5) ∨ (7 ≤ op ∧ op ≤ 13 ∧ (k = 1 ∨ 6 ≤ k)) ∨ (19 ≤ op ∧ op ≤ 24)
      · rw [decide_eq_true hd, decide_eq_true ⟨h0, hd⟩]
      · rw [decide_eq_false hd, decide_eq_false (fun h => hd h.2)])
    generalize mayI op k = mv at *
    generalize szI k = n at *
    clear h0
    obtain ⟨hk1, hk2⟩ := hk
    rcases (by omega : op < 7 ∨ (7 ≤ op ∧ op ≤ 13) ∨ (14 ≤ op ∧ op ≤ 18) ∨ (19 ≤ op ∧ op ≤ 24) ∨ 24 < op) with ho | ⟨ho, hp⟩ | ⟨ho, hp⟩ | ⟨ho, hp⟩ | ho
    all_goals
      rcases (by omega : k ≤ 1 ∨ (2 ≤ k ∧ k ≤ 5) ∨ 6 ≤ k) with hq1 | ⟨hq1, hq2⟩ | hq1
      all_goals
        first
          | (have hkb : (k == 1) = false := by simp; omega)
          | (have hkb : (k == 1) = true := by simp; omega)
        first
          | (have hka : decide (op ≤ 24) = false := decide_eq_false (by omega))
          | (have hka : decide (op ≤ 24) = true := decide_eq_true (by omega))
        first
          | (have hkf : decide (op ≤ 18) = false := decide_eq_false (by omega))
          | (have hkf : decide (op ≤ 18) = true := decide_eq_true (by omega))
        first
          | (have hkg : decide (op ≤ 13) = false := decide_eq_false (by omega))
          | (have hkg : decide (op ≤ 13) = true := decide_eq_true (by omega))
        first
          | (have hkc : decide (6 ≤ k) = false := decide_eq_false (by omega))
          | (have hkc : decide (6 ≤ k) = true := decide_eq_true (by omega))
        first
          | (have hkd : decide (k ≤ 5) = false := decide_eq_false (by omega))
          | (have hkd : decide (k ≤ 5) = true := decide_eq_true (by omega))
        first
          | (have hke : decide (2 ≤ k) = false := decide_eq_false (by omega))
          | (have hke : decide (2 ≤ k) = true := decide_eq_true (by omega))
        go_enter Try.func56, Try.ntmps56
        go_wp2_with fail
        refine (HS.out _).mono ?_
        rintro e w1 ⟨rfl, hb1⟩
        go_wp2
        go_ret
        refine ⟨?_, hb1⟩
        first
          | (rw [show mv = true from HV.out.trans (decide_eq_true (by omega))]; rfl)
          | (rw [show mv = false from HV.out.trans (decide_eq_false (by omega))]; rfl)

set_option maxRecDepth 100000 in
set_option maxHeartbeats 4000000 in
theorem rThere_any (size : Nat) (at_ k : Int) (w : World) (hs : size ≤ 1000000) (h1 : -9223372036854775808 ≤ at_) (h2 : at_ ≤ 9223372036854775807) : Calls Try.prog 53 #[.int .i64 size, .int .i64 at_, .int .i64 k] w (Tells (.bool (thereI size at_ k)) w) := by
  have HS := Lib.hid (fun W => rSize_any k W)
  have h4 := sz_le k
  have HV := Lib.hid (show thereI size at_ k = decide (szI k ≠ 0 ∧ 0 ≤ at_ ∧ at_ ≤ size ∧ (szI k : Int) ≤ size - at_) from rfl)
  generalize thereI size at_ k = tv at *
  generalize szI k = n at *
  by_cases h0 : n = 0
  · subst h0
    have e : tv = false := by rw [HV.out, decide_eq_false (fun h => h.1 rfl)]
    rw [e]
    go_enter Try.func53, Try.ntmps53
    go_wp2_with fail
    refine (HS.out _).mono ?_
    rintro e w1 ⟨rfl, hb1⟩
    go_wp2
    go_ret
    exact ⟨rfl, hb1⟩
  · have hn : (0 : Int) < (n : Int) := by omega
    by_cases c1 : 0 ≤ at_
    · obtain ⟨a, rfl⟩ : ∃ a : Nat, at_ = a := ⟨at_.toNat, by omega⟩
      by_cases c2 : (a : Int) ≤ (size : Int)
      · have e1 : IntKind.i64.wrap ((size : Int) - a) = (size : Int) - a := by rw [IntKind.wrap_i64]; omega
        by_cases c3 : (n : Int) ≤ (size : Int) - a
        · have e : tv = true := by rw [HV.out, decide_eq_true ⟨h0, c1, c2, c3⟩]
          rw [e]
          go_enter Try.func53, Try.ntmps53
          go_wp2_with fail
          refine (HS.out _).mono ?_
          rintro e w1 ⟨rfl, hb1⟩
          go_wp2
          go_ret
          exact ⟨rfl, hb1⟩
        · have e : tv = false := by rw [HV.out, decide_eq_false (fun h => c3 h.2.2.2)]
          have c4 : decide ((n : Int) ≤ (size : Int) - a) = false := decide_eq_false c3
          clear c3
          rw [e]
          go_enter Try.func53, Try.ntmps53
          go_wp2_with fail
          refine (HS.out _).mono ?_
          rintro e w1 ⟨rfl, hb1⟩
          go_wp2
          go_ret
          exact ⟨rfl, hb1⟩
      · have e : tv = false := by rw [HV.out, decide_eq_false (fun h => c2 h.2.2.1)]
        have c4 : (size : Int) < a := by omega
        clear c2
        rw [e]
        go_enter Try.func53, Try.ntmps53
        go_wp2_with fail
        refine (HS.out _).mono ?_
        rintro e w1 ⟨rfl, hb1⟩
        go_wp2
        go_ret
        exact ⟨rfl, hb1⟩
    · have e : tv = false := by rw [HV.out, decide_eq_false (fun h => c1 h.2.1)]
      have c4 : at_ < 0 := by omega
      clear c1
      rw [e]
      go_enter Try.func53, Try.ntmps53
      go_wp2_with fail
      refine (HS.out _).mono ?_
      rintro e w1 ⟨rfl, hb1⟩
      go_wp2
      go_ret
      exact ⟨rfl, hb1⟩

end Go.Proofs.Ytmlopacekoghkaa.Ic
