/-
  The reference's May, Not, yes, There, bits, walked. Conditions: none.
-/
import Derived.Test.YtbejajnhgoejhaaIcWrap
import Derived.Test.YtbejajnhgoejhaaIcOps
namespace Go.Proofs.Ytbejajnhgoejhaa.Ic
open Go.RowKit

set_option maxRecDepth 100000 in
set_option maxHeartbeats 8000000 in
theorem rMay_any (op k : Int) (w : World) : Calls Try.prog 27 #[.int .i64 op, .int .i64 k] w (Tells (.bool (mayI op k)) w) := by
  have HS := Lib.hid (fun W => rSize_any k W)
  by_cases h0 : szI k = 0
  · have hv : mayI op k = false := by unfold mayI; rw [decide_eq_false_iff_not]; exact fun h => h.1 h0
    rw [hv]
    rw [h0] at HS
    clear h0 hv
    rcases (by omega : op < 7 ∨ (7 ≤ op ∧ op ≤ 13) ∨ (14 ≤ op ∧ op ≤ 18) ∨ (19 ≤ op ∧ op ≤ 24) ∨ 24 < op) with ho | ⟨ho, hp⟩ | ⟨ho, hp⟩ | ⟨ho, hp⟩ | ho
    all_goals
      go_enter Try.func27, Try.ntmps27
      go_wp2_with fail
      refine (HS.out _).mono ?_
      rintro e w1 ⟨rfl, hb1⟩
      go_wp2
      go_ret
      exact ⟨rfl, hb1⟩
  · have hk := (sz_iff k).1 h0
    have hn : ¬ ((szI k : Nat) : Int) = 0 := by omega
    have HV := Lib.hid (show mayI op k = decide ((14 ≤ op ∧ op ≤ 18 ∧ 2 ≤ k ∧ k ≤ 5) ∨ (7 ≤ op ∧ op ≤ 13 ∧ (k = 1 ∨ 6 ≤ k)) ∨ (19 ≤ op ∧ op ≤ 24)) from by
      unfold mayI
      by_cases hd : (14 ≤ op ∧ op ≤ 18 ∧ 2 ≤ k ∧ k ≤ 5) ∨ (7 ≤ op ∧ op ≤ 13 ∧ (k = 1 ∨ 6 ≤ k)) ∨ (19 ≤ op ∧ op ≤ 24)
      · rw [decide_eq_true hd, decide_eq_true ⟨h0, hd⟩]
      · rw [decide_eq_false hd, decide_eq_false (fun h => hd h.2)])
    generalize mayI op k = mv at *
    generalize szI k = n at *
    clear h0
    obtain ⟨hk1, hk2⟩ := hk
    rcases (by omega : op < 7 ∨ (7 ≤ op ∧ op ≤ 13) ∨ (14 ≤ op ∧ op ≤ 18) ∨ (19 ≤ op ∧ op ≤ 24) ∨ 24 < op) with ho | ⟨ho, hp⟩ | ⟨ho, hp⟩ | ⟨ho, hp⟩ | ho
    all_goals
      rcases (by omega : k ≤ 1 ∨ (2 ≤ k ∧ k ≤ 5) ∨ 6 ≤ k) with hq1 | ⟨hq1, hq2⟩ | hq1
      all_goals
        first
          | (have hkb : (k == 1) = false := by simp; omega)
          | (have hkb : (k == 1) = true := by simp; omega)
        first
          | (have hka : decide (op ≤ 24) = false := decide_eq_false (by omega))
          | (have hka : decide (op ≤ 24) = true := decide_eq_true (by omega))
        first
          | (have hkf : decide (op ≤ 18) = false := decide_eq_false (by omega))
          | (have hkf : decide (op ≤ 18) = true := decide_eq_true (by omega))
        first
          | (have hkg : decide (op ≤ 13) = false := decide_eq_false (by omega))
          | (have hkg : decide (op ≤ 13) = true := decide_eq_true (by omega))
        first
          | (have hkc : decide (6 ≤ k) = false := decide_eq_false (by omega))
          | (have hkc : decide (6 ≤ k) = true := decide_eq_true (by omega))
        first
          | (have hkd : decide (k ≤ 5) = false := decide_eq_false (by omega))
          | (have hkd : decide (k ≤ 5) = true := decide_eq_true (by omega))
        first
          | (have hke : decide (2 ≤ k) = false := decide_eq_false (by omega))
          | (have hke : decide (2 ≤ k) = true := decide_eq_true (by omega))
        go_enter Try.func27, Try.ntmps27
        go_wp2_with fail
        refine (HS.out _).mono ?_
        rintro e w1 ⟨rfl, hb1⟩
        go_wp2
        go_ret
        refine ⟨?_, hb1⟩
        first
          | (rw [show mv = true from HV.out.trans (decide_eq_true (by omega))]; rfl)
          | (rw [show mv = false from HV.out.trans (decide_eq_false (by omega))]; rfl)

set_option maxRecDepth 100000 in
set_option maxHeartbeats 4000000 in
theorem rThere_any (size : Nat) (at_ k : Int) (w : World) (hs : size ≤ 1000000) (h1 : -9223372036854775808 ≤ at_) (h2 : at_ ≤ 9223372036854775807) : Calls Try.prog 24 #[.int .i64 size, .int .i64 at_, .int .i64 k] w (Tells (.bool (thereI size at_ k)) w) := by
  have HS := Lib.hid (fun W => rSize_any k W)
  have h4 := sz_le k
  have HV := Lib.hid (show thereI size at_ k = decide (szI k ≠ 0 ∧ 0 ≤ at_ ∧ at_ ≤ size ∧ (szI k : Int) ≤ size - at_) from rfl)
  generalize thereI size at_ k = tv at *
  generalize szI k = n at *
  by_cases h0 : n = 0
  · subst h0
    have e : tv = false := by rw [HV.out, decide_eq_false (fun h => h.1 rfl)]
    rw [e]
    go_enter Try.func24, Try.ntmps24
    go_wp2_with fail
    refine (HS.out _).mono ?_
    rintro e w1 ⟨rfl, hb1⟩
    go_wp2
    go_ret
    exact ⟨rfl, hb1⟩
  · have hn : (0 : Int) < (n : Int) := by omega
    by_cases c1 : 0 ≤ at_
    · obtain ⟨a, rfl⟩ : ∃ a : Nat, at_ = a := ⟨at_.toNat, by omega⟩
      by_cases c2 : (a : Int) ≤ (size : Int)
      · have e1 : IntKind.i64.wrap ((size : Int) - a) = (size : Int) - a := by rw [IntKind.wrap_i64]; omega
        by_cases c3 : (n : Int) ≤ (size : Int) - a
        · have e : tv = true := by rw [HV.out, decide_eq_true ⟨h0, c1, c2, c3⟩]
          rw [e]
          go_enter Try.func24, Try.ntmps24
          go_wp2_with fail
          refine (HS.out _).mono ?_
          rintro e w1 ⟨rfl, hb1⟩
          go_wp2
          go_ret
          exact ⟨rfl, hb1⟩
        · have e : tv = false := by rw [HV.out, decide_eq_false (fun h => c3 h.2.2.2)]
          have c4 : decide ((n : Int) ≤ (size : Int) - a) = false := decide_eq_false c3
          clear c3
          rw [e]
          go_enter Try.func24, Try.ntmps24
          go_wp2_with fail
          refine (HS.out _).mono ?_
          rintro e w1 ⟨rfl, hb1⟩
          go_wp2
          go_ret
          exact ⟨rfl, hb1⟩
      · have e : tv = false := by rw [HV.out, decide_eq_false (fun h => c2 h.2.2.1)]
        have c4 : (size : Int) < a := by omega
        clear c2
        rw [e]
        go_enter Try.func24, Try.ntmps24
        go_wp2_with fail
        refine (HS.out _).mono ?_
        rintro e w1 ⟨rfl, hb1⟩
        go_wp2
        go_ret
        exact ⟨rfl, hb1⟩
    · have e : tv = false := by rw [HV.out, decide_eq_false (fun h => c1 h.2.1)]
      have c4 : at_ < 0 := by omega
      clear c1
      rw [e]
      go_enter Try.func24, Try.ntmps24
      go_wp2_with fail
      refine (HS.out _).mono ?_
      rintro e w1 ⟨rfl, hb1⟩
      go_wp2
      go_ret
      exact ⟨rfl, hb1⟩

end Go.Proofs.Ytbejajnhgoejhaa.Ic
