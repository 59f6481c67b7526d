/-
  The landed code's forms, names, Op, Right, walked. Conditions: numbers that an int holds.
-/
import Derived.Test.YtbejajnhgoejhaaIlOp
import Derived.Test.YtbejajnhgoejhaaIlLies
import Derived.Test.YtbejajnhgoejhaaIlIec
namespace Go.Proofs.Ytbejajnhgoejhaa.Il
open Go.RowKit
open Go.Proofs.Ytbejajnhgoejhaa.Ic

/-- The form of an operation. -/
def formI (op : Int) : Int := if readsB op then 2 else if writesB op then 3 else if jumpB op then 4 else if bareB op || decide (op = 33) then 1 else if op = 31 then 5 else if op = 32 then 6 else if op = 34 ∨ op = 35 then 7 else if op = 36 then 8 else 0
def joinI (op : Int) : Bool := decide (7 ≤ op ∧ op ≤ 24 ∧ op ≠ 13)
theorem op_cases (op : Int) : (op < 1 ∨ 36 < op) ∨ ∃ k : Fin 36, op = (k.val + 1 : Nat) := by
  by_cases h : 1 ≤ op ∧ op ≤ 36
  · right
    exact ⟨⟨op.toNat - 1, by omega⟩, by simp; omega⟩
  · left; omega
theorem form_none (op : Int) (h : op < 1 ∨ 36 < op) : formI op = 0 := by
  unfold formI readsB writesB jumpB bareB
  rw [if_neg (by simp; omega), if_neg (by simp; omega), if_neg (by simp; omega), if_neg (by simp; omega), if_neg (by omega), if_neg (by omega), if_neg (by omega), if_neg (by omega)]

theorem cJoins_any (op : Int) (w : World) : Calls Try.prog 42 #[.int .i64 op] w fun e w' => e = .returned (.bool (joinI op)) ∧ w = w' := by
  by_cases h1 : 7 ≤ op
  · by_cases h2 : op ≤ 24
    · by_cases h3 : op = 13
      · subst h3
        rw [show joinI 13 = false from rfl]
        go_enter Try.func42, Try.ntmps42
        go_wp2
        go_ret
        exact ⟨rfl, rfl⟩
      · rw [show joinI op = true by unfold joinI; rw [decide_eq_true_iff]; exact ⟨h1, h2, h3⟩]
        have e3 : (op != 13) = true := by simpa using h3
        clear h3
        go_enter Try.func42, Try.ntmps42
        go_wp2
        go_ret
        exact ⟨rfl, rfl⟩
    · rw [show joinI op = false by unfold joinI; rw [decide_eq_false_iff_not]; omega]
      go_enter Try.func42, Try.ntmps42
      go_wp2
      go_ret
      exact ⟨rfl, rfl⟩
  · rw [show joinI op = false by unfold joinI; rw [decide_eq_false_iff_not]; omega]
    go_enter Try.func42, Try.ntmps42
    go_wp2
    go_ret
    exact ⟨rfl, rfl⟩

set_option maxHeartbeats 4000000 in
set_option maxRecDepth 100000 in
theorem cForm_none (op : Int) (h : op < 1 ∨ 36 < op) (w : World) : Calls Try.prog 39 #[.int .i64 op] w fun e w' => e = .returned (.int .i64 0) ∧ w = w' := by
  have HJ := Lib.hid (fun W => cJoins_any op W)
  have hj : joinI op = false := by unfold joinI; rw [decide_eq_false_iff_not]; omega
  rw [hj] at HJ
  rcases h with h | h
  all_goals
    clear hj
    go_enter Try.func39, Try.ntmps39
    go_wp2_with fail
    refine (HJ.out _).mono ?_
    rintro e w1 ⟨rfl, rfl⟩
    go_wp2
    go_ret
    exact ⟨rfl, rfl⟩

set_option maxHeartbeats 4000000 in
set_option maxRecDepth 100000 in
theorem cForm_call (op : Int) (h1 : 7 ≤ op) (h2 : op ≤ 24) (h3 : op ≠ 13) (w : World) : Calls Try.prog 39 #[.int .i64 op] w fun e w' => e = .returned (.int .i64 2) ∧ w = w' := by
  have HJ := Lib.hid (fun W => cJoins_any op W)
  have hj : joinI op = true := by unfold joinI; rw [decide_eq_true_iff]; exact ⟨h1, h2, h3⟩
  have e3 : (op == 13) = false := by simpa using h3
  rw [hj] at HJ
  clear hj h3
  go_enter Try.func39, Try.ntmps39
  go_wp2_with fail
  refine (HJ.out _).mono ?_
  rintro e w1 ⟨rfl, rfl⟩
  go_wp2
  go_ret
  exact ⟨rfl, rfl⟩
set_option maxRecDepth 100000 in
theorem cForm_1 (w : World) : Calls Try.prog 39 #[.int .i64 1] w fun e w' => e = .returned (.int .i64 2) ∧ w = w' := by
  go_enter Try.func39, Try.ntmps39
  go_wp2
  go_ret
  exact ⟨rfl, rfl⟩
set_option maxRecDepth 100000 in
theorem cForm_2 (w : World) : Calls Try.prog 39 #[.int .i64 2] w fun e w' => e = .returned (.int .i64 2) ∧ w = w' := by
  go_enter Try.func39, Try.ntmps39
  go_wp2
  go_ret
  exact ⟨rfl, rfl⟩
set_option maxRecDepth 100000 in
theorem cForm_3 (w : World) : Calls Try.prog 39 #[.int .i64 3] w fun e w' => e = .returned (.int .i64 3) ∧ w = w' := by
  go_enter Try.func39, Try.ntmps39
  go_wp2
  go_ret
  exact ⟨rfl, rfl⟩
set_option maxRecDepth 100000 in
theorem cForm_4 (w : World) : Calls Try.prog 39 #[.int .i64 4] w fun e w' => e = .returned (.int .i64 3) ∧ w = w' := by
  go_enter Try.func39, Try.ntmps39
  go_wp2
  go_ret
  exact ⟨rfl, rfl⟩
set_option maxRecDepth 100000 in
theorem cForm_5 (w : World) : Calls Try.prog 39 #[.int .i64 5] w fun e w' => e = .returned (.int .i64 3) ∧ w = w' := by
  go_enter Try.func39, Try.ntmps39
  go_wp2
  go_ret
  exact ⟨rfl, rfl⟩
set_option maxRecDepth 100000 in
theorem cForm_6 (w : World) : Calls Try.prog 39 #[.int .i64 6] w fun e w' => e = .returned (.int .i64 3) ∧ w = w' := by
  go_enter Try.func39, Try.ntmps39
  go_wp2
  go_ret
  exact ⟨rfl, rfl⟩
set_option maxRecDepth 100000 in
theorem cForm_13 (w : World) : Calls Try.prog 39 #[.int .i64 13] w fun e w' => e = .returned (.int .i64 1) ∧ w = w' := by
  go_enter Try.func39, Try.ntmps39
  go_wp2
  go_ret
  exact ⟨rfl, rfl⟩
set_option maxRecDepth 100000 in
theorem cForm_25 (w : World) : Calls Try.prog 39 #[.int .i64 25] w fun e w' => e = .returned (.int .i64 4) ∧ w = w' := by
  go_enter Try.func39, Try.ntmps39
  go_wp2
  go_ret
  exact ⟨rfl, rfl⟩
set_option maxRecDepth 100000 in
theorem cForm_26 (w : World) : Calls Try.prog 39 #[.int .i64 26] w fun e w' => e = .returned (.int .i64 4) ∧ w = w' := by
  go_enter Try.func39, Try.ntmps39
  go_wp2
  go_ret
  exact ⟨rfl, rfl⟩
set_option maxRecDepth 100000 in
theorem cForm_27 (w : World) : Calls Try.prog 39 #[.int .i64 27] w fun e w' => e = .returned (.int .i64 4) ∧ w = w' := by
  go_enter Try.func39, Try.ntmps39
  go_wp2
  go_ret
  exact ⟨rfl, rfl⟩
set_option maxRecDepth 100000 in
theorem cForm_28 (w : World) : Calls Try.prog 39 #[.int .i64 28] w fun e w' => e = .returned (.int .i64 1) ∧ w = w' := by
  go_enter Try.func39, Try.ntmps39
  go_wp2
  go_ret
  exact ⟨rfl, rfl⟩
set_option maxRecDepth 100000 in
theorem cForm_29 (w : World) : Calls Try.prog 39 #[.int .i64 29] w fun e w' => e = .returned (.int .i64 1) ∧ w = w' := by
  go_enter Try.func39, Try.ntmps39
  go_wp2
  go_ret
  exact ⟨rfl, rfl⟩
set_option maxRecDepth 100000 in
theorem cForm_30 (w : World) : Calls Try.prog 39 #[.int .i64 30] w fun e w' => e = .returned (.int .i64 1) ∧ w = w' := by
  go_enter Try.func39, Try.ntmps39
  go_wp2
  go_ret
  exact ⟨rfl, rfl⟩
set_option maxRecDepth 100000 in
theorem cForm_31 (w : World) : Calls Try.prog 39 #[.int .i64 31] w fun e w' => e = .returned (.int .i64 5) ∧ w = w' := by
  go_enter Try.func39, Try.ntmps39
  go_wp2
  go_ret
  exact ⟨rfl, rfl⟩
set_option maxRecDepth 100000 in
theorem cForm_32 (w : World) : Calls Try.prog 39 #[.int .i64 32] w fun e w' => e = .returned (.int .i64 6) ∧ w = w' := by
  go_enter Try.func39, Try.ntmps39
  go_wp2
  go_ret
  exact ⟨rfl, rfl⟩
set_option maxRecDepth 100000 in
theorem cForm_33 (w : World) : Calls Try.prog 39 #[.int .i64 33] w fun e w' => e = .returned (.int .i64 1) ∧ w = w' := by
  go_enter Try.func39, Try.ntmps39
  go_wp2
  go_ret
  exact ⟨rfl, rfl⟩
set_option maxRecDepth 100000 in
theorem cForm_34 (w : World) : Calls Try.prog 39 #[.int .i64 34] w fun e w' => e = .returned (.int .i64 7) ∧ w = w' := by
  go_enter Try.func39, Try.ntmps39
  go_wp2
  go_ret
  exact ⟨rfl, rfl⟩
set_option maxRecDepth 100000 in
theorem cForm_35 (w : World) : Calls Try.prog 39 #[.int .i64 35] w fun e w' => e = .returned (.int .i64 7) ∧ w = w' := by
  go_enter Try.func39, Try.ntmps39
  go_wp2
  go_ret
  exact ⟨rfl, rfl⟩
set_option maxRecDepth 100000 in
theorem cForm_36 (w : World) : Calls Try.prog 39 #[.int .i64 36] w fun e w' => e = .returned (.int .i64 8) ∧ w = w' := by
  go_enter Try.func39, Try.ntmps39
  go_wp2
  go_ret
  exact ⟨rfl, rfl⟩
theorem form_call (op : Int) (h1 : 7 ≤ op) (h2 : op ≤ 24) (h3 : op ≠ 13) : formI op = 2 := by
  unfold formI readsB
  rw [if_pos (by simp; omega)]
theorem cForm_any (op : Int) (w : World) : Calls Try.prog 39 #[.int .i64 op] w fun e w' => e = .returned (.int .i64 (formI op)) ∧ w = w' := by
  by_cases hn : op < 1 ∨ 36 < op
  · rw [form_none op hn]; exact cForm_none op hn w
  by_cases hc : 7 ≤ op ∧ op ≤ 24 ∧ op ≠ 13
  · rw [form_call op hc.1 hc.2.1 hc.2.2]; exact cForm_call op hc.1 hc.2.1 hc.2.2 w
  have hp : op = 1 ∨ op = 2 ∨ op = 3 ∨ op = 4 ∨ op = 5 ∨ op = 6 ∨ op = 13 ∨ op = 25 ∨ op = 26 ∨ op = 27 ∨ op = 28 ∨ op = 29 ∨ op = 30 ∨ op = 31 ∨ op = 32 ∨ op = 33 ∨ op = 34 ∨ op = 35 ∨ op = 36 := by omega
  rcases hp with rfl | rfl | rfl | rfl | rfl | rfl | rfl | rfl | rfl | rfl | rfl | rfl | rfl | rfl | rfl | rfl | rfl | rfl | rfl
  · exact cForm_1 w
  · exact cForm_2 w
  · exact cForm_3 w
  · exact cForm_4 w
  · exact cForm_5 w
  · exact cForm_6 w
  · exact cForm_13 w
  · exact cForm_25 w
  · exact cForm_26 w
  · exact cForm_27 w
  · exact cForm_28 w
  · exact cForm_29 w
  · exact cForm_30 w
  · exact cForm_31 w
  · exact cForm_32 w
  · exact cForm_33 w
  · exact cForm_34 w
  · exact cForm_35 w
  · exact cForm_36 w

end Go.Proofs.Ytbejajnhgoejhaa.Il
