/-
  The landed verify's small calls, walked: which operations jump, return, store, are blocks, are of order; what is made of a kind. Conditions: none.
-/
import Derived.Test.YtbejajnhgoejhaaVeVal
import Derived.Test.YtbejajnhgoejhaaVeMay
namespace Go.Proofs.Ytbejajnhgoejhaa.Ve
open Go.RowKit
open Go.Proofs.Ytbejajnhgoejhaa.Il hiding Next
open Go.Proofs.Ytbejajnhgoejhaa.Ic

def storeB (op : Int) : Bool := decide (3 ≤ op ∧ op ≤ 6)
def blockB (op : Int) : Bool := decide (34 ≤ op ∧ op ≤ 36)

theorem cJump_any (op : Int) (w : World) : Calls Try.prog 34 #[.int .i64 op] w fun e w' => e = .returned (.bool (jumpB op)) ∧ w = w' := by
  have hv : jumpB op = (decide (25 ≤ op) && decide (op ≤ 27)) := by
    unfold jumpB
    by_cases h : 25 ≤ op <;> by_cases h2 : op ≤ 27 <;> simp [h, h2]
  rw [hv]
  clear hv
  by_cases h3 : 25 ≤ op <;> by_cases h6 : op ≤ 27
  all_goals
    simp only [h3, h6, decide_true, decide_false]
    go_enter Try.func34, Try.ntmps34
    go_wp2
    go_ret
    exact ⟨rfl, rfl⟩
theorem cReturn_any (op : Int) (w : World) : Calls Try.prog 45 #[.int .i64 op] w fun e w' => e = .returned (.bool (retB op)) ∧ w = w' := by
  have hv : retB op = (decide (28 ≤ op) && decide (op ≤ 30)) := by
    unfold retB
    by_cases h : 28 ≤ op <;> by_cases h2 : op ≤ 30 <;> simp [h, h2]
  rw [hv]
  clear hv
  by_cases h3 : 28 ≤ op <;> by_cases h6 : op ≤ 30
  all_goals
    simp only [h3, h6, decide_true, decide_false]
    go_enter Try.func45, Try.ntmps45
    go_wp2
    go_ret
    exact ⟨rfl, rfl⟩
theorem cOrder_any (op : Int) (w : World) : Calls Try.prog 50 #[.int .i64 op] w fun e w' => e = .returned (.bool (ordB op)) ∧ w = w' := by
  have hv : ordB op = (decide (19 ≤ op) && decide (op ≤ 24)) := by
    unfold ordB
    by_cases h : 19 ≤ op <;> by_cases h2 : op ≤ 24 <;> simp [h, h2]
  rw [hv]
  clear hv
  by_cases h3 : 19 ≤ op <;> by_cases h6 : op ≤ 24
  all_goals
    simp only [h3, h6, decide_true, decide_false]
    go_enter Try.func50, Try.ntmps50
    go_wp2
    go_ret
    exact ⟨rfl, rfl⟩
theorem cStore_any (op : Int) (w : World) : Calls Try.prog 29 #[.int .i64 op] w fun e w' => e = .returned (.bool (storeB op)) ∧ w = w' := by
  have hv : storeB op = (decide (3 ≤ op) && decide (op ≤ 6)) := by
    unfold storeB
    by_cases h : 3 ≤ op <;> by_cases h2 : op ≤ 6 <;> simp [h, h2]
  rw [hv]
  clear hv
  by_cases h3 : 3 ≤ op <;> by_cases h6 : op ≤ 6
  all_goals
    simp only [h3, h6, decide_true, decide_false]
    go_enter Try.func29, Try.ntmps29
    go_wp2
    go_ret
    exact ⟨rfl, rfl⟩
theorem cBlock_any (op : Int) (w : World) : Calls Try.prog 30 #[.int .i64 op] w fun e w' => e = .returned (.bool (blockB op)) ∧ w = w' := by
  have hv : blockB op = (decide (34 ≤ op) && decide (op ≤ 36)) := by
    unfold blockB
    by_cases h : 34 ≤ op <;> by_cases h2 : op ≤ 36 <;> simp [h, h2]
  rw [hv]
  clear hv
  by_cases h3 : 34 ≤ op <;> by_cases h6 : op ≤ 36
  all_goals
    simp only [h3, h6, decide_true, decide_false]
    go_enter Try.func30, Try.ntmps30
    go_wp2
    go_ret
    exact ⟨rfl, rfl⟩
theorem cMade_any (op kd : Int) (w : World) : Calls Try.prog 46 #[.int .i64 op, .int .i64 kd] w fun e w' => e = .returned (.int .i64 (madeI op kd)) ∧ w = w' := by
  have HO := Lib.hid (fun W => cOrder_any op W)
  unfold madeI
  cases h : ordB op
  · rw [h] at HO
    rw [if_neg (by simp)]
    clear h
    go_enter Try.func46, Try.ntmps46
    go_wp2_with fail
    refine (HO.out _).mono ?_
    rintro e w1 ⟨rfl, rfl⟩
    go_wp2
    go_ret
    exact ⟨rfl, rfl⟩
  · rw [h] at HO
    rw [if_pos rfl]
    clear h
    go_enter Try.func46, Try.ntmps46
    go_wp2_with fail
    refine (HO.out _).mono ?_
    rintro e w1 ⟨rfl, rfl⟩
    go_wp2
    go_ret
    exact ⟨rfl, rfl⟩
theorem cLogic_any (kd : Int) (w : World) : Calls Try.prog 48 #[.int .i64 kd] w (Tells (.bool (mayI 13 kd)) w) := by
  have HM := Lib.hid (fun W => cMay_any 13 kd W)
  generalize mayI 13 kd = b at *
  go_enter Try.func48, Try.ntmps48
  go_wp2_with fail
  refine (HM.out _).mono ?_
  rintro e w1 ⟨rfl, hb⟩
  go_wp2
  go_ret
  exact ⟨rfl, hb⟩
def usesB (writes : Bool) (op : Int) : Bool := if writes then storeB op || blockB op else !storeB op
theorem cWrites_any (op : Int) (w : World) : Calls Try.prog 18 #[.int .i64 op] w fun e w' => e = .returned (.bool (usesB true op)) ∧ w = w' := by
  have HS := Lib.hid (fun W => cStore_any op W)
  have HB := Lib.hid (fun W => cBlock_any op W)
  unfold usesB
  rw [if_pos rfl]
  generalize storeB op = a at *
  generalize blockB op = b at *
  cases a
  · go_enter Try.func18, Try.ntmps18
    go_wp2_with fail
    refine (HS.out _).mono ?_
    rintro e w1 ⟨rfl, rfl⟩
    go_wp2_with fail
    refine (HB.out _).mono ?_
    rintro e w1 ⟨rfl, rfl⟩
    go_wp2
    go_ret
    exact ⟨rfl, rfl⟩
  · go_enter Try.func18, Try.ntmps18
    go_wp2_with fail
    refine (HS.out _).mono ?_
    rintro e w1 ⟨rfl, rfl⟩
    go_wp2
    go_ret
    exact ⟨rfl, rfl⟩
theorem cReads_any (op : Int) (w : World) : Calls Try.prog 20 #[.int .i64 op] w fun e w' => e = .returned (.bool (usesB false op)) ∧ w = w' := by
  have HS := Lib.hid (fun W => cStore_any op W)
  unfold usesB
  rw [if_neg (by simp)]
  generalize storeB op = a at *
  go_enter Try.func20, Try.ntmps20
  go_wp2_with fail
  refine (HS.out _).mono ?_
  rintro e w1 ⟨rfl, rfl⟩
  go_wp2
  go_ret
  exact ⟨rfl, rfl⟩
end Go.Proofs.Ytbejajnhgoejhaa.Ve
