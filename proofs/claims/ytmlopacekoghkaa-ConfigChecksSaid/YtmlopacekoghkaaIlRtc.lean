/-
  The reference's Right, walked. Conditions: numbers that an int holds.
-/
import Derived.Test.YtmlopacekoghkaaIlR
namespace Go.Proofs.Ytmlopacekoghkaa.Il
open Go.RowKit
open Go.Proofs.Ytmlopacekoghkaa.Ic

set_option maxRecDepth 100000 in
set_option maxHeartbeats 8000000 in
theorem rright_32 (kd ar pl n : Int) (w : World) : Calls Try.prog 45 #[insV ⟨32, kd, ar, pl, n⟩] w (Tells (.bool (rightI ⟨32, kd, ar, pl, n⟩)) w) := by
  have HR := Lib.hid (fun W => rreads_any 32 W)
  have HW := Lib.hid (fun W => rwrites_any 32 W)
  rw [show readsB 32 = false by decide] at HR
  rw [show writesB 32 = false by decide] at HW
  have hv : rightI ⟨32, kd, ar, pl, n⟩ = (decide (kd = 0) && (decide (ar = 0) && decide (n = 0)) && readsB pl && decide (2 < pl)) := by
    unfold rightI
    rw [show readsB 32 = false by decide, show writesB 32 = false by decide, show jumpB 32 = false by decide, show bareB 32 = false by decide]
    simp
  rw [hv]
  clear hv
  have HP := Lib.hid (fun W => rreads_any pl W)
  cases hp : readsB pl
  · rw [hp] at HP
    replace hp := Lib.hid hp
    unfold insV
    go_enter Try.func45, Try.ntmps45
    go_wp2_with fail
    refine (HR.out _).mono ?_
    rintro e w1 ⟨rfl, rfl⟩
    go_wp2_with fail
    refine (HR.out _).mono ?_
    rintro e w1 ⟨rfl, rfl⟩
    go_wp2_with fail
    refine (HW.out _).mono ?_
    rintro e w1 ⟨rfl, rfl⟩
    go_wp2_with fail
    refine (HP.out _).mono ?_
    rintro e w1 ⟨rfl, rfl⟩
    go_wp2
    all_goals
      go_ret
      exact ⟨by first | (simp [*]; done) | (simp [*]; intros; omega), ((Below.refl _ _).alloc (Nat.le_refl _) _).alloc (by simp) _⟩
  · rw [hp] at HP
    replace hp := Lib.hid hp
    unfold insV
    go_enter Try.func45, Try.ntmps45
    go_wp2_with fail
    refine (HR.out _).mono ?_
    rintro e w1 ⟨rfl, rfl⟩
    go_wp2_with fail
    refine (HR.out _).mono ?_
    rintro e w1 ⟨rfl, rfl⟩
    go_wp2_with fail
    refine (HW.out _).mono ?_
    rintro e w1 ⟨rfl, rfl⟩
    go_wp2_with fail
    refine (HP.out _).mono ?_
    rintro e w1 ⟨rfl, rfl⟩
    go_wp2
    all_goals
      go_ret
      exact ⟨by first | (simp [*]; done) | (simp [*]; intros; omega), ((Below.refl _ _).alloc (Nat.le_refl _) _).alloc (by simp) _⟩

set_option maxRecDepth 100000 in
set_option maxHeartbeats 8000000 in
theorem rright_34 (kd ar pl n : Int) (w : World) : Calls Try.prog 45 #[insV ⟨34, kd, ar, pl, n⟩] w (Tells (.bool (rightI ⟨34, kd, ar, pl, n⟩)) w) := by
  have HR := Lib.hid (fun W => rreads_any 34 W)
  have HW := Lib.hid (fun W => rwrites_any 34 W)
  rw [show readsB 34 = false by decide] at HR
  rw [show writesB 34 = false by decide] at HW
  have hv : rightI ⟨34, kd, ar, pl, n⟩ = decide (kd = 0 ∧ 3 ≤ ar ∧ ar ≤ 4 ∧ 0 ≤ pl ∧ pl ≤ 59 ∧ 1 ≤ n ∧ n ≤ 9999) := by
    unfold rightI
    rw [show readsB 34 = false by decide, show writesB 34 = false by decide, show jumpB 34 = false by decide, show bareB 34 = false by decide]
    simp
  rw [hv]
  clear hv
  by_cases h3 : ar = 3 ∨ ar = 4
  · rcases h3 with rfl | rfl
    · unfold insV
      go_enter Try.func45, Try.ntmps45
      go_wp2_with fail
      refine (HR.out _).mono ?_
      rintro e w1 ⟨rfl, rfl⟩
      go_wp2_with fail
      refine (HR.out _).mono ?_
      rintro e w1 ⟨rfl, rfl⟩
      go_wp2_with fail
      refine (HW.out _).mono ?_
      rintro e w1 ⟨rfl, rfl⟩
      go_wp2
      all_goals
        go_ret
        exact ⟨by first | (simp [*]; done) | (simp [*]; intros; omega), ((Below.refl _ _).alloc (Nat.le_refl _) _).alloc (by simp) _⟩
    · unfold insV
      go_enter Try.func45, Try.ntmps45
      go_wp2_with fail
      refine (HR.out _).mono ?_
      rintro e w1 ⟨rfl, rfl⟩
      go_wp2_with fail
      refine (HR.out _).mono ?_
      rintro e w1 ⟨rfl, rfl⟩
      go_wp2_with fail
      refine (HW.out _).mono ?_
      rintro e w1 ⟨rfl, rfl⟩
      go_wp2
      all_goals
        go_ret
        exact ⟨by first | (simp [*]; done) | (simp [*]; intros; omega), ((Below.refl _ _).alloc (Nat.le_refl _) _).alloc (by simp) _⟩
  · have h3a : (ar == 3) = false := by rw [beq_eq_false_iff_ne]; omega
    have h3b : (ar == 4) = false := by rw [beq_eq_false_iff_ne]; omega
    have hq : (decide (kd = 0 ∧ 3 ≤ ar ∧ ar ≤ 4 ∧ 0 ≤ pl ∧ pl ≤ 59 ∧ 1 ≤ n ∧ n ≤ 9999)) = false := by rw [decide_eq_false_iff_not]; omega
    rw [hq]
    clear h3 hq
    unfold insV
    go_enter Try.func45, Try.ntmps45
    go_wp2_with fail
    refine (HR.out _).mono ?_
    rintro e w1 ⟨rfl, rfl⟩
    go_wp2_with fail
    refine (HR.out _).mono ?_
    rintro e w1 ⟨rfl, rfl⟩
    go_wp2_with fail
    refine (HW.out _).mono ?_
    rintro e w1 ⟨rfl, rfl⟩
    go_wp2
    all_goals
      go_ret
      exact ⟨by first | (simp [*]; done) | (simp [*]; intros; omega), ((Below.refl _ _).alloc (Nat.le_refl _) _).alloc (by simp) _⟩

set_option maxRecDepth 100000 in
set_option maxHeartbeats 8000000 in
theorem rright_35 (kd ar pl n : Int) (w : World) : Calls Try.prog 45 #[insV ⟨35, kd, ar, pl, n⟩] w (Tells (.bool (rightI ⟨35, kd, ar, pl, n⟩)) w) := by
  have HR := Lib.hid (fun W => rreads_any 35 W)
  have HW := Lib.hid (fun W => rwrites_any 35 W)
  rw [show readsB 35 = false by decide] at HR
  rw [show writesB 35 = false by decide] at HW
  have hv : rightI ⟨35, kd, ar, pl, n⟩ = decide (kd = 0 ∧ 3 ≤ ar ∧ ar ≤ 4 ∧ 0 ≤ pl ∧ pl ≤ 59 ∧ 1 ≤ n ∧ n ≤ 9999) := by
    unfold rightI
    rw [show readsB 35 = false by decide, show writesB 35 = false by decide, show jumpB 35 = false by decide, show bareB 35 = false by decide]
    simp
  rw [hv]
  clear hv
  by_cases h3 : ar = 3 ∨ ar = 4
  · rcases h3 with rfl | rfl
    · unfold insV
      go_enter Try.func45, Try.ntmps45
      go_wp2_with fail
      refine (HR.out _).mono ?_
      rintro e w1 ⟨rfl, rfl⟩
      go_wp2_with fail
      refine (HR.out _).mono ?_
      rintro e w1 ⟨rfl, rfl⟩
      go_wp2_with fail
      refine (HW.out _).mono ?_
      rintro e w1 ⟨rfl, rfl⟩
      go_wp2
      all_goals
        go_ret
        exact ⟨by first | (simp [*]; done) | (simp [*]; intros; omega), ((Below.refl _ _).alloc (Nat.le_refl _) _).alloc (by simp) _⟩
    · unfold insV
      go_enter Try.func45, Try.ntmps45
      go_wp2_with fail
      refine (HR.out _).mono ?_
      rintro e w1 ⟨rfl, rfl⟩
      go_wp2_with fail
      refine (HR.out _).mono ?_
      rintro e w1 ⟨rfl, rfl⟩
      go_wp2_with fail
      refine (HW.out _).mono ?_
      rintro e w1 ⟨rfl, rfl⟩
      go_wp2
      all_goals
        go_ret
        exact ⟨by first | (simp [*]; done) | (simp [*]; intros; omega), ((Below.refl _ _).alloc (Nat.le_refl _) _).alloc (by simp) _⟩
  · have h3a : (ar == 3) = false := by rw [beq_eq_false_iff_ne]; omega
    have h3b : (ar == 4) = false := by rw [beq_eq_false_iff_ne]; omega
    have hq : (decide (kd = 0 ∧ 3 ≤ ar ∧ ar ≤ 4 ∧ 0 ≤ pl ∧ pl ≤ 59 ∧ 1 ≤ n ∧ n ≤ 9999)) = false := by rw [decide_eq_false_iff_not]; omega
    rw [hq]
    clear h3 hq
    unfold insV
    go_enter Try.func45, Try.ntmps45
    go_wp2_with fail
    refine (HR.out _).mono ?_
    rintro e w1 ⟨rfl, rfl⟩
    go_wp2_with fail
    refine (HR.out _).mono ?_
    rintro e w1 ⟨rfl, rfl⟩
    go_wp2_with fail
    refine (HW.out _).mono ?_
    rintro e w1 ⟨rfl, rfl⟩
    go_wp2
    all_goals
      go_ret
      exact ⟨by first | (simp [*]; done) | (simp [*]; intros; omega), ((Below.refl _ _).alloc (Nat.le_refl _) _).alloc (by simp) _⟩

set_option maxRecDepth 100000 in
set_option maxHeartbeats 8000000 in
theorem rright_36 (kd ar pl n : Int) (w : World) : Calls Try.prog 45 #[insV ⟨36, kd, ar, pl, n⟩] w (Tells (.bool (rightI ⟨36, kd, ar, pl, n⟩)) w) := by
  have HR := Lib.hid (fun W => rreads_any 36 W)
  have HW := Lib.hid (fun W => rwrites_any 36 W)
  rw [show readsB 36 = false by decide] at HR
  rw [show writesB 36 = false by decide] at HW
  have hv : rightI ⟨36, kd, ar, pl, n⟩ = decide (kd = 0 ∧ 3 ≤ ar ∧ ar ≤ 4 ∧ 0 ≤ pl ∧ pl ≤ 63 ∧ n = 0) := by
    unfold rightI
    rw [show readsB 36 = false by decide, show writesB 36 = false by decide, show jumpB 36 = false by decide, show bareB 36 = false by decide]
    simp
  rw [hv]
  clear hv
  by_cases h3 : ar = 3 ∨ ar = 4
  · rcases h3 with rfl | rfl
    · unfold insV
      go_enter Try.func45, Try.ntmps45
      go_wp2_with fail
      refine (HR.out _).mono ?_
      rintro e w1 ⟨rfl, rfl⟩
      go_wp2_with fail
      refine (HR.out _).mono ?_
      rintro e w1 ⟨rfl, rfl⟩
      go_wp2_with fail
      refine (HW.out _).mono ?_
      rintro e w1 ⟨rfl, rfl⟩
      go_wp2
      all_goals
        go_ret
        exact ⟨by first | (simp [*]; done) | (simp [*]; intros; omega), ((Below.refl _ _).alloc (Nat.le_refl _) _).alloc (by simp) _⟩
    · unfold insV
      go_enter Try.func45, Try.ntmps45
      go_wp2_with fail
      refine (HR.out _).mono ?_
      rintro e w1 ⟨rfl, rfl⟩
      go_wp2_with fail
      refine (HR.out _).mono ?_
      rintro e w1 ⟨rfl, rfl⟩
      go_wp2_with fail
      refine (HW.out _).mono ?_
      rintro e w1 ⟨rfl, rfl⟩
      go_wp2
      all_goals
        go_ret
        exact ⟨by first | (simp [*]; done) | (simp [*]; intros; omega), ((Below.refl _ _).alloc (Nat.le_refl _) _).alloc (by simp) _⟩
  · have h3a : (ar == 3) = false := by rw [beq_eq_false_iff_ne]; omega
    have h3b : (ar == 4) = false := by rw [beq_eq_false_iff_ne]; omega
    have hq : (decide (kd = 0 ∧ 3 ≤ ar ∧ ar ≤ 4 ∧ 0 ≤ pl ∧ pl ≤ 63 ∧ n = 0)) = false := by rw [decide_eq_false_iff_not]; omega
    rw [hq]
    clear h3 hq
    unfold insV
    go_enter Try.func45, Try.ntmps45
    go_wp2_with fail
    refine (HR.out _).mono ?_
    rintro e w1 ⟨rfl, rfl⟩
    go_wp2_with fail
    refine (HR.out _).mono ?_
    rintro e w1 ⟨rfl, rfl⟩
    go_wp2_with fail
    refine (HW.out _).mono ?_
    rintro e w1 ⟨rfl, rfl⟩
    go_wp2
    all_goals
      go_ret
      exact ⟨by first | (simp [*]; done) | (simp [*]; intros; omega), ((Below.refl _ _).alloc (Nat.le_refl _) _).alloc (by simp) _⟩

end Go.Proofs.Ytmlopacekoghkaa.Il
