/-
  The reference's Right, walked. Conditions: numbers that an int holds.
-/
import Derived.Test.YtmlopacekoghkaaIlR
namespace Go.Proofs.Ytmlopacekoghkaa.Il
open Go.RowKit
open Go.Proofs.Ytmlopacekoghkaa.Ic

set_option maxRecDepth 100000 in
set_option maxHeartbeats 8000000 in
theorem rright_13 (kd ar pl n : Int) (w : World) : Calls Try.prog 45 #[insV ⟨13, kd, ar, pl, n⟩] w (Tells (.bool (rightI ⟨13, kd, ar, pl, n⟩)) w) := by
  have HR := Lib.hid (fun W => rreads_any 13 W)
  have HW := Lib.hid (fun W => rwrites_any 13 W)
  rw [show readsB 13 = false by decide] at HR
  rw [show writesB 13 = false by decide] at HW
  have hv : rightI ⟨13, kd, ar, pl, n⟩ = (decide (kd = 0) && (decide (ar = 0) && (decide (pl = 0) && decide (n = 0)))) := by
    unfold rightI
    rw [show readsB 13 = false by decide, show writesB 13 = false by decide, show jumpB 13 = false by decide, show bareB 13 = true by decide]
    simp
  rw [hv]
  clear hv
  unfold insV
  go_enter Try.func45, Try.ntmps45
  go_wp2_with fail
  refine (HR.out _).mono ?_
  rintro e w1 ⟨rfl, rfl⟩
  go_wp2_with fail
  refine (HR.out _).mono ?_
  rintro e w1 ⟨rfl, rfl⟩
  go_wp2_with fail
  refine (HW.out _).mono ?_
  rintro e w1 ⟨rfl, rfl⟩
  go_wp2
  all_goals
    go_ret
    exact ⟨by first | (simp [*]; done) | (simp [*]; intros; omega), ((Below.refl _ _).alloc (Nat.le_refl _) _).alloc (by simp) _⟩

set_option maxRecDepth 100000 in
set_option maxHeartbeats 8000000 in
theorem rright_25 (kd ar pl n : Int) (w : World) : Calls Try.prog 45 #[insV ⟨25, kd, ar, pl, n⟩] w (Tells (.bool (rightI ⟨25, kd, ar, pl, n⟩)) w) := by
  have HR := Lib.hid (fun W => rreads_any 25 W)
  have HW := Lib.hid (fun W => rwrites_any 25 W)
  rw [show readsB 25 = false by decide] at HR
  rw [show writesB 25 = false by decide] at HW
  have hv : rightI ⟨25, kd, ar, pl, n⟩ = (decide (kd = 0) && (decide (ar = 0) && (decide (0 ≤ pl) && (decide (pl ≤ 200) && decide (n = 0))))) := by
    unfold rightI
    rw [show readsB 25 = false by decide, show writesB 25 = false by decide, show jumpB 25 = true by decide]
    simp
  rw [hv]
  clear hv
  by_cases h0 : 0 ≤ pl
  · by_cases h200 : pl ≤ 200
    · unfold insV
      go_enter Try.func45, Try.ntmps45
      go_wp2_with fail
      refine (HR.out _).mono ?_
      rintro e w1 ⟨rfl, rfl⟩
      go_wp2_with fail
      refine (HR.out _).mono ?_
      rintro e w1 ⟨rfl, rfl⟩
      go_wp2_with fail
      refine (HW.out _).mono ?_
      rintro e w1 ⟨rfl, rfl⟩
      go_wp2
      all_goals
        go_ret
        exact ⟨by first | (simp [*]; done) | (simp [*]; intros; omega), ((Below.refl _ _).alloc (Nat.le_refl _) _).alloc (by simp) _⟩
    · unfold insV
      go_enter Try.func45, Try.ntmps45
      go_wp2_with fail
      refine (HR.out _).mono ?_
      rintro e w1 ⟨rfl, rfl⟩
      go_wp2_with fail
      refine (HR.out _).mono ?_
      rintro e w1 ⟨rfl, rfl⟩
      go_wp2_with fail
      refine (HW.out _).mono ?_
      rintro e w1 ⟨rfl, rfl⟩
      go_wp2
      all_goals
        go_ret
        exact ⟨by first | (simp [*]; done) | (simp [*]; intros; omega), ((Below.refl _ _).alloc (Nat.le_refl _) _).alloc (by simp) _⟩
  · unfold insV
    go_enter Try.func45, Try.ntmps45
    go_wp2_with fail
    refine (HR.out _).mono ?_
    rintro e w1 ⟨rfl, rfl⟩
    go_wp2_with fail
    refine (HR.out _).mono ?_
    rintro e w1 ⟨rfl, rfl⟩
    go_wp2_with fail
    refine (HW.out _).mono ?_
    rintro e w1 ⟨rfl, rfl⟩
    go_wp2
    all_goals
      go_ret
      exact ⟨by first | (simp [*]; done) | (simp [*]; intros; omega), ((Below.refl _ _).alloc (Nat.le_refl _) _).alloc (by simp) _⟩

set_option maxRecDepth 100000 in
set_option maxHeartbeats 8000000 in
theorem rright_26 (kd ar pl n : Int) (w : World) : Calls Try.prog 45 #[insV ⟨26, kd, ar, pl, n⟩] w (Tells (.bool (rightI ⟨26, kd, ar, pl, n⟩)) w) := by
  have HR := Lib.hid (fun W => rreads_any 26 W)
  have HW := Lib.hid (fun W => rwrites_any 26 W)
  rw [show readsB 26 = false by decide] at HR
  rw [show writesB 26 = false by decide] at HW
  have hv : rightI ⟨26, kd, ar, pl, n⟩ = (decide (kd = 0) && (decide (ar = 0) && (decide (0 ≤ pl) && (decide (pl ≤ 200) && decide (n = 0))))) := by
    unfold rightI
    rw [show readsB 26 = false by decide, show writesB 26 = false by decide, show jumpB 26 = true by decide]
    simp
  rw [hv]
  clear hv
  by_cases h0 : 0 ≤ pl
  · by_cases h200 : pl ≤ 200
    · unfold insV
      go_enter Try.func45, Try.ntmps45
      go_wp2_with fail
      refine (HR.out _).mono ?_
      rintro e w1 ⟨rfl, rfl⟩
      go_wp2_with fail
      refine (HR.out _).mono ?_
      rintro e w1 ⟨rfl, rfl⟩
      go_wp2_with fail
      refine (HW.out _).mono ?_
      rintro e w1 ⟨rfl, rfl⟩
      go_wp2
      all_goals
        go_ret
        exact ⟨by first | (simp [*]; done) | (simp [*]; intros; omega), ((Below.refl _ _).alloc (Nat.le_refl _) _).alloc (by simp) _⟩
    · unfold insV
      go_enter Try.func45, Try.ntmps45
      go_wp2_with fail
      refine (HR.out _).mono ?_
      rintro e w1 ⟨rfl, rfl⟩
      go_wp2_with fail
      refine (HR.out _).mono ?_
      rintro e w1 ⟨rfl, rfl⟩
      go_wp2_with fail
      refine (HW.out _).mono ?_
      rintro e w1 ⟨rfl, rfl⟩
      go_wp2
      all_goals
        go_ret
        exact ⟨by first | (simp [*]; done) | (simp [*]; intros; omega), ((Below.refl _ _).alloc (Nat.le_refl _) _).alloc (by simp) _⟩
  · unfold insV
    go_enter Try.func45, Try.ntmps45
    go_wp2_with fail
    refine (HR.out _).mono ?_
    rintro e w1 ⟨rfl, rfl⟩
    go_wp2_with fail
    refine (HR.out _).mono ?_
    rintro e w1 ⟨rfl, rfl⟩
    go_wp2_with fail
    refine (HW.out _).mono ?_
    rintro e w1 ⟨rfl, rfl⟩
    go_wp2
    all_goals
      go_ret
      exact ⟨by first | (simp [*]; done) | (simp [*]; intros; omega), ((Below.refl _ _).alloc (Nat.le_refl _) _).alloc (by simp) _⟩

set_option maxRecDepth 100000 in
set_option maxHeartbeats 8000000 in
theorem rright_27 (kd ar pl n : Int) (w : World) : Calls Try.prog 45 #[insV ⟨27, kd, ar, pl, n⟩] w (Tells (.bool (rightI ⟨27, kd, ar, pl, n⟩)) w) := by
  have HR := Lib.hid (fun W => rreads_any 27 W)
  have HW := Lib.hid (fun W => rwrites_any 27 W)
  rw [show readsB 27 = false by decide] at HR
  rw [show writesB 27 = false by decide] at HW
  have hv : rightI ⟨27, kd, ar, pl, n⟩ = (decide (kd = 0) && (decide (ar = 0) && (decide (0 ≤ pl) && (decide (pl ≤ 200) && decide (n = 0))))) := by
    unfold rightI
    rw [show readsB 27 = false by decide, show writesB 27 = false by decide, show jumpB 27 = true by decide]
    simp
  rw [hv]
  clear hv
  by_cases h0 : 0 ≤ pl
  · by_cases h200 : pl ≤ 200
    · unfold insV
      go_enter Try.func45, Try.ntmps45
      go_wp2_with fail
      refine (HR.out _).mono ?_
      rintro e w1 ⟨rfl, rfl⟩
      go_wp2_with fail
      refine (HR.out _).mono ?_
      rintro e w1 ⟨rfl, rfl⟩
      go_wp2_with fail
      refine (HW.out _).mono ?_
      rintro e w1 ⟨rfl, rfl⟩
      go_wp2
      all_goals
        go_ret
        exact ⟨by first | (simp [*]; done) | (simp [*]; intros; omega), ((Below.refl _ _).alloc (Nat.le_refl _) _).alloc (by simp) _⟩
    · unfold insV
      go_enter Try.func45, Try.ntmps45
      go_wp2_with fail
      refine (HR.out _).mono ?_
      rintro e w1 ⟨rfl, rfl⟩
      go_wp2_with fail
      refine (HR.out _).mono ?_
      rintro e w1 ⟨rfl, rfl⟩
      go_wp2_with fail
      refine (HW.out _).mono ?_
      rintro e w1 ⟨rfl, rfl⟩
      go_wp2
      all_goals
        go_ret
        exact ⟨by first | (simp [*]; done) | (simp [*]; intros; omega), ((Below.refl _ _).alloc (Nat.le_refl _) _).alloc (by simp) _⟩
  · unfold insV
    go_enter Try.func45, Try.ntmps45
    go_wp2_with fail
    refine (HR.out _).mono ?_
    rintro e w1 ⟨rfl, rfl⟩
    go_wp2_with fail
    refine (HR.out _).mono ?_
    rintro e w1 ⟨rfl, rfl⟩
    go_wp2_with fail
    refine (HW.out _).mono ?_
    rintro e w1 ⟨rfl, rfl⟩
    go_wp2
    all_goals
      go_ret
      exact ⟨by first | (simp [*]; done) | (simp [*]; intros; omega), ((Below.refl _ _).alloc (Nat.le_refl _) _).alloc (by simp) _⟩

end Go.Proofs.Ytmlopacekoghkaa.Il
