/-
  The reference's Right, walked. Conditions: numbers that an int holds.
-/
import Derived.Test.YtmlopacekoghkaaIlR
namespace Go.Proofs.Ytmlopacekoghkaa.Il
open Go.RowKit
open Go.Proofs.Ytmlopacekoghkaa.Ic

set_option maxRecDepth 100000 in
set_option maxHeartbeats 8000000 in
theorem rright_28 (kd ar pl n : Int) (w : World) : Calls Try.prog 45 #[insV ⟨28, kd, ar, pl, n⟩] w (Tells (.bool (rightI ⟨28, kd, ar, pl, n⟩)) w) := by
  have HR := Lib.hid (fun W => rreads_any 28 W)
  have HW := Lib.hid (fun W => rwrites_any 28 W)
  rw [show readsB 28 = false by decide] at HR
  rw [show writesB 28 = false by decide] at HW
  have hv : rightI ⟨28, kd, ar, pl, n⟩ = (decide (kd = 0) && (decide (ar = 0) && (decide (pl = 0) && decide (n = 0)))) := by
    unfold rightI
    rw [show readsB 28 = false by decide, show writesB 28 = false by decide, show jumpB 28 = false by decide, show bareB 28 = true by decide]
    simp
  rw [hv]
  clear hv
  unfold insV
  go_enter Try.func45, Try.ntmps45
  go_wp2_with fail
  refine (HR.out _).mono ?_
  rintro e w1 ⟨rfl, rfl⟩
  go_wp2_with fail
  refine (HR.out _).mono ?_
  rintro e w1 ⟨rfl, rfl⟩
  go_wp2_with fail
  refine (HW.out _).mono ?_
  rintro e w1 ⟨rfl, rfl⟩
  go_wp2
  all_goals
    go_ret
    exact ⟨by first | (simp [*]; done) | (simp [*]; intros; omega), ((Below.refl _ _).alloc (Nat.le_refl _) _).alloc (by simp) _⟩

set_option maxRecDepth 100000 in
set_option maxHeartbeats 8000000 in
theorem rright_29 (kd ar pl n : Int) (w : World) : Calls Try.prog 45 #[insV ⟨29, kd, ar, pl, n⟩] w (Tells (.bool (rightI ⟨29, kd, ar, pl, n⟩)) w) := by
  have HR := Lib.hid (fun W => rreads_any 29 W)
  have HW := Lib.hid (fun W => rwrites_any 29 W)
  rw [show readsB 29 = false by decide] at HR
  rw [show writesB 29 = false by decide] at HW
  have hv : rightI ⟨29, kd, ar, pl, n⟩ = (decide (kd = 0) && (decide (ar = 0) && (decide (pl = 0) && decide (n = 0)))) := by
    unfold rightI
    rw [show readsB 29 = false by decide, show writesB 29 = false by decide, show jumpB 29 = false by decide, show bareB 29 = true by decide]
    simp
  rw [hv]
  clear hv
  unfold insV
  go_enter Try.func45, Try.ntmps45
  go_wp2_with fail
  refine (HR.out _).mono ?_
  rintro e w1 ⟨rfl, rfl⟩
  go_wp2_with fail
  refine (HR.out _).mono ?_
  rintro e w1 ⟨rfl, rfl⟩
  go_wp2_with fail
  refine (HW.out _).mono ?_
  rintro e w1 ⟨rfl, rfl⟩
  go_wp2
  all_goals
    go_ret
    exact ⟨by first | (simp [*]; done) | (simp [*]; intros; omega), ((Below.refl _ _).alloc (Nat.le_refl _) _).alloc (by simp) _⟩

set_option maxRecDepth 100000 in
set_option maxHeartbeats 8000000 in
theorem rright_30 (kd ar pl n : Int) (w : World) : Calls Try.prog 45 #[insV ⟨30, kd, ar, pl, n⟩] w (Tells (.bool (rightI ⟨30, kd, ar, pl, n⟩)) w) := by
  have HR := Lib.hid (fun W => rreads_any 30 W)
  have HW := Lib.hid (fun W => rwrites_any 30 W)
  rw [show readsB 30 = false by decide] at HR
  rw [show writesB 30 = false by decide] at HW
  have hv : rightI ⟨30, kd, ar, pl, n⟩ = (decide (kd = 0) && (decide (ar = 0) && (decide (pl = 0) && decide (n = 0)))) := by
    unfold rightI
    rw [show readsB 30 = false by decide, show writesB 30 = false by decide, show jumpB 30 = false by decide, show bareB 30 = true by decide]
    simp
  rw [hv]
  clear hv
  unfold insV
  go_enter Try.func45, Try.ntmps45
  go_wp2_with fail
  refine (HR.out _).mono ?_
  rintro e w1 ⟨rfl, rfl⟩
  go_wp2_with fail
  refine (HR.out _).mono ?_
  rintro e w1 ⟨rfl, rfl⟩
  go_wp2_with fail
  refine (HW.out _).mono ?_
  rintro e w1 ⟨rfl, rfl⟩
  go_wp2
  all_goals
    go_ret
    exact ⟨by first | (simp [*]; done) | (simp [*]; intros; omega), ((Below.refl _ _).alloc (Nat.le_refl _) _).alloc (by simp) _⟩

set_option maxRecDepth 100000 in
set_option maxHeartbeats 8000000 in
theorem rright_33 (kd ar pl n : Int) (w : World) : Calls Try.prog 45 #[insV ⟨33, kd, ar, pl, n⟩] w (Tells (.bool (rightI ⟨33, kd, ar, pl, n⟩)) w) := by
  have HR := Lib.hid (fun W => rreads_any 33 W)
  have HW := Lib.hid (fun W => rwrites_any 33 W)
  rw [show readsB 33 = false by decide] at HR
  rw [show writesB 33 = false by decide] at HW
  have hv : rightI ⟨33, kd, ar, pl, n⟩ = (decide (kd = 0) && (decide (ar = 0) && (decide (pl = 0) && decide (n = 0)))) := by
    unfold rightI
    rw [show readsB 33 = false by decide, show writesB 33 = false by decide, show jumpB 33 = false by decide, show bareB 33 = false by decide]
    simp
  rw [hv]
  clear hv
  unfold insV
  go_enter Try.func45, Try.ntmps45
  go_wp2_with fail
  refine (HR.out _).mono ?_
  rintro e w1 ⟨rfl, rfl⟩
  go_wp2_with fail
  refine (HR.out _).mono ?_
  rintro e w1 ⟨rfl, rfl⟩
  go_wp2_with fail
  refine (HW.out _).mono ?_
  rintro e w1 ⟨rfl, rfl⟩
  go_wp2
  all_goals
    go_ret
    exact ⟨by first | (simp [*]; done) | (simp [*]; intros; omega), ((Below.refl _ _).alloc (Nat.le_refl _) _).alloc (by simp) _⟩

set_option maxRecDepth 100000 in
set_option maxHeartbeats 8000000 in
theorem rright_31 (kd ar pl n : Int) (w : World) : Calls Try.prog 45 #[insV ⟨31, kd, ar, pl, n⟩] w (Tells (.bool (rightI ⟨31, kd, ar, pl, n⟩)) w) := by
  have HR := Lib.hid (fun W => rreads_any 31 W)
  have HW := Lib.hid (fun W => rwrites_any 31 W)
  rw [show readsB 31 = false by decide] at HR
  rw [show writesB 31 = false by decide] at HW
  have hv : rightI ⟨31, kd, ar, pl, n⟩ = (decide (szI kd ≠ 0) && (decide (ar = 0) && (decide (pl = 0) && decide (n = 0)))) := by
    unfold rightI
    rw [show readsB 31 = false by decide, show writesB 31 = false by decide, show jumpB 31 = false by decide, show bareB 31 = false by decide]
    simp
  rw [hv]
  clear hv
  have HS := Lib.hid (fun W => rSize_any kd W)
  by_cases hz : szI kd = 0
  · rw [hz] at HS
    unfold insV
    go_enter Try.func45, Try.ntmps45
    go_wp2_with fail
    refine (HR.out _).mono ?_
    rintro e w1 ⟨rfl, rfl⟩
    go_wp2_with fail
    refine (HR.out _).mono ?_
    rintro e w1 ⟨rfl, rfl⟩
    go_wp2_with fail
    refine (HW.out _).mono ?_
    rintro e w1 ⟨rfl, rfl⟩
    go_wp2_with fail
    refine (HS.out _).mono ?_
    rintro e w1 ⟨rfl, hb⟩
    obtain ⟨hA, hB, hb1⟩ := two_boxes hb
    have a0 := hA 0 _ rfl
    have b0 := hB 0 _ rfl
    have a1 := hA 1 _ rfl
    have b1 := hB 1 _ rfl
    have a2 := hA 2 _ rfl
    have b2 := hB 2 _ rfl
    have a3 := hA 3 _ rfl
    have b3 := hB 3 _ rfl
    have a4 := hA 4 _ rfl
    have b4 := hB 4 _ rfl
    replace hb1 := Lib.hid hb1
    clear hb hA hB
    go_wp2
    all_goals
      go_ret
      exact ⟨by first | (simp [*]; done) | (simp [*]; intros; omega), hb1.out⟩
  · have hz2 : (0 : Int) < (szI kd : Int) := by omega
    have hz3 : szI kd ≠ 0 := hz
    generalize szI kd = z at *
    unfold insV
    go_enter Try.func45, Try.ntmps45
    go_wp2_with fail
    refine (HR.out _).mono ?_
    rintro e w1 ⟨rfl, rfl⟩
    go_wp2_with fail
    refine (HR.out _).mono ?_
    rintro e w1 ⟨rfl, rfl⟩
    go_wp2_with fail
    refine (HW.out _).mono ?_
    rintro e w1 ⟨rfl, rfl⟩
    go_wp2_with fail
    refine (HS.out _).mono ?_
    rintro e w1 ⟨rfl, hb⟩
    obtain ⟨hA, hB, hb1⟩ := two_boxes hb
    have a0 := hA 0 _ rfl
    have b0 := hB 0 _ rfl
    have a1 := hA 1 _ rfl
    have b1 := hB 1 _ rfl
    have a2 := hA 2 _ rfl
    have b2 := hB 2 _ rfl
    have a3 := hA 3 _ rfl
    have b3 := hB 3 _ rfl
    have a4 := hA 4 _ rfl
    have b4 := hB 4 _ rfl
    replace hb1 := Lib.hid hb1
    clear hb hA hB
    go_wp2
    all_goals
      go_ret
      exact ⟨by first | (simp [*]; done) | (simp [*]; intros; omega), hb1.out⟩

end Go.Proofs.Ytmlopacekoghkaa.Il
