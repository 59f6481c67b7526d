/-
  The check that each law makes first, walked: it returns true. Conditions: none.
-/
import Derived.Test.YthajfgdgocgfbaaBurst
namespace Go.Proofs.Ythajfgdgocgfbaa
open Go.RowKit
open Sums
theorem sum_123 : ((sum [49, 50, 51, 52, 53, 54, 55, 56, 57]).toNat : Int) = 10673 := by decide +kernel
theorem sealed_ab : sealedB ⟨#[97, 98]⟩ = ⟨#[97, 98, 105, 240]⟩ := by decide +kernel
theorem inner_ab : (⟨#[97, 98, 105, 240]⟩ : ByteArray).extract 0 ((⟨#[97, 98, 105, 240]⟩ : ByteArray).size - 2) = ⟨#[97, 98]⟩ := by decide +kernel
theorem burst_0 : burstB ⟨#[0]⟩ 0 0x8000#16 = ⟨#[128]⟩ := by decide +kernel

theorem call_123 (w : World) : Calls Try.prog 9 #[.string ⟨#[49, 50, 51, 52, 53, 54, 55, 56, 57]⟩] w fun e w' => e = .returned (.int .u16 10673) ∧ w = w' :=
  (sum_any _ w (le_max (by decide))).mono fun _ _ ⟨he, hw⟩ => ⟨by rw [he]; exact ret_int sum_123, hw⟩

theorem call_ab (w : World) : Calls Try.prog 15 #[.string ⟨#[97, 98]⟩] w fun e w' => e = .returned (.string ⟨#[97, 98, 105, 240]⟩) ∧ Below w.heap.size w w' :=
  (sealed_any _ w (by decide)).mono fun _ _ ⟨he, hw⟩ => ⟨by rw [he, sealed_ab], hw⟩

theorem call_open (w : World) : Calls Try.prog 16 #[.string ⟨#[97, 98, 105, 240]⟩] w fun e w' => e = .returned (.tuple #[.string ⟨#[97, 98]⟩, .bool true]) ∧ Below w.heap.size w w' :=
  (open_yes _ w (by decide) (by decide) (by rw [inner_ab, sealed_ab])).mono fun _ _ ⟨he, hw⟩ => ⟨by rw [he, inner_ab], hw⟩

theorem call_burst (w : World) : Calls Try.prog 18 #[.string ⟨#[0]⟩, .int .i64 0, .int .u16 32768] w fun e w' => e = .returned (.string ⟨#[128]⟩) ∧ Below w.heap.size w w' :=
  (burst_in ⟨#[0]⟩ 0 1 0x8000#16 w (by decide) (by decide) (.inr (by decide))).mono fun _ _ ⟨he, hw⟩ => ⟨by rw [he, burst_0], hw⟩

set_option maxHeartbeats 400000 in
theorem awake_any (w : World) : Calls Try.prog 8 #[] w fun e w' => e = .returned (.bool true) ∧ Below w.heap.size w w' := by
  go_enter Try.func8, Try.ntmps8
  go_wp2_with fail
  refine (call_ab _).mono ?_
  rintro e w1 ⟨rfl, hb1⟩
  go_wp2_with fail
  refine (call_open _).mono ?_
  rintro e w2 ⟨rfl, hb2⟩
  go_wp2_with fail
  refine (call_123 _).mono ?_
  rintro e w3 ⟨rfl, rfl⟩
  go_wp2_with fail
  refine (call_burst _).mono ?_
  rintro e w4 ⟨rfl, hb4⟩
  go_wp2_with fail
  go_ret
  exact ⟨rfl, hb1.trans ((hb2.mono hb1.size).trans (hb4.mono (Nat.le_trans hb1.size hb2.size)))⟩
end Go.Proofs.Ythajfgdgocgfbaa
