/-
  The check that each law of layer 6 makes first, walked: it returns true. Conditions: none.
-/
import Derived.Test.YtkokhmjcpnoklaaStRead
namespace Go.Proofs.Ytkokhmjcpnoklaa.Sto
open Go.RowKit

theorem wrote_aw : wroteE ⟨zeros 3, true, some 1, 0⟩ 0 [97, 98] = 12 ∧ wrote ⟨zeros 3, true, some 1, 0⟩ 0 [97, 98] = ⟨[97, 0, 0], false, none, 1⟩ := ⟨by decide, rfl⟩
theorem got_aw : got [97, 0, 0] 0 2 = ⟨#[97, 0]⟩ ∧ there [97, 0, 0] 0 2 = true := ⟨rfl, by decide⟩

theorem call_write (p g cap : Nat) (w : World) (hx : CodeAt w p g cap ⟨zeros 3, true, some 1, 0⟩) :
    Calls Try.prog 15 #[.pointer (some ⟨p, 0, none⟩), .int .i64 0, .string ⟨#[97, 98]⟩] w fun e w' => e = .returned (.int .i64 12) ∧ CodeAt w' p g cap ⟨[97, 0, 0], false, none, 1⟩ ∧ Only p g w w' :=
  (write_any p g cap ⟨zeros 3, true, some 1, 0⟩ 0 ⟨#[97, 98]⟩ w hx (by omega) (by omega) (by simp) (by intro k hk; injection hk with hk; omega)).mono fun _ _ ⟨he, hx, ho⟩ => by
    rw [show (⟨#[97, 98]⟩ : ByteArray).data.toList = [97, 98] from rfl, wrote_aw.1] at he
    rw [show (⟨#[97, 98]⟩ : ByteArray).data.toList = [97, 98] from rfl, wrote_aw.2] at hx
    exact ⟨he, hx, ho⟩

theorem call_read (p g cap : Nat) (w : World) (hx : CodeAt w p g cap ⟨[97, 0, 0], false, none, 1⟩) :
    Calls Try.prog 12 #[.pointer (some ⟨p, 0, none⟩), .int .i64 0, .int .i64 2] w fun e w' => e = .returned (.tuple #[.string ⟨#[97, 0]⟩, .bool true]) ∧ w = w' :=
  (read_any p g cap ⟨[97, 0, 0], false, none, 1⟩ 0 2 w hx (by omega) (by omega)).mono fun _ _ ⟨he, hw⟩ => by
    rw [got_aw.1, got_aw.2] at he
    exact ⟨he, hw⟩

set_option maxHeartbeats 800000 in
theorem awake_any (w : World) : Calls Try.prog 6 #[] w fun e w' => e = .returned (.bool true) ∧ Below w.heap.size w w' := by
  go_enter Try.func6, Try.ntmps6
  go_wp2_with fail
  refine (new_any 3 3 (by decide) _).mono ?_
  rintro e w1 ⟨p, g, cap, rfl, hx1, hp, hg, hb1⟩
  go_wp2_with fail
  refine (arm_any p g cap _ 1 _ hx1).mono ?_
  rintro e w2 ⟨rfl, hx2, ho2⟩
  have hb2 := hb1.trans (ho2.below hp hg hb1.size)
  clear hx1 ho2 hb1
  go_wp2_with fail
  refine (call_write p g cap _ hx2).mono ?_
  rintro e w3 ⟨rfl, hx3, ho3⟩
  have hb3 := hb2.trans (ho3.below hp hg hb2.size)
  clear hx2 ho3 hb2
  go_wp2_with fail
  refine (call_read p g cap _ hx3).mono ?_
  rintro e w4 ⟨rfl, rfl⟩
  go_wp2_with fail
  refine (power_any p g cap _ _ hx3).mono ?_
  rintro e w4 ⟨rfl, rfl⟩
  go_wp2_with fail
  go_ret
  exact ⟨rfl, hb3⟩

end Go.Proofs.Ytkokhmjcpnoklaa.Sto
