/-
  The check that each law makes first, walked: it returns true. Conditions: none.
-/
import Derived.Test.YtjdlfchllfjhfaaEyes
namespace Go.Proofs.Ytjdlfchllfjhfaa
open Go.RowKit
open Oct

def bytes5 : List UInt8 := [2, 97, 98, 1, 2]

theorem call_small (p : Nat) (w : World) (he : EyeAt w p bytes5 false) : Calls Try.prog 19 #[.pointer (some ⟨p, 0, none⟩)] w (Reads (.string ⟨#[97, 98]⟩) w p [1, 2] false) := by
  have h := esmall_any p bytes5 false w he
  have e1 : S (got (num (got 1 bytes5)) (left 1 bytes5)) = ⟨#[97, 98]⟩ := by decide +kernel
  have e2 : left (num (got 1 bytes5)) (left 1 bytes5) = [1, 2] := by decide +kernel
  have e3 : lost (num (got 1 bytes5)) (left 1 bytes5) (lost 1 bytes5 false) = false := by decide +kernel
  rw [e1, e2, e3] at h
  exact h

theorem call_two (p : Nat) (w : World) (he : EyeAt w p [1, 2] false) : Calls Try.prog 15 #[.pointer (some ⟨p, 0, none⟩)] w (Reads (.int .u16 258) w p [] false) := by
  have h := etwo_any p [1, 2] false w he
  have e1 : (num (got 2 [1, 2]) : Int) = 258 := by decide +kernel
  have e2 : left 2 [1, 2] = [] := by decide +kernel
  have e3 : lost 2 [1, 2] false = false := by decide +kernel
  rw [e1, e2, e3] at h
  exact h

theorem call_done (p : Nat) (w : World) (he : EyeAt w p [] false) : Calls Try.prog 23 #[.pointer (some ⟨p, 0, none⟩)] w fun e w' => e = .returned (.bool true) ∧ w = w' := by
  have h := done_any p [] false w he
  have e1 : doneB [] false = true := by decide +kernel
  rw [e1] at h
  exact h

theorem call_pen (N p : Nat) (w : World) (hp : PenAt N w p []) (hN : N ≤ w.heap.size) :
    Calls Try.prog 24 #[.pointer (some ⟨p, 0, none⟩), .string ⟨#[97, 98]⟩] w fun e w' => e = .returned (.bool true) ∧ PenAt N w' p [2, 97, 98] ∧ Below N w w' :=
  (psmall_yes N p [] ⟨#[97, 98]⟩ (by decide) w hp hN (by simp)).mono fun _ _ ⟨he, hp, hb, _⟩ => ⟨he, hp, hb⟩

theorem call_pen2 (N p : Nat) (w : World) (hp : PenAt N w p [2, 97, 98]) (hN : N ≤ w.heap.size) :
    Calls Try.prog 25 #[.pointer (some ⟨p, 0, none⟩), .int .u16 258] w fun e w' => e = .returned (.pointer (some ⟨p, 0, none⟩)) ∧ PenAt N w' p bytes5 ∧ Below N w w' :=
  (two_any N p [2, 97, 98] 258 (by decide) w hp hN (by simp)).mono fun _ _ ⟨he, hp, hb, _⟩ => ⟨he, hp, hb⟩

theorem call_eye (w : World) : Calls Try.prog 12 #[.string (S bytes5)] w fun e w' => e = .returned (.pointer (some ⟨w.heap.size, 0, none⟩)) ∧ EyeAt w' w.heap.size bytes5 false ∧ Below w.heap.size w w' :=
  neweye_any (S bytes5) w

set_option maxHeartbeats 800000 in
theorem awake_any (w : World) : Calls Try.prog 6 #[] w fun e w' => e = .returned (.bool true) ∧ Below w.heap.size w w' := by
  go_enter Try.func6, Try.ntmps6
  go_wp2_with fail
  refine (newpen_any w.heap.size _ (Nat.le_refl _)).mono ?_
  rintro e w1 ⟨rfl, hp1, hb1⟩
  have hN1 := hb1.size
  go_wp2_with fail
  refine (call_pen w.heap.size w.heap.size _ hp1 hN1).mono ?_
  rintro e w2 ⟨rfl, hp2, hb2⟩
  have hN2 := Nat.le_trans hN1 hb2.size
  have hb12 := hb1.trans hb2
  clear hb1 hb2 hp1
  go_wp2_with fail
  refine (call_pen2 w.heap.size w.heap.size _ hp2 hN2).mono ?_
  rintro e w3 ⟨rfl, hp3, hb3⟩
  have hN3 := Nat.le_trans hN2 hb3.size
  have hb13 := hb12.trans hb3
  clear hb12 hb3 hp2
  go_wp2_with fail
  refine (pstr_any w.heap.size w.heap.size _ _ hp3).mono ?_
  rintro e w4 ⟨rfl, rfl⟩
  go_wp2_with fail
  refine (call_eye _).mono ?_
  rintro e w5 ⟨rfl, he5, hb5⟩
  have hb15 := hb13.trans (hb5.mono hN3)
  have hN5 := Nat.le_trans hN3 hb5.size
  clear hb13 hb5 hp3
  go_wp2_with fail
  refine (call_small _ _ he5).mono ?_
  rintro e w6 ⟨rfl, he6, hg6⟩
  have hb16 := hb15.trans (below_only hg6 hN3 hN5)
  have hN6 := Nat.le_trans hN5 hg6.size
  clear hg6 hb15 he5
  go_wp2_with fail
  refine (call_two _ _ he6).mono ?_
  rintro e w7 ⟨rfl, he7, hg7⟩
  have hb17 := hb16.trans (below_only hg7 hN3 hN6)
  clear hg7 hb16 he6
  go_wp2_with fail
  refine (call_done _ _ he7).mono ?_
  rintro e w8 ⟨rfl, rfl⟩
  go_wp2_with fail
  go_ret
  exact ⟨rfl, hb17⟩

end Go.Proofs.Ytjdlfchllfjhfaa
