/-
  ImageLays: it returns true. Conditions: that a list's places are as many as its things at least.
-/
import Derived.Test.YtncodfogioaddaaImLaw
import Derived.Test.YtncodfogioaddaaImRef
namespace Go.Proofs.Ytncodfogioaddaa.Bl
open Go.RowKit

set_option maxRecDepth 100000 in
set_option maxHeartbeats 4000000 in
theorem lays_walk (n : Int) (l : List Spt) (so : Option Addr) (cap : Nat) (D : List Blk) (bo : Option Addr) (capD : Nat) (w : World) (hI : Im w w so l bo D) (hc : l.length ≤ cap) (hm : cap ≤ maxLen) :
    Calls Try.prog 3 #[.int .i64 n, .slice so l.length cap, .slice bo D.length capD] w (Tells (.bool true) w) := by
  have HI := Lib.hid hI
  by_cases h1 : 20 < l.length
  · have e1 : decide ((20 : Int) < (l.length : Int)) = true := by simp; omega
    clear hI
    go_enter Try.func3, Try.ntmps3
    go_wp2_with fail
    refine (wake_any _).mono ?_
    rintro e w1 ⟨rfl, hb1⟩
    have HI1 := Lib.hid (HI.out.next hb1)
    clear hb1
    go_wp2
    go_ret
    exact ⟨rfl, HI1.out.below⟩
  have e1 : decide ((20 : Int) < (l.length : Int)) = false := by simp; omega
  by_cases h2 : 20 < D.length
  · have e2 : decide ((20 : Int) < (D.length : Int)) = true := by simp; omega
    clear hI
    go_enter Try.func3, Try.ntmps3
    go_wp2_with fail
    refine (wake_any _).mono ?_
    rintro e w1 ⟨rfl, hb1⟩
    have HI1 := Lib.hid (HI.out.next hb1)
    clear hb1
    go_wp2
    go_ret
    exact ⟨rfl, HI1.out.below⟩
  have e2 : decide ((20 : Int) < (D.length : Int)) = false := by simp; omega
  have hDm : D.length ≤ maxLen := by unfold maxLen; omega
  have HA := fun W (h : Im w W so l bo D) => cLay_any n l so cap D bo capD W h.self hc hm hDm
  have HB := fun W (h : Im w W so l bo D) => rLay_any true n l so cap D bo capD W h.self hc hm hDm
  have HC := fun W (h : Im w W so l bo D) => cReachs_any n l so cap D bo capD W h.self hc hm hDm
  have HD := fun W (h : Im w W so l bo D) => rLay_any false n l so cap D bo capD W h.self hc hm hDm
  generalize layO true n l D = p at *
  generalize layO false n l D = q at *
  obtain ⟨p1, p2⟩ := p
  obtain ⟨q1, q2⟩ := q
  unfold errV at HA HB HC HD
  dsimp only at HA HB HC HD
  replace HA := Lib.hid HA
  replace HB := Lib.hid HB
  replace HC := Lib.hid HC
  replace HD := Lib.hid HD
  clear hI h1 h2 hDm
  go_enter Try.func3, Try.ntmps3
  go_wp2_with fail
  refine (wake_any _).mono ?_
  rintro e w1 ⟨rfl, hb1⟩
  have HI1 := Lib.hid (HI.out.next hb1)
  clear hb1 HI
  go_wp2_with fail
  refine (HA.out _ HI1.out).mono ?_
  rintro e w2 ⟨rfl, hb1⟩
  have HI2 := Lib.hid (HI1.out.next hb1)
  clear hb1 HI1 HA
  go_wp2_with fail
  refine (HB.out _ HI2.out).mono ?_
  rintro e w3 ⟨rfl, hb1⟩
  have HI3 := Lib.hid (HI2.out.next hb1)
  clear hb1 HI2 HB
  go_wp2_with fail
  refine (HC.out _ HI3.out).mono ?_
  rintro e w4 ⟨rfl, hb1⟩
  have HI4 := Lib.hid (HI3.out.next hb1)
  clear hb1 HI3 HC
  go_wp2_with fail
  refine (HD.out _ HI4.out).mono ?_
  rintro e w5 ⟨rfl, hb1⟩
  have HI5 := Lib.hid (HI4.out.next hb1)
  clear hb1 HI4 HD
  go_wp2
  go_ret
  exact ⟨rfl, HI5.out.below⟩
end Go.Proofs.Ytncodfogioaddaa.Bl
