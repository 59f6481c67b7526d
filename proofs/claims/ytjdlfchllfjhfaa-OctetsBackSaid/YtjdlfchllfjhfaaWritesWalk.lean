/-
  The law OctetsWrites, walked: it returns true. Conditions: the things are read as data.
-/
import Derived.Test.YtjdlfchllfjhfaaWrite
import Derived.Test.YtjdlfchllfjhfaaAwake
namespace Go.Proofs.Ytjdlfchllfjhfaa
open Go.RowKit
open Oct

theorem ret_bool {a b : Bool} (h : a = b) : Ending.returned (.bool a) = .returned (.bool b) := by rw [h]

theorem str_eq {a b : ByteArray} (h : a = b) : (a.toList == b.toList) = true := by rw [h]; simp

set_option maxHeartbeats 800000 in
theorem writes_walk (cap : Nat) (ao : Option Addr) (xs : List It) (w : World) (hI : Lies w w.heap.size ao xs) (hF : Fit xs) (hl : xs.length ≤ maxLen) :
    Calls Try.prog 3 #[.slice ao xs.length cap] w fun e w' => e = .returned (.bool true) ∧ Below w.heap.size w w' := by
  have hS : smallB xs = false ∨ smallB xs = true := by cases smallB xs <;> simp
  have HI := Lib.hid hI
  clear hI
  rcases hS with hs | hs
  all_goals
    have HS := Lib.hid hs
    go_enter Try.func3, Try.ntmps3
    go_wp2_with fail
    refine (awake_any _).mono ?_
    rintro e w1 ⟨rfl, hb1⟩
    go_wp2_with fail
    refine (small_any w.heap.size cap ao xs _ (HI.out.below hb1) hF hb1.size hl).mono ?_
    rintro e w2 ⟨rfl, hb2⟩
    have hb12 := hb1.trans hb2
    clear hb1 hb2
    go_wp2_with fail
  · go_ret
    exact ⟨rfl, hb12⟩
  · have hN2 := hb12.size
    refine (newpen_any w.heap.size _ hN2).mono ?_
    rintro e w3 ⟨rfl, hp3, hb3⟩
    have hb13 := hb12.trans (hb3.mono hN2)
    clear hb3 hb12
    go_wp2_with fail
    refine (write_any w.heap.size _ cap ao xs _ hp3 (HI.out.below hb13) hF hb13.size HS.out).mono ?_
    rintro e w4 ⟨rfl, hp4, hb4⟩
    have hb14 := hb13.trans hb4
    clear hb4 hb13 hp3
    go_wp2_with fail
    refine (pstr_any w.heap.size _ _ _ hp4).mono ?_
    rintro e w5 ⟨rfl, rfl⟩
    have HZ := Lib.hid (S_size (encAll xs))
    go_wp2_with fail
    refine (plen_any w.heap.size _ _ _ hp4).mono ?_
    rintro e w5 ⟨rfl, rfl⟩
    go_wp2_with fail
    go_ret
    exact ⟨ret_bool (by rw [HZ.out]; simp), hb14⟩

end Go.Proofs.Ytjdlfchllfjhfaa
