/-
  The reference's May, Not, yes, There, bits, walked. Conditions: none.
-/
import Derived.Test.YtocjimedbnjmiaaIcWrap
import Derived.Test.YtocjimedbnjmiaaIcOps
namespace Go.Proofs.Ytocjimedbnjmiaa.Ic
open Go.RowKit

set_option maxRecDepth 100000 in
set_option maxHeartbeats 4000000 in
theorem rThere_any (size : Nat) (at_ k : Int) (w : World) (hs : size ≤ 1000000) (h1 : -9223372036854775808 ≤ at_) (h2 : at_ ≤ 9223372036854775807) : Calls Try.prog 38 #[.int .i64 size, .int .i64 at_, .int .i64 k] w (Tells (.bool (thereI size at_ k)) w) := by
  have HS := Lib.hid (fun W => rSize_any k W)
  have h4 := sz_le k
  have HV := Lib.hid (show thereI size at_ k = decide (szI k ≠ 0 ∧ 0 ≤ at_ ∧ at_ ≤ size ∧ (szI k : Int) ≤ size - at_) from rfl)
  generalize thereI size at_ k = tv at *
  generalize szI k = n at *
  by_cases h0 : n = 0
  · subst h0
    have e : tv = false := by rw [HV.out, decide_eq_false (fun h => h.1 rfl)]
    rw [e]
    go_enter Try.func38, Try.ntmps38
    go_wp2_with fail
    refine (HS.out _).mono ?_
    rintro e w1 ⟨rfl, hb1⟩
    go_wp2
    go_ret
    exact ⟨rfl, hb1⟩
  · have hn : (0 : Int) < (n : Int) := by omega
    by_cases c1 : 0 ≤ at_
    · obtain ⟨a, rfl⟩ : ∃ a : Nat, at_ = a := ⟨at_.toNat, by omega⟩
      by_cases c2 : (a : Int) ≤ (size : Int)
      · have e1 : IntKind.i64.wrap ((size : Int) - a) = (size : Int) - a := by rw [IntKind.wrap_i64]; omega
        by_cases c3 : (n : Int) ≤ (size : Int) - a
        · have e : tv = true := by rw [HV.out, decide_eq_true ⟨h0, c1, c2, c3⟩]
          rw [e]
          go_enter Try.func38, Try.ntmps38
          go_wp2_with fail
          refine (HS.out _).mono ?_
          rintro e w1 ⟨rfl, hb1⟩
          go_wp2
          go_ret
          exact ⟨rfl, hb1⟩
        · have e : tv = false := by rw [HV.out, decide_eq_false (fun h => c3 h.2.2.2)]
          have c4 : decide ((n : Int) ≤ (size : Int) - a) = false := decide_eq_false c3
          clear c3
          rw [e]
          go_enter Try.func38, Try.ntmps38
          go_wp2_with fail
          refine (HS.out _).mono ?_
          rintro e w1 ⟨rfl, hb1⟩
          go_wp2
          go_ret
          exact ⟨rfl, hb1⟩
      · have e : tv = false := by rw [HV.out, decide_eq_false (fun h => c2 h.2.2.1)]
        have c4 : (size : Int) < a := by omega
        clear c2
        rw [e]
        go_enter Try.func38, Try.ntmps38
        go_wp2_with fail
        refine (HS.out _).mono ?_
        rintro e w1 ⟨rfl, hb1⟩
        go_wp2
        go_ret
        exact ⟨rfl, hb1⟩
    · have e : tv = false := by rw [HV.out, decide_eq_false (fun h => c1 h.2.1)]
      have c4 : at_ < 0 := by omega
      clear c1
      rw [e]
      go_enter Try.func38, Try.ntmps38
      go_wp2_with fail
      refine (HS.out _).mono ?_
      rintro e w1 ⟨rfl, hb1⟩
      go_wp2
      go_ret
      exact ⟨rfl, hb1⟩

end Go.Proofs.Ytocjimedbnjmiaa.Ic
