/-
  The reference's Is, Wrap, May, Not, yes, There, walked. Conditions: none.
-/
import Derived.Test.YtbejajnhgoejhaaIcRef
namespace Go.Proofs.Ytbejajnhgoejhaa.Ic
open Go.RowKit

set_option maxRecDepth 100000 in
set_option maxHeartbeats 4000000 in
theorem rIs_any (k v : Int) (w : World) : Calls Try.prog 22 #[.int .i64 k, .int .i64 v] w (Tells (.bool (isI k v)) w) := by
  have HS := Lib.hid (fun W => rSize_any k W)
  have HM := Lib.hid (fun W => rMany_any k W)
  have HL := Lib.hid (fun W => rLeast_any k W)
  obtain ⟨m1, m2⟩ := many_le k
  obtain ⟨l1, l2⟩ := least_le k
  have hv : isI k v = (decide (szI k ≠ 0) && (decide (leastI k ≤ v) && decide (v ≤ leastI k + manyI k - 1))) := by
    unfold isI
    by_cases a : szI k ≠ 0 <;> by_cases b : leastI k ≤ v <;> by_cases c : v < leastI k + manyI k <;> simp [a, b, c] <;> omega
  rw [hv]
  clear hv
  generalize manyI k = m at *
  generalize leastI k = l at *
  generalize szI k = n at *
  by_cases h0 : n = 0
  · subst h0
    go_enter Try.func22, Try.ntmps22
    go_wp2_with fail
    refine (HS.out _).mono ?_
    rintro e w1 ⟨rfl, hb1⟩
    go_wp2
    go_ret
    exact ⟨rfl, hb1⟩
  · have hn : (0 : Int) < (n : Int) := by omega
    rw [decide_eq_true (show n ≠ 0 from h0)]
    by_cases c1 : l ≤ v
    · rw [decide_eq_true c1]
      go_enter Try.func22, Try.ntmps22
      go_wp2_with fail
      refine (HS.out _).mono ?_
      rintro e w1 ⟨rfl, hb1⟩
      go_wp2_with fail
      refine (HL.out _).mono ?_
      rintro e w2 ⟨rfl, hb2⟩
      replace hb2 := Lib.hid (hb1.trans (hb2.mono hb1.size))
      clear hb1
      go_wp2_with fail
      refine (HL.out _).mono ?_
      rintro e w3 ⟨rfl, hb3⟩
      replace hb3 := Lib.hid (hb2.out.trans (hb3.mono hb2.out.size))
      clear hb2
      go_wp2_with fail
      refine (HM.out _).mono ?_
      rintro e w4 ⟨rfl, hb4⟩
      replace hb4 := Lib.hid (hb3.out.trans (hb4.mono hb3.out.size))
      clear hb3
      have e1 : IntKind.i64.wrap (l + m) = l + m := by rw [IntKind.wrap_i64]; omega
      have e2 : IntKind.i64.wrap (l + m - 1) = l + m - 1 := by rw [IntKind.wrap_i64]; omega
      go_wp2
      go_ret
      exact ⟨by simp, hb4.out⟩
    · have c2 : v < l := by omega
      rw [decide_eq_false c1]
      clear c1
      go_enter Try.func22, Try.ntmps22
      go_wp2_with fail
      refine (HS.out _).mono ?_
      rintro e w1 ⟨rfl, hb1⟩
      go_wp2_with fail
      refine (HL.out _).mono ?_
      rintro e w2 ⟨rfl, hb2⟩
      replace hb2 := Lib.hid (hb1.trans (hb2.mono hb1.size))
      clear hb1
      go_wp2
      go_ret
      exact ⟨rfl, hb2.out⟩

end Go.Proofs.Ytbejajnhgoejhaa.Ic
