/-
  The reference's Is, Wrap, May, Not, yes, There, walked. Conditions: none.
-/
import Derived.Test.YtkjijeogkemgoaaIcRef
namespace Go.Proofs.Ytkjijeogkemgoaa.Ic
open Go.RowKit

set_option maxRecDepth 100000 in
set_option maxHeartbeats 4000000 in
theorem rIs_any (k v : Int) (w : World) : Calls Try.prog 16 #[.int .i64 k, .int .i64 v] w (Tells (.bool (isI k v)) w) := by
  have HS := Lib.hid (fun W => rSize_any k W)
  have HM := Lib.hid (fun W => rMany_any k W)
  have HL := Lib.hid (fun W => rLeast_any k W)
  obtain ⟨m1, m2⟩ := many_le k
  obtain ⟨l1, l2⟩ := least_le k
  have hv : isI k v = (decide (szI k ≠ 0) && (decide (leastI k ≤ v) && decide (v ≤ leastI k + manyI k - 1))) := by
    unfold isI
    by_cases a : szI k ≠ 0 <;> by_cases b : leastI k ≤ v <;> by_cases c : v < leastI k + manyI k <;> simp [a, b, c] <;> omega
  rw [hv]
  clear hv
  generalize manyI k = m at *
  generalize leastI k = l at *
  generalize szI k = n at *
  by_cases h0 : n = 0
  · subst h0
    go_enter Try.func16, Try.ntmps16
    go_wp2_with fail
    refine (HS.out _).mono ?_
    rintro e w1 ⟨rfl, hb1⟩
    go_wp2
    go_ret
    exact ⟨rfl, hb1⟩
  · have hn : (0 : Int) < (n : Int) := by omega
    rw [decide_eq_true (show n ≠ 0 from h0)]
    by_cases c1 : l ≤ v
    · rw [decide_eq_true c1]
      go_enter Try.func16, Try.ntmps16
      go_wp2_with fail
      refine (HS.out _).mono ?_
      rintro e w1 ⟨rfl, hb1⟩
      go_wp2_with fail
      refine (HL.out _).mono ?_
      rintro e w2 ⟨rfl, hb2⟩
      replace hb2 := Lib.hid (hb1.trans (hb2.mono hb1.size))
      clear hb1
      go_wp2_with fail
      refine (HL.out _).mono ?_
      rintro e w3 ⟨rfl, hb3⟩
      replace hb3 := Lib.hid (hb2.out.trans (hb3.mono hb2.out.size))
      clear hb2
      go_wp2_with fail
      refine (HM.out _).mono ?_
      rintro e w4 ⟨rfl, hb4⟩
      replace hb4 := Lib.hid (hb3.out.trans (hb4.mono hb3.out.size))
      clear hb3
      have e1 : IntKind.i64.wrap (l + m) = l + m := by rw [IntKind.wrap_i64]; omega
      have e2 : IntKind.i64.wrap (l + m - 1) = l + m - 1 := by rw [IntKind.wrap_i64]; omega
      go_wp2
      go_ret
      exact ⟨by simp, hb4.out⟩
    · have c2 : v < l := by omega
      rw [decide_eq_false c1]
      clear c1
      go_enter Try.func16, Try.ntmps16
      go_wp2_with fail
      refine (HS.out _).mono ?_
      rintro e w1 ⟨rfl, hb1⟩
      go_wp2_with fail
      refine (HL.out _).mono ?_
      rintro e w2 ⟨rfl, hb2⟩
      replace hb2 := Lib.hid (hb1.trans (hb2.mono hb1.size))
      clear hb1
      go_wp2
      go_ret
      exact ⟨rfl, hb2.out⟩

set_option maxRecDepth 100000 in
set_option maxHeartbeats 4000000 in
theorem rWrap_any (k v : Int) (w : World) (h1 : -9223372036854775808 ≤ v) (h2 : v ≤ 9223372036854775807) : Calls Try.prog 18 #[.int .i64 k, .int .i64 v] w (Tells (.int .i64 (wrapI k v)) w) := by
  have HS := Lib.hid (fun W => rSize_any k W)
  have HM := Lib.hid (fun W => rMany_any k W)
  have HL := Lib.hid (fun W => rLeast_any k W)
  by_cases h0 : szI k = 0
  · have e0 : wrapI k v = 0 := by unfold wrapI; rw [if_pos h0]
    rw [e0]
    rw [h0] at HS
    clear h0 e0
    go_enter Try.func18, Try.ntmps18
    go_wp2_with fail
    refine (HS.out _).mono ?_
    rintro e w1 ⟨rfl, hb1⟩
    go_wp2
    go_ret
    exact ⟨rfl, hb1⟩
  · by_cases hk1 : k = 1
    · subst hk1
      rw [show szI 1 = 1 from rfl] at HS
      by_cases hv : v = 0
      · subst hv
        rw [show wrapI 1 0 = 0 from rfl]
        go_enter Try.func18, Try.ntmps18
        go_wp2_with fail
        refine (HS.out _).mono ?_
        rintro e w1 ⟨rfl, hb1⟩
        go_wp2
        go_ret
        exact ⟨rfl, hb1⟩
      · rw [show wrapI 1 v = 1 by unfold wrapI; rw [if_neg (by decide), if_pos rfl, if_neg hv]]
        go_enter Try.func18, Try.ntmps18
        go_wp2_with fail
        refine (HS.out _).mono ?_
        rintro e w1 ⟨rfl, hb1⟩
        go_wp2
        go_ret
        exact ⟨rfl, hb1⟩
    · have hr := wrap_ref k v h0 hk1
      obtain ⟨m1, m2⟩ := many_le k
      obtain ⟨l1, l2⟩ := least_le k
      have m3 := many_ge k h0
      have hl3 := Lib.hid (least_many k)
      have hn : ¬ ((szI k : Nat) : Int) = 0 := by omega
      rw [hr]
      clear hr h0
      generalize manyI k = m at *
      generalize leastI k = l at *
      generalize szI k = n at *
      have ht := tmod_twice v m (by omega)
      have b1 : -m < v.tmod m := Int.lt_tmod_of_pos v (by omega)
      have b2 : v.tmod m < m := Int.tmod_lt_of_pos v (by omega)
      have b3 := Int.emod_nonneg v (show m ≠ 0 by omega)
      have b4 := Int.emod_lt_of_pos v (show 0 < m by omega)
      have w0 : IntKind.i64.wrap (v.tmod m) = v.tmod m := by rw [IntKind.wrap_i64]; omega
      have w1 : IntKind.i64.wrap (v.tmod m + m) = v.tmod m + m := by rw [IntKind.wrap_i64]; omega
      have w2 : IntKind.i64.wrap (v % m) = v % m := by rw [IntKind.wrap_i64]; omega
      have hm0 : ¬ m = 0 := by omega
      have e1 : IntKind.i64.wrap (l + m) = l + m := by rw [IntKind.wrap_i64]; omega
      have e2 : IntKind.i64.wrap (l + m - 1) = l + m - 1 := by rw [IntKind.wrap_i64]; omega
      have e3 : IntKind.i64.wrap (v % m - m) = v % m - m := by rw [IntKind.wrap_i64]; omega
      generalize v % m = r at *
      by_cases hg : l + m - 1 < r
      · rw [if_pos hg]
        go_enter Try.func18, Try.ntmps18
        go_wp2_with fail
        refine (HS.out _).mono ?_
        rintro e w1 ⟨rfl, hb1⟩
        go_wp2_with fail
        refine (HM.out _).mono ?_
        rintro e w2 ⟨rfl, hb2⟩
        replace hb2 := Lib.hid (hb1.trans (hb2.mono hb1.size))
        clear hb1
        go_wp2_with fail
        refine (HL.out _).mono ?_
        rintro e w3 ⟨rfl, hb3⟩
        replace hb3 := Lib.hid (hb2.out.trans (hb3.mono hb2.out.size))
        clear hb2
        go_wp2
        go_ret
        exact ⟨rfl, hb3.out⟩
      · rw [if_neg (show ¬ r > l + m - 1 from hg)]
        have hg2 : r ≤ l + m - 1 := by omega
        clear hg
        go_enter Try.func18, Try.ntmps18
        go_wp2_with fail
        refine (HS.out _).mono ?_
        rintro e w1 ⟨rfl, hb1⟩
        go_wp2_with fail
        refine (HM.out _).mono ?_
        rintro e w2 ⟨rfl, hb2⟩
        replace hb2 := Lib.hid (hb1.trans (hb2.mono hb1.size))
        clear hb1
        go_wp2_with fail
        refine (HL.out _).mono ?_
        rintro e w3 ⟨rfl, hb3⟩
        replace hb3 := Lib.hid (hb2.out.trans (hb3.mono hb2.out.size))
        clear hb2
        go_wp2
        go_ret
        exact ⟨rfl, hb3.out⟩

end Go.Proofs.Ytkjijeogkemgoaa.Ic
