/-
  The landed code's Size, Name, Named, Wrap, Is of kinds, walked at this seat. Conditions: none.
-/
import Derived.Test.YtbejajnhgoejhaaIcDo
import Derived.Test.YtbejajnhgoejhaaIcWrap
import Derived.Lib.Strings
namespace Go.Proofs.Ytbejajnhgoejhaa.Ic
open Go.RowKit

/-- The kind of a name among those below k. -/
def uptoI (s : ByteArray) (k : Nat) : Int := if namedI s < k then namedI s else 0
theorem named_range (s : ByteArray) : 0 ≤ namedI s ∧ namedI s ≤ 7 := by unfold namedI; (repeat' split) <;> omega
theorem named_iff (s : ByteArray) (k : Nat) (h1 : 1 ≤ k) (h2 : k ≤ 7) : s = nameI k ↔ namedI s = k := by
  obtain rfl | rfl | rfl | rfl | rfl | rfl | rfl : k = 1 ∨ k = 2 ∨ k = 3 ∨ k = 4 ∨ k = 5 ∨ k = 6 ∨ k = 7 := by omega
  all_goals
    constructor
    · intro h
      subst h
      decide
    · intro h
      unfold namedI at h
      (repeat' split at h) <;> first | assumption | omega
theorem upto_one (s : ByteArray) : uptoI s 1 = 0 := by
  have := named_range s
  unfold uptoI
  split <;> omega
theorem upto_yes (s : ByteArray) (k : Nat) (h1 : 1 ≤ k) (h2 : k ≤ 7) (h : s = nameI k) : uptoI s (k + 1) = k := by
  have := (named_iff s k h1 h2).1 h
  unfold uptoI
  rw [if_pos (by omega), this]
theorem upto_no (s : ByteArray) (k : Nat) (h1 : 1 ≤ k) (h2 : k ≤ 7) (h : s ≠ nameI k) : uptoI s (k + 1) = uptoI s k := by
  have hn : namedI s ≠ k := fun e => h ((named_iff s k h1 h2).2 e)
  unfold uptoI
  split <;> split <;> omega
theorem upto_all (s : ByteArray) : uptoI s 8 = namedI s := by
  have := named_range s
  unfold uptoI
  rw [if_pos (by omega)]
theorem str_eq {a b : ByteArray} (h : a = b) : (a.toList == b.toList) = true := by rw [h]; simp
theorem str_ne {a b : ByteArray} (h : a ≠ b) : (a.toList == b.toList) = false := by
  rw [beq_eq_false_iff_ne]
  intro e
  rw [Lib.toList_data, Lib.toList_data] at e
  apply h
  rw [← Lib.mk_data a, ← Lib.mk_data b, e]


theorem w64 (a : Int) (h1 : -9223372036854775808 ≤ a) (h2 : a ≤ 9223372036854775807) : wrap64 a = a := by
  have := IntKind.wrap_i64 a
  unfold wrap64 at *
  omega
theorem wrap_2 (v : Int) : wrapI 2 v = (v + 128) % 256 - 128 := by
  unfold wrapI
  rw [if_neg (by decide), if_neg (by decide), show leastI 2 = -128 from rfl, show manyI 2 = 256 from rfl]
  omega
theorem wrap_3 (v : Int) : wrapI 3 v = (v + 32768) % 65536 - 32768 := by
  unfold wrapI
  rw [if_neg (by decide), if_neg (by decide), show leastI 3 = -32768 from rfl, show manyI 3 = 65536 from rfl]
  omega
theorem wrap_4 (v : Int) : wrapI 4 v = (v + 2147483648) % 4294967296 - 2147483648 := by
  unfold wrapI
  rw [if_neg (by decide), if_neg (by decide), show leastI 4 = -2147483648 from rfl, show manyI 4 = 4294967296 from rfl]
  omega
theorem wrap_5 (v : Int) : wrapI 5 v = v % 65536 := by
  unfold wrapI
  rw [if_neg (by decide), if_neg (by decide), show leastI 5 = 0 from rfl, show manyI 5 = 65536 from rfl]
  omega
theorem wrap_6 (v : Int) : wrapI 6 v = v % 65536 := by
  unfold wrapI
  rw [if_neg (by decide), if_neg (by decide), show leastI 6 = 0 from rfl, show manyI 6 = 65536 from rfl]
  omega
theorem wrap_7 (v : Int) : wrapI 7 v = v % 4294967296 := by
  unfold wrapI
  rw [if_neg (by decide), if_neg (by decide), show leastI 7 = 0 from rfl, show manyI 7 = 4294967296 from rfl]
  omega
theorem wrap_none (k v : Int) (h : k < 1 ∨ 7 < k) : wrapI k v = 0 := by unfold wrapI; rw [if_pos (sz_none k h)]
theorem conv_2 (v : Int) : wrap64 (IntKind.i8.wrap v) = wrapI 2 v := by
  have h : IntKind.i8.wrap v = (v + 128) % 256 - 128 := by
    simp [IntKind.wrap, IntKind.bits, IntKind.signed]
    split <;> omega
  rw [h, w64 _ (by omega) (by omega), wrap_2]
theorem conv_3 (v : Int) : wrap64 (IntKind.i16.wrap v) = wrapI 3 v := by
  have h : IntKind.i16.wrap v = (v + 32768) % 65536 - 32768 := by
    simp [IntKind.wrap, IntKind.bits, IntKind.signed]
    split <;> omega
  rw [h, w64 _ (by omega) (by omega), wrap_3]
theorem conv_4 (v : Int) : wrap64 (IntKind.i32.wrap v) = wrapI 4 v := by
  rw [IntKind.wrap_i32, w64 _ (by omega) (by omega), wrap_4]
theorem conv_4' (v : Int) : wrap64 (wrap32 v) = wrapI 4 v := by
  rw [wrap_4]
  unfold wrap32
  rw [w64 _ (by omega) (by omega)]
theorem conv_5 (v : Int) : wrap64 (IntKind.u16.wrap v) = wrapI 5 v := by
  have h : IntKind.u16.wrap v = v % 65536 := by simp [IntKind.wrap, IntKind.bits, IntKind.signed]
  rw [h, w64 _ (by omega) (by omega), wrap_5]
theorem conv_6 (v : Int) : wrap64 (IntKind.u16.wrap v) = wrapI 6 v := by
  have h : IntKind.u16.wrap v = v % 65536 := by simp [IntKind.wrap, IntKind.bits, IntKind.signed]
  rw [h, w64 _ (by omega) (by omega), wrap_6]
theorem conv_7 (v : Int) : wrap64 (IntKind.u32.wrap v) = wrapI 7 v := by
  rw [IntKind.wrap_u32, w64 _ (by omega) (by omega), wrap_7]
theorem ret_i64 {a b : Int} (h : a = b) : Ending.returned (.int .i64 a) = .returned (.int .i64 b) := by rw [h]

/-- A number that is no kind, from above or from below. -/
theorem cSize_any (k : Int) (w : World) : Calls Try.prog 38 #[.int .i64 k] w (Tells (.int .i64 (szI k : Nat)) w) := by
  rcases kinds k with h | rfl | rfl | rfl | rfl | rfl | rfl | rfl
  · rw [sz_none k h]
    rcases h with h | h
    all_goals
      go_enter Try.func38, Try.ntmps38
      go_wp2
      go_ret
      exact ⟨rfl, Below.refl _ _⟩
  all_goals
    go_enter Try.func38, Try.ntmps38
    go_wp2
    go_ret
    exact ⟨rfl, Below.refl _ _⟩
set_option maxRecDepth 100000 in
theorem cTruth_any (b : Bool) (w : World) : Calls Try.prog 57 #[.bool b] w (Tells (.int .i64 (yesI b)) w) := by
  cases b
  all_goals
    go_enter Try.func57, Try.ntmps57
    go_wp2
    go_ret
    exact ⟨rfl, Below.refl _ _⟩
theorem cKind_any (k : Int) (w : World) : Calls Try.prog 51 #[.int .i64 k] w (Tells (.bool (decide (szI k ≠ 0))) w) := by
  have HS := Lib.hid (fun W => cSize_any k W)
  generalize szI k = n at *
  have HN : decide (n ≠ 0) = decide (0 < (n : Int)) := by
    by_cases h : n = 0
    · subst h; rfl
    · rw [decide_eq_true h, decide_eq_true (by omega)]
  rw [HN]
  clear HN
  go_enter Try.func51, Try.ntmps51
  go_wp2_with fail
  refine (HS.out _).mono ?_
  rintro e w1 ⟨rfl, hb1⟩
  go_wp2
  go_ret
  first | exact ⟨rfl, hb1⟩ | (refine ⟨?_, hb1⟩; simp)








set_option maxRecDepth 100000 in
theorem cWrap_any (k v : Int) (w : World) (h1 : -9223372036854775808 ≤ v) (h2 : v ≤ 9223372036854775807) : Calls Try.prog 52 #[.int .i64 k, .int .i64 v] w (Tells (.int .i64 (wrapI k v)) w) := by
  rcases kinds k with h | rfl | rfl | rfl | rfl | rfl | rfl | rfl
  · rw [wrap_none k v h]
    rcases h with h | h
    all_goals
      go_enter Try.func52, Try.ntmps52
      go_wp2
      go_ret
      exact ⟨rfl, Below.refl _ _⟩
  · have HT := Lib.hid (fun (b : Bool) W => cTruth_any b W)
    by_cases hv : v = 0
    · subst hv
      rw [show wrapI 1 0 = 0 from rfl]
      go_enter Try.func52, Try.ntmps52
      go_wp2_with fail
      refine (HT.out _ _).mono ?_
      rintro e w1 ⟨rfl, hb1⟩
      go_wp2
      go_ret
      exact ⟨rfl, hb1⟩
    · rw [show wrapI 1 v = 1 by unfold wrapI; rw [if_neg (by decide), if_pos rfl, if_neg hv]]
      have hq : (v != 0) = true := by simpa using hv
      go_enter Try.func52, Try.ntmps52
      go_wp2_with fail
      refine (HT.out _ _).mono ?_
      rintro e w1 ⟨rfl, hb1⟩
      go_wp2
      go_ret
      first | exact ⟨rfl, hb1⟩ | (refine ⟨?_, hb1⟩; rw [hq]; rfl)
  · go_enter Try.func52, Try.ntmps52
    go_wp2
    go_ret
    exact ⟨ret_i64 (conv_2 v), Below.refl _ _⟩
  · go_enter Try.func52, Try.ntmps52
    go_wp2
    go_ret
    exact ⟨ret_i64 (conv_3 v), Below.refl _ _⟩
  · go_enter Try.func52, Try.ntmps52
    go_wp2
    go_ret
    first | exact ⟨ret_i64 (conv_4' v), Below.refl _ _⟩ | exact ⟨ret_i64 (conv_4 v), Below.refl _ _⟩
  · go_enter Try.func52, Try.ntmps52
    go_wp2
    go_ret
    exact ⟨ret_i64 (conv_5 v), Below.refl _ _⟩
  · go_enter Try.func52, Try.ntmps52
    go_wp2
    go_ret
    exact ⟨ret_i64 (conv_6 v), Below.refl _ _⟩
  · go_enter Try.func52, Try.ntmps52
    go_wp2
    go_ret
    first | exact ⟨ret_i64 (wrap_7 v).symm, Below.refl _ _⟩ | exact ⟨ret_i64 (conv_7 v), Below.refl _ _⟩

set_option maxRecDepth 100000 in
theorem cIs_any (k v : Int) (w : World) (h1 : -9223372036854775808 ≤ v) (h2 : v ≤ 9223372036854775807) : Calls Try.prog 47 #[.int .i64 k, .int .i64 v] w (Tells (.bool (isI k v)) w) := by
  have HS := Lib.hid (fun W => cKind_any k W)
  have HW := Lib.hid (fun W => cWrap_any k v W h1 h2)
  by_cases h0 : szI k = 0
  · have hv : isI k v = false := by unfold isI; rw [decide_eq_false_iff_not]; exact fun h => h.1 h0
    rw [hv]
    rw [decide_eq_false (fun h => h h0)] at HS
    clear h0 hv
    go_enter Try.func47, Try.ntmps47
    go_wp2_with fail
    refine (HS.out _).mono ?_
    rintro e w1 ⟨rfl, hb1⟩
    go_wp2
    go_ret
    exact ⟨rfl, hb1⟩
  · rw [decide_eq_true h0] at HS
    have HE := Lib.hid (show isI k v = (wrapI k v == v) from by
      by_cases hi : isI k v = true
      · rw [hi, wrap_same k v hi]; simp
      · have hne : wrapI k v ≠ v := fun e => hi (by have := wrap_is k v h0; rwa [e] at this)
        rw [show isI k v = false by simpa using hi]
        simp [hne])
    generalize isI k v = iv at *
    generalize wrapI k v = wv at *
    clear h0
    go_enter Try.func47, Try.ntmps47
    go_wp2_with fail
    refine (HS.out _).mono ?_
    rintro e w1 ⟨rfl, hb1⟩
    replace hb1 := Lib.hid hb1
    go_wp2_with fail
    refine (HW.out _).mono ?_
    rintro e w2 ⟨rfl, hb2⟩
    replace hb2 := Lib.hid (hb1.out.trans (hb2.mono hb1.out.size))
    clear hb1
    go_wp2
    go_ret
    exact ⟨by rw [HE.out]; rfl, hb2.out⟩

end Go.Proofs.Ytbejajnhgoejhaa.Ic
