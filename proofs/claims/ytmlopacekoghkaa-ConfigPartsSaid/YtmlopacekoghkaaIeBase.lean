/-
  The landed code's Size, Name, Named, Wrap, Is and its small words (truth, isKind, hasLogic, isLogic, isArithmetic, isOrder, fits), walked. Conditions: none.
-/
import Derived.Test.YtmlopacekoghkaaIcCode
import Derived.Test.YtmlopacekoghkaaIcKinds
namespace Go.Proofs.Ytmlopacekoghkaa.Ic
open Go.RowKit
open Oct

def plainB : Base := ⟨fun _ _ => True, fun _ _ => trivial⟩

theorem wrap_2 (v : Int) : wrapI 2 v = (v + 128) % 256 - 128 := by
  unfold wrapI
  rw [if_neg (by decide), if_neg (by decide), show leastI 2 = -128 from rfl, show manyI 2 = 256 from rfl]
  omega
theorem wrap_3 (v : Int) : wrapI 3 v = (v + 32768) % 65536 - 32768 := by
  unfold wrapI
  rw [if_neg (by decide), if_neg (by decide), show leastI 3 = -32768 from rfl, show manyI 3 = 65536 from rfl]
  omega
theorem wrap_4 (v : Int) : wrapI 4 v = (v + 2147483648) % 4294967296 - 2147483648 := by
  unfold wrapI
  rw [if_neg (by decide), if_neg (by decide), show leastI 4 = -2147483648 from rfl, show manyI 4 = 4294967296 from rfl]
  omega
theorem wrap_5 (v : Int) : wrapI 5 v = v % 65536 := by
  unfold wrapI
  rw [if_neg (by decide), if_neg (by decide), show leastI 5 = 0 from rfl, show manyI 5 = 65536 from rfl]
  omega
theorem wrap_6 (v : Int) : wrapI 6 v = v % 65536 := by
  unfold wrapI
  rw [if_neg (by decide), if_neg (by decide), show leastI 6 = 0 from rfl, show manyI 6 = 65536 from rfl]
  omega
theorem wrap_7 (v : Int) : wrapI 7 v = v % 4294967296 := by
  unfold wrapI
  rw [if_neg (by decide), if_neg (by decide), show leastI 7 = 0 from rfl, show manyI 7 = 4294967296 from rfl]
  omega
theorem wrap_none (k v : Int) (h : k < 1 ∨ 7 < k) : wrapI k v = 0 := by unfold wrapI; rw [if_pos (sz_none k h)]
theorem conv_2 (v : Int) : wrap64 (IntKind.i8.wrap v) = wrapI 2 v := by
  have h : IntKind.i8.wrap v = (v + 128) % 256 - 128 := by
    simp [IntKind.wrap, IntKind.bits, IntKind.signed]
    split <;> omega
  rw [h, w64 _ (by omega) (by omega), wrap_2]
theorem conv_3 (v : Int) : wrap64 (IntKind.i16.wrap v) = wrapI 3 v := by
  have h : IntKind.i16.wrap v = (v + 32768) % 65536 - 32768 := by
    simp [IntKind.wrap, IntKind.bits, IntKind.signed]
    split <;> omega
  rw [h, w64 _ (by omega) (by omega), wrap_3]
theorem conv_4 (v : Int) : wrap64 (IntKind.i32.wrap v) = wrapI 4 v := by
  rw [IntKind.wrap_i32, w64 _ (by omega) (by omega), wrap_4]
theorem conv_4' (v : Int) : wrap64 (wrap32 v) = wrapI 4 v := by
  rw [wrap_4]
  unfold wrap32
  rw [w64 _ (by omega) (by omega)]
theorem conv_5 (v : Int) : wrap64 (IntKind.u16.wrap v) = wrapI 5 v := by
  have h : IntKind.u16.wrap v = v % 65536 := by simp [IntKind.wrap, IntKind.bits, IntKind.signed]
  rw [h, w64 _ (by omega) (by omega), wrap_5]
theorem conv_6 (v : Int) : wrap64 (IntKind.u16.wrap v) = wrapI 6 v := by
  have h : IntKind.u16.wrap v = v % 65536 := by simp [IntKind.wrap, IntKind.bits, IntKind.signed]
  rw [h, w64 _ (by omega) (by omega), wrap_6]
theorem conv_7 (v : Int) : wrap64 (IntKind.u32.wrap v) = wrapI 7 v := by
  rw [IntKind.wrap_u32, w64 _ (by omega) (by omega), wrap_7]
theorem ret_i64 {a b : Int} (h : a = b) : Ending.returned (.int .i64 a) = .returned (.int .i64 b) := by rw [h]

/-- A number that is no kind, from above or from below. -/
theorem cSize_any (k : Int) (w : World) : Calls Try.prog 67 #[.int .i64 k] w (Tells (.int .i64 (szI k : Nat)) w) := by
  rcases kinds k with h | rfl | rfl | rfl | rfl | rfl | rfl | rfl
  · rw [sz_none k h]
    rcases h with h | h
    all_goals
      go_enter Try.func67, Try.ntmps67
      go_wp2
      go_ret
      exact ⟨rfl, Below.refl _ _⟩
  all_goals
    go_enter Try.func67, Try.ntmps67
    go_wp2
    go_ret
    exact ⟨rfl, Below.refl _ _⟩
set_option maxRecDepth 100000 in
theorem cTruth_any (b : Bool) (w : World) : Calls Try.prog 83 #[.bool b] w (Tells (.int .i64 (yesI b)) w) := by
  cases b
  all_goals
    go_enter Try.func83, Try.ntmps83
    go_wp2
    go_ret
    exact ⟨rfl, Below.refl _ _⟩
theorem cKind_any (k : Int) (w : World) : Calls Try.prog 77 #[.int .i64 k] w (Tells (.bool (decide (szI k ≠ 0))) w) := by
  have HS := Lib.hid (fun W => cSize_any k W)
  generalize szI k = n at *
  have HN : decide (n ≠ 0) = decide (0 < (n : Int)) := by
    by_cases h : n = 0
    · subst h; rfl
    · rw [decide_eq_true h, decide_eq_true (by omega)]
  rw [HN]
  clear HN
  go_enter Try.func77, Try.ntmps77
  go_wp2_with fail
  refine (HS.out _).mono ?_
  rintro e w1 ⟨rfl, hb1⟩
  go_wp2
  go_ret
  first | exact ⟨rfl, hb1⟩ | (refine ⟨?_, hb1⟩; simp)
def hasI (k : Int) : Bool := decide (k = 1 ∨ k = 6 ∨ k = 7)
theorem cHas_any (k : Int) (w : World) : Calls Try.prog 80 #[.int .i64 k] w (Tells (.bool (hasI k)) w) := by
  by_cases h1 : k = 1
  · subst h1
    rw [show hasI 1 = true from rfl]
    go_enter Try.func80, Try.ntmps80
    go_wp2
    go_ret
    exact ⟨rfl, Below.refl _ _⟩
  · by_cases h6 : k = 6
    · subst h6
      rw [show hasI 6 = true from rfl]
      go_enter Try.func80, Try.ntmps80
      go_wp2
      go_ret
      exact ⟨rfl, Below.refl _ _⟩
    · have e : hasI k = (k == 7) := by
        unfold hasI
        by_cases h7 : k = 7
        · subst h7; rfl
        · rw [decide_eq_false (by omega)]; simp [h7]
      have e1 : (k == 1) = false := by simpa using h1
      have e6 : (k == 6) = false := by simpa using h6
      rw [e]
      clear e h1 h6
      go_enter Try.func80, Try.ntmps80
      go_wp2
      go_ret
      exact ⟨rfl, Below.refl _ _⟩

def cLogB (op : Int) : Bool := decide (7 ≤ op ∧ op ≤ 13)
theorem cLog_any (op : Int) (w : World) : Calls Try.prog 81 #[.int .i64 op] w (Tells (.bool (cLogB op)) w) := by
  by_cases h : 7 ≤ op
  · rw [show cLogB op = decide (op ≤ 13) by unfold cLogB; by_cases h2 : op ≤ 13 <;> simp [h, h2]]
    go_enter Try.func81, Try.ntmps81
    go_wp2
    go_ret
    exact ⟨rfl, Below.refl _ _⟩
  · rw [show cLogB op = false by unfold cLogB; simp [h]]
    replace h : op < 7 := by omega
    go_enter Try.func81, Try.ntmps81
    go_wp2
    go_ret
    exact ⟨rfl, Below.refl _ _⟩

def cAriB (op : Int) : Bool := decide (14 ≤ op ∧ op ≤ 18)
theorem cAri_any (op : Int) (w : World) : Calls Try.prog 79 #[.int .i64 op] w (Tells (.bool (cAriB op)) w) := by
  by_cases h : 14 ≤ op
  · rw [show cAriB op = decide (op ≤ 18) by unfold cAriB; by_cases h2 : op ≤ 18 <;> simp [h, h2]]
    go_enter Try.func79, Try.ntmps79
    go_wp2
    go_ret
    exact ⟨rfl, Below.refl _ _⟩
  · rw [show cAriB op = false by unfold cAriB; simp [h]]
    replace h : op < 14 := by omega
    go_enter Try.func79, Try.ntmps79
    go_wp2
    go_ret
    exact ⟨rfl, Below.refl _ _⟩

def cOrdB (op : Int) : Bool := decide (19 ≤ op ∧ op ≤ 24)
theorem cOrd_any (op : Int) (w : World) : Calls Try.prog 82 #[.int .i64 op] w (Tells (.bool (cOrdB op)) w) := by
  by_cases h : 19 ≤ op
  · rw [show cOrdB op = decide (op ≤ 24) by unfold cOrdB; by_cases h2 : op ≤ 24 <;> simp [h, h2]]
    go_enter Try.func82, Try.ntmps82
    go_wp2
    go_ret
    exact ⟨rfl, Below.refl _ _⟩
  · rw [show cOrdB op = false by unfold cOrdB; simp [h]]
    replace h : op < 19 := by omega
    go_enter Try.func82, Try.ntmps82
    go_wp2
    go_ret
    exact ⟨rfl, Below.refl _ _⟩

set_option maxRecDepth 100000 in
theorem cWrap_any (k v : Int) (w : World) (h1 : -9223372036854775808 ≤ v) (h2 : v ≤ 9223372036854775807) : Calls Try.prog 78 #[.int .i64 k, .int .i64 v] w (Tells (.int .i64 (wrapI k v)) w) := by
  rcases kinds k with h | rfl | rfl | rfl | rfl | rfl | rfl | rfl
  · rw [wrap_none k v h]
    rcases h with h | h
    all_goals
      go_enter Try.func78, Try.ntmps78
      go_wp2
      go_ret
      exact ⟨rfl, Below.refl _ _⟩
  · have HT := Lib.hid (fun (b : Bool) W => cTruth_any b W)
    by_cases hv : v = 0
    · subst hv
      rw [show wrapI 1 0 = 0 from rfl]
      go_enter Try.func78, Try.ntmps78
      go_wp2_with fail
      refine (HT.out _ _).mono ?_
      rintro e w1 ⟨rfl, hb1⟩
      go_wp2
      go_ret
      exact ⟨rfl, hb1⟩
    · rw [show wrapI 1 v = 1 by unfold wrapI; rw [if_neg (by decide), if_pos rfl, if_neg hv]]
      have hq : (v != 0) = true := by simpa using hv
      go_enter Try.func78, Try.ntmps78
      go_wp2_with fail
      refine (HT.out _ _).mono ?_
      rintro e w1 ⟨rfl, hb1⟩
      go_wp2
      go_ret
      first | exact ⟨rfl, hb1⟩ | (refine ⟨?_, hb1⟩; rw [hq]; rfl)
  · go_enter Try.func78, Try.ntmps78
    go_wp2
    go_ret
    exact ⟨ret_i64 (conv_2 v), Below.refl _ _⟩
  · go_enter Try.func78, Try.ntmps78
    go_wp2
    go_ret
    exact ⟨ret_i64 (conv_3 v), Below.refl _ _⟩
  · go_enter Try.func78, Try.ntmps78
    go_wp2
    go_ret
    first | exact ⟨ret_i64 (conv_4' v), Below.refl _ _⟩ | exact ⟨ret_i64 (conv_4 v), Below.refl _ _⟩
  · go_enter Try.func78, Try.ntmps78
    go_wp2
    go_ret
    exact ⟨ret_i64 (conv_5 v), Below.refl _ _⟩
  · go_enter Try.func78, Try.ntmps78
    go_wp2
    go_ret
    exact ⟨ret_i64 (conv_6 v), Below.refl _ _⟩
  · go_enter Try.func78, Try.ntmps78
    go_wp2
    go_ret
    first | exact ⟨ret_i64 (wrap_7 v).symm, Below.refl _ _⟩ | exact ⟨ret_i64 (conv_7 v), Below.refl _ _⟩

set_option maxRecDepth 100000 in
theorem cIs_any (k v : Int) (w : World) (h1 : -9223372036854775808 ≤ v) (h2 : v ≤ 9223372036854775807) : Calls Try.prog 73 #[.int .i64 k, .int .i64 v] w (Tells (.bool (isI k v)) w) := by
  have HS := Lib.hid (fun W => cKind_any k W)
  have HW := Lib.hid (fun W => cWrap_any k v W h1 h2)
  by_cases h0 : szI k = 0
  · have hv : isI k v = false := by unfold isI; rw [decide_eq_false_iff_not]; exact fun h => h.1 h0
    rw [hv]
    rw [decide_eq_false (fun h => h h0)] at HS
    clear h0 hv
    go_enter Try.func73, Try.ntmps73
    go_wp2_with fail
    refine (HS.out _).mono ?_
    rintro e w1 ⟨rfl, hb1⟩
    go_wp2
    go_ret
    exact ⟨rfl, hb1⟩
  · rw [decide_eq_true h0] at HS
    have HE := Lib.hid (show isI k v = (wrapI k v == v) from by
      by_cases hi : isI k v = true
      · rw [hi, wrap_same k v hi]; simp
      · have hne : wrapI k v ≠ v := fun e => hi (by have := wrap_is k v h0; rwa [e] at this)
        rw [show isI k v = false by simpa using hi]
        simp [hne])
    generalize isI k v = iv at *
    generalize wrapI k v = wv at *
    clear h0
    go_enter Try.func73, Try.ntmps73
    go_wp2_with fail
    refine (HS.out _).mono ?_
    rintro e w1 ⟨rfl, hb1⟩
    replace hb1 := Lib.hid hb1
    go_wp2_with fail
    refine (HW.out _).mono ?_
    rintro e w2 ⟨rfl, hb2⟩
    replace hb2 := Lib.hid (hb1.out.trans (hb2.mono hb1.out.size))
    clear hb1
    go_wp2
    go_ret
    exact ⟨by rw [HE.out]; rfl, hb2.out⟩

end Go.Proofs.Ytmlopacekoghkaa.Ic
