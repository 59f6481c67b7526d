/-
  The landed code's May, reckon, combine, holds, Not, Do, walked. Conditions: none.
-/
import Derived.Test.YtmlopacekoghkaaIeBase
namespace Go.Proofs.Ytmlopacekoghkaa.Ic
open Go.RowKit
open Oct

/-- '&', '|' and '^' of two numbers of up to 32 bits. -/
theorem and64 (a b : Nat) (ha : a < 2 ^ 32) (hb : b < 2 ^ 32) : bits .and .i64 (a : Int) (b : Int) = ((a &&& b : Nat) : Int) := by
  have h64 : (2 : Nat) ^ 32 ≤ 2 ^ IntKind.i64.bits := by decide
  have ha' : a % 2 ^ IntKind.i64.bits = a := Nat.mod_eq_of_lt (by omega)
  have hb' : b % 2 ^ IntKind.i64.bits = b := Nat.mod_eq_of_lt (by omega)
  simp only [bits, BitVec.ofInt_natCast, BitVec.toNat_and, BitVec.toNat_ofNat, ha', hb']
  have := Nat.and_lt_two_pow a hb
  exact IntWalk.i64_in _ (by omega)
theorem or64 (a b : Nat) (ha : a < 2 ^ 32) (hb : b < 2 ^ 32) : bits .or .i64 (a : Int) (b : Int) = ((a ||| b : Nat) : Int) := by
  have h64 : (2 : Nat) ^ 32 ≤ 2 ^ IntKind.i64.bits := by decide
  have ha' : a % 2 ^ IntKind.i64.bits = a := Nat.mod_eq_of_lt (by omega)
  have hb' : b % 2 ^ IntKind.i64.bits = b := Nat.mod_eq_of_lt (by omega)
  simp only [bits, BitVec.ofInt_natCast, BitVec.toNat_or, BitVec.toNat_ofNat, ha', hb']
  have := Nat.or_lt_two_pow ha hb
  exact IntWalk.i64_in _ (by omega)
theorem xor64 (a b : Nat) (ha : a < 2 ^ 32) (hb : b < 2 ^ 32) : bits .xor .i64 (a : Int) (b : Int) = ((a ^^^ b : Nat) : Int) := by
  have h64 : (2 : Nat) ^ 32 ≤ 2 ^ IntKind.i64.bits := by decide
  have ha' : a % 2 ^ IntKind.i64.bits = a := Nat.mod_eq_of_lt (by omega)
  have hb' : b % 2 ^ IntKind.i64.bits = b := Nat.mod_eq_of_lt (by omega)
  simp only [bits, BitVec.ofInt_natCast, BitVec.toNat_xor, BitVec.toNat_ofNat, ha', hb']
  have := Nat.xor_lt_two_pow ha hb
  exact IntWalk.i64_in _ (by omega)
theorem wrap_zero (k : Int) : wrapI k 0 = 0 := by
  rcases kinds k with h | rfl | rfl | rfl | rfl | rfl | rfl | rfl
  · exact wrap_none k 0 h
  all_goals decide

set_option maxRecDepth 100000 in
set_option maxHeartbeats 4000000 in
theorem cMay_any (op k : Int) (w : World) : Calls Try.prog 75 #[.int .i64 op, .int .i64 k] w (Tells (.bool (mayI op k)) w) := by
  have HA := Lib.hid (fun W => cAri_any op W)
  have HL := Lib.hid (fun W => cLog_any op W)
  have HO := Lib.hid (fun W => cOrd_any op W)
  have HK := Lib.hid (fun W => cKind_any k W)
  have HH := Lib.hid (fun W => cHas_any k W)
  have HV := Lib.hid (show mayI op k = if cAriB op = true then (decide (szI k ≠ 0) && !hasI k) else if cLogB op = true then hasI k else (cOrdB op && decide (szI k ≠ 0)) from by
    rw [Bool.eq_iff_iff]
    simp only [mayI, cAriB, cLogB, cOrdB, hasI]
    have hk := sz_iff k
    rcases kinds k with h | h
    · have h0 := sz_none k h
      simp only [h0]
      repeat' split
      all_goals simp
      all_goals omega
    · rcases h with rfl | rfl | rfl | rfl | rfl | rfl | rfl
      all_goals
        simp only [show szI 1 = 1 from rfl, show szI 2 = 1 from rfl, show szI 3 = 2 from rfl, show szI 4 = 4 from rfl, show szI 5 = 2 from rfl, show szI 6 = 2 from rfl, show szI 7 = 4 from rfl]
        repeat' split
      all_goals simp_all
      all_goals omega)
  rw [HV.out]
  clear HV
  cases hb1 : cAriB op
  · rw [hb1] at HA
    rw [if_neg (by simp)]
    cases hb2 : cLogB op
    · rw [hb2] at HL
      rw [if_neg (by simp)]
      cases hb3 : cOrdB op
      · rw [hb3] at HO
        rw [Bool.false_and]
        clear hb1 hb2 hb3
        go_enter Try.func75, Try.ntmps75
        go_wp2_with fail
        refine (HA.out _).mono ?_
        rintro e w1 ⟨rfl, hb1⟩
        replace hb1 := Lib.hid hb1
        go_wp2_with fail
        refine (HL.out _).mono ?_
        rintro e w2 ⟨rfl, hb2⟩
        replace hb2 := Lib.hid (hb1.out.trans (hb2.mono hb1.out.size))
        clear hb1
        go_wp2_with fail
        refine (HO.out _).mono ?_
        rintro e w3 ⟨rfl, hb3⟩
        replace hb3 := Lib.hid (hb2.out.trans (hb3.mono hb2.out.size))
        clear hb2
        go_wp2
        go_ret
        exact ⟨rfl, hb3.out⟩
      · rw [hb3] at HO
        rw [Bool.true_and]
        clear hb1 hb2 hb3
        go_enter Try.func75, Try.ntmps75
        go_wp2_with fail
        refine (HA.out _).mono ?_
        rintro e w1 ⟨rfl, hb1⟩
        replace hb1 := Lib.hid hb1
        go_wp2_with fail
        refine (HL.out _).mono ?_
        rintro e w2 ⟨rfl, hb2⟩
        replace hb2 := Lib.hid (hb1.out.trans (hb2.mono hb1.out.size))
        clear hb1
        go_wp2_with fail
        refine (HO.out _).mono ?_
        rintro e w3 ⟨rfl, hb3⟩
        replace hb3 := Lib.hid (hb2.out.trans (hb3.mono hb2.out.size))
        clear hb2
        go_wp2_with fail
        refine (HK.out _).mono ?_
        rintro e w4 ⟨rfl, hb4⟩
        replace hb4 := Lib.hid (hb3.out.trans (hb4.mono hb3.out.size))
        clear hb3
        generalize decide (szI k ≠ 0) = kk at *
        go_wp2
        go_ret
        exact ⟨rfl, hb4.out⟩
    · rw [hb2] at HL
      rw [if_pos rfl]
      clear hb1 hb2
      generalize hasI k = hh at *
      go_enter Try.func75, Try.ntmps75
      go_wp2_with fail
      refine (HA.out _).mono ?_
      rintro e w1 ⟨rfl, hb1⟩
      replace hb1 := Lib.hid hb1
      go_wp2_with fail
      refine (HL.out _).mono ?_
      rintro e w2 ⟨rfl, hb2⟩
      replace hb2 := Lib.hid (hb1.out.trans (hb2.mono hb1.out.size))
      clear hb1
      go_wp2_with fail
      refine (HH.out _).mono ?_
      rintro e w3 ⟨rfl, hb3⟩
      replace hb3 := Lib.hid (hb2.out.trans (hb3.mono hb2.out.size))
      clear hb2
      go_wp2
      go_ret
      exact ⟨rfl, hb3.out⟩
  · rw [hb1] at HA
    rw [if_pos rfl]
    clear hb1
    generalize hasI k = hh at *
    generalize decide (szI k ≠ 0) = kk at *
    cases kk
    · rw [Bool.false_and]
      go_enter Try.func75, Try.ntmps75
      go_wp2_with fail
      refine (HA.out _).mono ?_
      rintro e w1 ⟨rfl, hb1⟩
      replace hb1 := Lib.hid hb1
      go_wp2_with fail
      refine (HK.out _).mono ?_
      rintro e w2 ⟨rfl, hb2⟩
      replace hb2 := Lib.hid (hb1.out.trans (hb2.mono hb1.out.size))
      clear hb1
      go_wp2
      go_ret
      exact ⟨rfl, hb2.out⟩
    · rw [Bool.true_and]
      go_enter Try.func75, Try.ntmps75
      go_wp2_with fail
      refine (HA.out _).mono ?_
      rintro e w1 ⟨rfl, hb1⟩
      replace hb1 := Lib.hid hb1
      go_wp2_with fail
      refine (HK.out _).mono ?_
      rintro e w2 ⟨rfl, hb2⟩
      replace hb2 := Lib.hid (hb1.out.trans (hb2.mono hb1.out.size))
      clear hb1
      go_wp2_with fail
      refine (HH.out _).mono ?_
      rintro e w3 ⟨rfl, hb3⟩
      replace hb3 := Lib.hid (hb2.out.trans (hb3.mono hb2.out.size))
      clear hb2
      go_wp2
      go_ret
      exact ⟨by cases hh <;> rfl, hb3.out⟩

/-- All bits turned. -/
theorem flip_bits (n m : Nat) (h : n < 2 ^ m) : n ^^^ (2 ^ m - 1) = 2 ^ m - 1 - n := by
  apply Nat.eq_of_testBit_eq
  intro i
  rw [Nat.testBit_xor, Nat.testBit_two_pow_sub_one, show 2 ^ m - 1 - n = 2 ^ m - (n + 1) by omega, Nat.testBit_two_pow_sub_succ h]
  by_cases hi : i < m
  · simp [hi]
  · have : n.testBit i = false := Nat.testBit_lt_two_pow (Nat.lt_of_lt_of_le h (Nat.pow_le_pow_right (by decide) (by omega)))
    simp [hi, this]
theorem cnot_xor (k v : Int) (hh : hasI k = true) (hi : isI k v = true) : bits .xor .i64 v (wrapI k (-1)) = notI k v := by
  have hk : k = 1 ∨ k = 6 ∨ k = 7 := by simpa [hasI] using hh
  have hb := logic_bd hk hi
  unfold notI
  rw [if_pos ⟨hk, hi⟩]
  obtain ⟨n, rfl⟩ : ∃ n : Nat, v = n := ⟨v.toNat, by omega⟩
  unfold isI at hi
  rw [decide_eq_true_iff] at hi
  rcases hk with rfl | rfl | rfl
  · rw [show leastI 1 = 0 from rfl, show manyI 1 = 2 from rfl] at hi
    rw [show wrapI 1 (-1) = ((1 : Nat) : Int) from rfl, xor64 n 1 (by omega) (by omega), show manyI 1 = 2 from rfl]
    have := flip_bits n 1 (by omega)
    rw [show 2 ^ 1 - 1 = 1 from rfl] at this
    rw [this]; omega
  · rw [show leastI 6 = 0 from rfl, show manyI 6 = 65536 from rfl] at hi
    rw [show wrapI 6 (-1) = ((65535 : Nat) : Int) from rfl, xor64 n 65535 (by omega) (by omega), show manyI 6 = 65536 from rfl]
    have := flip_bits n 16 (by omega)
    rw [show 2 ^ 16 - 1 = 65535 from rfl] at this
    rw [this]; omega
  · rw [show leastI 7 = 0 from rfl, show manyI 7 = 4294967296 from rfl] at hi
    rw [show wrapI 7 (-1) = ((4294967295 : Nat) : Int) from rfl, xor64 n 4294967295 (by omega) (by omega), show manyI 7 = 4294967296 from rfl]
    have := flip_bits n 32 (by omega)
    rw [show 2 ^ 32 - 1 = 4294967295 from rfl] at this
    rw [this]; omega
def reckI (op a b : Int) : Int := if op = 14 then a + b else if op = 15 then a - b else if op = 16 then a * b else if b = 0 then 0 else if op = 17 then a.tdiv b else a.tmod b
def combI (op k a b : Int) : Int := if 10 ≤ op then logI (op - 3) a (notI k b) else logI op a b
def holdsB (op a b : Int) : Bool := if op = 19 then decide (b < a) else if op = 20 then decide (b ≤ a) else if op = 21 then decide (a = b) else if op = 22 then decide (a ≠ b) else if op = 23 then decide (a ≤ b) else decide (a < b)
theorem do_reck (op k a b : Int) (h : 14 ≤ op ∧ op ≤ 18) : doV op k a b = wrapI k (reckI op a b) := by
  obtain rfl | rfl | rfl | rfl | rfl : op = 14 ∨ op = 15 ∨ op = 16 ∨ op = 17 ∨ op = 18 := by omega
  · rfl
  · rfl
  · rfl
  · unfold doV reckI
    by_cases hb : b = 0
    · simp [hb, wrap_zero]
    · simp [hb]
  · unfold doV reckI
    by_cases hb : b = 0
    · simp [hb, wrap_zero]
    · simp [hb]
theorem do_comb (op k a b : Int) (h : 7 ≤ op ∧ op ≤ 12) : doV op k a b = combI op k a b := by
  unfold doV combI
  rw [if_neg (by omega), if_neg (by omega), if_neg (by omega), if_neg (by omega), if_neg (by omega), if_neg (by omega), if_neg (by omega), if_neg (by omega), if_neg (by omega), if_neg (by omega), if_neg (by omega)]
theorem do_holds (op k a b : Int) (h : 19 ≤ op ∧ op ≤ 24) : doV op k a b = yesI (holdsB op a b) := by
  obtain rfl | rfl | rfl | rfl | rfl | rfl : op = 19 ∨ op = 20 ∨ op = 21 ∨ op = 22 ∨ op = 23 ∨ op = 24 := by omega
  all_goals rfl
theorem do_err {op k a b n : Int} (h : doE op k a b = n) (hn : n ≠ 0) : doR op k a b = 0 := by unfold doR; rw [if_neg (by rw [h]; exact hn)]
theorem do_ok {op k a b : Int} (h : doE op k a b = 0) : doR op k a b = doV op k a b := by unfold doR; rw [if_pos h]
theorem do_may {op k : Int} (a b : Int) (h : mayI op k = false ∨ op = 13) : doE op k a b = 6 := by unfold doE; rw [if_pos h]
theorem do_is {op k a b : Int} (h : mayI op k = true) (h13 : op ≠ 13) (hi : isI k a = false ∨ isI k b = false) : doE op k a b = 1 := by
  unfold doE; rw [if_neg (by rintro (h' | h'); (rw [h] at h'; cases h'); exact h13 h'), if_pos hi]

end Go.Proofs.Ytmlopacekoghkaa.Ic
