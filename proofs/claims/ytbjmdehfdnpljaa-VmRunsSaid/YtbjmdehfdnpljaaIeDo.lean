/-
  The landed code's May, reckon, combine, holds, Not, Do, walked. Conditions: none.
-/
import Derived.Test.YtbjmdehfdnpljaaIeBase
namespace Go.Proofs.Ytbjmdehfdnpljaa.Ic
open Go.RowKit
open Oct

/-- '&', '|' and '^' of two numbers of up to 32 bits. -/
theorem and64 (a b : Nat) (ha : a < 2 ^ 32) (hb : b < 2 ^ 32) : bits .and .i64 (a : Int) (b : Int) = ((a &&& b : Nat) : Int) := by
  have h64 : (2 : Nat) ^ 32 ≤ 2 ^ IntKind.i64.bits := by decide
  have ha' : a % 2 ^ IntKind.i64.bits = a := Nat.mod_eq_of_lt (by omega)
  have hb' : b % 2 ^ IntKind.i64.bits = b := Nat.mod_eq_of_lt (by omega)
  simp only [bits, BitVec.ofInt_natCast, BitVec.toNat_and, BitVec.toNat_ofNat, ha', hb']
  have := Nat.and_lt_two_pow a hb
  exact IntWalk.i64_in _ (by omega)
theorem or64 (a b : Nat) (ha : a < 2 ^ 32) (hb : b < 2 ^ 32) : bits .or .i64 (a : Int) (b : Int) = ((a ||| b : Nat) : Int) := by
  have h64 : (2 : Nat) ^ 32 ≤ 2 ^ IntKind.i64.bits := by decide
  have ha' : a % 2 ^ IntKind.i64.bits = a := Nat.mod_eq_of_lt (by omega)
  have hb' : b % 2 ^ IntKind.i64.bits = b := Nat.mod_eq_of_lt (by omega)
  simp only [bits, BitVec.ofInt_natCast, BitVec.toNat_or, BitVec.toNat_ofNat, ha', hb']
  have := Nat.or_lt_two_pow ha hb
  exact IntWalk.i64_in _ (by omega)
theorem xor64 (a b : Nat) (ha : a < 2 ^ 32) (hb : b < 2 ^ 32) : bits .xor .i64 (a : Int) (b : Int) = ((a ^^^ b : Nat) : Int) := by
  have h64 : (2 : Nat) ^ 32 ≤ 2 ^ IntKind.i64.bits := by decide
  have ha' : a % 2 ^ IntKind.i64.bits = a := Nat.mod_eq_of_lt (by omega)
  have hb' : b % 2 ^ IntKind.i64.bits = b := Nat.mod_eq_of_lt (by omega)
  simp only [bits, BitVec.ofInt_natCast, BitVec.toNat_xor, BitVec.toNat_ofNat, ha', hb']
  have := Nat.xor_lt_two_pow ha hb
  exact IntWalk.i64_in _ (by omega)
theorem wrap_zero (k : Int) : wrapI k 0 = 0 := by
  rcases kinds k with h | rfl | rfl | rfl | rfl | rfl | rfl | rfl
  · exact wrap_none k 0 h
  all_goals decide

set_option maxRecDepth 100000 in
set_option maxHeartbeats 4000000 in
theorem cMay_any (op k : Int) (w : World) : Calls Try.prog 48 #[.int .i64 op, .int .i64 k] w (Tells (.bool (mayI op k)) w) := by
  have HA := Lib.hid (fun W => cAri_any op W)
  have HL := Lib.hid (fun W => cLog_any op W)
  have HO := Lib.hid (fun W => cOrd_any op W)
  have HK := Lib.hid (fun W => cKind_any k W)
  have HH := Lib.hid (fun W => cHas_any k W)
  have HV := Lib.hid (show mayI op k = if cAriB op = true then (decide (szI k ≠ 0) && !hasI k) else if cLogB op = true then hasI k else (cOrdB op && decide (szI k ≠ 0)) from by
    rw [Bool.eq_iff_iff]
    simp only [mayI, cAriB, cLogB, cOrdB, hasI]
    have hk := sz_iff k
    rcases kinds k with h | h
    · have h0 := sz_none k h
      simp only [h0]
      repeat' split
      all_goals simp
      all_goals omega
    · rcases h with rfl | rfl | rfl | rfl | rfl | rfl | rfl
      all_goals
        simp only [show szI 1 = 1 from rfl, show szI 2 = 1 from rfl, show szI 3 = 2 from rfl, show szI 4 = 4 from rfl, show szI 5 = 2 from rfl, show szI 6 = 2 from rfl, show szI 7 = 4 from rfl]
        repeat' split
      all_goals simp_all
      all_goals omega)
  rw [HV.out]
  clear HV
  cases hb1 : cAriB op
  · rw [hb1] at HA
    rw [if_neg (by simp)]
    cases hb2 : cLogB op
    · rw [hb2] at HL
      rw [if_neg (by simp)]
      cases hb3 : cOrdB op
      · rw [hb3] at HO
        rw [Bool.false_and]
        clear hb1 hb2 hb3
        go_enter Try.func48, Try.ntmps48
        go_wp2_with fail
        refine (HA.out _).mono ?_
        rintro e w1 ⟨rfl, hb1⟩
        replace hb1 := Lib.hid hb1
        go_wp2_with fail
        refine (HL.out _).mono ?_
        rintro e w2 ⟨rfl, hb2⟩
        replace hb2 := Lib.hid (hb1.out.trans (hb2.mono hb1.out.size))
        clear hb1
        go_wp2_with fail
        refine (HO.out _).mono ?_
        rintro e w3 ⟨rfl, hb3⟩
        replace hb3 := Lib.hid (hb2.out.trans (hb3.mono hb2.out.size))
        clear hb2
        go_wp2
        go_ret
        exact ⟨rfl, hb3.out⟩
      · rw [hb3] at HO
        rw [Bool.true_and]
        clear hb1 hb2 hb3
        go_enter Try.func48, Try.ntmps48
        go_wp2_with fail
        refine (HA.out _).mono ?_
        rintro e w1 ⟨rfl, hb1⟩
        replace hb1 := Lib.hid hb1
        go_wp2_with fail
        refine (HL.out _).mono ?_
        rintro e w2 ⟨rfl, hb2⟩
        replace hb2 := Lib.hid (hb1.out.trans (hb2.mono hb1.out.size))
        clear hb1
        go_wp2_with fail
        refine (HO.out _).mono ?_
        rintro e w3 ⟨rfl, hb3⟩
        replace hb3 := Lib.hid (hb2.out.trans (hb3.mono hb2.out.size))
        clear hb2
        go_wp2_with fail
        refine (HK.out _).mono ?_
        rintro e w4 ⟨rfl, hb4⟩
        replace hb4 := Lib.hid (hb3.out.trans (hb4.mono hb3.out.size))
        clear hb3
        generalize decide (szI k ≠ 0) = kk at *
        go_wp2
        go_ret
        exact ⟨rfl, hb4.out⟩
    · rw [hb2] at HL
      rw [if_pos rfl]
      clear hb1 hb2
      generalize hasI k = hh at *
      go_enter Try.func48, Try.ntmps48
      go_wp2_with fail
      refine (HA.out _).mono ?_
      rintro e w1 ⟨rfl, hb1⟩
      replace hb1 := Lib.hid hb1
      go_wp2_with fail
      refine (HL.out _).mono ?_
      rintro e w2 ⟨rfl, hb2⟩
      replace hb2 := Lib.hid (hb1.out.trans (hb2.mono hb1.out.size))
      clear hb1
      go_wp2_with fail
      refine (HH.out _).mono ?_
      rintro e w3 ⟨rfl, hb3⟩
      replace hb3 := Lib.hid (hb2.out.trans (hb3.mono hb2.out.size))
      clear hb2
      go_wp2
      go_ret
      exact ⟨rfl, hb3.out⟩
  · rw [hb1] at HA
    rw [if_pos rfl]
    clear hb1
    generalize hasI k = hh at *
    generalize decide (szI k ≠ 0) = kk at *
    cases kk
    · rw [Bool.false_and]
      go_enter Try.func48, Try.ntmps48
      go_wp2_with fail
      refine (HA.out _).mono ?_
      rintro e w1 ⟨rfl, hb1⟩
      replace hb1 := Lib.hid hb1
      go_wp2_with fail
      refine (HK.out _).mono ?_
      rintro e w2 ⟨rfl, hb2⟩
      replace hb2 := Lib.hid (hb1.out.trans (hb2.mono hb1.out.size))
      clear hb1
      go_wp2
      go_ret
      exact ⟨rfl, hb2.out⟩
    · rw [Bool.true_and]
      go_enter Try.func48, Try.ntmps48
      go_wp2_with fail
      refine (HA.out _).mono ?_
      rintro e w1 ⟨rfl, hb1⟩
      replace hb1 := Lib.hid hb1
      go_wp2_with fail
      refine (HK.out _).mono ?_
      rintro e w2 ⟨rfl, hb2⟩
      replace hb2 := Lib.hid (hb1.out.trans (hb2.mono hb1.out.size))
      clear hb1
      go_wp2_with fail
      refine (HH.out _).mono ?_
      rintro e w3 ⟨rfl, hb3⟩
      replace hb3 := Lib.hid (hb2.out.trans (hb3.mono hb2.out.size))
      clear hb2
      go_wp2
      go_ret
      exact ⟨by cases hh <;> rfl, hb3.out⟩

/-- All bits turned. -/
theorem flip_bits (n m : Nat) (h : n < 2 ^ m) : n ^^^ (2 ^ m - 1) = 2 ^ m - 1 - n := by
  apply Nat.eq_of_testBit_eq
  intro i
  rw [Nat.testBit_xor, Nat.testBit_two_pow_sub_one, show 2 ^ m - 1 - n = 2 ^ m - (n + 1) by omega, Nat.testBit_two_pow_sub_succ h]
  by_cases hi : i < m
  · simp [hi]
  · have : n.testBit i = false := Nat.testBit_lt_two_pow (Nat.lt_of_lt_of_le h (Nat.pow_le_pow_right (by decide) (by omega)))
    simp [hi, this]
theorem cnot_xor (k v : Int) (hh : hasI k = true) (hi : isI k v = true) : bits .xor .i64 v (wrapI k (-1)) = notI k v := by
  have hk : k = 1 ∨ k = 6 ∨ k = 7 := by simpa [hasI] using hh
  have hb := logic_bd hk hi
  unfold notI
  rw [if_pos ⟨hk, hi⟩]
  obtain ⟨n, rfl⟩ : ∃ n : Nat, v = n := ⟨v.toNat, by omega⟩
  unfold isI at hi
  rw [decide_eq_true_iff] at hi
  rcases hk with rfl | rfl | rfl
  · rw [show leastI 1 = 0 from rfl, show manyI 1 = 2 from rfl] at hi
    rw [show wrapI 1 (-1) = ((1 : Nat) : Int) from rfl, xor64 n 1 (by omega) (by omega), show manyI 1 = 2 from rfl]
    have := flip_bits n 1 (by omega)
    rw [show 2 ^ 1 - 1 = 1 from rfl] at this
    rw [this]; omega
  · rw [show leastI 6 = 0 from rfl, show manyI 6 = 65536 from rfl] at hi
    rw [show wrapI 6 (-1) = ((65535 : Nat) : Int) from rfl, xor64 n 65535 (by omega) (by omega), show manyI 6 = 65536 from rfl]
    have := flip_bits n 16 (by omega)
    rw [show 2 ^ 16 - 1 = 65535 from rfl] at this
    rw [this]; omega
  · rw [show leastI 7 = 0 from rfl, show manyI 7 = 4294967296 from rfl] at hi
    rw [show wrapI 7 (-1) = ((4294967295 : Nat) : Int) from rfl, xor64 n 4294967295 (by omega) (by omega), show manyI 7 = 4294967296 from rfl]
    have := flip_bits n 32 (by omega)
    rw [show 2 ^ 32 - 1 = 4294967295 from rfl] at this
    rw [this]; omega
set_option maxRecDepth 100000 in
set_option maxHeartbeats 4000000 in
theorem cNot_any (k v : Int) (w : World) (h1 : -9223372036854775808 ≤ v) (h2 : v ≤ 9223372036854775807) : Calls Try.prog 41 #[.int .i64 k, .int .i64 v] w (Tells (.int .i64 (notI k v)) w) := by
  have HH := Lib.hid (fun W => cHas_any k W)
  have HI := Lib.hid (fun W => cIs_any k v W h1 h2)
  have HW := Lib.hid (fun W => cWrap_any k (-1) W (by omega) (by omega))
  cases hh : hasI k
  · have hv : notI k v = 0 := by
      unfold notI
      rw [if_neg (fun h => by have := decide_eq_false_iff_not.1 hh; exact this h.1)]
    rw [hv]
    rw [hh] at HH
    clear hh hv
    go_enter Try.func41, Try.ntmps41
    go_wp2_with fail
    refine (HH.out _).mono ?_
    rintro e w1 ⟨rfl, hb1⟩
    go_wp2
    go_ret
    exact ⟨rfl, hb1⟩
  · cases hi : isI k v
    · have hv : notI k v = 0 := by
        unfold notI
        rw [if_neg (fun h => by rw [h.2] at hi; cases hi)]
      rw [hv]
      rw [hh] at HH
      rw [hi] at HI
      clear hh hi hv
      go_enter Try.func41, Try.ntmps41
      go_wp2_with fail
      refine (HH.out _).mono ?_
      rintro e w1 ⟨rfl, hb1⟩
      replace hb1 := Lib.hid hb1
      go_wp2_with fail
      refine (HI.out _).mono ?_
      rintro e w2 ⟨rfl, hb2⟩
      replace hb2 := Lib.hid (hb1.out.trans (hb2.mono hb1.out.size))
      clear hb1
      go_wp2
      go_ret
      exact ⟨rfl, hb2.out⟩
    · have hx := cnot_xor k v hh hi
      rw [hh] at HH
      rw [hi] at HI
      rw [← hx]
      clear hh hi hx
      generalize wrapI k (-1) = m at *
      obtain ⟨r, hr⟩ : ∃ r, bits .xor .i64 v m = r := ⟨_, rfl⟩
      rw [hr]
      go_enter Try.func41, Try.ntmps41
      go_wp2_with fail
      refine (HH.out _).mono ?_
      rintro e w1 ⟨rfl, hb1⟩
      replace hb1 := Lib.hid hb1
      go_wp2_with fail
      refine (HI.out _).mono ?_
      rintro e w2 ⟨rfl, hb2⟩
      replace hb2 := Lib.hid (hb1.out.trans (hb2.mono hb1.out.size))
      clear hb1
      go_wp2_with fail
      refine (HW.out _).mono ?_
      rintro e w3 ⟨rfl, hb3⟩
      replace hb3 := Lib.hid (hb2.out.trans (hb3.mono hb2.out.size))
      clear hb2
      go_wp2
      go_ret
      exact ⟨rfl, hb3.out⟩

def reckI (op a b : Int) : Int := if op = 14 then a + b else if op = 15 then a - b else if op = 16 then a * b else if b = 0 then 0 else if op = 17 then a.tdiv b else a.tmod b
set_option maxRecDepth 100000 in
set_option maxHeartbeats 4000000 in
theorem cReckon_any (op a b : Int) (w : World) (ho : 14 ≤ op ∧ op ≤ 18) (a1 : -2147483648 ≤ a) (a2 : a ≤ 2147483647) (b1 : -2147483648 ≤ b) (b2 : b ≤ 2147483647) : Calls Try.prog 81 #[.int .i64 op, .int .i64 a, .int .i64 b] w (Tells (.int .i64 (reckI op a b)) w) := by
  obtain rfl | rfl | rfl | rfl | rfl : op = 14 ∨ op = 15 ∨ op = 16 ∨ op = 17 ∨ op = 18 := by omega
  · have e : IntKind.i64.wrap (a + b) = a + b := by rw [IntKind.wrap_i64]; omega
    rw [show reckI 14 a b = a + b from rfl]
    go_enter Try.func81, Try.ntmps81
    go_wp2
    go_ret
    exact ⟨rfl, Below.refl _ _⟩
  · have e : IntKind.i64.wrap (a - b) = a - b := by rw [IntKind.wrap_i64]; omega
    rw [show reckI 15 a b = a - b from rfl]
    go_enter Try.func81, Try.ntmps81
    go_wp2
    go_ret
    exact ⟨rfl, Below.refl _ _⟩
  · have hm := mul_bd a1 a2 b1 b2
    have e : IntKind.i64.wrap (a * b) = a * b := by rw [IntKind.wrap_i64]; omega
    rw [show reckI 16 a b = a * b from rfl]
    go_enter Try.func81, Try.ntmps81
    go_wp2
    go_ret
    exact ⟨rfl, Below.refl _ _⟩
  · by_cases hb0 : b = 0
    · subst hb0
      rw [show reckI 17 a 0 = 0 from rfl]
      go_enter Try.func81, Try.ntmps81
      go_wp2
      go_ret
      exact ⟨rfl, Below.refl _ _⟩
    · have hd := tdiv_bd a b a1 a2
      have e : IntKind.i64.wrap (a.tdiv b) = a.tdiv b := by rw [IntKind.wrap_i64]; omega
      rw [show reckI 17 a b = a.tdiv b by unfold reckI; rw [if_neg (by decide), if_neg (by decide), if_neg (by decide), if_neg hb0]; rfl]
      go_enter Try.func81, Try.ntmps81
      go_wp2
      go_ret
      exact ⟨rfl, Below.refl _ _⟩
  · by_cases hb0 : b = 0
    · subst hb0
      rw [show reckI 18 a 0 = 0 from rfl]
      go_enter Try.func81, Try.ntmps81
      go_wp2
      go_ret
      exact ⟨rfl, Below.refl _ _⟩
    · have hd := tmod_bd a b a1 a2
      have e : IntKind.i64.wrap (a.tmod b) = a.tmod b := by rw [IntKind.wrap_i64]; omega
      rw [show reckI 18 a b = a.tmod b by unfold reckI; rw [if_neg (by decide), if_neg (by decide), if_neg (by decide), if_neg hb0]; rfl]
      go_enter Try.func81, Try.ntmps81
      go_wp2
      go_ret
      exact ⟨rfl, Below.refl _ _⟩

def combI (op k a b : Int) : Int := if 10 ≤ op then logI (op - 3) a (notI k b) else logI op a b
set_option maxRecDepth 100000 in
set_option maxHeartbeats 4000000 in
theorem cCombine_any (op k a b : Int) (w : World) (ho : 7 ≤ op ∧ op ≤ 12) (hk : k = 1 ∨ k = 6 ∨ k = 7) (ha : isI k a = true) (hb : isI k b = true) : Calls Try.prog 82 #[.int .i64 op, .int .i64 k, .int .i64 a, .int .i64 b] w (Tells (.int .i64 (combI op k a b)) w) := by
  have a1 := logic_bd hk ha
  have b1 := logic_bd hk hb
  have n1 := not_bd hk hb
  have HN := Lib.hid (fun W => cNot_any k b W (by omega) (by omega))
  obtain ⟨x, rfl⟩ : ∃ n : Nat, a = n := ⟨a.toNat, by omega⟩
  obtain ⟨y, rfl⟩ : ∃ n : Nat, b = n := ⟨b.toNat, by omega⟩
  obtain ⟨z, hz⟩ : ∃ n : Nat, notI k (y : Int) = n := ⟨(notI k (y : Int)).toNat, by omega⟩
  rw [hz] at HN n1
  have hc : ∀ o : Int, combI o k (x : Int) (y : Int) = if 10 ≤ o then logI (o - 3) x z else logI o x y := by intro o; unfold combI; rw [hz]
  rw [hc]
  clear hc hz hk ha hb
  have hx : x < 2 ^ 32 := by omega
  have hy : y < 2 ^ 32 := by omega
  have hw : z < 2 ^ 32 := by omega
  clear a1 b1 n1
  obtain rfl | rfl | rfl | rfl | rfl | rfl : op = 7 ∨ op = 8 ∨ op = 9 ∨ op = 10 ∨ op = 11 ∨ op = 12 := by omega
  · have e := and64 x y hx hy
    rw [if_neg (by decide), show logI 7 x y = ((x &&& y : Nat) : Int) from rfl]
    generalize (x &&& y) = r at *
    clear hx hy hw
    go_enter Try.func82, Try.ntmps82
    go_wp2
    go_ret
    exact ⟨rfl, Below.refl _ _⟩
  · have e := or64 x y hx hy
    rw [if_neg (by decide), show logI 8 x y = ((x ||| y : Nat) : Int) from rfl]
    generalize (x ||| y) = r at *
    clear hx hy hw
    go_enter Try.func82, Try.ntmps82
    go_wp2
    go_ret
    exact ⟨rfl, Below.refl _ _⟩
  · have e := xor64 x y hx hy
    rw [if_neg (by decide), show logI 9 x y = ((x ^^^ y : Nat) : Int) from rfl]
    generalize (x ^^^ y) = r at *
    clear hx hy hw
    go_enter Try.func82, Try.ntmps82
    go_wp2
    go_ret
    exact ⟨rfl, Below.refl _ _⟩
  · have e := and64 x z hx hw
    rw [if_pos (by decide), show logI (10 - 3) x z = ((x &&& z : Nat) : Int) from rfl]
    generalize (x &&& z) = r at *
    clear hx hy hw
    go_enter Try.func82, Try.ntmps82
    go_wp2_with fail
    refine (HN.out _).mono ?_
    rintro e w1 ⟨rfl, hb1⟩
    go_wp2
    go_ret
    exact ⟨rfl, hb1⟩
  · have e := or64 x z hx hw
    rw [if_pos (by decide), show logI (11 - 3) x z = ((x ||| z : Nat) : Int) from rfl]
    generalize (x ||| z) = r at *
    clear hx hy hw
    go_enter Try.func82, Try.ntmps82
    go_wp2_with fail
    refine (HN.out _).mono ?_
    rintro e w1 ⟨rfl, hb1⟩
    go_wp2
    go_ret
    exact ⟨rfl, hb1⟩
  · have e := xor64 x z hx hw
    rw [if_pos (by decide), show logI (12 - 3) x z = ((x ^^^ z : Nat) : Int) from rfl]
    generalize (x ^^^ z) = r at *
    clear hx hy hw
    go_enter Try.func82, Try.ntmps82
    go_wp2_with fail
    refine (HN.out _).mono ?_
    rintro e w1 ⟨rfl, hb1⟩
    go_wp2
    go_ret
    exact ⟨rfl, hb1⟩

def holdsB (op a b : Int) : Bool := if op = 19 then decide (b < a) else if op = 20 then decide (b ≤ a) else if op = 21 then decide (a = b) else if op = 22 then decide (a ≠ b) else if op = 23 then decide (a ≤ b) else decide (a < b)
set_option maxRecDepth 100000 in
set_option maxHeartbeats 4000000 in
theorem cHolds_any (op a b : Int) (w : World) (ho : 19 ≤ op ∧ op ≤ 24) : Calls Try.prog 83 #[.int .i64 op, .int .i64 a, .int .i64 b] w (Tells (.bool (holdsB op a b)) w) := by
  obtain rfl | rfl | rfl | rfl | rfl | rfl : op = 19 ∨ op = 20 ∨ op = 21 ∨ op = 22 ∨ op = 23 ∨ op = 24 := by omega
  · rw [show holdsB 19 a b = decide (b < a) from rfl]
    go_enter Try.func83, Try.ntmps83
    go_wp2
    go_ret
    first | exact ⟨rfl, Below.refl _ _⟩ | (refine ⟨?_, Below.refl _ _⟩; simp [bne])
  · rw [show holdsB 20 a b = decide (b ≤ a) from rfl]
    go_enter Try.func83, Try.ntmps83
    go_wp2
    go_ret
    first | exact ⟨rfl, Below.refl _ _⟩ | (refine ⟨?_, Below.refl _ _⟩; simp [bne])
  · rw [show holdsB 21 a b = (a == b) from by unfold holdsB; rw [if_neg (by decide), if_neg (by decide), if_pos rfl]; rw [Bool.eq_iff_iff]; simp]
    go_enter Try.func83, Try.ntmps83
    go_wp2
    go_ret
    first | exact ⟨rfl, Below.refl _ _⟩ | (refine ⟨?_, Below.refl _ _⟩; simp [bne])
  · rw [show holdsB 22 a b = (a != b) from by unfold holdsB; rw [if_neg (by decide), if_neg (by decide), if_neg (by decide), if_pos rfl]; rw [Bool.eq_iff_iff]; simp]
    go_enter Try.func83, Try.ntmps83
    go_wp2
    go_ret
    first | exact ⟨rfl, Below.refl _ _⟩ | (refine ⟨?_, Below.refl _ _⟩; simp [bne])
  · rw [show holdsB 23 a b = decide (a ≤ b) from rfl]
    go_enter Try.func83, Try.ntmps83
    go_wp2
    go_ret
    first | exact ⟨rfl, Below.refl _ _⟩ | (refine ⟨?_, Below.refl _ _⟩; simp [bne])
  · rw [show holdsB 24 a b = decide (a < b) from rfl]
    go_enter Try.func83, Try.ntmps83
    go_wp2
    go_ret
    first | exact ⟨rfl, Below.refl _ _⟩ | (refine ⟨?_, Below.refl _ _⟩; simp [bne])

theorem do_reck (op k a b : Int) (h : 14 ≤ op ∧ op ≤ 18) : doV op k a b = wrapI k (reckI op a b) := by
  obtain rfl | rfl | rfl | rfl | rfl : op = 14 ∨ op = 15 ∨ op = 16 ∨ op = 17 ∨ op = 18 := by omega
  · rfl
  · rfl
  · rfl
  · unfold doV reckI
    by_cases hb : b = 0
    · simp [hb, wrap_zero]
    · simp [hb]
  · unfold doV reckI
    by_cases hb : b = 0
    · simp [hb, wrap_zero]
    · simp [hb]
theorem do_comb (op k a b : Int) (h : 7 ≤ op ∧ op ≤ 12) : doV op k a b = combI op k a b := by
  unfold doV combI
  rw [if_neg (by omega), if_neg (by omega), if_neg (by omega), if_neg (by omega), if_neg (by omega), if_neg (by omega), if_neg (by omega), if_neg (by omega), if_neg (by omega), if_neg (by omega), if_neg (by omega)]
theorem do_holds (op k a b : Int) (h : 19 ≤ op ∧ op ≤ 24) : doV op k a b = yesI (holdsB op a b) := by
  obtain rfl | rfl | rfl | rfl | rfl | rfl : op = 19 ∨ op = 20 ∨ op = 21 ∨ op = 22 ∨ op = 23 ∨ op = 24 := by omega
  all_goals rfl
theorem do_err {op k a b n : Int} (h : doE op k a b = n) (hn : n ≠ 0) : doR op k a b = 0 := by unfold doR; rw [if_neg (by rw [h]; exact hn)]
theorem do_ok {op k a b : Int} (h : doE op k a b = 0) : doR op k a b = doV op k a b := by unfold doR; rw [if_pos h]
theorem do_may {op k : Int} (a b : Int) (h : mayI op k = false ∨ op = 13) : doE op k a b = 6 := by unfold doE; rw [if_pos h]
theorem do_is {op k a b : Int} (h : mayI op k = true) (h13 : op ≠ 13) (hi : isI k a = false ∨ isI k b = false) : doE op k a b = 1 := by
  unfold doE; rw [if_neg (by rintro (h' | h'); (rw [h] at h'; cases h'); exact h13 h'), if_pos hi]

set_option maxRecDepth 100000 in
set_option maxHeartbeats 4000000 in
theorem cDo_any (op k a b : Int) (w : World) (a1 : -9223372036854775808 ≤ a) (a2 : a ≤ 9223372036854775807) (b1 : -9223372036854775808 ≤ b) (b2 : b ≤ 9223372036854775807) : Calls Try.prog 65 #[.int .i64 op, .int .i64 k, .int .i64 a, .int .i64 b] w (Tells (.tuple #[.int .i64 (doR op k a b), .int .i64 (doE op k a b)]) w) := by
  have HM := Lib.hid (fun W => cMay_any op k W)
  have HA := Lib.hid (fun W => cIs_any k a W a1 a2)
  have HB := Lib.hid (fun W => cIs_any k b W b1 b2)
  cases hm : mayI op k
  · have hE := do_may a b (Or.inl hm)
    rw [do_err hE (by decide), hE]
    rw [hm] at HM
    clear hm hE
    go_enter Try.func65, Try.ntmps65
    go_wp2_with fail
    refine (HM.out _).mono ?_
    rintro e w1 ⟨rfl, hb1⟩
    replace hb1 := Lib.hid hb1
    go_wp2
    go_ret2
    exact ⟨rfl, hb1.out⟩
  · by_cases h13 : op = 13
    · subst h13
      have hE := do_may (k := k) a b (Or.inr rfl : mayI 13 k = false ∨ (13 : Int) = 13)
      rw [do_err hE (by decide), hE]
      rw [hm] at HM
      clear hm hE
      go_enter Try.func65, Try.ntmps65
      go_wp2_with fail
      refine (HM.out _).mono ?_
      rintro e w1 ⟨rfl, hb1⟩
      replace hb1 := Lib.hid hb1
      go_wp2
      go_ret2
      exact ⟨rfl, hb1.out⟩
    · have hops := may_ops hm h13
      have q13 : (op == 13) = false := by simpa using h13
      cases hia : isI k a
      · have hE := do_is hm h13 (Or.inl hia : isI k a = false ∨ isI k b = false)
        rw [do_err hE (by decide), hE]
        rw [hm] at HM
        rw [hia] at HA
        clear hm hE hia hops h13
        go_enter Try.func65, Try.ntmps65
        go_wp2_with fail
        refine (HM.out _).mono ?_
        rintro e w1 ⟨rfl, hb1⟩
        replace hb1 := Lib.hid hb1
        go_wp2_with fail
        refine (HA.out _).mono ?_
        rintro e w2 ⟨rfl, hb2⟩
        replace hb2 := Lib.hid (hb1.out.trans (hb2.mono hb1.out.size))
        clear hb1
        go_wp2
        go_ret2
        exact ⟨rfl, hb2.out⟩
      · cases hib : isI k b
        · have hE := do_is hm h13 (Or.inr hib : isI k a = false ∨ isI k b = false)
          rw [do_err hE (by decide), hE]
          rw [hm] at HM
          rw [hia] at HA
          rw [hib] at HB
          clear hm hE hia hib hops h13
          go_enter Try.func65, Try.ntmps65
          go_wp2_with fail
          refine (HM.out _).mono ?_
          rintro e w1 ⟨rfl, hb1⟩
          replace hb1 := Lib.hid hb1
          go_wp2_with fail
          refine (HA.out _).mono ?_
          rintro e w2 ⟨rfl, hb2⟩
          replace hb2 := Lib.hid (hb1.out.trans (hb2.mono hb1.out.size))
          clear hb1
          go_wp2_with fail
          refine (HB.out _).mono ?_
          rintro e w3 ⟨rfl, hb3⟩
          replace hb3 := Lib.hid (hb2.out.trans (hb3.mono hb2.out.size))
          clear hb2
          go_wp2
          go_ret2
          exact ⟨rfl, hb3.out⟩
        · have hE := do_fine hm h13 hia hib
          rw [hE.2, hE.1]
          rw [hm] at HM
          rw [hia] at HA
          rw [hib] at HB
          have HR := Lib.hid (fun W => cAri_any op W)
          have HL := Lib.hid (fun W => cLog_any op W)
          clear hm hE h13
          rcases hops with ⟨o1, o2, k1, k2⟩ | ⟨o1, o2, hk⟩ | ⟨o1, o2⟩
          · have A1 := arith_bd k1 k2 hia
            have B1 := arith_bd k1 k2 hib
            have HC := Lib.hid (fun W => cReckon_any op a b W ⟨o1, o2⟩ A1.1 A1.2 B1.1 B1.2)
            have hbd : -9223372036854775808 ≤ reckI op a b ∧ reckI op a b ≤ 9223372036854775807 := by
              have m1 := mul_bd A1.1 A1.2 B1.1 B1.2
              have m2 := tdiv_bd a b A1.1 A1.2
              have m3 := tmod_bd a b A1.1 A1.2
              unfold reckI
              repeat' split
              all_goals omega
            have HW := Lib.hid (fun W => cWrap_any k (reckI op a b) W hbd.1 hbd.2)
            rw [do_reck op k a b ⟨o1, o2⟩]
            rw [show cAriB op = true from decide_eq_true ⟨o1, o2⟩] at HR
            clear A1 B1 hbd o1 o2 k1 k2 hia hib HL
            generalize reckI op a b = r at *
            generalize wrapI k r = wr at *
            go_enter Try.func65, Try.ntmps65
            go_wp2_with fail
            refine (HM.out _).mono ?_
            rintro e w1 ⟨rfl, hb1⟩
            replace hb1 := Lib.hid hb1
            go_wp2_with fail
            refine (HA.out _).mono ?_
            rintro e w2 ⟨rfl, hb2⟩
            replace hb2 := Lib.hid (hb1.out.trans (hb2.mono hb1.out.size))
            clear hb1
            go_wp2_with fail
            refine (HB.out _).mono ?_
            rintro e w3 ⟨rfl, hb3⟩
            replace hb3 := Lib.hid (hb2.out.trans (hb3.mono hb2.out.size))
            clear hb2
            go_wp2_with fail
            refine (HR.out _).mono ?_
            rintro e w4 ⟨rfl, hb4⟩
            replace hb4 := Lib.hid (hb3.out.trans (hb4.mono hb3.out.size))
            clear hb3
            go_wp2_with fail
            refine (HC.out _).mono ?_
            rintro e w5 ⟨rfl, hb5⟩
            replace hb5 := Lib.hid (hb4.out.trans (hb5.mono hb4.out.size))
            clear hb4
            go_wp2_with fail
            refine (HW.out _).mono ?_
            rintro e w6 ⟨rfl, hb6⟩
            replace hb6 := Lib.hid (hb5.out.trans (hb6.mono hb5.out.size))
            clear hb5
            go_wp2
            go_ret2
            exact ⟨rfl, hb6.out⟩
          · have HC := Lib.hid (fun W => cCombine_any op k a b W ⟨o1, o2⟩ hk hia hib)
            rw [do_comb op k a b ⟨o1, o2⟩]
            rw [show cAriB op = false from decide_eq_false (by omega)] at HR
            rw [show cLogB op = true from decide_eq_true (by omega)] at HL
            clear o1 o2 hk hia hib
            generalize combI op k a b = r at *
            go_enter Try.func65, Try.ntmps65
            go_wp2_with fail
            refine (HM.out _).mono ?_
            rintro e w1 ⟨rfl, hb1⟩
            replace hb1 := Lib.hid hb1
            go_wp2_with fail
            refine (HA.out _).mono ?_
            rintro e w2 ⟨rfl, hb2⟩
            replace hb2 := Lib.hid (hb1.out.trans (hb2.mono hb1.out.size))
            clear hb1
            go_wp2_with fail
            refine (HB.out _).mono ?_
            rintro e w3 ⟨rfl, hb3⟩
            replace hb3 := Lib.hid (hb2.out.trans (hb3.mono hb2.out.size))
            clear hb2
            go_wp2_with fail
            refine (HR.out _).mono ?_
            rintro e w4 ⟨rfl, hb4⟩
            replace hb4 := Lib.hid (hb3.out.trans (hb4.mono hb3.out.size))
            clear hb3
            go_wp2_with fail
            refine (HL.out _).mono ?_
            rintro e w5 ⟨rfl, hb5⟩
            replace hb5 := Lib.hid (hb4.out.trans (hb5.mono hb4.out.size))
            clear hb4
            go_wp2_with fail
            refine (HC.out _).mono ?_
            rintro e w6 ⟨rfl, hb6⟩
            replace hb6 := Lib.hid (hb5.out.trans (hb6.mono hb5.out.size))
            clear hb5
            go_wp2
            go_ret2
            exact ⟨rfl, hb6.out⟩
          · have HC := Lib.hid (fun W => cHolds_any op a b W ⟨o1, o2⟩)
            rw [do_holds op k a b ⟨o1, o2⟩]
            rw [show cAriB op = false from decide_eq_false (by omega)] at HR
            rw [show cLogB op = false from decide_eq_false (by omega)] at HL
            have HT := Lib.hid (fun (x : Bool) W => cTruth_any x W)
            clear o1 o2 hia hib
            generalize holdsB op a b = r at *
            go_enter Try.func65, Try.ntmps65
            go_wp2_with fail
            refine (HM.out _).mono ?_
            rintro e w1 ⟨rfl, hb1⟩
            replace hb1 := Lib.hid hb1
            go_wp2_with fail
            refine (HA.out _).mono ?_
            rintro e w2 ⟨rfl, hb2⟩
            replace hb2 := Lib.hid (hb1.out.trans (hb2.mono hb1.out.size))
            clear hb1
            go_wp2_with fail
            refine (HB.out _).mono ?_
            rintro e w3 ⟨rfl, hb3⟩
            replace hb3 := Lib.hid (hb2.out.trans (hb3.mono hb2.out.size))
            clear hb2
            go_wp2_with fail
            refine (HR.out _).mono ?_
            rintro e w4 ⟨rfl, hb4⟩
            replace hb4 := Lib.hid (hb3.out.trans (hb4.mono hb3.out.size))
            clear hb3
            go_wp2_with fail
            refine (HL.out _).mono ?_
            rintro e w5 ⟨rfl, hb5⟩
            replace hb5 := Lib.hid (hb4.out.trans (hb5.mono hb4.out.size))
            clear hb4
            go_wp2_with fail
            refine (HC.out _).mono ?_
            rintro e w6 ⟨rfl, hb6⟩
            replace hb6 := Lib.hid (hb5.out.trans (hb6.mono hb5.out.size))
            clear hb5
            go_wp2_with fail
            refine (HT.out _ _).mono ?_
            rintro e w7 ⟨rfl, hb7⟩
            replace hb7 := Lib.hid (hb6.out.trans (hb7.mono hb6.out.size))
            clear hb6
            go_wp2
            go_ret2
            exact ⟨rfl, hb7.out⟩

end Go.Proofs.Ytbjmdehfdnpljaa.Ic
