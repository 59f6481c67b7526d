/-
  The landed code's May of kinds, and what it stands on, walked at this seat. Conditions: none.
-/
import Derived.Test.YtbejajnhgoejhaaIlIec
namespace Go.Proofs.Ytbejajnhgoejhaa.Ic
open Go.RowKit

def hasI (k : Int) : Bool := decide (k = 1 ∨ k = 6 ∨ k = 7)
theorem cHas_any (k : Int) (w : World) : Calls Try.prog 54 #[.int .i64 k] w (Tells (.bool (hasI k)) w) := by
  by_cases h1 : k = 1
  · subst h1
    rw [show hasI 1 = true from rfl]
    go_enter Try.func54, Try.ntmps54
    go_wp2
    go_ret
    exact ⟨rfl, Below.refl _ _⟩
  · by_cases h6 : k = 6
    · subst h6
      rw [show hasI 6 = true from rfl]
      go_enter Try.func54, Try.ntmps54
      go_wp2
      go_ret
      exact ⟨rfl, Below.refl _ _⟩
    · have e : hasI k = (k == 7) := by
        unfold hasI
        by_cases h7 : k = 7
        · subst h7; rfl
        · rw [decide_eq_false (by omega)]; simp [h7]
      have e1 : (k == 1) = false := by simpa using h1
      have e6 : (k == 6) = false := by simpa using h6
      rw [e]
      clear e h1 h6
      go_enter Try.func54, Try.ntmps54
      go_wp2
      go_ret
      exact ⟨rfl, Below.refl _ _⟩

def cLogB (op : Int) : Bool := decide (7 ≤ op ∧ op ≤ 13)
theorem cLog_any (op : Int) (w : World) : Calls Try.prog 55 #[.int .i64 op] w (Tells (.bool (cLogB op)) w) := by
  by_cases h : 7 ≤ op
  · rw [show cLogB op = decide (op ≤ 13) by unfold cLogB; by_cases h2 : op ≤ 13 <;> simp [h, h2]]
    go_enter Try.func55, Try.ntmps55
    go_wp2
    go_ret
    exact ⟨rfl, Below.refl _ _⟩
  · rw [show cLogB op = false by unfold cLogB; simp [h]]
    replace h : op < 7 := by omega
    go_enter Try.func55, Try.ntmps55
    go_wp2
    go_ret
    exact ⟨rfl, Below.refl _ _⟩

def cAriB (op : Int) : Bool := decide (14 ≤ op ∧ op ≤ 18)
theorem cAri_any (op : Int) (w : World) : Calls Try.prog 53 #[.int .i64 op] w (Tells (.bool (cAriB op)) w) := by
  by_cases h : 14 ≤ op
  · rw [show cAriB op = decide (op ≤ 18) by unfold cAriB; by_cases h2 : op ≤ 18 <;> simp [h, h2]]
    go_enter Try.func53, Try.ntmps53
    go_wp2
    go_ret
    exact ⟨rfl, Below.refl _ _⟩
  · rw [show cAriB op = false by unfold cAriB; simp [h]]
    replace h : op < 14 := by omega
    go_enter Try.func53, Try.ntmps53
    go_wp2
    go_ret
    exact ⟨rfl, Below.refl _ _⟩

def cOrdB (op : Int) : Bool := decide (19 ≤ op ∧ op ≤ 24)
theorem cOrd_any (op : Int) (w : World) : Calls Try.prog 56 #[.int .i64 op] w (Tells (.bool (cOrdB op)) w) := by
  by_cases h : 19 ≤ op
  · rw [show cOrdB op = decide (op ≤ 24) by unfold cOrdB; by_cases h2 : op ≤ 24 <;> simp [h, h2]]
    go_enter Try.func56, Try.ntmps56
    go_wp2
    go_ret
    exact ⟨rfl, Below.refl _ _⟩
  · rw [show cOrdB op = false by unfold cOrdB; simp [h]]
    replace h : op < 19 := by omega
    go_enter Try.func56, Try.ntmps56
    go_wp2
    go_ret
    exact ⟨rfl, Below.refl _ _⟩

set_option maxRecDepth 100000 in
set_option maxHeartbeats 4000000 in
theorem cMay_any (op k : Int) (w : World) : Calls Try.prog 49 #[.int .i64 op, .int .i64 k] w (Tells (.bool (mayI op k)) w) := by
  have HA := Lib.hid (fun W => cAri_any op W)
  have HL := Lib.hid (fun W => cLog_any op W)
  have HO := Lib.hid (fun W => cOrd_any op W)
  have HK := Lib.hid (fun W => cKind_any k W)
  have HH := Lib.hid (fun W => cHas_any k W)
  have HV := Lib.hid (show mayI op k = if cAriB op = true then (decide (szI k ≠ 0) && !hasI k) else if cLogB op = true then hasI k else (cOrdB op && decide (szI k ≠ 0)) from by
    rw [Bool.eq_iff_iff]
    simp only [mayI, cAriB, cLogB, cOrdB, hasI]
    have hk := sz_iff k
    rcases kinds k with h | h
    · have h0 := sz_none k h
      simp only [h0]
      repeat' split
      all_goals simp
      all_goals omega
    · rcases h with rfl | rfl | rfl | rfl | rfl | rfl | rfl
      all_goals
        simp only [show szI 1 = 1 from rfl, show szI 2 = 1 from rfl, show szI 3 = 2 from rfl, show szI 4 = 4 from rfl, show szI 5 = 2 from rfl, show szI 6 = 2 from rfl, show szI 7 = 4 from rfl]
        repeat' split
      all_goals simp_all
      all_goals omega)
  rw [HV.out]
  clear HV
  cases hb1 : cAriB op
  · rw [hb1] at HA
    rw [if_neg (by simp)]
    cases hb2 : cLogB op
    · rw [hb2] at HL
      rw [if_neg (by simp)]
      cases hb3 : cOrdB op
      · rw [hb3] at HO
        rw [Bool.false_and]
        clear hb1 hb2 hb3
        go_enter Try.func49, Try.ntmps49
        go_wp2_with fail
        refine (HA.out _).mono ?_
        rintro e w1 ⟨rfl, hb1⟩
        replace hb1 := Lib.hid hb1
        go_wp2_with fail
        refine (HL.out _).mono ?_
        rintro e w2 ⟨rfl, hb2⟩
        replace hb2 := Lib.hid (hb1.out.trans (hb2.mono hb1.out.size))
        clear hb1
        go_wp2_with fail
        refine (HO.out _).mono ?_
        rintro e w3 ⟨rfl, hb3⟩
        replace hb3 := Lib.hid (hb2.out.trans (hb3.mono hb2.out.size))
        clear hb2
        go_wp2
        go_ret
        exact ⟨rfl, hb3.out⟩
      · rw [hb3] at HO
        rw [Bool.true_and]
        clear hb1 hb2 hb3
        go_enter Try.func49, Try.ntmps49
        go_wp2_with fail
        refine (HA.out _).mono ?_
        rintro e w1 ⟨rfl, hb1⟩
        replace hb1 := Lib.hid hb1
        go_wp2_with fail
        refine (HL.out _).mono ?_
        rintro e w2 ⟨rfl, hb2⟩
        replace hb2 := Lib.hid (hb1.out.trans (hb2.mono hb1.out.size))
        clear hb1
        go_wp2_with fail
        refine (HO.out _).mono ?_
        rintro e w3 ⟨rfl, hb3⟩
        replace hb3 := Lib.hid (hb2.out.trans (hb3.mono hb2.out.size))
        clear hb2
        go_wp2_with fail
        refine (HK.out _).mono ?_
        rintro e w4 ⟨rfl, hb4⟩
        replace hb4 := Lib.hid (hb3.out.trans (hb4.mono hb3.out.size))
        clear hb3
        generalize decide (szI k ≠ 0) = kk at *
        go_wp2
        go_ret
        exact ⟨rfl, hb4.out⟩
    · rw [hb2] at HL
      rw [if_pos rfl]
      clear hb1 hb2
      generalize hasI k = hh at *
      go_enter Try.func49, Try.ntmps49
      go_wp2_with fail
      refine (HA.out _).mono ?_
      rintro e w1 ⟨rfl, hb1⟩
      replace hb1 := Lib.hid hb1
      go_wp2_with fail
      refine (HL.out _).mono ?_
      rintro e w2 ⟨rfl, hb2⟩
      replace hb2 := Lib.hid (hb1.out.trans (hb2.mono hb1.out.size))
      clear hb1
      go_wp2_with fail
      refine (HH.out _).mono ?_
      rintro e w3 ⟨rfl, hb3⟩
      replace hb3 := Lib.hid (hb2.out.trans (hb3.mono hb2.out.size))
      clear hb2
      go_wp2
      go_ret
      exact ⟨rfl, hb3.out⟩
  · rw [hb1] at HA
    rw [if_pos rfl]
    clear hb1
    generalize hasI k = hh at *
    generalize decide (szI k ≠ 0) = kk at *
    cases kk
    · rw [Bool.false_and]
      go_enter Try.func49, Try.ntmps49
      go_wp2_with fail
      refine (HA.out _).mono ?_
      rintro e w1 ⟨rfl, hb1⟩
      replace hb1 := Lib.hid hb1
      go_wp2_with fail
      refine (HK.out _).mono ?_
      rintro e w2 ⟨rfl, hb2⟩
      replace hb2 := Lib.hid (hb1.out.trans (hb2.mono hb1.out.size))
      clear hb1
      go_wp2
      go_ret
      exact ⟨rfl, hb2.out⟩
    · rw [Bool.true_and]
      go_enter Try.func49, Try.ntmps49
      go_wp2_with fail
      refine (HA.out _).mono ?_
      rintro e w1 ⟨rfl, hb1⟩
      replace hb1 := Lib.hid hb1
      go_wp2_with fail
      refine (HK.out _).mono ?_
      rintro e w2 ⟨rfl, hb2⟩
      replace hb2 := Lib.hid (hb1.out.trans (hb2.mono hb1.out.size))
      clear hb1
      go_wp2_with fail
      refine (HH.out _).mono ?_
      rintro e w3 ⟨rfl, hb3⟩
      replace hb3 := Lib.hid (hb2.out.trans (hb3.mono hb2.out.size))
      clear hb2
      go_wp2
      go_ret
      exact ⟨by cases hh <;> rfl, hb3.out⟩

end Go.Proofs.Ytbejajnhgoejhaa.Ic
