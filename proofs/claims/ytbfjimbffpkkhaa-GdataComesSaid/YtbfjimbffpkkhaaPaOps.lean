/-
  Which of two versions is less; bits of what came: walked. Conditions: as each states.
-/
import Derived.Test.YtbfjimbffpkkhaaPaBl
import Derived.Lib.BitFns
import Derived.Lib.Tables
import Derived.Deep.RegionHeld3
namespace Go.Proofs.Ytbfjimbffpkkhaa.Pa
open Go.RowKit

def cmpI (a b : Nat) : Int := if a < b then -1 else if b < a then 1 else 0
def cmpV (i s j t : Nat) : Int := if cmpI i j ≠ 0 then cmpI i j else cmpI s t
theorem ret_int {k : IntKind} {a b : Int} (h : a = b) : Ending.returned (.int k a) = .returned (.int k b) := by rw [h]
theorem cmpI_bd (a b : Nat) : cmpI a b = -1 ∨ cmpI a b = 0 ∨ cmpI a b = 1 := by unfold cmpI; split <;> (try split) <;> simp
theorem cmpV_lt {i s j t : Nat} (hs : s ≤ 4294967295) (ht : t ≤ 4294967295) : (cmpV i s j t < 0) = (numV i s < numV j t) := by
  unfold cmpV cmpI numV
  rw [eq_iff_iff]
  repeat' split
  all_goals omega
theorem cmpV_gt {i s j t : Nat} (hs : s ≤ 4294967295) (ht : t ≤ 4294967295) : (0 < cmpV i s j t) = (numV j t < numV i s) := by
  unfold cmpV cmpI numV
  rw [eq_iff_iff]
  repeat' split
  all_goals omega
theorem cmpV_eq {i s j t : Nat} (hs : s ≤ 4294967295) (ht : t ≤ 4294967295) : (cmpV i s j t = 0) = (numV j t = numV i s) := by
  unfold cmpV cmpI numV
  rw [eq_iff_iff]
  repeat' split
  all_goals omega

set_option maxHeartbeats 1000000 in
theorem cNan16 (n : Int) (w : World) : Calls Try.prog 49 #[.int .u16 n] w (fun e w' => e = .returned (.bool false) ∧ w = w') := by
  have h : (n != n) = false := by simp
  go_enter Try.func49, Try.ntmps49
  go_wp2
  go_ret
  exact ⟨rfl, rfl⟩
set_option maxHeartbeats 1000000 in
theorem cNan32 (n : Int) (w : World) : Calls Try.prog 50 #[.int .u32 n] w (fun e w' => e = .returned (.bool false) ∧ w = w') := by
  have h : (n != n) = false := by simp
  go_enter Try.func50, Try.ntmps50
  go_wp2
  go_ret
  exact ⟨rfl, rfl⟩
set_option maxRecDepth 100000 in
set_option maxHeartbeats 2000000 in
theorem cCmp16 (a b : Nat) (w : World) : Calls Try.prog 46 #[.int .u16 a, .int .u16 b] w (fun e w' => e = .returned (.int .i64 (cmpI a b)) ∧ w = w') := by
  obtain ⟨R, hR⟩ : ∃ R : Int, R = cmpI a b := ⟨_, rfl⟩
  rw [← hR]
  unfold cmpI at hR
  have HA := Lib.hid (cNan16 a w)
  have HB := Lib.hid (cNan16 b w)
  by_cases h1 : a < b
  · rw [if_pos h1] at hR
    have e1 : decide (a < b) = true := decide_eq_true h1
    subst hR
    clear h1
    go_enter Try.func46, Try.ntmps46
    go_wp2_with (first | (refine (HA.out).mono ?_; rintro e w1 ⟨rfl, rfl⟩) | (refine (HB.out).mono ?_; rintro e w1 ⟨rfl, rfl⟩))
    go_ret
    exact ⟨rfl, rfl⟩
  · rw [if_neg h1] at hR
    have e1 : decide (a < b) = false := decide_eq_false h1
    by_cases h2 : b < a
    · rw [if_pos h2] at hR
      have e2 : decide (b < a) = true := decide_eq_true h2
      subst hR
      clear h1 h2
      go_enter Try.func46, Try.ntmps46
      go_wp2_with (first | (refine (HA.out).mono ?_; rintro e w1 ⟨rfl, rfl⟩) | (refine (HB.out).mono ?_; rintro e w1 ⟨rfl, rfl⟩))
      go_ret
      exact ⟨rfl, rfl⟩
    · rw [if_neg h2] at hR
      have e2 : decide (b < a) = false := decide_eq_false h2
      subst hR
      clear h1 h2
      go_enter Try.func46, Try.ntmps46
      go_wp2_with (first | (refine (HA.out).mono ?_; rintro e w1 ⟨rfl, rfl⟩) | (refine (HB.out).mono ?_; rintro e w1 ⟨rfl, rfl⟩))
      go_ret
      exact ⟨rfl, rfl⟩
set_option maxRecDepth 100000 in
set_option maxHeartbeats 2000000 in
theorem cCmp32 (a b : Nat) (w : World) : Calls Try.prog 47 #[.int .u32 a, .int .u32 b] w (fun e w' => e = .returned (.int .i64 (cmpI a b)) ∧ w = w') := by
  obtain ⟨R, hR⟩ : ∃ R : Int, R = cmpI a b := ⟨_, rfl⟩
  rw [← hR]
  unfold cmpI at hR
  have HA := Lib.hid (cNan32 a w)
  have HB := Lib.hid (cNan32 b w)
  by_cases h1 : a < b
  · rw [if_pos h1] at hR
    have e1 : decide (a < b) = true := decide_eq_true h1
    subst hR
    clear h1
    go_enter Try.func47, Try.ntmps47
    go_wp2_with (first | (refine (HA.out).mono ?_; rintro e w1 ⟨rfl, rfl⟩) | (refine (HB.out).mono ?_; rintro e w1 ⟨rfl, rfl⟩))
    go_ret
    exact ⟨rfl, rfl⟩
  · rw [if_neg h1] at hR
    have e1 : decide (a < b) = false := decide_eq_false h1
    by_cases h2 : b < a
    · rw [if_pos h2] at hR
      have e2 : decide (b < a) = true := decide_eq_true h2
      subst hR
      clear h1 h2
      go_enter Try.func47, Try.ntmps47
      go_wp2_with (first | (refine (HA.out).mono ?_; rintro e w1 ⟨rfl, rfl⟩) | (refine (HB.out).mono ?_; rintro e w1 ⟨rfl, rfl⟩))
      go_ret
      exact ⟨rfl, rfl⟩
    · rw [if_neg h2] at hR
      have e2 : decide (b < a) = false := decide_eq_false h2
      subst hR
      clear h1 h2
      go_enter Try.func47, Try.ntmps47
      go_wp2_with (first | (refine (HA.out).mono ?_; rintro e w1 ⟨rfl, rfl⟩) | (refine (HB.out).mono ?_; rintro e w1 ⟨rfl, rfl⟩))
      go_ret
      exact ⟨rfl, rfl⟩

set_option maxRecDepth 100000 in
set_option maxHeartbeats 2000000 in
theorem cOr (a b R : Int) (g : Nat) (w : World) (hR : R = if a ≠ 0 then a else b) (h0 : w.cell? ⟨g, 0, none⟩ = some (.int .i64 a)) (h1 : w.cell? ⟨g, 1, none⟩ = some (.int .i64 b)) :
    Calls Try.prog 45 #[.slice (some ⟨g, 0, none⟩) 2 2] w (fun e w' => e = .returned (.int .i64 R) ∧ w = w') := by
  have HR := Lib.hid hR
  clear hR
  go_enter Try.func45, Try.ntmps45
  go_wp2
  go_loop [8] (fun i => ∃ k : Nat, k ≤ 2 ∧ i = .int .i64 k ∧ Hid ((1 ≤ k → a = 0) ∧ (2 ≤ k → b = 0))) (fun i => 2 - (intOf i).toNat)
  case atStart => exact ⟨0, by omega, rfl, Lib.hid ⟨by omega, by omega⟩⟩
  case round =>
    obtain ⟨k, hk, rfl, hz⟩ := hrel
    by_cases hlt : k < 2
    · have e1 : decide ((k : Int) < 2) = true := by simp; omega
      obtain ⟨c, hc, hck⟩ : ∃ c : Int, w.cell? ⟨g, k, none⟩ = some (.int .i64 c) ∧ ((k = 0 ∧ c = a) ∨ (k = 1 ∧ c = b)) := by
        rcases (by omega : k = 0 ∨ k = 1) with rfl | rfl
        · exact ⟨a, h0, .inl ⟨rfl, rfl⟩⟩
        · exact ⟨b, h1, .inr ⟨rfl, rfl⟩⟩
      have HC := Lib.hid hck
      clear hck h0 h1
      by_cases hc0 : c = 0
      · have e2 : (c != 0) = false := by simp [hc0]
        have HN : Hid ((1 ≤ k + 1 → a = 0) ∧ (2 ≤ k + 1 → b = 0)) := Lib.hid (by
          rcases HC.out with ⟨rfl, rfl⟩ | ⟨rfl, rfl⟩
          · exact ⟨fun _ => hc0, by omega⟩
          · exact ⟨fun _ => hz.out.1 (by omega), fun _ => hc0⟩)
        clear hc0
        go_wp2
        go_round
        case rel => exact ⟨k + 1, by omega, by go_num, HN⟩
        case measure => simp [intOf]; omega
      · have e2 : (c != 0) = true := by simp [hc0]
        have HN : Hid (c = R) := Lib.hid (by
          rw [HR.out]
          rcases HC.out with ⟨rfl, rfl⟩ | ⟨rfl, rfl⟩
          · rw [if_pos hc0]
          · rw [if_neg (by rw [hz.out.1 (by omega)]; simp)])
        clear hc0
        go_wp2
        go_ret
        exact ⟨ret_int HN.out, rfl⟩
    · have e1 : decide ((k : Int) < 2) = false := by simp; omega
      have HN : Hid (0 = R) := Lib.hid (by
          rw [HR.out, if_neg (by rw [hz.out.1 (by omega)]; simp), hz.out.2 (by omega)])
      clear h0 h1
      go_wp2
      go_ret
      exact ⟨ret_int HN.out, rfl⟩

theorem pop_size : Lib.pop8tab.size = 256 := by decide +kernel
theorem pop_fin : ∀ x : Fin 256, (Lib.pop8tab.data[x.val]?).map UInt8.toNat = some (popN x.val) := by decide +kernel
theorem popN_le (m : Nat) : popN m ≤ 8 := by
  have := List.length_filter_le (fun i => m.testBit i) (List.range 8)
  simpa [popN] using this
theorem pop_tab (m : Nat) (hm : m < Lib.pop8tab.size) : wrap64 ((Lib.pop8tab[m].toNat : Nat) : Int) = (popN m : Int) := by
  have h := pop_fin ⟨m, by rw [pop_size] at hm; exact hm⟩
  have hm' : m < Lib.pop8tab.data.size := hm
  simp only [Array.getElem?_eq_getElem hm', Option.map_some, Option.some.injEq] at h
  have e : Lib.pop8tab[m] = Lib.pop8tab.data[m] := rfl
  rw [e, h]
  have := popN_le m
  unfold wrap64
  omega
set_option maxRecDepth 100000 in
set_option maxHeartbeats 2000000 in
theorem cOnes (m : Nat) (hm : m ≤ 255) (w : World) : Calls Try.prog 48 #[.int .u8 m] w (fun e w' => e = .returned (.int .i64 (popN m)) ∧ w = w') := by
  have hs : m < Lib.pop8tab.size := by rw [pop_size]; omega
  have HP := Lib.hid (pop_tab m hs)
  go_enter Try.func48, Try.ntmps48
  go_wp2
  go_ret
  exact ⟨ret_int HP.out, rfl⟩
end Go.Proofs.Ytbfjimbffpkkhaa.Pa
