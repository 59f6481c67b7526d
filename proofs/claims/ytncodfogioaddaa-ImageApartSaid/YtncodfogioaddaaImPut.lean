/-
  span, bring, put, Byte: walked. Conditions: as each states.
-/
import Derived.Test.YtncodfogioaddaaImBase
namespace Go.Proofs.Ytncodfogioaddaa.Bl
open Go.RowKit

theorem cSpan (p z : Nat) (h : p + z ≤ 64) (w : World) : Calls Try.prog 16 #[.int .i64 p, .int .i64 z] w (fun e w' => e = .returned (.int .u64 (spanN p z : Nat)) ∧ w = w') := by
  by_cases h64 : z = 64
  · subst h64
    obtain rfl : p = 0 := by omega
    have hs : (spanN 0 64 : Int) = 18446744073709551615 := by decide
    rw [hs]
    go_enter Try.func16, Try.ntmps16
    go_wp2
    go_ret
    exact ⟨rfl, rfl⟩
  · have h1 : (2 : Int) ^ z ≤ 2 ^ 63 := by exact_mod_cast Nat.pow_le_pow_right (n := 2) (by decide) (by omega : z ≤ 63)
    have h0 : 0 < (2 : Int) ^ z := by exact_mod_cast Nat.pow_pos (n := z) (by decide : 0 < 2)
    have hs := span_lt h
    have hq : ((2 : Int) ^ z - 1) * 2 ^ p = (spanN p z : Nat) := by
      unfold spanN
      rw [Int.natCast_mul, Int.natCast_sub (by exact_mod_cast h0)]
      simp
    have hw1 : IntKind.u64.wrap ((2 : Int) ^ z) = 2 ^ z := by rw [IntKind.wrap_u64]; omega
    have hw2 : IntKind.u64.wrap ((2 : Int) ^ z - 1) = 2 ^ z - 1 := by rw [IntKind.wrap_u64]; omega
    have hw3 : IntKind.u64.wrap (((2 : Int) ^ z - 1) * 2 ^ p) = (spanN p z : Nat) := by rw [hq, IntKind.wrap_u64]; omega
    clear hq
    go_enter Try.func16, Try.ntmps16
    go_wp2
    go_ret
    exact ⟨rfl, rfl⟩
theorem cBring (n : Int) (w : World) : Calls Try.prog 18 #[.int .i64 n] w (fun e w' => e = .returned (.int .i64 (bringN n : Nat)) ∧ w = w') := by
  have h : (bringN n : Int) = min (max n 0) 64 := by unfold bringN; omega
  rw [h]
  go_enter Try.func18, Try.ntmps18
  go_wp2
  go_ret
  exact ⟨rfl, rfl⟩
theorem S_get {v : Bs} {i : Nat} (h : i < (S v).size) : (S v)[i] = v.getD i 0 := by
  have hl : i < v.length := by rw [S_size] at h; exact h
  rw [List.getD_eq_getElem?_getD, List.getElem?_eq_getElem hl]
  rfl
theorem rByte_any (v : Bs) (i : Nat) (w : World) : Calls Try.prog 14 #[.string (S v), .int .i64 i] w (fun e w' => e = .returned (.int .u8 ((v.getD i 0).toNat : Nat)) ∧ w = w') := by
  have hsz := S_size v
  have e0 : decide ((i : Int) < 0) = false := by simp
  by_cases hi : i < v.length
  · have e1 : decide ((v.length : Int) ≤ (i : Int)) = false := by simp; omega
    have hgt := S_get (v := v) (i := i) (by rw [S_size]; exact hi)
    go_enter Try.func14, Try.ntmps14
    go_wp2
    go_ret
    exact ⟨by rw [← hgt]; rfl, rfl⟩
  · have e1 : decide ((v.length : Int) ≤ (i : Int)) = true := by simp; omega
    rw [getD_ge (by omega)]
    go_enter Try.func14, Try.ntmps14
    go_wp2
    go_ret
    exact ⟨rfl, rfl⟩
theorem below_draw (N : Nat) (W : World) : Below N W W.drew := ⟨rfl, rfl, rfl, Nat.le_refl _, fun _ _ => rfl⟩
theorem cPut_any (A v : Bs) (b cap : Nat) (p : Int) (w : World) (hA : AreaAt w b A) (hc : A.length ≤ cap) (hcm : cap ≤ maxLen) (hp : I64 p) (hv : v.length ≤ maxLen) :
    Calls Try.prog 19 #[.slice (some ⟨b, 0, none⟩) A.length cap, .int .i64 p, .string (S v)] w (fun e w' => e = .returned (.tuple #[]) ∧ Below b w w' ∧ w'.heap.size = w.heap.size ∧ AreaAt w' b (putB A p v)) := by
  have hsz := S_size v
  unfold maxLen at hcm hv
  unfold I64 at hp
  have hwn : IntKind.i64.wrap (-(v.length : Int)) = -(v.length : Int) := by rw [IntKind.wrap_i64]; omega
  by_cases h1 : (A.length : Int) ≤ p
  · have e1 : decide ((A.length : Int) ≤ p) = true := decide_eq_true h1
    rw [put_none (.inl h1)]
    have HA := Lib.hid hA
    clear hA h1
    go_enter Try.func19, Try.ntmps19
    go_wp2
    refine bodyPost_ret (results_none rfl _ _ _) rfl ?_
    exact ⟨rfl, Below.refl _ _, rfl, HA.out⟩
  · have e1 : decide ((A.length : Int) ≤ p) = false := decide_eq_false h1
    by_cases h2 : p ≤ -(v.length : Int)
    · have e2 : decide (p ≤ -(v.length : Int)) = true := decide_eq_true h2
      rw [put_none (.inr h2)]
      have HA := Lib.hid hA
      clear hA h1 h2
      go_enter Try.func19, Try.ntmps19
      go_wp2
      refine bodyPost_ret (results_none rfl _ _ _) rfl ?_
      exact ⟨rfl, Below.refl _ _, rfl, HA.out⟩
    · have e2 : decide (p ≤ -(v.length : Int)) = false := decide_eq_false h2
      have hwp : IntKind.i64.wrap (-p) = -p := by rw [IntKind.wrap_i64]; omega
      obtain ⟨o, ho⟩ : ∃ o : Nat, max p 0 = (o : Int) := ⟨(max p 0).toNat, by omega⟩
      obtain ⟨q, hq⟩ : ∃ q : Nat, max (-p) 0 = (q : Int) := ⟨(max (-p) 0).toNat, by omega⟩
      have hoA : o ≤ A.length := by omega
      have hqv : q ≤ v.length := by omega
      have hif : (if cap = o then some (⟨b, 0, none⟩ : Addr) else some ⟨b, o, none⟩) = some ⟨b, o, none⟩ := by
        split
        · rw [show o = 0 by omega]
        · rfl
      have hx : (S v).extract q v.length = S (v.drop q) := by rw [S_cut, List.take_length]
      obtain ⟨m, hm⟩ : ∃ m, m = Nat.min (v.drop q).length (A.length - o) := ⟨_, rfl⟩
      have hcp := run_copy_area w.drew 3 hA.drew (o := o) (dLen := A.length - o) (dCap := cap - o) (v := v.drop q) (by omega)
      rw [← hm] at hcp
      have hmm : m = min (A.length - o) (v.length - q) := by
        have : m = min (v.length - q) (A.length - o) := by rw [hm, List.length_drop]
        rw [this, Nat.min_comm]
      have hml : ((v.drop q).take m).length = m := by rw [List.length_take, List.length_drop]; omega
      have hR := hA.drew.sets (o := o) (v := (v.drop q).take m) (by omega)
      rw [hml] at hR
      rw [put_some (A := A) (v := v) ho.symm hq.symm hmm hoA hqv]
      have HR := Lib.hid hR
      have HC := Lib.hid hcp
      clear hR hcp hmm hml hm
      go_enter Try.func19, Try.ntmps19
      go_wp2
      go_still_tail 9, (by kernel_rfl)
      change wpList _ _ _ _ _ w.drew
      refine Lib.wpList_copy_run w.drew rfl (.tmp 20) (.tmp 25) 41 9 rfl _ _ rfl rfl HC.out ?_
      go_wp2
      go_end0
      exact ⟨rfl, (below_draw b w).trans (below_sets (Nat.le_refl _) _ _ w.drew), size_sets _ _ w.drew, by rw [← List.append_assoc]; exact HR.out⟩
end Go.Proofs.Ytncodfogioaddaa.Bl
