/-
  The reference's bits, walked. Conditions: none.
-/
import Derived.Test.YtkjijeogkemgoaaIcDo
namespace Go.Proofs.Ytkjijeogkemgoaa.Ic
open Go.RowKit

/-- What the loop over the bits stands on. -/
structure Bt (op : Int) (A B j : Nat) (a b o : Nat) : Prop where
  ha : a = A / 2 ^ j
  hb : b = B / 2 ^ j
  ho : o = logN op A B % 2 ^ j
theorem Bt.next {op : Int} {A B j a b o : Nat} (h : Bt op A B j a b o) : Bt op A B (j + 1) (a / 2) (b / 2) (o + 2 ^ j * logN op (a % 2) (b % 2)) :=
  ⟨by rw [h.ha, Nat.div_div_eq_div_mul, Nat.pow_succ], by rw [h.hb, Nat.div_div_eq_div_mul, Nat.pow_succ], by rw [log_step, ← h.ho, ← h.ha, ← h.hb]⟩
theorem Bt.bd {op : Int} {A B j a b o : Nat} (h : Bt op A B j a b o) (hA : A < 2 ^ 32) (hB : B < 2 ^ 32) : a < 4294967296 ∧ b < 4294967296 ∧ o < 2 ^ j := by
  refine ⟨?_, ?_, ?_⟩
  · rw [h.ha]; exact Nat.lt_of_le_of_lt (Nat.div_le_self _ _) hA
  · rw [h.hb]; exact Nat.lt_of_le_of_lt (Nat.div_le_self _ _) hB
  · rw [h.ho]; exact Nat.mod_lt _ (Nat.two_pow_pos j)
theorem par (x : Nat) : (x % 2 = 0 ∧ ((x : Nat) : Int).tmod 2 = 0 ∧ ((x : Nat) : Int) % 2 = 0) ∨ (x % 2 = 1 ∧ ((x : Nat) : Int).tmod 2 = 1 ∧ ((x : Nat) : Int) % 2 = 1) := by
  rw [Int.tmod_eq_emod_of_nonneg (Int.natCast_nonneg x)]
  rcases Nat.mod_two_eq_zero_or_one x with h | h
  · exact .inl ⟨h, by omega, by omega⟩
  · exact .inr ⟨h, by omega, by omega⟩
theorem nat_val {a : Int} {n : Nat} (h : a = n) : Value.int .i64 a = .int .i64 (n : Int) := by rw [h]

set_option maxRecDepth 100000 in
set_option maxHeartbeats 8000000 in
theorem rBits_7 (A B : Nat) (w : World) (hA : A < 2 ^ 32) (hB : B < 2 ^ 32) : Calls Try.prog 42 #[.int .i64 7, .int .i64 A, .int .i64 B] w (Tells (.int .i64 (logN 7 A B : Nat)) w) := by
  have HF := Lib.hid (log_small 7 A B hA hB)
  have H0 := Lib.hid (show Bt 7 A B 0 A B 0 from ⟨by simp, by simp, by simp [Nat.mod_one]⟩)
  have HBd := Lib.hid (fun (j a b o : Nat) (h : Bt 7 A B j a b o) => h.bd hA hB)
  have HE := Lib.hid (fun (a b o : Nat) (h : Bt 7 A B 32 a b o) => h.ho.trans (log_small 7 A B hA hB))
  clear hA hB HF
  go_enter Try.func42, Try.ntmps42
  go_wp2
  go_loopw [1, 2, 7, 8, 9] (fun va vb vo vn vi wr => ∃ j a b o : Nat, j ≤ 32 ∧ va = .int .i64 a ∧ vb = .int .i64 b ∧ vo = .int .i64 o ∧ vn = .int .i64 ((2 ^ j : Nat) : Int) ∧ vi = .int .i64 j ∧ Hid (Bt 7 A B j a b o) ∧ wr = w) (fun _ _ _ _ vi _ => 32 - (intOf vi).toNat)
  case atStart => exact ⟨0, A, B, 0, by omega, rfl, rfl, rfl, rfl, rfl, H0, rfl⟩
  case round =>
    obtain ⟨j, a, b, o, hj, rfl, rfl, rfl, rfl, rfl, ht, rfl⟩ := hrel
    by_cases hlt : j < 32
    · have hI : (j : Int) < 32 := by omega
      have hn := Lib.hid ht.out.next
      obtain ⟨b1, b2, b3⟩ := HBd.out _ _ _ _ ht.out
      have hp : 2 ^ j ≤ 2147483648 := Nat.pow_le_pow_right (by decide) (show j ≤ 31 by omega)
      have HQ := Lib.hid (Nat.pow_succ (n := 2) (m := j))
      generalize 2 ^ j = q at *
      have hs : IntKind.i64.wrap ((o : Int) + (q : Int)) = (o : Int) + (q : Int) := by rw [IntKind.wrap_i64]; omega
      rcases par a with ⟨pa, ta, sa⟩ | ⟨pa, ta, sa⟩
      all_goals
        rcases par b with ⟨pb, tb, sb⟩ | ⟨pb, tb, sb⟩
        all_goals
          go_wp2
          go_roundw
          · exact ⟨j + 1, a / 2, b / 2, o + q * logN 7 (a % 2) (b % 2), by omega, rfl, rfl, nat_val (by rw [pa, pb]; simp [logN]), nat_val (by rw [HQ.out]; simp), rfl, hn, trivial⟩
          · simp [intOf]; omega
    · obtain rfl : j = 32 := by omega
      have HX := Lib.hid (HE.out _ _ _ ht.out)
      clear ht
      go_wp2
      go_ret
      exact ⟨by rw [HX.out]; rfl, Below.refl _ _⟩
set_option maxRecDepth 100000 in
set_option maxHeartbeats 8000000 in
theorem rBits_8 (A B : Nat) (w : World) (hA : A < 2 ^ 32) (hB : B < 2 ^ 32) : Calls Try.prog 42 #[.int .i64 8, .int .i64 A, .int .i64 B] w (Tells (.int .i64 (logN 8 A B : Nat)) w) := by
  have HF := Lib.hid (log_small 8 A B hA hB)
  have H0 := Lib.hid (show Bt 8 A B 0 A B 0 from ⟨by simp, by simp, by simp [Nat.mod_one]⟩)
  have HBd := Lib.hid (fun (j a b o : Nat) (h : Bt 8 A B j a b o) => h.bd hA hB)
  have HE := Lib.hid (fun (a b o : Nat) (h : Bt 8 A B 32 a b o) => h.ho.trans (log_small 8 A B hA hB))
  clear hA hB HF
  go_enter Try.func42, Try.ntmps42
  go_wp2
  go_loopw [1, 2, 7, 8, 9] (fun va vb vo vn vi wr => ∃ j a b o : Nat, j ≤ 32 ∧ va = .int .i64 a ∧ vb = .int .i64 b ∧ vo = .int .i64 o ∧ vn = .int .i64 ((2 ^ j : Nat) : Int) ∧ vi = .int .i64 j ∧ Hid (Bt 8 A B j a b o) ∧ wr = w) (fun _ _ _ _ vi _ => 32 - (intOf vi).toNat)
  case atStart => exact ⟨0, A, B, 0, by omega, rfl, rfl, rfl, rfl, rfl, H0, rfl⟩
  case round =>
    obtain ⟨j, a, b, o, hj, rfl, rfl, rfl, rfl, rfl, ht, rfl⟩ := hrel
    by_cases hlt : j < 32
    · have hI : (j : Int) < 32 := by omega
      have hn := Lib.hid ht.out.next
      obtain ⟨b1, b2, b3⟩ := HBd.out _ _ _ _ ht.out
      have hp : 2 ^ j ≤ 2147483648 := Nat.pow_le_pow_right (by decide) (show j ≤ 31 by omega)
      have HQ := Lib.hid (Nat.pow_succ (n := 2) (m := j))
      generalize 2 ^ j = q at *
      have hs : IntKind.i64.wrap ((o : Int) + (q : Int)) = (o : Int) + (q : Int) := by rw [IntKind.wrap_i64]; omega
      rcases par a with ⟨pa, ta, sa⟩ | ⟨pa, ta, sa⟩
      all_goals
        rcases par b with ⟨pb, tb, sb⟩ | ⟨pb, tb, sb⟩
        all_goals
          go_wp2
          go_roundw
          · exact ⟨j + 1, a / 2, b / 2, o + q * logN 8 (a % 2) (b % 2), by omega, rfl, rfl, nat_val (by rw [pa, pb]; simp [logN]), nat_val (by rw [HQ.out]; simp), rfl, hn, trivial⟩
          · simp [intOf]; omega
    · obtain rfl : j = 32 := by omega
      have HX := Lib.hid (HE.out _ _ _ ht.out)
      clear ht
      go_wp2
      go_ret
      exact ⟨by rw [HX.out]; rfl, Below.refl _ _⟩
set_option maxRecDepth 100000 in
set_option maxHeartbeats 8000000 in
theorem rBits_9 (A B : Nat) (w : World) (hA : A < 2 ^ 32) (hB : B < 2 ^ 32) : Calls Try.prog 42 #[.int .i64 9, .int .i64 A, .int .i64 B] w (Tells (.int .i64 (logN 9 A B : Nat)) w) := by
  have HF := Lib.hid (log_small 9 A B hA hB)
  have H0 := Lib.hid (show Bt 9 A B 0 A B 0 from ⟨by simp, by simp, by simp [Nat.mod_one]⟩)
  have HBd := Lib.hid (fun (j a b o : Nat) (h : Bt 9 A B j a b o) => h.bd hA hB)
  have HE := Lib.hid (fun (a b o : Nat) (h : Bt 9 A B 32 a b o) => h.ho.trans (log_small 9 A B hA hB))
  clear hA hB HF
  go_enter Try.func42, Try.ntmps42
  go_wp2
  go_loopw [1, 2, 7, 8, 9] (fun va vb vo vn vi wr => ∃ j a b o : Nat, j ≤ 32 ∧ va = .int .i64 a ∧ vb = .int .i64 b ∧ vo = .int .i64 o ∧ vn = .int .i64 ((2 ^ j : Nat) : Int) ∧ vi = .int .i64 j ∧ Hid (Bt 9 A B j a b o) ∧ wr = w) (fun _ _ _ _ vi _ => 32 - (intOf vi).toNat)
  case atStart => exact ⟨0, A, B, 0, by omega, rfl, rfl, rfl, rfl, rfl, H0, rfl⟩
  case round =>
    obtain ⟨j, a, b, o, hj, rfl, rfl, rfl, rfl, rfl, ht, rfl⟩ := hrel
    by_cases hlt : j < 32
    · have hI : (j : Int) < 32 := by omega
      have hn := Lib.hid ht.out.next
      obtain ⟨b1, b2, b3⟩ := HBd.out _ _ _ _ ht.out
      have hp : 2 ^ j ≤ 2147483648 := Nat.pow_le_pow_right (by decide) (show j ≤ 31 by omega)
      have HQ := Lib.hid (Nat.pow_succ (n := 2) (m := j))
      generalize 2 ^ j = q at *
      have hs : IntKind.i64.wrap ((o : Int) + (q : Int)) = (o : Int) + (q : Int) := by rw [IntKind.wrap_i64]; omega
      rcases par a with ⟨pa, ta, sa⟩ | ⟨pa, ta, sa⟩
      all_goals
        rcases par b with ⟨pb, tb, sb⟩ | ⟨pb, tb, sb⟩
        all_goals
          go_wp2
          go_roundw
          · exact ⟨j + 1, a / 2, b / 2, o + q * logN 9 (a % 2) (b % 2), by omega, rfl, rfl, nat_val (by rw [pa, pb]; simp [logN]), nat_val (by rw [HQ.out]; simp), rfl, hn, trivial⟩
          · simp [intOf]; omega
    · obtain rfl : j = 32 := by omega
      have HX := Lib.hid (HE.out _ _ _ ht.out)
      clear ht
      go_wp2
      go_ret
      exact ⟨by rw [HX.out]; rfl, Below.refl _ _⟩

theorem rBits_any (op : Int) (A B : Nat) (w : World) (hop : op = 7 ∨ op = 8 ∨ op = 9) (hA : A < 2 ^ 32) (hB : B < 2 ^ 32) : Calls Try.prog 42 #[.int .i64 op, .int .i64 A, .int .i64 B] w (Tells (.int .i64 (logN op A B : Nat)) w) := by
  rcases hop with rfl | rfl | rfl
  · exact rBits_7 A B w hA hB
  · exact rBits_8 A B w hA hB
  · exact rBits_9 A B w hA hB

end Go.Proofs.Ytkjijeogkemgoaa.Ic
