/-
  The reference of layer 11: operations, walked. Conditions: as each states.
-/
import Derived.Test.YtbjmdehfdnpljaaIcR
namespace Go.Proofs.Ytbjmdehfdnpljaa.Ic
open Go.RowKit

/-- What the loop over the bits stands on. -/
structure Bt (op : Int) (A B j : Nat) (a b o : Nat) : Prop where
  ha : a = A / 2 ^ j
  hb : b = B / 2 ^ j
  ho : o = logN op A B % 2 ^ j
theorem Bt.next {op : Int} {A B j a b o : Nat} (h : Bt op A B j a b o) : Bt op A B (j + 1) (a / 2) (b / 2) (o + 2 ^ j * logN op (a % 2) (b % 2)) :=
  ⟨by rw [h.ha, Nat.div_div_eq_div_mul, Nat.pow_succ], by rw [h.hb, Nat.div_div_eq_div_mul, Nat.pow_succ], by rw [log_step, ← h.ho, ← h.ha, ← h.hb]⟩
theorem Bt.bd {op : Int} {A B j a b o : Nat} (h : Bt op A B j a b o) (hA : A < 2 ^ 32) (hB : B < 2 ^ 32) : a < 4294967296 ∧ b < 4294967296 ∧ o < 2 ^ j := by
  refine ⟨?_, ?_, ?_⟩
  · rw [h.ha]; exact Nat.lt_of_le_of_lt (Nat.div_le_self _ _) hA
  · rw [h.hb]; exact Nat.lt_of_le_of_lt (Nat.div_le_self _ _) hB
  · rw [h.ho]; exact Nat.mod_lt _ (Nat.two_pow_pos j)
theorem par (x : Nat) : (x % 2 = 0 ∧ ((x : Nat) : Int).tmod 2 = 0 ∧ ((x : Nat) : Int) % 2 = 0) ∨ (x % 2 = 1 ∧ ((x : Nat) : Int).tmod 2 = 1 ∧ ((x : Nat) : Int) % 2 = 1) := by
  rw [Int.tmod_eq_emod_of_nonneg (Int.natCast_nonneg x)]
  rcases Nat.mod_two_eq_zero_or_one x with h | h
  · exact .inl ⟨h, by omega, by omega⟩
  · exact .inr ⟨h, by omega, by omega⟩
theorem nat_val {a : Int} {n : Nat} (h : a = n) : Value.int .i64 a = .int .i64 (n : Int) := by rw [h]

set_option maxRecDepth 100000 in
set_option maxHeartbeats 8000000 in
theorem rBits_7 (A B : Nat) (w : World) (hA : A < 2 ^ 32) (hB : B < 2 ^ 32) : Calls Try.prog 85 #[.int .i64 7, .int .i64 A, .int .i64 B] w (Tells (.int .i64 (logN 7 A B : Nat)) w) := by
  have HF := Lib.hid (log_small 7 A B hA hB)
  have H0 := Lib.hid (show Bt 7 A B 0 A B 0 from ⟨by simp, by simp, by simp [Nat.mod_one]⟩)
  have HBd := Lib.hid (fun (j a b o : Nat) (h : Bt 7 A B j a b o) => h.bd hA hB)
  have HE := Lib.hid (fun (a b o : Nat) (h : Bt 7 A B 32 a b o) => h.ho.trans (log_small 7 A B hA hB))
  clear hA hB HF
  go_enter Try.func85, Try.ntmps85
  go_wp2
  go_loopw [1, 2, 7, 8, 9] (fun va vb vo vn vi wr => ∃ j a b o : Nat, j ≤ 32 ∧ va = .int .i64 a ∧ vb = .int .i64 b ∧ vo = .int .i64 o ∧ vn = .int .i64 ((2 ^ j : Nat) : Int) ∧ vi = .int .i64 j ∧ Hid (Bt 7 A B j a b o) ∧ wr = w) (fun _ _ _ _ vi _ => 32 - (intOf vi).toNat)
  case atStart => exact ⟨0, A, B, 0, by omega, rfl, rfl, rfl, rfl, rfl, H0, rfl⟩
  case round =>
    obtain ⟨j, a, b, o, hj, rfl, rfl, rfl, rfl, rfl, ht, rfl⟩ := hrel
    by_cases hlt : j < 32
    · have hI : (j : Int) < 32 := by omega
      have hn := Lib.hid ht.out.next
      obtain ⟨b1, b2, b3⟩ := HBd.out _ _ _ _ ht.out
      have hp : 2 ^ j ≤ 2147483648 := Nat.pow_le_pow_right (by decide) (show j ≤ 31 by omega)
      have HQ := Lib.hid (Nat.pow_succ (n := 2) (m := j))
      generalize 2 ^ j = q at *
      have hs : IntKind.i64.wrap ((o : Int) + (q : Int)) = (o : Int) + (q : Int) := by rw [IntKind.wrap_i64]; omega
      rcases par a with ⟨pa, ta, sa⟩ | ⟨pa, ta, sa⟩
      all_goals
        rcases par b with ⟨pb, tb, sb⟩ | ⟨pb, tb, sb⟩
        all_goals
          go_wp2
          go_roundw
          · exact ⟨j + 1, a / 2, b / 2, o + q * logN 7 (a % 2) (b % 2), by omega, rfl, rfl, nat_val (by rw [pa, pb]; simp [logN]), nat_val (by rw [HQ.out]; simp), rfl, hn, trivial⟩
          · simp [intOf]; omega
    · obtain rfl : j = 32 := by omega
      have HX := Lib.hid (HE.out _ _ _ ht.out)
      clear ht
      go_wp2
      go_ret
      exact ⟨by rw [HX.out]; rfl, Below.refl _ _⟩
set_option maxRecDepth 100000 in
set_option maxHeartbeats 8000000 in
theorem rBits_8 (A B : Nat) (w : World) (hA : A < 2 ^ 32) (hB : B < 2 ^ 32) : Calls Try.prog 85 #[.int .i64 8, .int .i64 A, .int .i64 B] w (Tells (.int .i64 (logN 8 A B : Nat)) w) := by
  have HF := Lib.hid (log_small 8 A B hA hB)
  have H0 := Lib.hid (show Bt 8 A B 0 A B 0 from ⟨by simp, by simp, by simp [Nat.mod_one]⟩)
  have HBd := Lib.hid (fun (j a b o : Nat) (h : Bt 8 A B j a b o) => h.bd hA hB)
  have HE := Lib.hid (fun (a b o : Nat) (h : Bt 8 A B 32 a b o) => h.ho.trans (log_small 8 A B hA hB))
  clear hA hB HF
  go_enter Try.func85, Try.ntmps85
  go_wp2
  go_loopw [1, 2, 7, 8, 9] (fun va vb vo vn vi wr => ∃ j a b o : Nat, j ≤ 32 ∧ va = .int .i64 a ∧ vb = .int .i64 b ∧ vo = .int .i64 o ∧ vn = .int .i64 ((2 ^ j : Nat) : Int) ∧ vi = .int .i64 j ∧ Hid (Bt 8 A B j a b o) ∧ wr = w) (fun _ _ _ _ vi _ => 32 - (intOf vi).toNat)
  case atStart => exact ⟨0, A, B, 0, by omega, rfl, rfl, rfl, rfl, rfl, H0, rfl⟩
  case round =>
    obtain ⟨j, a, b, o, hj, rfl, rfl, rfl, rfl, rfl, ht, rfl⟩ := hrel
    by_cases hlt : j < 32
    · have hI : (j : Int) < 32 := by omega
      have hn := Lib.hid ht.out.next
      obtain ⟨b1, b2, b3⟩ := HBd.out _ _ _ _ ht.out
      have hp : 2 ^ j ≤ 2147483648 := Nat.pow_le_pow_right (by decide) (show j ≤ 31 by omega)
      have HQ := Lib.hid (Nat.pow_succ (n := 2) (m := j))
      generalize 2 ^ j = q at *
      have hs : IntKind.i64.wrap ((o : Int) + (q : Int)) = (o : Int) + (q : Int) := by rw [IntKind.wrap_i64]; omega
      rcases par a with ⟨pa, ta, sa⟩ | ⟨pa, ta, sa⟩
      all_goals
        rcases par b with ⟨pb, tb, sb⟩ | ⟨pb, tb, sb⟩
        all_goals
          go_wp2
          go_roundw
          · exact ⟨j + 1, a / 2, b / 2, o + q * logN 8 (a % 2) (b % 2), by omega, rfl, rfl, nat_val (by rw [pa, pb]; simp [logN]), nat_val (by rw [HQ.out]; simp), rfl, hn, trivial⟩
          · simp [intOf]; omega
    · obtain rfl : j = 32 := by omega
      have HX := Lib.hid (HE.out _ _ _ ht.out)
      clear ht
      go_wp2
      go_ret
      exact ⟨by rw [HX.out]; rfl, Below.refl _ _⟩
set_option maxRecDepth 100000 in
set_option maxHeartbeats 8000000 in
theorem rBits_9 (A B : Nat) (w : World) (hA : A < 2 ^ 32) (hB : B < 2 ^ 32) : Calls Try.prog 85 #[.int .i64 9, .int .i64 A, .int .i64 B] w (Tells (.int .i64 (logN 9 A B : Nat)) w) := by
  have HF := Lib.hid (log_small 9 A B hA hB)
  have H0 := Lib.hid (show Bt 9 A B 0 A B 0 from ⟨by simp, by simp, by simp [Nat.mod_one]⟩)
  have HBd := Lib.hid (fun (j a b o : Nat) (h : Bt 9 A B j a b o) => h.bd hA hB)
  have HE := Lib.hid (fun (a b o : Nat) (h : Bt 9 A B 32 a b o) => h.ho.trans (log_small 9 A B hA hB))
  clear hA hB HF
  go_enter Try.func85, Try.ntmps85
  go_wp2
  go_loopw [1, 2, 7, 8, 9] (fun va vb vo vn vi wr => ∃ j a b o : Nat, j ≤ 32 ∧ va = .int .i64 a ∧ vb = .int .i64 b ∧ vo = .int .i64 o ∧ vn = .int .i64 ((2 ^ j : Nat) : Int) ∧ vi = .int .i64 j ∧ Hid (Bt 9 A B j a b o) ∧ wr = w) (fun _ _ _ _ vi _ => 32 - (intOf vi).toNat)
  case atStart => exact ⟨0, A, B, 0, by omega, rfl, rfl, rfl, rfl, rfl, H0, rfl⟩
  case round =>
    obtain ⟨j, a, b, o, hj, rfl, rfl, rfl, rfl, rfl, ht, rfl⟩ := hrel
    by_cases hlt : j < 32
    · have hI : (j : Int) < 32 := by omega
      have hn := Lib.hid ht.out.next
      obtain ⟨b1, b2, b3⟩ := HBd.out _ _ _ _ ht.out
      have hp : 2 ^ j ≤ 2147483648 := Nat.pow_le_pow_right (by decide) (show j ≤ 31 by omega)
      have HQ := Lib.hid (Nat.pow_succ (n := 2) (m := j))
      generalize 2 ^ j = q at *
      have hs : IntKind.i64.wrap ((o : Int) + (q : Int)) = (o : Int) + (q : Int) := by rw [IntKind.wrap_i64]; omega
      rcases par a with ⟨pa, ta, sa⟩ | ⟨pa, ta, sa⟩
      all_goals
        rcases par b with ⟨pb, tb, sb⟩ | ⟨pb, tb, sb⟩
        all_goals
          go_wp2
          go_roundw
          · exact ⟨j + 1, a / 2, b / 2, o + q * logN 9 (a % 2) (b % 2), by omega, rfl, rfl, nat_val (by rw [pa, pb]; simp [logN]), nat_val (by rw [HQ.out]; simp), rfl, hn, trivial⟩
          · simp [intOf]; omega
    · obtain rfl : j = 32 := by omega
      have HX := Lib.hid (HE.out _ _ _ ht.out)
      clear ht
      go_wp2
      go_ret
      exact ⟨by rw [HX.out]; rfl, Below.refl _ _⟩

theorem rBits_any (op : Int) (A B : Nat) (w : World) (hop : op = 7 ∨ op = 8 ∨ op = 9) (hA : A < 2 ^ 32) (hB : B < 2 ^ 32) : Calls Try.prog 85 #[.int .i64 op, .int .i64 A, .int .i64 B] w (Tells (.int .i64 (logN op A B : Nat)) w) := by
  rcases hop with rfl | rfl | rfl
  · exact rBits_7 A B w hA hB
  · exact rBits_8 A B w hA hB
  · exact rBits_9 A B w hA hB

end Go.Proofs.Ytbjmdehfdnpljaa.Ic

namespace Go.Proofs.Ytbjmdehfdnpljaa.Ic
open Go.RowKit

theorem do_fine {op k a b : Int} (hm : mayI op k = true) (h13 : op ≠ 13) (ha : isI k a = true) (hb : isI k b = true) : doE op k a b = 0 ∧ doR op k a b = doV op k a b := by
  have e : doE op k a b = 0 := by
    unfold doE
    rw [if_neg (by rw [hm]; simp [h13]), if_neg (by rw [ha, hb]; simp)]
  refine ⟨e, ?_⟩
  unfold doR
  rw [if_pos e]

set_option maxRecDepth 100000 in
set_option maxHeartbeats 4000000 in
theorem rDo_14 (k a b : Int) (w : World) (hm : mayI 14 k = true) (ha : isI k a = true) (hb : isI k b = true) : Calls Try.prog 72 #[.int .i64 14, .int .i64 k, .int .i64 a, .int .i64 b] w (Tells (.tuple #[.int .i64 (doV 14 k a b), .int .i64 0]) w) := by
  have HM := fun W => rMay_any 14 k W
  rw [hm] at HM
  replace HM := Lib.hid HM
  have HA := fun W => rIs_any k a W
  rw [ha] at HA
  replace HA := Lib.hid HA
  have HB := fun W => rIs_any k b W
  rw [hb] at HB
  replace HB := Lib.hid HB
  have hk : 2 ≤ k ∧ k ≤ 5 := by have := may_ops hm (by decide); omega
  obtain ⟨a1, a2⟩ := arith_bd hk.1 hk.2 ha
  obtain ⟨b1, b2⟩ := arith_bd hk.1 hk.2 hb
  clear hm ha hb hk
  have HW := Lib.hid (fun W => rWrap_any k (a + b) W (by omega) (by omega))
  have e1 : IntKind.i64.wrap (a + b) = a + b := by rw [IntKind.wrap_i64]; omega
  rw [show doV 14 k a b = wrapI k (a + b) from rfl]
  go_enter Try.func72, Try.ntmps72
  go_wp2_with fail
  refine (HM.out _).mono ?_
  rintro e w1 ⟨rfl, hb1⟩
  replace hb1 := Lib.hid hb1
  go_wp2_with fail
  refine (HA.out _).mono ?_
  rintro e w2 ⟨rfl, hb2⟩
  replace hb2 := Lib.hid (hb1.out.trans (hb2.mono hb1.out.size))
  clear hb1
  go_wp2_with fail
  refine (HB.out _).mono ?_
  rintro e w3 ⟨rfl, hb3⟩
  replace hb3 := Lib.hid (hb2.out.trans (hb3.mono hb2.out.size))
  clear hb2
  go_wp2_with fail
  refine (HW.out _).mono ?_
  rintro e w4 ⟨rfl, hb4⟩
  replace hb4 := Lib.hid (hb3.out.trans (hb4.mono hb3.out.size))
  clear hb3
  go_wp2
  refine bodyPost_ret (v := .tuple #[.int .i64 (wrapI k (a + b)), .int .i64 0]) (by simp [results, Try.results72, go_sem]) rfl ?_
  exact ⟨rfl, hb4.out⟩

set_option maxRecDepth 100000 in
set_option maxHeartbeats 4000000 in
theorem rDo_15 (k a b : Int) (w : World) (hm : mayI 15 k = true) (ha : isI k a = true) (hb : isI k b = true) : Calls Try.prog 72 #[.int .i64 15, .int .i64 k, .int .i64 a, .int .i64 b] w (Tells (.tuple #[.int .i64 (doV 15 k a b), .int .i64 0]) w) := by
  have HM := fun W => rMay_any 15 k W
  rw [hm] at HM
  replace HM := Lib.hid HM
  have HA := fun W => rIs_any k a W
  rw [ha] at HA
  replace HA := Lib.hid HA
  have HB := fun W => rIs_any k b W
  rw [hb] at HB
  replace HB := Lib.hid HB
  have hk : 2 ≤ k ∧ k ≤ 5 := by have := may_ops hm (by decide); omega
  obtain ⟨a1, a2⟩ := arith_bd hk.1 hk.2 ha
  obtain ⟨b1, b2⟩ := arith_bd hk.1 hk.2 hb
  clear hm ha hb hk
  have HW := Lib.hid (fun W => rWrap_any k (a - b) W (by omega) (by omega))
  have e1 : IntKind.i64.wrap (a - b) = a - b := by rw [IntKind.wrap_i64]; omega
  rw [show doV 15 k a b = wrapI k (a - b) from rfl]
  go_enter Try.func72, Try.ntmps72
  go_wp2_with fail
  refine (HM.out _).mono ?_
  rintro e w1 ⟨rfl, hb1⟩
  replace hb1 := Lib.hid hb1
  go_wp2_with fail
  refine (HA.out _).mono ?_
  rintro e w2 ⟨rfl, hb2⟩
  replace hb2 := Lib.hid (hb1.out.trans (hb2.mono hb1.out.size))
  clear hb1
  go_wp2_with fail
  refine (HB.out _).mono ?_
  rintro e w3 ⟨rfl, hb3⟩
  replace hb3 := Lib.hid (hb2.out.trans (hb3.mono hb2.out.size))
  clear hb2
  go_wp2_with fail
  refine (HW.out _).mono ?_
  rintro e w4 ⟨rfl, hb4⟩
  replace hb4 := Lib.hid (hb3.out.trans (hb4.mono hb3.out.size))
  clear hb3
  go_wp2
  refine bodyPost_ret (v := .tuple #[.int .i64 (wrapI k (a - b)), .int .i64 0]) (by simp [results, Try.results72, go_sem]) rfl ?_
  exact ⟨rfl, hb4.out⟩

set_option maxRecDepth 100000 in
set_option maxHeartbeats 4000000 in
theorem rDo_16 (k a b : Int) (w : World) (hm : mayI 16 k = true) (ha : isI k a = true) (hb : isI k b = true) : Calls Try.prog 72 #[.int .i64 16, .int .i64 k, .int .i64 a, .int .i64 b] w (Tells (.tuple #[.int .i64 (doV 16 k a b), .int .i64 0]) w) := by
  have HM := fun W => rMay_any 16 k W
  rw [hm] at HM
  replace HM := Lib.hid HM
  have HA := fun W => rIs_any k a W
  rw [ha] at HA
  replace HA := Lib.hid HA
  have HB := fun W => rIs_any k b W
  rw [hb] at HB
  replace HB := Lib.hid HB
  have hk : 2 ≤ k ∧ k ≤ 5 := by have := may_ops hm (by decide); omega
  obtain ⟨a1, a2⟩ := arith_bd hk.1 hk.2 ha
  obtain ⟨b1, b2⟩ := arith_bd hk.1 hk.2 hb
  clear hm ha hb hk
  obtain ⟨m1, m2⟩ := mul_bd a1 a2 b1 b2
  have HW := Lib.hid (fun W => rWrap_any k (a * b) W (by omega) (by omega))
  have e1 : IntKind.i64.wrap (a * b) = a * b := by rw [IntKind.wrap_i64]; omega
  rw [show doV 16 k a b = wrapI k (a * b) from rfl]
  clear m1 m2
  go_enter Try.func72, Try.ntmps72
  go_wp2_with fail
  refine (HM.out _).mono ?_
  rintro e w1 ⟨rfl, hb1⟩
  replace hb1 := Lib.hid hb1
  go_wp2_with fail
  refine (HA.out _).mono ?_
  rintro e w2 ⟨rfl, hb2⟩
  replace hb2 := Lib.hid (hb1.out.trans (hb2.mono hb1.out.size))
  clear hb1
  go_wp2_with fail
  refine (HB.out _).mono ?_
  rintro e w3 ⟨rfl, hb3⟩
  replace hb3 := Lib.hid (hb2.out.trans (hb3.mono hb2.out.size))
  clear hb2
  go_wp2_with fail
  refine (HW.out _).mono ?_
  rintro e w4 ⟨rfl, hb4⟩
  replace hb4 := Lib.hid (hb3.out.trans (hb4.mono hb3.out.size))
  clear hb3
  go_wp2
  refine bodyPost_ret (v := .tuple #[.int .i64 (wrapI k (a * b)), .int .i64 0]) (by simp [results, Try.results72, go_sem]) rfl ?_
  exact ⟨rfl, hb4.out⟩

set_option maxRecDepth 100000 in
set_option maxHeartbeats 4000000 in
theorem rDo_17 (k a b : Int) (w : World) (hm : mayI 17 k = true) (ha : isI k a = true) (hb : isI k b = true) : Calls Try.prog 72 #[.int .i64 17, .int .i64 k, .int .i64 a, .int .i64 b] w (Tells (.tuple #[.int .i64 (doV 17 k a b), .int .i64 0]) w) := by
  have HM := fun W => rMay_any 17 k W
  rw [hm] at HM
  replace HM := Lib.hid HM
  have HA := fun W => rIs_any k a W
  rw [ha] at HA
  replace HA := Lib.hid HA
  have HB := fun W => rIs_any k b W
  rw [hb] at HB
  replace HB := Lib.hid HB
  have hk : 2 ≤ k ∧ k ≤ 5 := by have := may_ops hm (by decide); omega
  obtain ⟨a1, a2⟩ := arith_bd hk.1 hk.2 ha
  obtain ⟨b1, b2⟩ := arith_bd hk.1 hk.2 hb
  clear hm ha hb hk
  obtain ⟨m1, m2⟩ := tdiv_bd a b a1 a2
  have HW := Lib.hid (fun W => rWrap_any k (a.tdiv b) W (by omega) (by omega))
  have e1 : IntKind.i64.wrap (a.tdiv b) = a.tdiv b := by rw [IntKind.wrap_i64]; omega
  rw [show doV 17 k a b = (if b = 0 then 0 else wrapI k (a.tdiv b)) from rfl]
  clear m1 m2
  by_cases h0 : b = 0
  · rw [if_pos h0]
    subst h0
    go_enter Try.func72, Try.ntmps72
    go_wp2_with fail
    refine (HM.out _).mono ?_
    rintro e w1 ⟨rfl, hb1⟩
    replace hb1 := Lib.hid hb1
    go_wp2_with fail
    refine (HA.out _).mono ?_
    rintro e w2 ⟨rfl, hb2⟩
    replace hb2 := Lib.hid (hb1.out.trans (hb2.mono hb1.out.size))
    clear hb1
    go_wp2_with fail
    refine (HB.out _).mono ?_
    rintro e w3 ⟨rfl, hb3⟩
    replace hb3 := Lib.hid (hb2.out.trans (hb3.mono hb2.out.size))
    clear hb2
    go_wp2
    refine bodyPost_ret (v := .tuple #[.int .i64 (0), .int .i64 0]) (by simp [results, Try.results72, go_sem]) rfl ?_
    exact ⟨rfl, hb3.out⟩
  · rw [if_neg h0]
    go_enter Try.func72, Try.ntmps72
    go_wp2_with fail
    refine (HM.out _).mono ?_
    rintro e w1 ⟨rfl, hb1⟩
    replace hb1 := Lib.hid hb1
    go_wp2_with fail
    refine (HA.out _).mono ?_
    rintro e w2 ⟨rfl, hb2⟩
    replace hb2 := Lib.hid (hb1.out.trans (hb2.mono hb1.out.size))
    clear hb1
    go_wp2_with fail
    refine (HB.out _).mono ?_
    rintro e w3 ⟨rfl, hb3⟩
    replace hb3 := Lib.hid (hb2.out.trans (hb3.mono hb2.out.size))
    clear hb2
    go_wp2_with fail
    refine (HW.out _).mono ?_
    rintro e w4 ⟨rfl, hb4⟩
    replace hb4 := Lib.hid (hb3.out.trans (hb4.mono hb3.out.size))
    clear hb3
    go_wp2
    refine bodyPost_ret (v := .tuple #[.int .i64 (wrapI k (a.tdiv b)), .int .i64 0]) (by simp [results, Try.results72, go_sem]) rfl ?_
    exact ⟨rfl, hb4.out⟩

set_option maxRecDepth 100000 in
set_option maxHeartbeats 4000000 in
theorem rDo_18 (k a b : Int) (w : World) (hm : mayI 18 k = true) (ha : isI k a = true) (hb : isI k b = true) : Calls Try.prog 72 #[.int .i64 18, .int .i64 k, .int .i64 a, .int .i64 b] w (Tells (.tuple #[.int .i64 (doV 18 k a b), .int .i64 0]) w) := by
  have HM := fun W => rMay_any 18 k W
  rw [hm] at HM
  replace HM := Lib.hid HM
  have HA := fun W => rIs_any k a W
  rw [ha] at HA
  replace HA := Lib.hid HA
  have HB := fun W => rIs_any k b W
  rw [hb] at HB
  replace HB := Lib.hid HB
  have hk : 2 ≤ k ∧ k ≤ 5 := by have := may_ops hm (by decide); omega
  obtain ⟨a1, a2⟩ := arith_bd hk.1 hk.2 ha
  obtain ⟨b1, b2⟩ := arith_bd hk.1 hk.2 hb
  clear hm ha hb hk
  obtain ⟨m1, m2⟩ := tmod_bd a b a1 a2
  have HW := Lib.hid (fun W => rWrap_any k (a.tmod b) W (by omega) (by omega))
  have e1 : IntKind.i64.wrap (a.tmod b) = a.tmod b := by rw [IntKind.wrap_i64]; omega
  rw [show doV 18 k a b = (if b = 0 then 0 else wrapI k (a.tmod b)) from rfl]
  clear m1 m2
  by_cases h0 : b = 0
  · rw [if_pos h0]
    subst h0
    go_enter Try.func72, Try.ntmps72
    go_wp2_with fail
    refine (HM.out _).mono ?_
    rintro e w1 ⟨rfl, hb1⟩
    replace hb1 := Lib.hid hb1
    go_wp2_with fail
    refine (HA.out _).mono ?_
    rintro e w2 ⟨rfl, hb2⟩
    replace hb2 := Lib.hid (hb1.out.trans (hb2.mono hb1.out.size))
    clear hb1
    go_wp2_with fail
    refine (HB.out _).mono ?_
    rintro e w3 ⟨rfl, hb3⟩
    replace hb3 := Lib.hid (hb2.out.trans (hb3.mono hb2.out.size))
    clear hb2
    go_wp2
    refine bodyPost_ret (v := .tuple #[.int .i64 (0), .int .i64 0]) (by simp [results, Try.results72, go_sem]) rfl ?_
    exact ⟨rfl, hb3.out⟩
  · rw [if_neg h0]
    go_enter Try.func72, Try.ntmps72
    go_wp2_with fail
    refine (HM.out _).mono ?_
    rintro e w1 ⟨rfl, hb1⟩
    replace hb1 := Lib.hid hb1
    go_wp2_with fail
    refine (HA.out _).mono ?_
    rintro e w2 ⟨rfl, hb2⟩
    replace hb2 := Lib.hid (hb1.out.trans (hb2.mono hb1.out.size))
    clear hb1
    go_wp2_with fail
    refine (HB.out _).mono ?_
    rintro e w3 ⟨rfl, hb3⟩
    replace hb3 := Lib.hid (hb2.out.trans (hb3.mono hb2.out.size))
    clear hb2
    go_wp2_with fail
    refine (HW.out _).mono ?_
    rintro e w4 ⟨rfl, hb4⟩
    replace hb4 := Lib.hid (hb3.out.trans (hb4.mono hb3.out.size))
    clear hb3
    go_wp2
    refine bodyPost_ret (v := .tuple #[.int .i64 (wrapI k (a.tmod b)), .int .i64 0]) (by simp [results, Try.results72, go_sem]) rfl ?_
    exact ⟨rfl, hb4.out⟩

set_option maxRecDepth 100000 in
set_option maxHeartbeats 4000000 in
theorem rDo_19 (k a b : Int) (w : World) (hm : mayI 19 k = true) (ha : isI k a = true) (hb : isI k b = true) : Calls Try.prog 72 #[.int .i64 19, .int .i64 k, .int .i64 a, .int .i64 b] w (Tells (.tuple #[.int .i64 (doV 19 k a b), .int .i64 0]) w) := by
  have HM := fun W => rMay_any 19 k W
  rw [hm] at HM
  replace HM := Lib.hid HM
  have HA := fun W => rIs_any k a W
  rw [ha] at HA
  replace HA := Lib.hid HA
  have HB := fun W => rIs_any k b W
  rw [hb] at HB
  replace HB := Lib.hid HB
  have HY := Lib.hid (fun W => rYes_any (decide (b < a)) W)
  rw [show doV 19 k a b = yesI (decide (b < a)) from rfl]
  clear hm ha hb
  go_enter Try.func72, Try.ntmps72
  go_wp2_with fail
  refine (HM.out _).mono ?_
  rintro e w1 ⟨rfl, hb1⟩
  replace hb1 := Lib.hid hb1
  go_wp2_with fail
  refine (HA.out _).mono ?_
  rintro e w2 ⟨rfl, hb2⟩
  replace hb2 := Lib.hid (hb1.out.trans (hb2.mono hb1.out.size))
  clear hb1
  go_wp2_with fail
  refine (HB.out _).mono ?_
  rintro e w3 ⟨rfl, hb3⟩
  replace hb3 := Lib.hid (hb2.out.trans (hb3.mono hb2.out.size))
  clear hb2
  go_wp2_with fail
  refine (HY.out _).mono ?_
  rintro e w4 ⟨rfl, hb4⟩
  replace hb4 := Lib.hid (hb3.out.trans (hb4.mono hb3.out.size))
  clear hb3
  go_wp2
  refine bodyPost_ret (v := .tuple #[.int .i64 (yesI (decide (b < a))), .int .i64 0]) (by simp [results, Try.results72, go_sem]) rfl ?_
  exact ⟨rfl, hb4.out⟩

set_option maxRecDepth 100000 in
set_option maxHeartbeats 4000000 in
theorem rDo_20 (k a b : Int) (w : World) (hm : mayI 20 k = true) (ha : isI k a = true) (hb : isI k b = true) : Calls Try.prog 72 #[.int .i64 20, .int .i64 k, .int .i64 a, .int .i64 b] w (Tells (.tuple #[.int .i64 (doV 20 k a b), .int .i64 0]) w) := by
  have HM := fun W => rMay_any 20 k W
  rw [hm] at HM
  replace HM := Lib.hid HM
  have HA := fun W => rIs_any k a W
  rw [ha] at HA
  replace HA := Lib.hid HA
  have HB := fun W => rIs_any k b W
  rw [hb] at HB
  replace HB := Lib.hid HB
  have HY := Lib.hid (fun W => rYes_any (decide (b ≤ a)) W)
  rw [show doV 20 k a b = yesI (decide (b ≤ a)) from rfl]
  clear hm ha hb
  go_enter Try.func72, Try.ntmps72
  go_wp2_with fail
  refine (HM.out _).mono ?_
  rintro e w1 ⟨rfl, hb1⟩
  replace hb1 := Lib.hid hb1
  go_wp2_with fail
  refine (HA.out _).mono ?_
  rintro e w2 ⟨rfl, hb2⟩
  replace hb2 := Lib.hid (hb1.out.trans (hb2.mono hb1.out.size))
  clear hb1
  go_wp2_with fail
  refine (HB.out _).mono ?_
  rintro e w3 ⟨rfl, hb3⟩
  replace hb3 := Lib.hid (hb2.out.trans (hb3.mono hb2.out.size))
  clear hb2
  go_wp2_with fail
  refine (HY.out _).mono ?_
  rintro e w4 ⟨rfl, hb4⟩
  replace hb4 := Lib.hid (hb3.out.trans (hb4.mono hb3.out.size))
  clear hb3
  go_wp2
  refine bodyPost_ret (v := .tuple #[.int .i64 (yesI (decide (b ≤ a))), .int .i64 0]) (by simp [results, Try.results72, go_sem]) rfl ?_
  exact ⟨rfl, hb4.out⟩

set_option maxRecDepth 100000 in
set_option maxHeartbeats 4000000 in
theorem rDo_23 (k a b : Int) (w : World) (hm : mayI 23 k = true) (ha : isI k a = true) (hb : isI k b = true) : Calls Try.prog 72 #[.int .i64 23, .int .i64 k, .int .i64 a, .int .i64 b] w (Tells (.tuple #[.int .i64 (doV 23 k a b), .int .i64 0]) w) := by
  have HM := fun W => rMay_any 23 k W
  rw [hm] at HM
  replace HM := Lib.hid HM
  have HA := fun W => rIs_any k a W
  rw [ha] at HA
  replace HA := Lib.hid HA
  have HB := fun W => rIs_any k b W
  rw [hb] at HB
  replace HB := Lib.hid HB
  have HY := Lib.hid (fun W => rYes_any (decide (a ≤ b)) W)
  rw [show doV 23 k a b = yesI (decide (a ≤ b)) from rfl]
  clear hm ha hb
  go_enter Try.func72, Try.ntmps72
  go_wp2_with fail
  refine (HM.out _).mono ?_
  rintro e w1 ⟨rfl, hb1⟩
  replace hb1 := Lib.hid hb1
  go_wp2_with fail
  refine (HA.out _).mono ?_
  rintro e w2 ⟨rfl, hb2⟩
  replace hb2 := Lib.hid (hb1.out.trans (hb2.mono hb1.out.size))
  clear hb1
  go_wp2_with fail
  refine (HB.out _).mono ?_
  rintro e w3 ⟨rfl, hb3⟩
  replace hb3 := Lib.hid (hb2.out.trans (hb3.mono hb2.out.size))
  clear hb2
  go_wp2_with fail
  refine (HY.out _).mono ?_
  rintro e w4 ⟨rfl, hb4⟩
  replace hb4 := Lib.hid (hb3.out.trans (hb4.mono hb3.out.size))
  clear hb3
  go_wp2
  refine bodyPost_ret (v := .tuple #[.int .i64 (yesI (decide (a ≤ b))), .int .i64 0]) (by simp [results, Try.results72, go_sem]) rfl ?_
  exact ⟨rfl, hb4.out⟩

set_option maxRecDepth 100000 in
set_option maxHeartbeats 4000000 in
theorem rDo_24 (k a b : Int) (w : World) (hm : mayI 24 k = true) (ha : isI k a = true) (hb : isI k b = true) : Calls Try.prog 72 #[.int .i64 24, .int .i64 k, .int .i64 a, .int .i64 b] w (Tells (.tuple #[.int .i64 (doV 24 k a b), .int .i64 0]) w) := by
  have HM := fun W => rMay_any 24 k W
  rw [hm] at HM
  replace HM := Lib.hid HM
  have HA := fun W => rIs_any k a W
  rw [ha] at HA
  replace HA := Lib.hid HA
  have HB := fun W => rIs_any k b W
  rw [hb] at HB
  replace HB := Lib.hid HB
  have HY := Lib.hid (fun W => rYes_any (decide (a < b)) W)
  rw [show doV 24 k a b = yesI (decide (a < b)) from rfl]
  clear hm ha hb
  go_enter Try.func72, Try.ntmps72
  go_wp2_with fail
  refine (HM.out _).mono ?_
  rintro e w1 ⟨rfl, hb1⟩
  replace hb1 := Lib.hid hb1
  go_wp2_with fail
  refine (HA.out _).mono ?_
  rintro e w2 ⟨rfl, hb2⟩
  replace hb2 := Lib.hid (hb1.out.trans (hb2.mono hb1.out.size))
  clear hb1
  go_wp2_with fail
  refine (HB.out _).mono ?_
  rintro e w3 ⟨rfl, hb3⟩
  replace hb3 := Lib.hid (hb2.out.trans (hb3.mono hb2.out.size))
  clear hb2
  go_wp2_with fail
  refine (HY.out _).mono ?_
  rintro e w4 ⟨rfl, hb4⟩
  replace hb4 := Lib.hid (hb3.out.trans (hb4.mono hb3.out.size))
  clear hb3
  go_wp2
  refine bodyPost_ret (v := .tuple #[.int .i64 (yesI (decide (a < b))), .int .i64 0]) (by simp [results, Try.results72, go_sem]) rfl ?_
  exact ⟨rfl, hb4.out⟩

set_option maxRecDepth 100000 in
set_option maxHeartbeats 4000000 in
theorem rDo_21 (k a b : Int) (w : World) (hm : mayI 21 k = true) (ha : isI k a = true) (hb : isI k b = true) : Calls Try.prog 72 #[.int .i64 21, .int .i64 k, .int .i64 a, .int .i64 b] w (Tells (.tuple #[.int .i64 (doV 21 k a b), .int .i64 0]) w) := by
  have HM := fun W => rMay_any 21 k W
  rw [hm] at HM
  replace HM := Lib.hid HM
  have HA := fun W => rIs_any k a W
  rw [ha] at HA
  replace HA := Lib.hid HA
  have HB := fun W => rIs_any k b W
  rw [hb] at HB
  replace HB := Lib.hid HB
  have HY := Lib.hid (fun W => rYes_any (a == b) W)
  rw [show doV 21 k a b = yesI (a == b) from by
    show yesI (decide (a = b)) = _
    first | (congr 1; done) | (congr 1; by_cases h : a = b <;> simp [h])]
  clear hm ha hb
  go_enter Try.func72, Try.ntmps72
  go_wp2_with fail
  refine (HM.out _).mono ?_
  rintro e w1 ⟨rfl, hb1⟩
  replace hb1 := Lib.hid hb1
  go_wp2_with fail
  refine (HA.out _).mono ?_
  rintro e w2 ⟨rfl, hb2⟩
  replace hb2 := Lib.hid (hb1.out.trans (hb2.mono hb1.out.size))
  clear hb1
  go_wp2_with fail
  refine (HB.out _).mono ?_
  rintro e w3 ⟨rfl, hb3⟩
  replace hb3 := Lib.hid (hb2.out.trans (hb3.mono hb2.out.size))
  clear hb2
  go_wp2_with fail
  refine (HY.out _).mono ?_
  rintro e w4 ⟨rfl, hb4⟩
  replace hb4 := Lib.hid (hb3.out.trans (hb4.mono hb3.out.size))
  clear hb3
  go_wp2
  refine bodyPost_ret (v := .tuple #[.int .i64 (yesI (a == b)), .int .i64 0]) (by simp [results, Try.results72, go_sem]) rfl ?_
  exact ⟨rfl, hb4.out⟩

set_option maxRecDepth 100000 in
set_option maxHeartbeats 4000000 in
theorem rDo_22 (k a b : Int) (w : World) (hm : mayI 22 k = true) (ha : isI k a = true) (hb : isI k b = true) : Calls Try.prog 72 #[.int .i64 22, .int .i64 k, .int .i64 a, .int .i64 b] w (Tells (.tuple #[.int .i64 (doV 22 k a b), .int .i64 0]) w) := by
  have HM := fun W => rMay_any 22 k W
  rw [hm] at HM
  replace HM := Lib.hid HM
  have HA := fun W => rIs_any k a W
  rw [ha] at HA
  replace HA := Lib.hid HA
  have HB := fun W => rIs_any k b W
  rw [hb] at HB
  replace HB := Lib.hid HB
  have HY := Lib.hid (fun W => rYes_any (a != b) W)
  rw [show doV 22 k a b = yesI (a != b) from by
    show yesI (decide (a ≠ b)) = _
    first | (congr 1; done) | (congr 1; by_cases h : a = b <;> simp [h])]
  clear hm ha hb
  go_enter Try.func72, Try.ntmps72
  go_wp2_with fail
  refine (HM.out _).mono ?_
  rintro e w1 ⟨rfl, hb1⟩
  replace hb1 := Lib.hid hb1
  go_wp2_with fail
  refine (HA.out _).mono ?_
  rintro e w2 ⟨rfl, hb2⟩
  replace hb2 := Lib.hid (hb1.out.trans (hb2.mono hb1.out.size))
  clear hb1
  go_wp2_with fail
  refine (HB.out _).mono ?_
  rintro e w3 ⟨rfl, hb3⟩
  replace hb3 := Lib.hid (hb2.out.trans (hb3.mono hb2.out.size))
  clear hb2
  go_wp2_with fail
  refine (HY.out _).mono ?_
  rintro e w4 ⟨rfl, hb4⟩
  replace hb4 := Lib.hid (hb3.out.trans (hb4.mono hb3.out.size))
  clear hb3
  go_wp2
  refine bodyPost_ret (v := .tuple #[.int .i64 (yesI (a != b)), .int .i64 0]) (by simp [results, Try.results72, go_sem]) rfl ?_
  exact ⟨rfl, hb4.out⟩

set_option maxRecDepth 100000 in
set_option maxHeartbeats 4000000 in
theorem rDo_7 (k a b : Int) (w : World) (hm : mayI 7 k = true) (ha : isI k a = true) (hb : isI k b = true) : Calls Try.prog 72 #[.int .i64 7, .int .i64 k, .int .i64 a, .int .i64 b] w (Tells (.tuple #[.int .i64 (doV 7 k a b), .int .i64 0]) w) := by
  have HM := fun W => rMay_any 7 k W
  rw [hm] at HM
  replace HM := Lib.hid HM
  have HA := fun W => rIs_any k a W
  rw [ha] at HA
  replace HA := Lib.hid HA
  have HB := fun W => rIs_any k b W
  rw [hb] at HB
  replace HB := Lib.hid HB
  have hk : k = 1 ∨ k = 6 ∨ k = 7 := by have := may_ops hm (by decide); omega
  obtain ⟨a1, a2⟩ := logic_bd hk ha
  obtain ⟨b1, b2⟩ := logic_bd hk hb
  clear hm ha hb hk
  obtain ⟨A, rfl⟩ : ∃ A : Nat, a = A := ⟨a.toNat, by omega⟩
  obtain ⟨B, rfl⟩ : ∃ B : Nat, b = B := ⟨b.toNat, by omega⟩
  have HL := Lib.hid (fun W => rBits_7 A B W (by omega) (by omega))
  rw [show doV 7 k A B = ((logN 7 A B : Nat) : Int) from rfl]
  clear a1 a2 b1 b2
  go_enter Try.func72, Try.ntmps72
  go_wp2_with fail
  refine (HM.out _).mono ?_
  rintro e w1 ⟨rfl, hb1⟩
  replace hb1 := Lib.hid hb1
  go_wp2_with fail
  refine (HA.out _).mono ?_
  rintro e w2 ⟨rfl, hb2⟩
  replace hb2 := Lib.hid (hb1.out.trans (hb2.mono hb1.out.size))
  clear hb1
  go_wp2_with fail
  refine (HB.out _).mono ?_
  rintro e w3 ⟨rfl, hb3⟩
  replace hb3 := Lib.hid (hb2.out.trans (hb3.mono hb2.out.size))
  clear hb2
  go_wp2_with fail
  refine (HL.out _).mono ?_
  rintro e w4 ⟨rfl, hb4⟩
  replace hb4 := Lib.hid (hb3.out.trans (hb4.mono hb3.out.size))
  clear hb3
  go_wp2
  refine bodyPost_ret (v := .tuple #[.int .i64 (((logN 7 A B : Nat) : Int)), .int .i64 0]) (by simp [results, Try.results72, go_sem]) rfl ?_
  exact ⟨rfl, hb4.out⟩

set_option maxRecDepth 100000 in
set_option maxHeartbeats 4000000 in
theorem rDo_8 (k a b : Int) (w : World) (hm : mayI 8 k = true) (ha : isI k a = true) (hb : isI k b = true) : Calls Try.prog 72 #[.int .i64 8, .int .i64 k, .int .i64 a, .int .i64 b] w (Tells (.tuple #[.int .i64 (doV 8 k a b), .int .i64 0]) w) := by
  have HM := fun W => rMay_any 8 k W
  rw [hm] at HM
  replace HM := Lib.hid HM
  have HA := fun W => rIs_any k a W
  rw [ha] at HA
  replace HA := Lib.hid HA
  have HB := fun W => rIs_any k b W
  rw [hb] at HB
  replace HB := Lib.hid HB
  have hk : k = 1 ∨ k = 6 ∨ k = 7 := by have := may_ops hm (by decide); omega
  obtain ⟨a1, a2⟩ := logic_bd hk ha
  obtain ⟨b1, b2⟩ := logic_bd hk hb
  clear hm ha hb hk
  obtain ⟨A, rfl⟩ : ∃ A : Nat, a = A := ⟨a.toNat, by omega⟩
  obtain ⟨B, rfl⟩ : ∃ B : Nat, b = B := ⟨b.toNat, by omega⟩
  have HL := Lib.hid (fun W => rBits_8 A B W (by omega) (by omega))
  rw [show doV 8 k A B = ((logN 8 A B : Nat) : Int) from rfl]
  clear a1 a2 b1 b2
  go_enter Try.func72, Try.ntmps72
  go_wp2_with fail
  refine (HM.out _).mono ?_
  rintro e w1 ⟨rfl, hb1⟩
  replace hb1 := Lib.hid hb1
  go_wp2_with fail
  refine (HA.out _).mono ?_
  rintro e w2 ⟨rfl, hb2⟩
  replace hb2 := Lib.hid (hb1.out.trans (hb2.mono hb1.out.size))
  clear hb1
  go_wp2_with fail
  refine (HB.out _).mono ?_
  rintro e w3 ⟨rfl, hb3⟩
  replace hb3 := Lib.hid (hb2.out.trans (hb3.mono hb2.out.size))
  clear hb2
  go_wp2_with fail
  refine (HL.out _).mono ?_
  rintro e w4 ⟨rfl, hb4⟩
  replace hb4 := Lib.hid (hb3.out.trans (hb4.mono hb3.out.size))
  clear hb3
  go_wp2
  refine bodyPost_ret (v := .tuple #[.int .i64 (((logN 8 A B : Nat) : Int)), .int .i64 0]) (by simp [results, Try.results72, go_sem]) rfl ?_
  exact ⟨rfl, hb4.out⟩

set_option maxRecDepth 100000 in
set_option maxHeartbeats 4000000 in
theorem rDo_9 (k a b : Int) (w : World) (hm : mayI 9 k = true) (ha : isI k a = true) (hb : isI k b = true) : Calls Try.prog 72 #[.int .i64 9, .int .i64 k, .int .i64 a, .int .i64 b] w (Tells (.tuple #[.int .i64 (doV 9 k a b), .int .i64 0]) w) := by
  have HM := fun W => rMay_any 9 k W
  rw [hm] at HM
  replace HM := Lib.hid HM
  have HA := fun W => rIs_any k a W
  rw [ha] at HA
  replace HA := Lib.hid HA
  have HB := fun W => rIs_any k b W
  rw [hb] at HB
  replace HB := Lib.hid HB
  have hk : k = 1 ∨ k = 6 ∨ k = 7 := by have := may_ops hm (by decide); omega
  obtain ⟨a1, a2⟩ := logic_bd hk ha
  obtain ⟨b1, b2⟩ := logic_bd hk hb
  clear hm ha hb hk
  obtain ⟨A, rfl⟩ : ∃ A : Nat, a = A := ⟨a.toNat, by omega⟩
  obtain ⟨B, rfl⟩ : ∃ B : Nat, b = B := ⟨b.toNat, by omega⟩
  have HL := Lib.hid (fun W => rBits_9 A B W (by omega) (by omega))
  rw [show doV 9 k A B = ((logN 9 A B : Nat) : Int) from rfl]
  clear a1 a2 b1 b2
  go_enter Try.func72, Try.ntmps72
  go_wp2_with fail
  refine (HM.out _).mono ?_
  rintro e w1 ⟨rfl, hb1⟩
  replace hb1 := Lib.hid hb1
  go_wp2_with fail
  refine (HA.out _).mono ?_
  rintro e w2 ⟨rfl, hb2⟩
  replace hb2 := Lib.hid (hb1.out.trans (hb2.mono hb1.out.size))
  clear hb1
  go_wp2_with fail
  refine (HB.out _).mono ?_
  rintro e w3 ⟨rfl, hb3⟩
  replace hb3 := Lib.hid (hb2.out.trans (hb3.mono hb2.out.size))
  clear hb2
  go_wp2_with fail
  refine (HL.out _).mono ?_
  rintro e w4 ⟨rfl, hb4⟩
  replace hb4 := Lib.hid (hb3.out.trans (hb4.mono hb3.out.size))
  clear hb3
  go_wp2
  refine bodyPost_ret (v := .tuple #[.int .i64 (((logN 9 A B : Nat) : Int)), .int .i64 0]) (by simp [results, Try.results72, go_sem]) rfl ?_
  exact ⟨rfl, hb4.out⟩

set_option maxRecDepth 100000 in
set_option maxHeartbeats 4000000 in
theorem rDo_10 (k a b : Int) (w : World) (hm : mayI 10 k = true) (ha : isI k a = true) (hb : isI k b = true) : Calls Try.prog 72 #[.int .i64 10, .int .i64 k, .int .i64 a, .int .i64 b] w (Tells (.tuple #[.int .i64 (doV 10 k a b), .int .i64 0]) w) := by
  have HM := fun W => rMay_any 10 k W
  rw [hm] at HM
  replace HM := Lib.hid HM
  have HA := fun W => rIs_any k a W
  rw [ha] at HA
  replace HA := Lib.hid HA
  have HB := fun W => rIs_any k b W
  rw [hb] at HB
  replace HB := Lib.hid HB
  have hk : k = 1 ∨ k = 6 ∨ k = 7 := by have := may_ops hm (by decide); omega
  obtain ⟨a1, a2⟩ := logic_bd hk ha
  obtain ⟨b1, b2⟩ := not_bd hk hb
  have HN := fun W => rNot_any k b W
  rw [show doV 10 k a b = logI 7 a (notI k b) from rfl]
  clear hm ha hb hk
  obtain ⟨A, rfl⟩ : ∃ A : Nat, a = A := ⟨a.toNat, by omega⟩
  obtain ⟨B, hB⟩ : ∃ B : Nat, notI k b = B := ⟨(notI k b).toNat, by omega⟩
  rw [hB] at b1 b2 HN ⊢
  replace HN := Lib.hid HN
  have HL := Lib.hid (fun W => rBits_7 A B W (by omega) (by omega))
  rw [show logI 7 A B = ((logN 7 A B : Nat) : Int) from rfl]
  clear a1 a2 b1 b2 hB
  go_enter Try.func72, Try.ntmps72
  go_wp2_with fail
  refine (HM.out _).mono ?_
  rintro e w1 ⟨rfl, hb1⟩
  replace hb1 := Lib.hid hb1
  go_wp2_with fail
  refine (HA.out _).mono ?_
  rintro e w2 ⟨rfl, hb2⟩
  replace hb2 := Lib.hid (hb1.out.trans (hb2.mono hb1.out.size))
  clear hb1
  go_wp2_with fail
  refine (HB.out _).mono ?_
  rintro e w3 ⟨rfl, hb3⟩
  replace hb3 := Lib.hid (hb2.out.trans (hb3.mono hb2.out.size))
  clear hb2
  go_wp2_with fail
  refine (HN.out _).mono ?_
  rintro e w4 ⟨rfl, hb4⟩
  replace hb4 := Lib.hid (hb3.out.trans (hb4.mono hb3.out.size))
  clear hb3
  go_wp2_with fail
  refine (HL.out _).mono ?_
  rintro e w5 ⟨rfl, hb5⟩
  replace hb5 := Lib.hid (hb4.out.trans (hb5.mono hb4.out.size))
  clear hb4
  go_wp2
  refine bodyPost_ret (v := .tuple #[.int .i64 (((logN 7 A B : Nat) : Int)), .int .i64 0]) (by simp [results, Try.results72, go_sem]) rfl ?_
  exact ⟨rfl, hb5.out⟩

set_option maxRecDepth 100000 in
set_option maxHeartbeats 4000000 in
theorem rDo_11 (k a b : Int) (w : World) (hm : mayI 11 k = true) (ha : isI k a = true) (hb : isI k b = true) : Calls Try.prog 72 #[.int .i64 11, .int .i64 k, .int .i64 a, .int .i64 b] w (Tells (.tuple #[.int .i64 (doV 11 k a b), .int .i64 0]) w) := by
  have HM := fun W => rMay_any 11 k W
  rw [hm] at HM
  replace HM := Lib.hid HM
  have HA := fun W => rIs_any k a W
  rw [ha] at HA
  replace HA := Lib.hid HA
  have HB := fun W => rIs_any k b W
  rw [hb] at HB
  replace HB := Lib.hid HB
  have hk : k = 1 ∨ k = 6 ∨ k = 7 := by have := may_ops hm (by decide); omega
  obtain ⟨a1, a2⟩ := logic_bd hk ha
  obtain ⟨b1, b2⟩ := not_bd hk hb
  have HN := fun W => rNot_any k b W
  rw [show doV 11 k a b = logI 8 a (notI k b) from rfl]
  clear hm ha hb hk
  obtain ⟨A, rfl⟩ : ∃ A : Nat, a = A := ⟨a.toNat, by omega⟩
  obtain ⟨B, hB⟩ : ∃ B : Nat, notI k b = B := ⟨(notI k b).toNat, by omega⟩
  rw [hB] at b1 b2 HN ⊢
  replace HN := Lib.hid HN
  have HL := Lib.hid (fun W => rBits_8 A B W (by omega) (by omega))
  rw [show logI 8 A B = ((logN 8 A B : Nat) : Int) from rfl]
  clear a1 a2 b1 b2 hB
  go_enter Try.func72, Try.ntmps72
  go_wp2_with fail
  refine (HM.out _).mono ?_
  rintro e w1 ⟨rfl, hb1⟩
  replace hb1 := Lib.hid hb1
  go_wp2_with fail
  refine (HA.out _).mono ?_
  rintro e w2 ⟨rfl, hb2⟩
  replace hb2 := Lib.hid (hb1.out.trans (hb2.mono hb1.out.size))
  clear hb1
  go_wp2_with fail
  refine (HB.out _).mono ?_
  rintro e w3 ⟨rfl, hb3⟩
  replace hb3 := Lib.hid (hb2.out.trans (hb3.mono hb2.out.size))
  clear hb2
  go_wp2_with fail
  refine (HN.out _).mono ?_
  rintro e w4 ⟨rfl, hb4⟩
  replace hb4 := Lib.hid (hb3.out.trans (hb4.mono hb3.out.size))
  clear hb3
  go_wp2_with fail
  refine (HL.out _).mono ?_
  rintro e w5 ⟨rfl, hb5⟩
  replace hb5 := Lib.hid (hb4.out.trans (hb5.mono hb4.out.size))
  clear hb4
  go_wp2
  refine bodyPost_ret (v := .tuple #[.int .i64 (((logN 8 A B : Nat) : Int)), .int .i64 0]) (by simp [results, Try.results72, go_sem]) rfl ?_
  exact ⟨rfl, hb5.out⟩

set_option maxRecDepth 100000 in
set_option maxHeartbeats 4000000 in
theorem rDo_12 (k a b : Int) (w : World) (hm : mayI 12 k = true) (ha : isI k a = true) (hb : isI k b = true) : Calls Try.prog 72 #[.int .i64 12, .int .i64 k, .int .i64 a, .int .i64 b] w (Tells (.tuple #[.int .i64 (doV 12 k a b), .int .i64 0]) w) := by
  have HM := fun W => rMay_any 12 k W
  rw [hm] at HM
  replace HM := Lib.hid HM
  have HA := fun W => rIs_any k a W
  rw [ha] at HA
  replace HA := Lib.hid HA
  have HB := fun W => rIs_any k b W
  rw [hb] at HB
  replace HB := Lib.hid HB
  have hk : k = 1 ∨ k = 6 ∨ k = 7 := by have := may_ops hm (by decide); omega
  obtain ⟨a1, a2⟩ := logic_bd hk ha
  obtain ⟨b1, b2⟩ := not_bd hk hb
  have HN := fun W => rNot_any k b W
  rw [show doV 12 k a b = logI 9 a (notI k b) from rfl]
  clear hm ha hb hk
  obtain ⟨A, rfl⟩ : ∃ A : Nat, a = A := ⟨a.toNat, by omega⟩
  obtain ⟨B, hB⟩ : ∃ B : Nat, notI k b = B := ⟨(notI k b).toNat, by omega⟩
  rw [hB] at b1 b2 HN ⊢
  replace HN := Lib.hid HN
  have HL := Lib.hid (fun W => rBits_9 A B W (by omega) (by omega))
  rw [show logI 9 A B = ((logN 9 A B : Nat) : Int) from rfl]
  clear a1 a2 b1 b2 hB
  go_enter Try.func72, Try.ntmps72
  go_wp2_with fail
  refine (HM.out _).mono ?_
  rintro e w1 ⟨rfl, hb1⟩
  replace hb1 := Lib.hid hb1
  go_wp2_with fail
  refine (HA.out _).mono ?_
  rintro e w2 ⟨rfl, hb2⟩
  replace hb2 := Lib.hid (hb1.out.trans (hb2.mono hb1.out.size))
  clear hb1
  go_wp2_with fail
  refine (HB.out _).mono ?_
  rintro e w3 ⟨rfl, hb3⟩
  replace hb3 := Lib.hid (hb2.out.trans (hb3.mono hb2.out.size))
  clear hb2
  go_wp2_with fail
  refine (HN.out _).mono ?_
  rintro e w4 ⟨rfl, hb4⟩
  replace hb4 := Lib.hid (hb3.out.trans (hb4.mono hb3.out.size))
  clear hb3
  go_wp2_with fail
  refine (HL.out _).mono ?_
  rintro e w5 ⟨rfl, hb5⟩
  replace hb5 := Lib.hid (hb4.out.trans (hb5.mono hb4.out.size))
  clear hb4
  go_wp2
  refine bodyPost_ret (v := .tuple #[.int .i64 (((logN 9 A B : Nat) : Int)), .int .i64 0]) (by simp [results, Try.results72, go_sem]) rfl ?_
  exact ⟨rfl, hb5.out⟩

set_option maxRecDepth 100000 in
set_option maxHeartbeats 8000000 in
theorem rDo_any (op k a b : Int) (w : World) : Calls Try.prog 72 #[.int .i64 op, .int .i64 k, .int .i64 a, .int .i64 b] w (Tells (.tuple #[.int .i64 (doR op k a b), .int .i64 (doE op k a b)]) w) := by
  have HM := fun W => rMay_any op k W
  have HA := fun W => rIs_any k a W
  have HB := fun W => rIs_any k b W
  have h6 : ∀ {x : Int}, doE op k a b = x → x ≠ 0 → doR op k a b = 0 := fun h hx => by unfold doR; rw [h, if_neg hx]
  by_cases hm : mayI op k = true
  · rw [hm] at HM
    replace HM := Lib.hid HM
    by_cases h13 : op = 13
    · have e : doE op k a b = 6 := by unfold doE; rw [if_pos (.inr h13)]
      rw [h6 e (by decide), e]
      subst h13
      clear HA HB h6 e hm
      go_enter Try.func72, Try.ntmps72
      go_wp2_with fail
      refine (HM.out _).mono ?_
      rintro e w1 ⟨rfl, hb1⟩
      go_wp2
      refine bodyPost_ret (v := .tuple #[.int .i64 0, .int .i64 6]) (by simp [results, Try.results72, go_sem]) rfl ?_
      exact ⟨rfl, hb1⟩
    · by_cases ha : isI k a = true
      · by_cases hb : isI k b = true
        · obtain ⟨e1, e2⟩ := do_fine hm h13 ha hb
          rw [e1, e2]
          have ho := may_ops hm h13
          clear HM HA HB h6 e1 e2
          obtain rfl | rfl | rfl | rfl | rfl | rfl | rfl | rfl | rfl | rfl | rfl | rfl | rfl | rfl | rfl | rfl | rfl : op = 7 ∨ op = 8 ∨ op = 9 ∨ op = 10 ∨ op = 11 ∨ op = 12 ∨ op = 14 ∨ op = 15 ∨ op = 16 ∨ op = 17 ∨ op = 18 ∨ op = 19 ∨ op = 20 ∨ op = 21 ∨ op = 22 ∨ op = 23 ∨ op = 24 := by omega
          · exact rDo_7 k a b w hm ha hb
          · exact rDo_8 k a b w hm ha hb
          · exact rDo_9 k a b w hm ha hb
          · exact rDo_10 k a b w hm ha hb
          · exact rDo_11 k a b w hm ha hb
          · exact rDo_12 k a b w hm ha hb
          · exact rDo_14 k a b w hm ha hb
          · exact rDo_15 k a b w hm ha hb
          · exact rDo_16 k a b w hm ha hb
          · exact rDo_17 k a b w hm ha hb
          · exact rDo_18 k a b w hm ha hb
          · exact rDo_19 k a b w hm ha hb
          · exact rDo_20 k a b w hm ha hb
          · exact rDo_21 k a b w hm ha hb
          · exact rDo_22 k a b w hm ha hb
          · exact rDo_23 k a b w hm ha hb
          · exact rDo_24 k a b w hm ha hb
        · have e : doE op k a b = 1 := by
            unfold doE
            rw [if_neg (by rw [hm]; simp [h13]), if_pos (.inr (by simpa using hb))]
          rw [h6 e (by decide), e]
          rw [ha] at HA
          rw [show isI k b = false by simpa using hb] at HB
          replace HA := Lib.hid HA
          replace HB := Lib.hid HB
          clear h6 e hm ha hb
          go_enter Try.func72, Try.ntmps72
          go_wp2_with fail
          refine (HM.out _).mono ?_
          rintro e w1 ⟨rfl, hb1⟩
          replace hb1 := Lib.hid hb1
          go_wp2_with fail
          refine (HA.out _).mono ?_
          rintro e w2 ⟨rfl, hb2⟩
          replace hb2 := Lib.hid (hb1.out.trans (hb2.mono hb1.out.size))
          clear hb1
          go_wp2_with fail
          refine (HB.out _).mono ?_
          rintro e w3 ⟨rfl, hb3⟩
          replace hb3 := Lib.hid (hb2.out.trans (hb3.mono hb2.out.size))
          clear hb2
          go_wp2
          refine bodyPost_ret (v := .tuple #[.int .i64 0, .int .i64 1]) (by simp [results, Try.results72, go_sem]) rfl ?_
          exact ⟨rfl, hb3.out⟩
      · have e : doE op k a b = 1 := by
          unfold doE
          rw [if_neg (by rw [hm]; simp [h13]), if_pos (.inl (by simpa using ha))]
        rw [h6 e (by decide), e]
        rw [show isI k a = false by simpa using ha] at HA
        replace HA := Lib.hid HA
        clear h6 e hm ha HB
        go_enter Try.func72, Try.ntmps72
        go_wp2_with fail
        refine (HM.out _).mono ?_
        rintro e w1 ⟨rfl, hb1⟩
        replace hb1 := Lib.hid hb1
        go_wp2_with fail
        refine (HA.out _).mono ?_
        rintro e w2 ⟨rfl, hb2⟩
        replace hb2 := Lib.hid (hb1.out.trans (hb2.mono hb1.out.size))
        clear hb1
        go_wp2
        refine bodyPost_ret (v := .tuple #[.int .i64 0, .int .i64 1]) (by simp [results, Try.results72, go_sem]) rfl ?_
        exact ⟨rfl, hb2.out⟩
  · have e : doE op k a b = 6 := by unfold doE; rw [if_pos (.inl (by simpa using hm))]
    rw [h6 e (by decide), e]
    rw [show mayI op k = false by simpa using hm] at HM
    replace HM := Lib.hid HM
    clear HA HB h6 e hm
    go_enter Try.func72, Try.ntmps72
    go_wp2_with fail
    refine (HM.out _).mono ?_
    rintro e w1 ⟨rfl, hb1⟩
    go_wp2
    refine bodyPost_ret (v := .tuple #[.int .i64 0, .int .i64 6]) (by simp [results, Try.results72, go_sem]) rfl ?_
    exact ⟨rfl, hb1⟩

end Go.Proofs.Ytbjmdehfdnpljaa.Ic
