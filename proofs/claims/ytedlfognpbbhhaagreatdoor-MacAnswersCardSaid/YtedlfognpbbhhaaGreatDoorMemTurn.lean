/-
  Turning a set, who is next, who is between: walked. Conditions: the library's table of lowest bits is as the program lays it, where a lowest bit is asked for.
-/
import Derived.Test.YtedlfognpbbhhaaGreatDoorMemBase
import Derived.Lib.Tables
namespace Go.Proofs.YtedlfognpbbhhaaGreatDoor.Mem
open Go.RowKit

theorem rot_run (s : St) (n : Int) (k : Nat) (hk : k < 32) (h : n % 32 = k) (w : World) : Calls Tryz.prog 85 #[sv s, .int .i64 n] w fun e w' => e = .returned (sv (s.rotateLeft k)) ∧ w = w' := by
  have h1 : bits .and .u64 (IntKind.u64.wrap n) 31 = (k : Int) := by
    rw [IntKind.wrap_u64]
    obtain ⟨m, hm⟩ := Int.eq_ofNat_of_zero_le (Int.emod_nonneg n (show (18446744073709551616 : Int) ≠ 0 by decide))
    rw [hm, show (31 : Int) = ((31 : Nat) : Int) from rfl, bits_and_u64_nat m 31 (by omega) (by omega), nat_mask5]
    omega
  have h2 : IntKind.u64.wrap (32 - (k : Int)) = ((32 - k : Nat) : Int) := by rw [IntKind.wrap_u64]; omega
  have h3 : (s.toNat : Int) * 2 ^ k % 4294967296 = ((s.toNat <<< k % 2 ^ 32 : Nat) : Int) := by
    rw [Nat.shiftLeft_eq]
    have : (2 : Int) ^ k = ((2 ^ k : Nat) : Int) := by simp
    rw [this]
    omega
  have h4 : (s.toNat : Int) / 2 ^ (32 - k) = ((s.toNat >>> (32 - k) : Nat) : Int) := by
    rw [Nat.shiftRight_eq_div_pow]
    have : (2 : Int) ^ (32 - k) = ((2 ^ (32 - k) : Nat) : Int) := by simp
    rw [this]
    omega
  have h5 : bits .or .u32 ((s.toNat : Int) * 2 ^ k % 4294967296) ((s.toNat : Int) / 2 ^ (32 - k)) = ((s.rotateLeft k).toNat : Int) := by
    have hl := s.isLt
    rw [h3, h4, u32_or_nat _ _ (by omega) (by rw [Nat.shiftRight_eq_div_pow]; exact Nat.lt_of_le_of_lt (Nat.div_le_self _ _) hl), BitVec.toNat_rotateLeft]
    rw [Nat.mod_eq_of_lt hk]
  clear h3 h4
  replace h5 := Lib.hid h5
  have h6 : (0 : Int) ≤ k := by omega
  have h7 : (0 : Int) ≤ ((32 - k : Nat) : Int) := by omega
  go_enter Tryz.func85, Tryz.ntmps85
  go_wp2
  go_ret
  exact ⟨ret_int h5.out, rfl⟩

theorem Tryz.gTz : Tryz.prog.globalNamed "math/bits.deBruijn32tab" = some 0 := by kernel_rfl
/-- The library's table of lowest bits, as the program lays it. -/
def Tz (w : World) : Prop := ∀ j, j < 32 → w.cell? ⟨0, j, none⟩ = some (.int .u8 (Lib.deBruijn32tab.getD j 0))
theorem Tz.below {w w' : World} (h : Tz w) (hb : Below w.heap.size w w') : Tz w' := by
  intro j hj
  have h1 := h j hj
  unfold World.cell? at *
  by_cases hlt : 0 < w.heap.size
  · rw [hb.block 0 hlt]; exact h1
  · rw [Array.getElem?_eq_none (by omega)] at h1
    simp at h1

theorem tz_key (x a : Nat) (hx : x < 4294967296) (hx0 : x ≠ 0) (hlow : x &&& (4294967296 - x) = a) :
    bits BinOp.and IntKind.u32 (x : Int) (-(x : Int) % 4294967296) * 125613361 % 4294967296 / 134217728 = ((a * 125613361 % 4294967296 / 134217728 : Nat) : Int) := by
  have e1 : -(x : Int) % 4294967296 = ((4294967296 - x : Nat) : Int) := by omega
  rw [e1, u32_and_nat x _ hx (by omega), hlow]
  omega

theorem tz_core (x k idx : Nat) (w : World) (hx0 : ((x : Int) == 0) = false)
    (key : bits BinOp.and IntKind.u32 (x : Int) (-(x : Int) % 4294967296) * 125613361 % 4294967296 / 134217728 = (idx : Int))
    (hi : idx < 32) (hk : k < 32) (hcell : w.cell? ⟨0, idx, none⟩ = some (.int .u8 k)) :
    Calls Tryz.prog 99 #[.int .u32 x] w fun e w' => e = .returned (.int .i64 k) ∧ w = w' := by
  go_enter Tryz.func99, Tryz.ntmps99
  go_wp2_with (simp only [key])
  go_ret
  exact ⟨rfl, rfl⟩

theorem tz_run (s : St) (hs : s ≠ 0#32) (w : World) (hT : Tz w) : Calls Tryz.prog 99 #[.int .u32 (s.toNat : Int)] w fun e w' => e = .returned (.int .i64 (Lib.ctz 32 s.toNat)) ∧ w = w' := by
  have hx0 : s.toNat ≠ 0 := fun e => hs (BitVec.eq_of_toNat_eq (by simpa using e))
  have hl := s.isLt
  obtain ⟨hlow, hk⟩ := Lib.lowest_bit 32 s.toNat hx0 hl
  obtain ⟨hi, htab⟩ := Lib.deBruijn32_at _ hk
  have hcell := hT _ hi
  rw [htab] at hcell
  exact tz_core s.toNat _ _ w (by simp; omega) (tz_key s.toNat _ hl hx0 hlow) hi hk hcell

/-- An answer, and whether there is one. -/
def ans (n : Int) : Value := .tuple #[.int .i64 (max n 0), .bool (decide (0 ≤ n))]

theorem st_zero (s : St) : (((s.toNat : Int) == 0) = true) ↔ s = 0#32 := by
  rw [beq_iff_eq]
  constructor
  · intro h; exact BitVec.eq_of_toNat_eq (by simpa using h)
  · intro h; rw [h]; rfl

theorem Turn_any (s : St) (a : Int) (w : World) (hT : Tz w) : Calls Tryz.prog 95 #[sv s, .int .i64 a] w fun e w' => e = .returned (ans (turnI s a)) ∧ w = w' := by
  by_cases h0 : s = 0#32
  · subst h0
    rw [turnI_none]
    go_enter Tryz.func95, Tryz.ntmps95
    go_wp2
    go_ret2
    exact ⟨rfl, rfl⟩
  · have hz : ((s.toNat : Int) == 0) = false := by rw [← Bool.not_eq_true, st_zero]; exact h0
    by_cases ha : adr a = true
    · obtain ⟨b, rfl⟩ := Int.eq_ofNat_of_zero_le ((adr_iff a).1 ha).1
      have hb : b < 32 := by have := (adr_iff _).1 ha; omega
      obtain ⟨t, ht⟩ : ∃ t, t = s.rotateLeft (31 - b) := ⟨_, rfl⟩
      obtain ⟨ht0, hc⟩ := turn_code s b hb h0 t ht
      have hk := (Lib.lowest_bit 32 t.toNat (fun e => ht0 (BitVec.eq_of_toNat_eq (by simpa using e))) t.isLt).2
      have h1 := Lib.hid (rot_run s (-((b : Int) + 1)) (31 - b) (by omega) (by omega))
      have h2 := Lib.hid (tz_run t ht0)
      rw [← ht] at h1
      rw [hc]
      generalize Lib.ctz 32 t.toNat = d at *
      have e1 : IntKind.i64.wrap ((b : Int) + 1) = b + 1 := by rw [IntKind.wrap_i64]; omega
      have e2 : IntKind.i64.wrap (-((b : Int) + 1)) = -(b + 1) := by rw [IntKind.wrap_i64]; omega
      have e3 : IntKind.i64.wrap ((b : Int) + 1 + d) = b + 1 + d := by rw [IntKind.wrap_i64]; omega
      have H := Lib.hid (show ans ((((b + 1 + d) % 32 : Nat)) : Int) = .tuple #[.int .i64 (((b : Int) + 1 + d) % 32), .bool true] by
        unfold ans
        have i1 : max ((((b + 1 + d) % 32 : Nat)) : Int) 0 = ((b : Int) + 1 + d) % 32 := by omega
        have i2 : decide ((0 : Int) ≤ (((b + 1 + d) % 32 : Nat) : Int)) = true := by rw [decide_eq_true_eq]; omega
        rw [i1, i2])
      rw [H.out]
      clear hc ht0 ht H
      go_enter Tryz.func95, Tryz.ntmps95
      go_wp2_with fail
      refine (isAddr_any _ w).mono ?_
      rintro e w1 ⟨rfl, rfl⟩
      rw [ha]
      go_wp2_with fail
      refine (h1.out w).mono ?_
      rintro e w1 ⟨rfl, rfl⟩
      go_wp2_with fail
      refine (h2.out w hT).mono ?_
      rintro e w1 ⟨rfl, rfl⟩
      go_wp2
      go_ret2
      exact ⟨rfl, rfl⟩
    · have ha := eq_false_of_ne_true ha
      have e1 : turnI s a = -1 := by simp [turnI, ha]
      rw [e1]
      go_enter Tryz.func95, Tryz.ntmps95
      go_wp2_with fail
      refine (isAddr_any _ w).mono ?_
      rintro e w1 ⟨rfl, rfl⟩
      rw [ha]
      go_wp2
      go_ret2
      exact ⟨rfl, rfl⟩

theorem Next_any (s : St) (a : Int) (w : World) (hT : Tz w) : Calls Tryz.prog 81 #[sv s, .int .i64 a] w fun e w' => e = .returned (ans (nextI s a)) ∧ w = w' := by
  go_enter Tryz.func81, Tryz.ntmps81
  go_wp2_with fail
  refine (Without_any s a w).mono ?_
  rintro e w1 ⟨rfl, rfl⟩
  go_wp2_with fail
  refine (Turn_any (woB s a) a w hT).mono ?_
  rintro e w1 ⟨rfl, rfl⟩
  rw [show ans (turnI (woB s a) a) = .tuple #[.int .i64 (max (nextI s a) 0), .bool (decide (0 ≤ nextI s a))] from rfl]
  go_wp2
  go_ret2
  exact ⟨rfl, rfl⟩

theorem Between_any (a b : Int) (w : World) : Calls Tryz.prog 67 #[.int .i64 a, .int .i64 b] w fun e w' => e = .returned (sv (betw a b)) ∧ w = w' := by
  by_cases ha : adr a = true
  · by_cases hb : adr b = true
    · obtain ⟨x, rfl⟩ := Int.eq_ofNat_of_zero_le ((adr_iff a).1 ha).1
      obtain ⟨y, rfl⟩ := Int.eq_ofNat_of_zero_le ((adr_iff b).1 hb).1
      have hx : x < 32 := by have := (adr_iff _).1 ha; omega
      have hy : y < 32 := by have := (adr_iff _).1 hb; omega
      rw [betw_nat x y hx hy]
      have e1 : IntKind.i64.wrap ((y : Int) - x) = y - x := by rw [IntKind.wrap_i64]; omega
      have e2 : IntKind.i64.wrap ((y : Int) - x - 1) = y - x - 1 := by rw [IntKind.wrap_i64]; omega
      have e3 : IntKind.i64.wrap ((y : Int) - x - 1 + 32) = y - x - 1 + 32 := by rw [IntKind.wrap_i64]; omega
      have e4 : 0 ≤ (y : Int) - x - 1 + 32 := by omega
      have e5 : ((y : Int) - x - 1 + 32) % 32 = (off x y : Nat) := by unfold off; omega
      have e6 : IntKind.i64.wrap ((x : Int) + 1) = x + 1 := by rw [IntKind.wrap_i64]; omega
      have h1 := Lib.hid (rot_run (low (off x y)) ((x : Int) + 1) ((x + 1) % 32) (by omega) (by omega))
      have h2 := Lib.hid (lowest_any (off x y))
      have e7 : (low (off x y)).rotateLeft ((x + 1) % 32) = betwN x y := rfl
      rw [e7] at h1
      clear e7
      go_enter Tryz.func67, Tryz.ntmps67
      go_wp2_with fail
      refine (isAddr_any _ w).mono ?_
      rintro e w1 ⟨rfl, rfl⟩
      rw [ha]
      go_wp2_with fail
      refine (isAddr_any _ w).mono ?_
      rintro e w1 ⟨rfl, rfl⟩
      rw [hb]
      go_wp2_with fail
      refine (h2.out w).mono ?_
      rintro e w1 ⟨rfl, rfl⟩
      go_wp2_with fail
      refine (h1.out w).mono ?_
      rintro e w1 ⟨rfl, rfl⟩
      go_wp2
      go_ret
      exact ⟨rfl, rfl⟩
    · have hb := eq_false_of_ne_true hb
      have e1 : betw a b = 0#32 := by simp [betw, hb]
      rw [e1]
      go_enter Tryz.func67, Tryz.ntmps67
      go_wp2_with fail
      refine (isAddr_any _ w).mono ?_
      rintro e w1 ⟨rfl, rfl⟩
      rw [ha]
      go_wp2_with fail
      refine (isAddr_any _ w).mono ?_
      rintro e w1 ⟨rfl, rfl⟩
      rw [hb]
      go_wp2
      go_ret
      exact ⟨rfl, rfl⟩
  · have ha := eq_false_of_ne_true ha
    have e1 : betw a b = 0#32 := by simp [betw, ha]
    rw [e1]
    go_enter Tryz.func67, Tryz.ntmps67
    go_wp2_with fail
    refine (isAddr_any _ w).mono ?_
    rintro e w1 ⟨rfl, rfl⟩
    rw [ha]
    go_wp2
    go_ret
    exact ⟨rfl, rfl⟩

theorem Pass_any (s : St) (a b : Int) (w : World) : Calls Tryz.prog 46 #[sv s, .int .i64 a, .int .i64 b] w fun e w' => e = .returned (sv (passB s a b)) ∧ w = w' := by
  by_cases ha : adr a = true
  · by_cases hb : adr b = true
    · have e1 : passB s a b = withB (withB (s &&& ~~~ betw a b) a) b := by simp [passB, ha, hb]
      rw [e1]
      clear e1
      obtain ⟨t, ht⟩ : ∃ t, t = s &&& ~~~ betw a b := ⟨_, rfl⟩
      have h1 := andNot32 s (betw a b)
      rw [← ht] at h1 ⊢
      clear ht
      go_enter Tryz.func46, Tryz.ntmps46
      go_wp2_with fail
      refine (isAddr_any _ w).mono ?_
      rintro e w1 ⟨rfl, rfl⟩
      rw [ha]
      go_wp2_with fail
      refine (isAddr_any _ w).mono ?_
      rintro e w1 ⟨rfl, rfl⟩
      rw [hb]
      go_wp2_with fail
      refine (Between_any a b w).mono ?_
      rintro e w1 ⟨rfl, rfl⟩
      go_wp2_with fail
      refine (With_any t a w).mono ?_
      rintro e w1 ⟨rfl, rfl⟩
      go_wp2_with fail
      refine (With_any _ b w).mono ?_
      rintro e w1 ⟨rfl, rfl⟩
      go_wp2
      go_ret
      exact ⟨rfl, rfl⟩
    · have hb := eq_false_of_ne_true hb
      have e1 : passB s a b = s := by simp [passB, hb]
      rw [e1]
      go_enter Tryz.func46, Tryz.ntmps46
      go_wp2_with fail
      refine (isAddr_any _ w).mono ?_
      rintro e w1 ⟨rfl, rfl⟩
      rw [ha]
      go_wp2_with fail
      refine (isAddr_any _ w).mono ?_
      rintro e w1 ⟨rfl, rfl⟩
      rw [hb]
      go_wp2
      go_ret
      exact ⟨rfl, rfl⟩
  · have ha := eq_false_of_ne_true ha
    have e1 : passB s a b = s := by simp [passB, ha]
    rw [e1]
    go_enter Tryz.func46, Tryz.ntmps46
    go_wp2_with fail
    refine (isAddr_any _ w).mono ?_
    rintro e w1 ⟨rfl, rfl⟩
    rw [ha]
    go_wp2
    go_ret
    exact ⟨rfl, rfl⟩

theorem Gap_any (s : St) (a top : Int) (w : World) (hT : Tz w) : Calls Tryz.prog 94 #[sv s, .int .i64 a, .int .i64 top] w fun e w' => e = .returned (sv (gapB s a top)) ∧ w = w' := by
  have h0 := Next_any s a w hT
  unfold ans at h0
  unfold gapB
  generalize nextI s a = n at *
  by_cases hn : 0 ≤ n
  · have e1 : decide (0 ≤ n) = true := by simpa using hn
    have e2 : max n 0 = n := by omega
    have e3 : (if n < 0 then a else n) = n := by rw [if_neg (by omega)]
    rw [e1, e2] at h0
    rw [e3]
    clear e2 e3 e1
    go_enter Tryz.func94, Tryz.ntmps94
    go_wp2_with fail
    refine h0.mono ?_
    rintro e w1 ⟨rfl, rfl⟩
    go_wp2_with fail
    refine (Between_any a n w).mono ?_
    rintro e w1 ⟨rfl, rfl⟩
    go_wp2_with fail
    refine (upTo_any top w).mono ?_
    rintro e w1 ⟨rfl, rfl⟩
    go_wp2
    go_ret
    exact ⟨ret_int (and32 _ _), rfl⟩
  · have e1 : decide (0 ≤ n) = false := by simpa using hn
    have e2 : max n 0 = 0 := by omega
    have e3 : (if n < 0 then a else n) = a := by rw [if_pos (by omega)]
    rw [e1, e2] at h0
    rw [e3]
    clear e2 e3 e1
    go_enter Tryz.func94, Tryz.ntmps94
    go_wp2_with fail
    refine h0.mono ?_
    rintro e w1 ⟨rfl, rfl⟩
    go_wp2_with fail
    refine (Between_any a a w).mono ?_
    rintro e w1 ⟨rfl, rfl⟩
    go_wp2_with fail
    refine (upTo_any top w).mono ?_
    rintro e w1 ⟨rfl, rfl⟩
    go_wp2
    go_ret
    exact ⟨ret_int (and32 _ _), rfl⟩

end Go.Proofs.YtedlfognpbbhhaaGreatDoor.Mem
