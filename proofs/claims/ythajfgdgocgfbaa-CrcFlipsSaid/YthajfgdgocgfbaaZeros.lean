/-
  crc.Sum, crc.Zeros, crc.Join and what they call, walked: each returns its plain value. Conditions: arguments fit their kinds.
-/
import Derived.Test.YthajfgdgocgfbaaRefMore
namespace Go.Proofs.Ythajfgdgocgfbaa
open Go.RowKit
open Sums

/-- The sum of a text. -/
def sum (l : List UInt8) : BitVec 16 := more 0xFFFF#16 l

theorem sum_any (s : ByteArray) (w : World) (hs : s.size ≤ maxLen) :
    Calls Try.prog 9 #[.string s] w fun e w' => e = .returned (.int .u16 ((sum s.data.toList).toNat : Int)) ∧ w = w' := by
  go_enter Try.func9, Try.ntmps9
  go_wp2_with (go_at_call 11; refine (more_any _ 0xFFFF#16 rfl _ _ hs).mono ?_; rintro e w' ⟨rfl, rfl⟩)
  go_ret
  exact ⟨rfl, rfl⟩

theorem rsum_any (s : ByteArray) (w : World) (hs : s.size ≤ maxLen) :
    Calls Try.prog 10 #[.string s] w fun e w' => e = .returned (.int .u16 ((sum s.data.toList).toNat : Int)) ∧ w = w' := by
  go_enter Try.func10, Try.ntmps10
  go_wp2_with (go_at_call 12; refine (rmore_any _ 0xFFFF#16 rfl _ _ hs).mono ?_; rintro e w' ⟨rfl, rfl⟩)
  go_ret
  exact ⟨rfl, rfl⟩

theorem bit_at (b : BitVec 16) (i : Nat) : (bits .and .u16 ((b.toNat : Int) / 2 ^ i) 1 == 1) = b.getLsbD i := by
  have h : bits .and .u16 ((b.toNat : Int) / 2 ^ i) 1 = (((b >>> i) &&& 1#16).toNat : Int) := by
    have e : ((b.toNat : Int) / 2 ^ i) = ((b >>> i).toNat : Int) := by
      rw [BitVec.toNat_ushiftRight, Nat.shiftRight_eq_div_pow]
      simp
    rw [e]
    have := u16_and_nat (b >>> i).toNat 1 (BitVec.isLt _) (by omega)
    rw [show ((1 : Nat) : Int) = 1 from rfl] at this
    rw [this, BitVec.toNat_and]; rfl
  rw [h, show (1#16 : BitVec 16) = BitVec.twoPow 16 0 from rfl, BitVec.and_twoPow, BitVec.getLsbD_ushiftRight]
  simp only [Nat.add_zero]
  cases b.getLsbD i <;> rfl

set_option maxHeartbeats 400000 in
theorem times_any (m n : Int) (a b : BitVec 16) (ha : m = (a.toNat : Int)) (hb : n = (b.toNat : Int)) (w : World) :
    Calls Try.prog 21 #[.int .u16 m, .int .u16 n] w fun e w' => e = .returned (.int .u16 ((times a b).toNat : Int)) ∧ w = w' := by
  subst ha
  subst hb
  go_enter Try.func21, Try.ntmps21
  go_wp2
  go_loop [5, 6] (fun t i => ∃ k : Nat, k ≤ 16 ∧ i = .int .i64 (15 - (k : Int)) ∧ t = .int .u16 ((tm a b k).toNat : Int)) (fun _ i => (intOf i + 1).toNat)
  case atStart => exact ⟨0, Nat.zero_le _, rfl, rfl⟩
  case round =>
    obtain ⟨k, hk, rfl, rfl⟩ := hrel
    by_cases hlt : k < 16
    · have HB := Lib.hid (bit_at b (15 - k))
      have HT : Hid (tm a b (k + 1) = dbl (tm a b k) ^^^ (if b.getLsbD (15 - k) then a else 0)) := Lib.hid rfl
      generalize tm a b k = t at *
      go_wp2_with (go_at_call 20; refine (dbl_any _ _ rfl _).mono ?_; rintro e w' ⟨rfl, rfl⟩)
      · have hb : b.getLsbD (15 - k) = true := by rw [← HB.out]; assumption
        go_round
        case rel => exact ⟨k + 1, by omega, by go_num, by rw [HT.out, hb, if_pos rfl, xor16]⟩
        case measure => simp [intOf]; omega
      · have hb : b.getLsbD (15 - k) = false := by rw [← HB.out]; assumption
        go_round
        case rel => exact ⟨k + 1, by omega, by go_num, by rw [HT.out, hb]; simp⟩
        case measure => simp [intOf]; omega
    · obtain rfl : k = 16 := by omega
      go_wp2
      go_ret
      exact ⟨rfl, rfl⟩

theorem pw_256 : (256 : Int) = ((pw (8 * 1)).toNat : Int) := by decide

theorem half_odd (c d : Nat) (m : Int) (N : Nat) (h : c + d * m.toNat = N) (h0 : 0 < m) (h1 : m % 2 = 1) : (c + d) + (d + d) * (m / 2).toNat = N := by
  obtain ⟨k, rfl⟩ := Int.eq_ofNat_of_zero_le (Int.le_of_lt h0)
  rw [Int.toNat_natCast] at h
  have e1 : ((k : Int) / 2).toNat = k / 2 := by omega
  have e2 : k = 2 * (k / 2) + 1 := by omega
  rw [e1, ← h]
  generalize k / 2 = q at *
  subst e2
  rw [Nat.mul_add, Nat.mul_one, ← Nat.two_mul, ← Nat.mul_assoc, Nat.mul_comm d 2]
  omega

theorem half_even (c d : Nat) (m : Int) (N : Nat) (h : c + d * m.toNat = N) (h0 : 0 < m) (h1 : ¬ m % 2 = 1) : c + (d + d) * (m / 2).toNat = N := by
  obtain ⟨k, rfl⟩ := Int.eq_ofNat_of_zero_le (Int.le_of_lt h0)
  rw [Int.toNat_natCast] at h
  have e1 : ((k : Int) / 2).toNat = k / 2 := by omega
  have e2 : k = 2 * (k / 2) := by omega
  rw [e1, ← h]
  generalize k / 2 = q at *
  subst e2
  rw [← Nat.two_mul, ← Nat.mul_assoc, Nat.mul_comm d 2]

set_option maxHeartbeats 400000 in
/-- What the shift by n bytes comes to, in whatever state the squaring stands: c and d count bytes. -/
theorem shift_any (n : Int) (hn : n ≤ 9223372036854775807) (w : World) :
    Calls Try.prog 22 #[.int .i64 n] w fun e w' => e = .returned (.int .u16 ((pw (8 * n.toNat)).toNat : Int)) ∧ w = w' := by
  go_enter Try.func22, Try.ntmps22
  go_wp2
  go_loop [0, 3, 4] (fun n0 t q => ∃ (m : Int) (c d : Nat), m ≤ 9223372036854775807 ∧ c + d * m.toNat = n.toNat ∧ n0 = .int .i64 m ∧ t = .int .u16 ((pw (8 * c)).toNat : Int) ∧ q = .int .u16 ((pw (8 * d)).toNat : Int)) (fun n0 _ _ => (intOf n0).toNat)
  case atStart => exact ⟨n, 0, 1, hn, by omega, rfl, rfl, by rw [pw_256]⟩
  case round =>
    obtain ⟨m, c, d, hm, hcd, rfl, rfl, rfl⟩ := hrel
    have HC := Lib.hid hcd
    clear hcd hn
    by_cases hlt : 0 < m
    · by_cases hodd : m % 2 = 1
      · have HN := Lib.hid (half_odd _ _ _ _ HC.out hlt hodd)
        go_wp2_with (go_at_call 21; refine (times_any _ _ _ _ rfl rfl _).mono ?_; rintro e w' ⟨rfl, rfl⟩)
        go_round
        case rel => exact ⟨m / 2, c + d, d + d, by omega, HN.out, rfl, by rw [times_pw_pw, Nat.mul_add], by rw [times_pw_pw, Nat.mul_add]⟩
        case measure => simp [intOf]; omega
      · have HN := Lib.hid (half_even _ _ _ _ HC.out hlt hodd)
        go_wp2_with (go_at_call 21; refine (times_any _ _ _ _ rfl rfl _).mono ?_; rintro e w' ⟨rfl, rfl⟩)
        go_round
        case rel => exact ⟨m / 2, c, d + d, by omega, HN.out, rfl, rfl, by rw [times_pw_pw, Nat.mul_add]⟩
        case measure => simp [intOf]; omega
    · have e : n.toNat = c := by rw [← HC.out, show m.toNat = 0 by omega]; simp
      have HE := Lib.hid e
      clear e
      go_wp2
      go_ret
      exact ⟨ret_int (by rw [HE.out]), rfl⟩

theorem zeros_any (m n : Int) (x : BitVec 16) (hx : m = (x.toNat : Int)) (hn : n ≤ 9223372036854775807) (w : World) :
    Calls Try.prog 13 #[.int .u16 m, .int .i64 n] w fun e w' => e = .returned (.int .u16 ((dblN (8 * n.toNat) x).toNat : Int)) ∧ w = w' := by
  subst hx
  by_cases h0 : n < 0
  · have e : Hid (n.toNat = 0) := by show n.toNat = 0; omega
    go_enter Try.func13, Try.ntmps13
    go_wp2
    go_ret
    exact ⟨ret_int (by rw [e.out]; rfl), rfl⟩
  · have HT := Lib.hid (times_pw x (8 * n.toNat))
    go_enter Try.func13, Try.ntmps13
    go_wp2_with (first | (go_at_call 22; refine (shift_any _ hn _).mono ?_; rintro e w' ⟨rfl, rfl⟩) | (go_at_call 21; refine (times_any _ _ _ _ rfl rfl _).mono ?_; rintro e w' ⟨rfl, rfl⟩))
    go_ret
    exact ⟨ret_int (by rw [HT.out]), rfl⟩

def joinOf (k : Int) (a b : BitVec 16) : BitVec 16 := if k < 0 then a else dblN (8 * k.toNat) (a ^^^ 0xFFFF#16) ^^^ b

theorem join_any (m n k : Int) (a b : BitVec 16) (ha : m = (a.toNat : Int)) (hb : n = (b.toNat : Int)) (hk : k ≤ 9223372036854775807) (w : World) :
    Calls Try.prog 14 #[.int .u16 m, .int .u16 n, .int .i64 k] w fun e w' => e = .returned (.int .u16 ((joinOf k a b).toNat : Int)) ∧ w = w' := by
  subst ha
  subst hb
  by_cases h0 : k < 0
  · have HF := Lib.hid (show joinOf k a b = a from if_pos h0)
    go_enter Try.func14, Try.ntmps14
    go_wp2
    go_ret
    exact ⟨ret_int (by rw [HF.out]), rfl⟩
  · have HF := Lib.hid ((xor16 (dblN (8 * k.toNat) (a ^^^ 0xFFFF#16)) b).trans (congrArg (fun z : BitVec 16 => (z.toNat : Int)) (show joinOf k a b = _ from if_neg h0)).symm)
    have HX := Lib.hid (xor16 a 0xFFFF#16)
    go_enter Try.func14, Try.ntmps14
    go_wp2_with (go_at_call 13; refine (zeros_any _ _ (a ^^^ 0xFFFF#16) HX.out hk _).mono ?_; rintro e w' ⟨rfl, rfl⟩)
    go_ret
    exact ⟨ret_int HF.out, rfl⟩

end Go.Proofs.Ythajfgdgocgfbaa
