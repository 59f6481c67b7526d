/-
  The reference of Burst, walked: it returns the text with its bits turned one by one. Conditions: texts of at most 4000 bytes.
-/
import Derived.Test.YthepnckbooioeaaBurst
namespace Go.Proofs.Ythepnckbooioeaa
open Go.RowKit
open Sums

/-- Turned bit by bit: k bits of the pattern. -/
def rturn (l : List UInt8) (a : Nat) (p : BitVec 16) : Nat → List UInt8
  | 0 => l
  | k + 1 => if p.getLsbD (15 - k) then (rturn l a p k).modify ((a + k) / 8) (· ^^^ UInt8.ofNat (2 ^ (7 - (a + k) % 8))) else rturn l a p k

theorem rturn_length (l : List UInt8) (a : Nat) (p : BitVec 16) (k : Nat) : (rturn l a p k).length = l.length := by
  induction k with
  | zero => rfl
  | succ k ih =>
    unfold rturn
    split
    · rw [List.length_modify, ih]
    · exact ih

theorem bit_mod (p : BitVec 16) (i : Nat) : (((p.toNat : Int) / 2 ^ i).tmod 2 == 1) = p.getLsbD i := by
  rw [show ((p.toNat : Int) / 2 ^ i) = ((p.toNat / 2 ^ i : Nat) : Int) by simp, BitVec.getLsbD, Nat.testBit_eq_decide_div_mod_eq]
  generalize p.toNat / 2 ^ i = n
  rw [Int.tmod_eq_emod_of_nonneg (Int.natCast_nonneg n), show (n : Int) % 2 = ((n % 2 : Nat) : Int) by simp]
  rcases Nat.mod_two_eq_zero_or_one n with h | h <;> rw [h] <;> rfl

theorem u8_mask (c : UInt8) (j : Nat) : bits .xor .u8 (c.toNat : Int) (2 ^ j % 256) = ((c ^^^ UInt8.ofNat (2 ^ j)).toNat : Int) := by
  rw [← u8_turn]; simp

theorem rturn_yes (l : List UInt8) (a : Nat) (p : BitVec 16) (k : Nat) (h : p.getLsbD (15 - k) = true) :
    rturn l a p (k + 1) = (rturn l a p k).modify ((a + k) / 8) (· ^^^ UInt8.ofNat (2 ^ (7 - (a + k) % 8))) := by
  show (if p.getLsbD (15 - k) then _ else _) = _
  rw [h, if_pos rfl]

theorem rturn_no (l : List UInt8) (a : Nat) (p : BitVec 16) (k : Nat) (h : p.getLsbD (15 - k) = false) : rturn l a p (k + 1) = rturn l a p k := by
  show (if p.getLsbD (15 - k) then _ else _) = _
  rw [h, if_neg (by decide)]

theorem rturn_out (l : List UInt8) (a : Nat) (p : BitVec 16) (k : Nat) (h : l.length ≤ (a + k) / 8) : rturn l a p (k + 1) = rturn l a p k := by
  cases hb : p.getLsbD (15 - k)
  · exact rturn_no l a p k hb
  · rw [rturn_yes l a p k hb]
    exact List.modify_eq_self (by rw [rturn_length]; exact h)

set_option maxHeartbeats 1000000 in
theorem rburst_in (s : ByteArray) (a : Nat) (p : BitVec 16) (w : World) (hs : s.size ≤ 4000) (h : a < 8 * s.size) :
    Calls Try.prog 42 #[.string s, .int .i64 (a : Int), .int .u16 (p.toNat : Int)] w fun e w' => e = .returned (.string ⟨(rturn s.data.toList a p 16).toArray⟩) ∧ Below w.heap.size w w' := by
  have hp := p.isLt
  have hconv := fun w : World => Lib.run_convert_string_bytes (P := Try.prog) w 9 78 5 s Try.underlying9 Try.underlying78 Try.underlying5
  go_enter Try.func42, Try.ntmps42
  go_wp2
  go_loopw [8] (fun i wr => ∃ k : Nat, k ≤ 16 ∧ i = .int .i64 k ∧ Below w.heap.size w wr ∧ Row wr w.heap.size (rturn s.data.toList a p k)) (fun i _ => 16 - (intOf i).toNat)
  case atStart => exact ⟨0, Nat.zero_le _, rfl, bytesWorld_below _ _, bytesWorld_row _ _⟩
  case round =>
    obtain ⟨k, hk, rfl, hbel, hrow⟩ := hrel
    by_cases hlt : k < 16
    · have hb := bit_mod p (15 - k)
      cases hbit : p.getLsbD (15 - k)
      · rw [hbit] at hb
        have HN := Lib.hid (rturn_no s.data.toList a p k hbit)
        go_wp2
        go_roundw
        case rel => exact ⟨k + 1, by omega, by go_num, hbel, by rw [HN.out]; exact hrow⟩
        case measure => simp [intOf]; omega
      · rw [hbit] at hb
        by_cases hin : (k : Int) < 8 * (s.size : Int) - (a : Int)
        · have HN := Lib.hid (rturn_yes s.data.toList a p k hbit)
          have hlen : (a + k) / 8 < (rturn s.data.toList a p k).length := by rw [rturn_length]; simp; omega
          have hrk := hrow ((a + k) / 8) hlen
          have hc := hrk.1
          have hz := hrk.2
          have HR := Lib.hid (hrow.turned ((a + k) / 8) hlen (UInt8.ofNat (2 ^ (7 - (a + k) % 8))))
          have HU := Lib.hid (u8_mask ((rturn s.data.toList a p k).getD ((a + k) / 8) 0) (7 - (a + k) % 8))
          have hi : ((a : Int) + (k : Int)) / 8 < (s.size : Int) := by omega
          have hi0 : 0 ≤ ((a : Int) + (k : Int)) / 8 := by omega
          have hbel' := fun v => (hbel.setCell (p := ⟨w.heap.size, (a + k) / 8, none⟩) (Nat.le_refl _) v).drew
          generalize (rturn s.data.toList a p k).getD ((a + k) / 8) 0 = c at *
          clear hrk hlen hrow
          go_wp2
          go_region
          all_goals
            go_wp2
            go_roundw
            case rel => exact ⟨k + 1, by omega, by go_num, hbel' _, by rw [HN.out, HU.out]; exact HR.out⟩
            case measure => simp [intOf]; omega
        · have HN := Lib.hid (rturn_out s.data.toList a p k (by simp; omega))
          go_wp2
          go_roundw
          case rel => exact ⟨k + 1, by omega, by go_num, hbel, by rw [HN.out]; exact hrow⟩
          case measure => simp [intOf]; omega
    · obtain rfl : k = 16 := by omega
      have hks := run_convert_bytes_arg (P := Try.prog) wr 78 5 Try.underlying78 Try.underlying5 w.heap.size 0 s.size (grownCap w s.size 0 5) _ (by rw [List.length_map, rturn_length]; simp) (fun i hi => hrow.cells i (by rw [rturn_length]; simpa using hi)) 9 Try.underlying9
      rw [strOfNums_bytes] at hks
      go_wp2
      go_ret
      exact ⟨rfl, hbel⟩

set_option maxHeartbeats 400000 in
theorem rburst_out (s : ByteArray) (at_ p : Int) (w : World) (h : at_ < 0) :
    Calls Try.prog 42 #[.string s, .int .i64 at_, .int .u16 p] w fun e w' => e = .returned (.string s) ∧ Below w.heap.size w w' := by
  go_enter Try.func42, Try.ntmps42
  go_wp2
  go_ret
  exact ⟨rfl, Below.refl _ _⟩

set_option maxHeartbeats 400000 in
theorem rburst_past (s : ByteArray) (a : Nat) (p : Int) (w : World) (hs : s.size ≤ 4000) (h : 8 * s.size ≤ a) :
    Calls Try.prog 42 #[.string s, .int .i64 a, .int .u16 p] w fun e w' => e = .returned (.string s) ∧ Below w.heap.size w w' := by
  go_enter Try.func42, Try.ntmps42
  go_wp2
  go_ret
  exact ⟨rfl, Below.refl _ _⟩

end Go.Proofs.Ythepnckbooioeaa
