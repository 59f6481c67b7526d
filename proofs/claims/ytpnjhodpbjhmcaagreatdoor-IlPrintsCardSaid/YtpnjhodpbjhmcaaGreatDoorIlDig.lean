/-
  The reference's digits, walked. Conditions: numbers that an int64 holds.
-/
import Derived.Test.YtpnjhodpbjhmcaaGreatDoorIlOp
import Derived.Laws.Concat
import Derived.Lib.ConvBytes
import Derived.BigQuiet
import Derived.Deep.RegionWith
namespace Go.Proofs.YtpnjhodpbjhmcaaGreatDoor.Il
open Go.RowKit
open Go.Proofs.YtpnjhodpbjhmcaaGreatDoor.Ic

theorem sadd (a b : Bs) (h : a.length + b.length ≤ 8000000) (W : World) : (Op.stringOp .add (S a) (S b)).run Tryz.prog W = .ok (.string (S (a ++ b))) W :=
  run_string_add_lists (P := Tryz.prog) W a b (by omega) (by omega)
/-- Go's string of one byte in a new block. -/
theorem conv_one (w : World) (b : Nat) (z : Int) (hb : b < 256) (hz : z = (b : Int)) :
    (convert 41 9 (.slice (some ⟨w.heap.size, 0, none⟩) 1 1)).run Tryz.prog (w.alloc (.cells #[.int .u8 z] 5)) = .ok (.string (S [UInt8.ofNat b])) (w.alloc (.cells #[.int .u8 z] 5)) := by
  subst hz
  refine run_convert_bytes_back (P := Tryz.prog) _ 41 9 5 ⟨w.heap.size, 0, none⟩ 1 [UInt8.ofNat b] Tryz.underlying41 Tryz.underlying5 Tryz.underlying9 fun j hj => ?_
  obtain rfl : j = 0 := by simpa using hj
  show (w.alloc _).cell? ⟨w.heap.size, 0, none⟩ = _
  rw [cell_of_row _ _ 0 _ 5 (0, 0) (heap_alloc_new w _)]
  have : b % 256 = b := Nat.mod_eq_of_lt hb
  simp [this]
theorem ret_s {a b : Bs} (h : a = b) : Ending.returned (.string (S a)) = .returned (.string (S b)) := by rw [h]
theorem rest_len {u k : Nat} {s : Bs} (hu : (Lib.decDigits u).length ≤ 19) (hd : Lib.decDigits u = Lib.decDigits k ++ s) : s.length ≤ 19 := by
  have h := congrArg List.length hd
  simp only [List.length_append] at h
  omega
theorem dec_len19 {u : Nat} (hu : u ≤ 1000000000000000000) : (Lib.decDigits u).length ≤ 19 := dec_length_le 19 u (by omega) (by omega)

set_option maxRecDepth 100000 in
set_option maxHeartbeats 2000000 in
theorem rdig_any (u : Nat) (hu : u ≤ 1000000000000000000) (w : World) : Calls Tryz.prog 17 #[.int .i64 u] w (Tells (.string (S (Lib.decDigits u))) w) := by
  have hsz := Lib.hid (dec_len19 hu)
  have hu2 : (u : Int) ≤ 1000000000000000000 := by omega
  clear hu
  go_enter Tryz.func17, Tryz.ntmps17
  go_wp2
  go_loopw [0, 3] (fun n t wr => ∃ (k : Nat) (s : Bs), (k : Int) ≤ 1000000000000000000 ∧ n = .int .i64 k ∧ t = .string (S s) ∧ Hid (Lib.decDigits u = Lib.decDigits k ++ s) ∧ Below w.heap.size w wr) (fun n _ _ => (intOf n).toNat)
  case atStart => exact ⟨u, [], hu2, rfl, rfl, Lib.hid (by simp), Below.refl _ _⟩
  case round =>
    obtain ⟨k, s, hk, rfl, rfl, hd, hbel⟩ := hrel
    by_cases h10 : k < 10
    · have hc : decide ((10 : Int) ≤ (k : Int)) = false := by simp; omega
      have hcv := conv_one wr (48 + k) (48 + (k : Int)) (by omega) (by simp)
      have hadd := sadd [UInt8.ofNat (48 + k)] s (by have := rest_len hsz.out hd.out; simp; omega)
      have HS := Lib.hid (show [UInt8.ofNat (48 + k)] ++ s = Lib.decDigits u by rw [hd.out, dec_lt k h10])
      generalize [UInt8.ofNat (48 + k)] ++ s = r at *
      generalize S [UInt8.ofNat (48 + k)] = b1 at *
      go_wp2
      go_ret
      exact ⟨ret_s HS.out, hbel.alloc hbel.size _⟩
    · have hc : decide ((10 : Int) ≤ (k : Int)) = true := by simp; omega
      have hcv := conv_one wr (48 + k % 10) (48 + (k : Int) % 10) (by omega) (by simp)
      have hadd := sadd [UInt8.ofNat (48 + k % 10)] s (by have := rest_len hsz.out hd.out; simp; omega)
      have HS := Lib.hid (show Lib.decDigits u = Lib.decDigits (k / 10) ++ ([UInt8.ofNat (48 + k % 10)] ++ s) by rw [hd.out, dec_ge k h10, List.append_assoc])
      generalize [UInt8.ofNat (48 + k % 10)] ++ s = r at *
      generalize S [UInt8.ofNat (48 + k % 10)] = b1 at *
      go_wp2
      go_roundw
      case rel => exact ⟨k / 10, r, by omega, by go_num, rfl, HS, hbel.alloc hbel.size _⟩
      case measure => simp [intOf]; omega

set_option maxHeartbeats 2000000 in
theorem rdigits_any (n : Int) (h1 : -1000000000000000000 ≤ n) (h2 : n ≤ 1000000000000000000) (w : World) : Calls Tryz.prog 44 #[.int .i64 n] w (Tells (.string (S (Lib.itoa n))) w) := by
  by_cases h : n < 0
  · have HD := Lib.hid (fun W => rdig_any n.natAbs (by omega) W)
    have e0 : ((n.natAbs : Nat) : Int) = -n := by omega
    rw [e0] at HD
    have e1 : IntKind.i64.wrap (-n) = -n := by rw [IntKind.wrap_i64]; omega
    have hadd := fun W => sadd [45] (Lib.decDigits n.natAbs) (by have := dec_len19 (u := n.natAbs) (by omega); simp; omega) W
    have HE := Lib.hid (show [45] ++ Lib.decDigits n.natAbs = Lib.itoa n by unfold Lib.itoa; rw [if_pos h]; rfl)
    rw [HE.out] at hadd
    clear e0 h1 h2 HE
    generalize Lib.itoa n = s at *
    generalize Lib.decDigits n.natAbs = t at *
    replace hadd : ∀ W, (Op.stringOp .add (⟨#[45]⟩ : ByteArray) (S t)).run Tryz.prog W = .ok (.string (S s)) W := hadd
    go_enter Tryz.func44, Tryz.ntmps44
    go_wp2_with fail
    refine (HD.out _).mono ?_
    rintro e w1 ⟨rfl, hb⟩
    go_wp2
    go_ret
    exact ⟨rfl, hb⟩
  · have HD := Lib.hid (fun W => rdig_any n.toNat (by omega) W)
    have e0 : ((n.toNat : Nat) : Int) = n := by omega
    rw [e0] at HD
    rw [itoa_pos n (by omega)]
    generalize Lib.decDigits n.toNat = t at *
    clear e0 h1 h2
    go_enter Tryz.func44, Tryz.ntmps44
    go_wp2_with fail
    refine (HD.out _).mono ?_
    rintro e w1 ⟨rfl, hb⟩
    go_wp2
    go_ret
    exact ⟨rfl, hb⟩

end Go.Proofs.YtpnjhodpbjhmcaaGreatDoor.Il
