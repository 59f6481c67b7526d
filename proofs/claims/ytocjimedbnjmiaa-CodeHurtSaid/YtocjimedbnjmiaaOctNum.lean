/-
  The numbers that an eye, and the reference's eye, reads, walked. Conditions: at most four bytes.
-/
import Derived.Test.YtocjimedbnjmiaaOctEye
namespace Go.Proofs.Ytocjimedbnjmiaa
open Go.RowKit
open Oct

theorem oc_take_snoc (s : ByteArray) (k : Nat) (h : k < s.size) : s.data.toList.take (k + 1) = s.data.toList.take k ++ [s[k]] := by
  rw [List.take_succ_eq_append_getElem (by simpa using h)]; rfl

theorem num_step (s : ByteArray) (k : Nat) (h : k < s.size) : num (s.data.toList.take (k + 1)) = num (s.data.toList.take k) * 256 + s[k].toNat := by
  rw [oc_take_snoc s k h, num_snoc]

theorem num_take_small (s : ByteArray) (k : Nat) (h : k < s.size) (h4 : s.size ≤ 4) : num (s.data.toList.take k) < 16777216 :=
  Nat.lt_of_lt_of_le (num_small _ 3 (by rw [List.length_take]; omega)) (by decide)

theorem or_byte (y c : Nat) (hy : y < 16777216) (hc : c < 256) : bits .or .u32 ((y : Int) * 256) ((c : Int) % 4294967296) = ((y * 256 + c : Nat) : Int) := by
  rw [show ((y : Int) * 256) = ((y * 256 : Nat) : Int) by omega, show ((c : Int) % 4294967296) = ((c : Nat) : Int) by omega, u32_or_nat _ _ (by omega) (by omega)]
  have h := Nat.shiftLeft_add_eq_or_of_lt (i := 8) (b := c) (by omega) y
  rw [Nat.shiftLeft_eq] at h
  rw [← h]

theorem oc_ret_int {k : IntKind} {a b : Int} (h : a = b) : Ending.returned (.int k a) = .returned (.int k b) := by rw [h]

theorem reads_int {k : IntKind} {a b : Int} {w : World} {p : Nat} {l : List UInt8} {c : Bool} {e : Ending} {w' : World} (h : Reads (.int k a) w p l c e w') (hab : a = b) : Reads (.int k b) w p l c e w' := by
  rw [← hab]; exact h

set_option maxHeartbeats 800000 in
theorem number_any (p : Nat) (n : Int) (l : List UInt8) (b : Bool) (w : World) (he : EyeAt w p l b) (hn : n ≤ 4) :
    Calls Try.prog 41 #[.pointer (some ⟨p, 0, none⟩), .int .i64 n] w (Reads (.int .u32 (num (got n l))) w p (left n l) (lost n l b)) := by
  have h4 : (got n l).length ≤ 4 := got_le n l 4 (by omega)
  have hT := take_any p n l b w he
  rw [← S_size] at h4
  have HL := Lib.hid (show got n l = (S (got n l)).data.toList from rfl)
  generalize hs : S (got n l) = s at *
  have HT := Lib.hid hT
  clear hT hs he
  go_enter Try.func41, Try.ntmps41
  go_wp2_with fail
  refine (HT.out).mono ?_
  rintro e w1 ⟨rfl, he1, hg1⟩
  go_wp2_with fail
  go_loop [6, 13] (fun t i => ∃ k : Nat, k ≤ s.size ∧ i = .int .i64 k ∧ t = .int .u32 (num (s.data.toList.take k))) (fun _ i => s.size - (intOf i).toNat)
  case atStart => exact ⟨0, Nat.zero_le _, rfl, rfl⟩
  case round =>
    obtain ⟨k, hk, rfl, rfl⟩ := hrel
    by_cases hlt : k < s.size
    · have HS := Lib.hid (num_step s k hlt)
      have hb := num_take_small s k hlt h4
      generalize num (s.data.toList.take k) = y at *
      have HO := Lib.hid (or_byte y s[k].toNat hb s[k].toNat_lt)
      go_wp2
      go_round
      case rel => exact ⟨k + 1, by omega, by go_num, by rw [HO.out, HS.out]⟩
      case measure => simp [intOf]; omega
    · go_wp2
      go_ret
      refine ⟨oc_ret_int ?_, he1, hg1⟩
      rw [HL.out, List.take_of_length_le (by rw [size_list]; omega)]

/-- The number that is read is small. -/
theorem num_got (n : Int) (l : List UInt8) (k : Nat) (h : n ≤ k) : num (got n l) < 256 ^ k := num_small _ k (got_le n l k h)
theorem num_rgot (n : Int) (l : List UInt8) (b : Bool) (k : Nat) (h : n ≤ k) : num (rgot n l b) < 256 ^ k := num_small _ k (rgot_le n l b k h)

set_option maxHeartbeats 800000 in
theorem rnumber_any (p : Nat) (n : Int) (l : List UInt8) (b : Bool) (w : World) (he : EyeAt w p l b) (hn : n ≤ 4) :
    Calls Try.prog 30 #[.pointer (some ⟨p, 0, none⟩), .int .i64 n] w (Reads (.int .u32 (num (rgot n l b))) w p (rleft n l b) (rlost n l b)) := by
  have h4 : (rgot n l b).length ≤ 4 := rgot_le n l b 4 (by omega)
  have hT := rtake_any p n l b w he
  rw [← S_size] at h4
  have HL := Lib.hid (show rgot n l b = (S (rgot n l b)).data.toList from rfl)
  generalize hs : S (rgot n l b) = s at *
  have HT := Lib.hid hT
  clear hT hs he
  go_enter Try.func30, Try.ntmps30
  go_wp2_with fail
  refine (HT.out).mono ?_
  rintro e w1 ⟨rfl, he1, hg1⟩
  go_wp2_with fail
  go_loop [6, 7] (fun t i => ∃ k : Nat, k ≤ s.size ∧ i = .int .i64 k ∧ t = .int .u32 (num (s.data.toList.take k))) (fun _ i => s.size - (intOf i).toNat)
  case atStart => exact ⟨0, Nat.zero_le _, rfl, rfl⟩
  case round =>
    obtain ⟨k, hk, rfl, rfl⟩ := hrel
    by_cases hlt : k < s.size
    · have HS := Lib.hid (num_step s k hlt)
      have hb := num_take_small s k hlt h4
      have hc := s[k].toNat_lt
      generalize num (s.data.toList.take k) = y at *
      go_wp2
      go_round
      case rel => exact ⟨k + 1, by omega, by go_num, by rw [HS.out]; go_num⟩
      case measure => simp [intOf]; omega
    · go_wp2
      go_ret
      refine ⟨oc_ret_int ?_, he1, hg1⟩
      rw [HL.out, List.take_of_length_le (by rw [size_list]; omega)]

end Go.Proofs.Ytocjimedbnjmiaa
