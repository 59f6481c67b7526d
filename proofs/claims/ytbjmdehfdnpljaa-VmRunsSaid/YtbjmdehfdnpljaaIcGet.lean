/-
  The reference's Get and Put, walked. Conditions: areas of up to 1000000 bytes.
-/
import Derived.Test.YtbjmdehfdnpljaaIcR
import Derived.Test.YtbjmdehfdnpljaaIcP
import Derived.Laws.BytesArg
import Derived.Lib.Strings
import Derived.BigQuiet
namespace Go.Proofs.Ytbjmdehfdnpljaa.Ic
open Go.RowKit
open Oct

theorem below_drewN {N : Nat} {w w' : World} (h : Below N w w') (n : Nat) : Below N w (w'.drewN n) := ⟨h.os, h.tape, h.output, h.size, h.block⟩
theorem w64 (a : Int) (h1 : -9223372036854775808 ≤ a) (h2 : a ≤ 9223372036854775807) : wrap64 a = a := by
  have := IntKind.wrap_i64 a
  unfold wrap64 at *
  omega
theorem at_list (s : ByteArray) (i : Nat) (h : i < s.size) (h2 : i < s.data.toList.length) : s.data.toList[i] = s[i]'h := rfl

set_option maxRecDepth 100000 in
set_option maxHeartbeats 4000000 in
theorem rGet_any (s : ByteArray) (at_ : Nat) (k : Int) (w : World) (hs : s.size ≤ 1000000) (h : at_ + szI k ≤ s.size) : Calls Try.prog 70 #[.string s, .int .i64 at_, .int .i64 k] w (Tells (.int .i64 (getI s at_ k)) w) := by
  have h4 := sz_le k
  have HS := fun W => rSize_any k W
  have hg : getI s at_ k = wrapI k (num (cutL s.data.toList at_ (szI k)) : Nat) := rfl
  rw [hg]
  obtain ⟨n, hn⟩ : ∃ n, szI k = n := ⟨_, rfl⟩
  rw [hn] at h4 h HS ⊢
  clear hg hn
  replace HS := Lib.hid HS
  have hl : s.data.toList.length = s.size := Array.length_toList
  have HW := Lib.hid (fun W => rWrap_any k (num (cutL s.data.toList at_ n) : Nat) W (by have := cut_num s.data.toList at_ n (by omega) h4; omega) (by have := cut_num s.data.toList at_ n (by omega) h4; omega))
  have HN := Lib.hid (fun j (hj : j ≤ n) => cut_num s.data.toList at_ j (by omega) (by omega))
  have HM := Lib.hid (fun j (hj : j < n) => show num (cutL s.data.toList at_ (j + 1)) = num (cutL s.data.toList at_ j) * 256 + (s.data.toList[at_ + j]'(by omega)).toNat from by rw [cut_more _ _ _ (by omega), num_snoc])
  go_enter Try.func70, Try.ntmps70
  go_wp2
  go_loopw [7, 8] (fun v i wr => ∃ j : Nat, j ≤ n ∧ i = .int .i64 j ∧ v = .int .i64 (num (cutL s.data.toList at_ j) : Nat) ∧ Hid (Below w.heap.size w wr)) (fun _ i _ => n - (intOf i).toNat)
  case atStart => exact ⟨0, Nat.zero_le _, rfl, by rw [cut_zero]; rfl, Lib.hid (Below.refl _ _)⟩
  case round =>
    obtain ⟨j, hj, rfl, rfl, hb⟩ := hrel
    by_cases hlt : j < n
    · have hI : (j : Int) < (n : Int) := by omega
      have hn := HN.out j hj
      have hm := Lib.hid (HM.out j hlt)
      have hx : at_ + j < s.size := by omega
      generalize num (cutL s.data.toList at_ j) = x at *
      go_wp2_with fail
      refine (HS.out _).mono ?_
      rintro e w1 ⟨rfl, hb1⟩
      have hb2 := Lib.hid (hb.out.trans (hb1.mono hb.out.size))
      clear hb1
      go_wp2
      go_roundw
      case rel =>
        refine ⟨j + 1, by omega, by go_num, ?_, hb2⟩
        have hc := (s[at_ + j]).toNat_lt
        have hv : wrap64 ((s[at_ + j]).toNat : Int) = ((s[at_ + j]).toNat : Int) := w64 _ (by omega) (by omega)
        rw [hm.out, at_list s _ hx, hv, w64 _ (by omega) (by omega)]
        simp
      case measure => simp [intOf]; omega
    · obtain rfl : j = n := by omega
      go_wp2_with fail
      refine (HS.out _).mono ?_
      rintro e w1 ⟨rfl, hb1⟩
      have hb2 := Lib.hid (hb.out.trans (hb1.mono hb.out.size))
      clear hb1
      go_wp2_with fail
      refine (HW.out _).mono ?_
      rintro e w2 ⟨rfl, hb3⟩
      have hb4 := Lib.hid (hb2.out.trans (hb3.mono hb2.out.size))
      clear hb3
      go_wp2
      go_ret
      exact ⟨rfl, hb4.out⟩

theorem one_cell (w : World) (a : Int) : ∀ i, i < 1 → (w.alloc (.cells #[.int .u8 a] 5)).cell? ⟨w.heap.size, 0 + i, none⟩ = some (.int .u8 ([a].getD i 0)) := by
  intro i hi
  match i, hi with
  | 0, _ => rw [cell_of_row _ _ _ _ 5 (0, 0) (heap_alloc_new w _)]; rfl
theorem strOfNums_S (l : List UInt8) : strOfNums (l.map fun c => (c.toNat : Int)) = S l := by
  unfold strOfNums S
  rw [List.map_map]
  congr 2
  have : ((fun n : Int => UInt8.ofNat n.toNat) ∘ fun c : UInt8 => (c.toNat : Int)) = id := by
    funext c; simp
  rw [this, List.map_id]
theorem S_one (n k : Nat) : strOfNums [(n / 256 ^ k : Nat) % 256] ++ S (be n k) = S (be n (k + 1)) := by
  have h : strOfNums [(((n / 256 ^ k : Nat) : Int) % 256)] = S [UInt8.ofNat (n / 256 ^ k)] := by
    rw [← strOfNums_S]
    congr 1
  rw [h, S_app]
  rfl
theorem extract_head (s : ByteArray) (k : Nat) : s.extract 0 k = S (s.data.toList.take k) := by
  apply ByteArray.ext
  apply Array.toList_inj.1
  simp [S, ByteArray.data_extract]
theorem extract_tail (s : ByteArray) (k : Nat) : s.extract k s.size = S (s.data.toList.drop k) := by
  apply ByteArray.ext
  apply Array.toList_inj.1
  have hl : s.data.toList.length = s.size := Array.length_toList
  simp [S, ByteArray.data_extract]
  rw [List.take_of_length_le (by simp)]

set_option maxRecDepth 100000 in
set_option maxHeartbeats 4000000 in
theorem rPut_any (s : ByteArray) (at_ : Nat) (k v : Int) (w : World) (hs : s.size ≤ 1000000) (hk : szI k ≠ 0) (h : at_ + szI k ≤ s.size) (h1 : -9223372036854775808 ≤ v) (h2 : v ≤ 9223372036854775807) : Calls Try.prog 71 #[.string s, .int .i64 at_, .int .i64 k, .int .i64 v] w (Tells (.string (S (putL s.data.toList at_ k v))) w) := by
  have HS := fun W => rSize_any k W
  have HM := Lib.hid (fun W => rMany_any k W)
  have HW := Lib.hid (fun W => rWrap_any k v W h1 h2)
  have h4 := sz_le k
  have hnb := nv_bd k v hk
  have hp4 : 256 ^ szI k ≤ 256 ^ 4 := Nat.pow_le_pow_right (by decide) h4
  have hpl : putL s.data.toList at_ k v = s.data.toList.take at_ ++ be (nvI k v) (szI k) ++ s.data.toList.drop (at_ + szI k) := rfl
  rw [hpl]
  have hny : ((nvI k v : Nat) : Int) = if wrapI k v < 0 then wrapI k v + manyI k else wrapI k v := by
    have hi := wrap_is k v hk
    unfold isI at hi
    rw [decide_eq_true_iff] at hi
    have hl := least_many k
    have hl2 := least_le k
    unfold nvI
    rw [Int.toNat_of_nonneg]
    split <;> omega
  have hwb := wrap_bd k v
  have hmb := many_le k
  generalize nvI k v = y at *
  generalize wrapI k v = x at *
  generalize manyI k = m at *
  obtain ⟨n, hn⟩ : ∃ n, szI k = n := ⟨_, rfl⟩
  rw [hn] at h4 h HS hnb hp4 hk ⊢
  clear hn hpl
  replace HS := Lib.hid HS
  have hyb : (y : Int) ≤ 4294967295 := by omega
  clear hnb hp4 h1 h2
  have hkk := fun (w : World) (a : Int) => run_convert_bytes_arg (P := Try.prog) (w.alloc (.cells #[.int .u8 a] 5)) 50 5 Try.underlying50 Try.underlying5 w.heap.size 0 1 1 [a] rfl (one_cell w a) 9 Try.underlying9
  have HEnd := Lib.hid (show s.extract 0 at_ ++ S (be y n) ++ s.extract (at_ + n) s.size = S (s.data.toList.take at_ ++ be y n ++ s.data.toList.drop (at_ + n)) from by rw [extract_head, extract_tail, S_app, S_app])
  have hl : s.data.toList.length = s.size := Array.length_toList
  have HP : Calls Try.prog 71 #[.string s, .int .i64 at_, .int .i64 k, .int .i64 v] w (Tells (.string (s.extract 0 at_ ++ S (be y n) ++ s.extract (at_ + n) s.size)) w) := by
    have hz0 : (s.extract 0 at_).size = at_ := by rw [ByteArray.size_extract]; omega
    have hz1 : (S (be y n)).size = n := by rw [S_size, be_length]
    have hz2 : (s.extract (at_ + n) s.size).size = s.size - (at_ + n) := by rw [ByteArray.size_extract]; omega
    have HZ := Lib.hid (⟨hz0, hz1, hz2⟩ : _ ∧ _ ∧ _)
    clear hz0 hz1 hz2 HEnd hl
    by_cases hx : x < 0
    · rw [if_pos hx] at hny
      replace hny := Lib.hid hny
      go_enter Try.func71, Try.ntmps71
      go_wp2_with fail
      refine (HW.out _).mono ?_
      rintro e w1 ⟨rfl, hb1⟩
      replace hb1 := Lib.hid hb1
      go_wp2_with fail
      refine (HM.out _).mono ?_
      rintro e w2 ⟨rfl, hb2⟩
      replace hb2 := Lib.hid (hb1.out.trans (hb2.mono hb1.out.size))
      clear hb1
      go_wp2
      go_loopw [9, 10, 11] (fun t q i wr => ∃ j : Nat, j ≤ n ∧ i = .int .i64 j ∧ t = .int .i64 ((y / 256 ^ j : Nat) : Int) ∧ q = .string (S (be y j)) ∧ Hid (Below w.heap.size w wr)) (fun _ _ i _ => n - (intOf i).toNat)
      case atStart => exact ⟨0, Nat.zero_le _, rfl, by rw [Nat.pow_zero, Nat.div_one, hny.out], rfl, hb2⟩
      case round =>
        obtain ⟨j, hj, rfl, rfl, rfl, hb⟩ := hrel
        by_cases hlt : j < n
        · have hI : (j : Int) < (n : Int) := by omega
          have HS1 := Lib.hid (S_one y j)
          have HD := Lib.hid (show ((y / 256 ^ j : Nat) : Int) / 256 = ((y / 256 ^ (j + 1) : Nat) : Int) by rw [Nat.pow_succ, ← Nat.div_div_eq_div_mul]; simp)
          have hy1 : ((y / 256 ^ j : Nat) : Int) ≤ 4294967295 := by have := Nat.div_le_self y (256 ^ j); omega
          have hz2 : (S (be y j)).size ≤ 8 := by rw [S_size, be_length]; omega
          generalize y / 256 ^ j = u at *
          generalize be y j = l0 at *
          have hz : (strOfNums [(u : Int) % 256]).size ≤ 1 := by simp [strOfNums, ByteArray.size]
          go_wp2_with fail
          refine (HS.out _).mono ?_
          rintro e w4 ⟨rfl, hb4⟩
          have hb5 := hb.out.trans (hb4.mono hb.out.size)
          have hb6 := fun o => hb5.alloc hb5.size o
          clear hb4 hb5
          go_wp2
          go_roundw
          case rel => exact ⟨j + 1, by omega, by go_num, by rw [← HD.out], by rw [← HS1.out], Lib.hid (hb6 _)⟩
          case measure => simp [intOf]; omega
        · obtain rfl : j = n := by omega
          go_wp2_with fail
          refine (HS.out _).mono ?_
          rintro e w4 ⟨rfl, hb4⟩
          have hb5 := Lib.hid (hb.out.trans (hb4.mono hb.out.size))
          clear hb4 hkk
          obtain ⟨z0, z1, z2⟩ := HZ.out
          have hat : at_ ≤ s.size := by omega
          generalize S (be y j) = q at *
          go_wp2_with fail
          go_quiet (fail)
          go_wp2
          go_ret
          exact ⟨rfl, below_drewN hb5.out _⟩
    · rw [if_neg hx] at hny
      replace hny := Lib.hid hny
      go_enter Try.func71, Try.ntmps71
      go_wp2_with fail
      refine (HW.out _).mono ?_
      rintro e w1 ⟨rfl, hb1⟩
      replace hb1 := Lib.hid hb1
      go_wp2
      go_loopw [9, 10, 11] (fun t q i wr => ∃ j : Nat, j ≤ n ∧ i = .int .i64 j ∧ t = .int .i64 ((y / 256 ^ j : Nat) : Int) ∧ q = .string (S (be y j)) ∧ Hid (Below w.heap.size w wr)) (fun _ _ i _ => n - (intOf i).toNat)
      case atStart => exact ⟨0, Nat.zero_le _, rfl, by rw [Nat.pow_zero, Nat.div_one, hny.out], rfl, hb1⟩
      case round =>
        obtain ⟨j, hj, rfl, rfl, rfl, hb⟩ := hrel
        by_cases hlt : j < n
        · have hI : (j : Int) < (n : Int) := by omega
          have HS1 := Lib.hid (S_one y j)
          have HD := Lib.hid (show ((y / 256 ^ j : Nat) : Int) / 256 = ((y / 256 ^ (j + 1) : Nat) : Int) by rw [Nat.pow_succ, ← Nat.div_div_eq_div_mul]; simp)
          have hy1 : ((y / 256 ^ j : Nat) : Int) ≤ 4294967295 := by have := Nat.div_le_self y (256 ^ j); omega
          have hz2 : (S (be y j)).size ≤ 8 := by rw [S_size, be_length]; omega
          generalize y / 256 ^ j = u at *
          generalize be y j = l0 at *
          have hz : (strOfNums [(u : Int) % 256]).size ≤ 1 := by simp [strOfNums, ByteArray.size]
          go_wp2_with fail
          refine (HS.out _).mono ?_
          rintro e w4 ⟨rfl, hb4⟩
          have hb5 := hb.out.trans (hb4.mono hb.out.size)
          have hb6 := fun o => hb5.alloc hb5.size o
          clear hb4 hb5
          go_wp2
          go_roundw
          case rel => exact ⟨j + 1, by omega, by go_num, by rw [← HD.out], by rw [← HS1.out], Lib.hid (hb6 _)⟩
          case measure => simp [intOf]; omega
        · obtain rfl : j = n := by omega
          go_wp2_with fail
          refine (HS.out _).mono ?_
          rintro e w4 ⟨rfl, hb4⟩
          have hb5 := Lib.hid (hb.out.trans (hb4.mono hb.out.size))
          clear hb4 hkk
          obtain ⟨z0, z1, z2⟩ := HZ.out
          have hat : at_ ≤ s.size := by omega
          generalize S (be y j) = q at *
          go_wp2_with fail
          go_quiet (fail)
          go_wp2
          go_ret
          exact ⟨rfl, below_drewN hb5.out _⟩
  rw [HEnd.out] at HP
  exact HP

end Go.Proofs.Ytbjmdehfdnpljaa.Ic
