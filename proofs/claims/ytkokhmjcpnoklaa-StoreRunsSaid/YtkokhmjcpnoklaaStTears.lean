/-
  The law StoreTears, walked: it returns true. Conditions: none but on sizes.
-/
import Derived.Test.YtkokhmjcpnoklaaStApart
namespace Go.Proofs.Ytkokhmjcpnoklaa.Sto
open Go.RowKit

theorem write_gone (p g cap : Nat) (l : List UInt8) (n k : Nat) (s : ByteArray) (w : World) (hx : CodeAt w p g cap ⟨l, false, none, n⟩) (hk : k + s.size ≤ l.length) (hk2 : k ≤ 1000) (hn : n ≤ 1000000) :
    Calls Try.prog 15 #[.pointer (some ⟨p, 0, none⟩), .int .i64 (k : Int), .string s] w fun e w' => e = .returned (.int .i64 12) ∧ CodeAt w' p g cap ⟨l, false, none, n⟩ ∧ Only p g w w' :=
  (write_any p g cap ⟨l, false, none, n⟩ k s w hx (by omega) (by omega) (by show n ≤ _; omega) (by intro k hk; injection hk)).mono fun _ _ ⟨he, hx, ho⟩ => by
    have ht : there l (k : Int) (s.data.toList.length : Int) = true := by rw [size_list]; exact there_of (by omega) (by omega) (by omega)
    obtain ⟨e1, e2⟩ := wrote_down (arm := none) (n := n) ht
    rw [e1] at he
    rw [e2] at hx
    exact ⟨he, hx, ho⟩

theorem write_torn (p g cap : Nat) (l : List UInt8) (n j k : Nat) (s : ByteArray) (w : World) (hx : CodeAt w p g cap ⟨l, true, some j, n⟩) (hk : k + s.size ≤ l.length) (hk2 : k ≤ 1000) (hn : n ≤ 1000000) (hj : j < s.size) (hj2 : j ≤ 1000) :
    Calls Try.prog 15 #[.pointer (some ⟨p, 0, none⟩), .int .i64 (k : Int), .string s] w fun e w' => e = .returned (.int .i64 12) ∧ CodeAt w' p g cap ⟨lay l k (s.data.toList.take j), false, none, n + j⟩ ∧ Only p g w w' :=
  (write_any p g cap ⟨l, true, some j, n⟩ k s w hx (by omega) (by omega) (by show n ≤ _; omega) (by intro k hk; injection hk with hk; omega)).mono fun _ _ ⟨he, hx, ho⟩ => by
    have ht : there l (k : Int) (s.data.toList.length : Int) = true := by rw [size_list]; exact there_of (by omega) (by omega) (by omega)
    obtain ⟨e1, e2⟩ := wrote_torn (n := n) (j := j) ht (by rw [size_list]; exact hj)
    rw [e1] at he
    rw [e2] at hx
    exact ⟨he, hx, ho⟩

theorem write_full (p g cap : Nat) (l : List UInt8) (n j k : Nat) (s : ByteArray) (w : World) (hx : CodeAt w p g cap ⟨l, true, some j, n⟩) (hk : k + s.size ≤ l.length) (hk2 : k ≤ 1000) (hn : n ≤ 1000000) (hj : s.size ≤ j) (hj2 : j ≤ 1000) :
    Calls Try.prog 15 #[.pointer (some ⟨p, 0, none⟩), .int .i64 (k : Int), .string s] w fun e w' => e = .returned (.int .i64 0) ∧ CodeAt w' p g cap ⟨lay l k s.data.toList, true, some (j - s.size), n + s.size⟩ ∧ Only p g w w' :=
  (write_any p g cap ⟨l, true, some j, n⟩ k s w hx (by omega) (by omega) (by show n ≤ _; omega) (by intro k hk; injection hk with hk; omega)).mono fun _ _ ⟨he, hx, ho⟩ => by
    have ht : there l (k : Int) (s.data.toList.length : Int) = true := by rw [size_list]; exact there_of (by omega) (by omega) (by omega)
    obtain ⟨e1, e2⟩ := wrote_full (n := n) (j := j) ht (by rw [size_list]; omega)
    rw [e1] at he
    rw [e2, size_list] at hx
    exact ⟨he, hx, ho⟩

/-- Bytes laid over a text, told as Go tells it. -/
theorem lay_text (b s : ByteArray) (a k : Nat) (hk : k ≤ s.size) : b.extract 0 a ++ s.extract 0 k ++ b.extract (a + k) b.size = S (lay b.data.toList a (s.data.toList.take k)) := by
  apply ByteArray.ext
  apply Array.ext'
  have h1 : (s.data.toList.take k).length = k := by rw [List.length_take, size_list]; omega
  have h2 : b.data.toList.length = b.size := size_list b
  simp [S, lay]
  rw [Nat.min_eq_left hk, List.take_of_length_le (by rw [List.length_drop, h2]; exact Nat.le_refl _)]

theorem ext_full (s : ByteArray) : s.extract 0 s.size = s := by simp

theorem power_q (p g cap : Nat) (x : St) (w : World) (n : Nat) (hx : CodeAt w p g cap x) :
    Calls Try.prog 16 #[.pointer (some ⟨p, 0, none⟩)] (w.drewN n) fun e w' => e = .returned (.bool x.up) ∧ w' = w.drewN n :=
  (power_any p g cap x _ (hx.drewN n)).mono fun _ _ ⟨h1, h2⟩ => ⟨h1, h2.symm⟩
theorem wroteN_q (p g cap : Nat) (x : St) (w : World) (n : Nat) (hx : CodeAt w p g cap x) :
    Calls Try.prog 17 #[.pointer (some ⟨p, 0, none⟩)] (w.drewN n) fun e w' => e = .returned (.int .i64 x.n) ∧ w' = w.drewN n :=
  (wroteN_any p g cap x _ (hx.drewN n)).mono fun _ _ ⟨h1, h2⟩ => ⟨h1, h2.symm⟩

set_option maxRecDepth 100000 in
set_option maxHeartbeats 4000000 in
theorem tears_walk (b s : ByteArray) (x y : Nat) (w : World) (hb : b.size ≤ maxLen) (hs : s.size ≤ maxLen) (hx : (x : Int) ≤ 255) (hy : (y : Int) ≤ 255) :
    Calls Try.prog 4 #[.string b, .string s, .agg #[.int .u8 x, .int .u8 y]] w fun e w' => e = .returned (.bool true) ∧ Below w.heap.size w w' := by
  unfold maxLen at hb hs
  have hb0 := (Below.refl w.heap.size w).alloc (Nat.le_refl _) (.cells #[.int .u8 x, .int .u8 y] 40)
  by_cases h1 : b.size ≤ 200 ∧ s.size ≤ 100 ∧ s.size ≤ b.size
  · obtain ⟨h1, h2, h3⟩ := h1
    go_enter Try.func4, Try.ntmps4
    go_wp2_with fail
    refine (awake_any _).mono ?_
    rintro e w1 ⟨rfl, hb1⟩
    obtain ⟨g0, g1⟩ := pair_below (w := w) (x := x) (y := y) hb1
    have hbb := hb0.trans (hb1.mono (by simp))
    clear hb0 hb1
    go_wp2_with fail
    have ha0 : 0 ≤ (x : Int) % ((b.size : Int) - s.size + 1) := Int.emod_nonneg _ (by omega)
    have ha1 : (x : Int) % ((b.size : Int) - s.size + 1) < (b.size : Int) - s.size + 1 := Int.emod_lt_of_pos _ (by omega)
    generalize (x : Int) % ((b.size : Int) - s.size + 1) = A at *
    obtain ⟨a, rfl⟩ := Int.eq_ofNat_of_zero_le ha0
    have hfit : a + s.size ≤ b.size := by omega
    clear g0 g1 ha0 ha1 hx
    refine (of_any b _ (by unfold maxLen; omega)).mono ?_
    rintro e w2 ⟨p, g, cap, rfl, hx2, hp, hg, hb2⟩
    have hb2 := hbb.trans (hb2.mono hbb.size)
    have hp := Nat.le_trans hbb.size hp
    have hg := Nat.le_trans hbb.size hg
    rw [List.take_of_length_le (by rw [size_list]; omega)] at hx2
    have hL : b.data.toList.length = b.size := size_list b
    have HT := Lib.hid (lay_text b s a)
    have HL2 := Lib.hid (fun r hr => lay_lay (l := b.data.toList) (a := a) (r := r) (s := s.data.toList) (by rw [size_list, size_list]; exact hfit) hr)
    have HL3 := Lib.hid (fun r (hr : r.length ≤ s.data.toList.length) => lay_length (l := b.data.toList) (a := a) (s := r) (by rw [size_list] at hr; rw [size_list]; omega))
    have HLS := Lib.hid (size_list s)
    rw [hL] at HL3
    have HL := Lib.hid hL
    clear hL hbb
    go_wp2_with fail
    refine (arm_any p g cap _ y _ hx2).mono ?_
    rintro e w3 ⟨rfl, hx3, ho3⟩
    have hb3 := hb2.trans (ho3.below hp hg hb2.size)
    rw [Int.toNat_natCast] at hx3
    clear hx2 hb2 ho3
    have HTM := Lib.hid (show b.extract 0 a ++ s ++ b.extract (a + s.size) b.size = S (lay b.data.toList a s.data.toList) by
      have := HT.out s.size (Nat.le_refl _)
      rw [List.take_of_length_le (by rw [HLS.out]; exact Nat.le_refl _), ext_full] at this
      exact this)
    have HLM := Lib.hid (HL3.out s.data.toList (Nat.le_refl _))
    have HTM := Lib.hid (show b.extract 0 a ++ s ++ b.extract (a + s.size) b.size = S (lay b.data.toList a s.data.toList) by
      have := HT.out s.size (Nat.le_refl _)
      rw [List.take_of_length_le (by rw [HLS.out]; exact Nat.le_refl _), ext_full] at this
      exact this)
    have HLM := Lib.hid (HL3.out s.data.toList (Nat.le_refl _))
    have HTM := Lib.hid (show b.extract 0 a ++ s ++ b.extract (a + s.size) b.size = S (lay b.data.toList a s.data.toList) by
      have := HT.out s.size (Nat.le_refl _)
      rw [List.take_of_length_le (by rw [HLS.out]; exact Nat.le_refl _), ext_full] at this
      exact this)
    have HLM := Lib.hid (HL3.out s.data.toList (Nat.le_refl _))
    have HTM := Lib.hid (show b.extract 0 a ++ s ++ b.extract (a + s.size) b.size = S (lay b.data.toList a s.data.toList) by
      have := HT.out s.size (Nat.le_refl _)
      rw [List.take_of_length_le (by rw [HLS.out]; exact Nat.le_refl _), ext_full] at this
      exact this)
    have HLM := Lib.hid (HL3.out s.data.toList (Nat.le_refl _))
    by_cases hj : y < s.size
    · go_wp2_with fail
      refine (write_torn p g cap _ 0 y a s _ hx3 (by rw [HL.out]; exact hfit) (by omega) (by omega) hj (by omega)).mono ?_
      rintro e w4 ⟨rfl, hx4, ho4⟩
      have hb4 := hb3.trans (ho4.below hp hg hb3.size)
      clear hx3 hb3 ho4
      have hlen := HL3.out (s.data.toList.take y) (List.length_take_le' _ _)
      have hll := HL2.out (s.data.toList.take y) (List.length_take_le' _ _)
      have ht := HT.out y (by omega)
      generalize lay b.data.toList a (s.data.toList.take y) = L at *
      have HTY := Lib.hid ht
      have HLN := Lib.hid hlen
      have HLL := Lib.hid hll
      clear ht hlen hll
      go_wp2_with fail
      refine (read_all p g cap _ b.size _ hx4 HLN.out).mono ?_
      rintro e w5 ⟨rfl, rfl⟩
      go_wp2_with fail
      have ht := HTY.out
      have e1 : IntKind.i64.wrap ((a : Int) + (y : Int)) = (a : Int) + (y : Int) := IntWalk.i64_in _ (by omega)
      have e2 : ((a : Int) + (y : Int)).toNat = a + y := by omega
      have e3 : 0 ≤ (a : Int) + (y : Int) := by omega
      have e4 : a + y ≤ b.size := by omega
      have e5 : a ≤ b.size := by omega
      have e6 : y ≤ s.size := by omega
      have e7 : (a : Int) + (y : Int) ≤ (b.size : Int) := by omega
      have q1 := fun w => run_string_add_sum (P := Try.prog) (w := w) (b.extract 0 a) (s.extract 0 y) (by rw [head_size, head_size]; omega)
      have q2 := fun w => run_string_add_sum (P := Try.prog) (w := w) (b.extract 0 a ++ (s.extract 0 y)) (b.extract (a + y) b.size) (by rw [ByteArray.size_append, head_size, head_size, ByteArray.size_extract]; omega)
      rw [ht] at q2
      go_quiet ((first | (go_at_call 16; exact Calls.quiet_of_same (power_q _ _ _ _ _ _ hx4)) | (go_at_call 17; exact Calls.quiet_of_same (wroteN_q _ _ _ _ _ _ hx4))))
      clear ht e1 e2 e3 e4 e5 e6 e7 q1 q2
      have hx5 := hx4.drewN nq
      have hb5 := below_drewN hb4 nq
      clear hx4 hb4
      generalize w4.drewN nq = w5 at *
      go_wp2_with fail
      refine (off_any p g cap _ _ hx5).mono ?_
      rintro e w6 ⟨rfl, hx6, ho6⟩
      have hb6 := hb5.trans (ho6.below hp hg hb5.size)
      clear hx5 hb5 ho6
      go_wp2_with fail
      refine (write_gone p g cap L (0 + y) a s _ hx6 (by rw [HLN.out]; exact hfit) (by omega) (by omega)).mono ?_
      rintro e w7 ⟨rfl, hx7, ho7⟩
      have hb7 := hb6.trans (ho7.below hp hg hb6.size)
      clear hx6 hb6 ho7
      go_wp2_with fail
      refine (on_any p g cap _ _ hx7).mono ?_
      rintro e w8 ⟨rfl, hx8, ho8⟩
      have hb8 := hb7.trans (ho8.below hp hg hb7.size)
      clear hx7 hb7 ho8
      go_wp2_with fail
      refine (write_free p g cap L (0 + y) a s _ hx8 (by rw [HLN.out]; exact hfit) (by omega) (by omega)).mono ?_
      rintro e w9 ⟨rfl, hx9, ho9⟩
      have hb9 := hb8.trans (ho9.below hp hg hb8.size)
      rw [HLL.out] at hx9
      clear hx8 hb8 ho9
      have hlm := HLM.out
      have htm := HTM.out
      generalize lay b.data.toList a s.data.toList = M at *
      have HLM2 := Lib.hid hlm
      have HTM2 := Lib.hid htm
      clear hlm htm
      go_wp2_with fail
      refine (read_all p g cap _ b.size _ hx9 HLM2.out).mono ?_
      rintro e w10 ⟨rfl, rfl⟩
      go_wp2_with fail
      have ht := HTM2.out
      have e1 : IntKind.i64.wrap ((a : Int) + (s.size : Int)) = (a : Int) + (s.size : Int) := IntWalk.i64_in _ (by omega)
      have e2 : ((a : Int) + (s.size : Int)).toNat = a + s.size := by omega
      have e3 : 0 ≤ (a : Int) + (s.size : Int) := by omega
      have e5 : a ≤ b.size := by omega
      have e7 : (a : Int) + (s.size : Int) ≤ (b.size : Int) := by omega
      have q1 := fun w => run_string_add_sum (P := Try.prog) (w := w) (b.extract 0 a) s (by rw [head_size]; omega)
      have q2 := fun w => run_string_add_sum (P := Try.prog) (w := w) (b.extract 0 a ++ s) (b.extract (a + s.size) b.size) (by rw [ByteArray.size_append, head_size, ByteArray.size_extract]; omega)
      rw [ht] at q2
      go_quiet (fail)
      clear ht e1 e2 e3 e5 e7 q1 q2
      have hb10 := below_drewN hb9 nq
      go_wp2
      go_ret
      exact ⟨rfl, hb10⟩
    · have hj2 : s.size ≤ y := by omega
      rcases Nat.lt_or_eq_of_le hj2 with hlt | rfl
      all_goals
        go_wp2_with fail
        refine (write_full p g cap _ 0 _ a s _ hx3 (by rw [HL.out]; exact hfit) (by omega) (by omega) (by omega) (by omega)).mono ?_
        rintro e w4 ⟨rfl, hx4, ho4⟩
        have hb4 := hb3.trans (ho4.below hp hg hb3.size)
        clear hx3 hb3 ho4
        have hlen := HL3.out s.data.toList (Nat.le_refl _)
        have hll := HL2.out s.data.toList (Nat.le_refl _)
        have ht := HT.out s.size (Nat.le_refl _)
        rw [List.take_of_length_le (by rw [HLS.out]; exact Nat.le_refl _), ext_full] at ht
        generalize hLL : lay b.data.toList a s.data.toList = L at *
        have HTY := Lib.hid ht
        have HLN := Lib.hid hlen
        have HLL := Lib.hid hll
        clear ht hlen hll hLL
        go_wp2_with fail
        refine (read_all p g cap _ b.size _ hx4 HLN.out).mono ?_
        rintro e w5 ⟨rfl, rfl⟩
        go_wp2_with fail
        have ht := HTY.out
        have e1 : IntKind.i64.wrap ((a : Int) + (s.size : Int)) = (a : Int) + (s.size : Int) := IntWalk.i64_in _ (by omega)
        have e2 : ((a : Int) + (s.size : Int)).toNat = a + s.size := by omega
        have e3 : 0 ≤ (a : Int) + (s.size : Int) := by omega
        have e4 : a + s.size ≤ b.size := by omega
        have e5 : a ≤ b.size := by omega
        have e6 : s.size ≤ s.size := by omega
        have e7 : (a : Int) + (s.size : Int) ≤ (b.size : Int) := by omega
        have q1 := fun w => run_string_add_sum (P := Try.prog) (w := w) (b.extract 0 a) s (by rw [head_size]; omega)
        have q2 := fun w => run_string_add_sum (P := Try.prog) (w := w) (b.extract 0 a ++ s) (b.extract (a + s.size) b.size) (by rw [ByteArray.size_append, head_size, ByteArray.size_extract]; omega)
        rw [ht] at q2
        go_quiet ((first | (go_at_call 16; exact Calls.quiet_of_same (power_q _ _ _ _ _ _ hx4)) | (go_at_call 17; exact Calls.quiet_of_same (wroteN_q _ _ _ _ _ _ hx4))))
        clear ht e1 e2 e3 e4 e5 e6 e7 q1 q2
        have hx5 := hx4.drewN nq
        have hb5 := below_drewN hb4 nq
        clear hx4 hb4
        generalize w4.drewN nq = w5 at *
        go_wp2_with fail
        refine (off_any p g cap _ _ hx5).mono ?_
        rintro e w6 ⟨rfl, hx6, ho6⟩
        have hb6 := hb5.trans (ho6.below hp hg hb5.size)
        clear hx5 hb5 ho6
        go_wp2_with fail
        refine (write_gone p g cap L (0 + s.size) a s _ hx6 (by rw [HLN.out]; exact hfit) (by omega) (by omega)).mono ?_
        rintro e w7 ⟨rfl, hx7, ho7⟩
        have hb7 := hb6.trans (ho7.below hp hg hb6.size)
        clear hx6 hb6 ho7
        go_wp2_with fail
        refine (on_any p g cap _ _ hx7).mono ?_
        rintro e w8 ⟨rfl, hx8, ho8⟩
        have hb8 := hb7.trans (ho8.below hp hg hb7.size)
        clear hx7 hb7 ho8
        go_wp2_with fail
        refine (write_free p g cap L (0 + s.size) a s _ hx8 (by rw [HLN.out]; exact hfit) (by omega) (by omega)).mono ?_
        rintro e w9 ⟨rfl, hx9, ho9⟩
        have hb9 := hb8.trans (ho9.below hp hg hb8.size)
        rw [HLL.out] at hx9
        clear hx8 hb8 ho9
        have hlm := HLM.out
        have htm := HTM.out
        generalize L = M at *
        have HLM2 := Lib.hid hlm
        have HTM2 := Lib.hid htm
        clear hlm htm
        go_wp2_with fail
        refine (read_all p g cap _ b.size _ hx9 HLM2.out).mono ?_
        rintro e w10 ⟨rfl, rfl⟩
        go_wp2_with fail
        have ht := HTM2.out
        have e1 : IntKind.i64.wrap ((a : Int) + (s.size : Int)) = (a : Int) + (s.size : Int) := IntWalk.i64_in _ (by omega)
        have e2 : ((a : Int) + (s.size : Int)).toNat = a + s.size := by omega
        have e3 : 0 ≤ (a : Int) + (s.size : Int) := by omega
        have e5 : a ≤ b.size := by omega
        have e7 : (a : Int) + (s.size : Int) ≤ (b.size : Int) := by omega
        have q1 := fun w => run_string_add_sum (P := Try.prog) (w := w) (b.extract 0 a) s (by rw [head_size]; omega)
        have q2 := fun w => run_string_add_sum (P := Try.prog) (w := w) (b.extract 0 a ++ s) (b.extract (a + s.size) b.size) (by rw [ByteArray.size_append, head_size, ByteArray.size_extract]; omega)
        rw [ht] at q2
        go_quiet (fail)
        clear ht e1 e2 e3 e5 e7 q1 q2
        have hb10 := below_drewN hb9 nq
        go_wp2
        go_ret
        exact ⟨rfl, hb10⟩
  · by_cases k1 : b.size ≤ 200
    · by_cases k2 : s.size ≤ 100
      · have k3 : b.size < s.size := by omega
        go_enter Try.func4, Try.ntmps4
        go_wp2_with fail
        refine (awake_any _).mono ?_
        rintro e w1 ⟨rfl, hb1⟩
        have hb := hb0.trans (hb1.mono (by simp))
        go_wp2_with fail
        go_ret
        exact ⟨rfl, hb⟩
      · clear h1
        go_enter Try.func4, Try.ntmps4
        go_wp2_with fail
        refine (awake_any _).mono ?_
        rintro e w1 ⟨rfl, hb1⟩
        have hb := hb0.trans (hb1.mono (by simp))
        go_wp2_with fail
        go_ret
        exact ⟨rfl, hb⟩
    · clear h1
      go_enter Try.func4, Try.ntmps4
      go_wp2_with fail
      refine (awake_any _).mono ?_
      rintro e w1 ⟨rfl, hb1⟩
      have hb := hb0.trans (hb1.mono (by simp))
      go_wp2_with fail
      go_ret
      exact ⟨rfl, hb⟩

end Go.Proofs.Ytkokhmjcpnoklaa.Sto
