/-
  The landed verify's bytesOf, walked: the bytes of its area that an instruction asks for. Conditions: an instruction that may be, with an area.
-/
import Derived.Test.YtbejajnhgoejhaaVeKinds
namespace Go.Proofs.Ytbejajnhgoejhaa.Ve
open Go.RowKit
open Go.Proofs.Ytbejajnhgoejhaa.Il hiding Next
open Go.Proofs.Ytbejajnhgoejhaa.Ic

def sizeI (i : In) : Nat := if i.op = 34 ∨ i.op = 35 then 5 else if i.op = 36 then 1 else szI i.kd
def maskI (i : In) : Nat := (2 ^ sizeI i - 1) * 2 ^ i.pl.toNat
theorem mask_wrap (s p : Nat) (h : p + s ≤ 64) : IntKind.u64.wrap (((2 ^ s - 1 : Nat) : Int) * 2 ^ p) = (((2 ^ s - 1) * 2 ^ p : Nat) : Int) := by
  have h1 : (2 ^ s - 1) * 2 ^ p < 2 ^ 64 := by
    have h2 : 2 ^ s * 2 ^ p ≤ 2 ^ 64 := by
      rw [← Nat.pow_add]
      exact Nat.pow_le_pow_right (by decide) (by omega)
    have h3 : 0 < 2 ^ s := Nat.two_pow_pos s
    have h4 : 0 < 2 ^ p := Nat.two_pow_pos p
    have h5 : (2 ^ s - 1) * 2 ^ p < 2 ^ s * 2 ^ p := Nat.mul_lt_mul_of_pos_right (by omega) h4
    omega
  have e : ((2 ^ s - 1 : Nat) : Int) * 2 ^ p = (((2 ^ s - 1) * 2 ^ p : Nat) : Int) := by
    rw [Int.natCast_mul, Int.natCast_pow]; rfl
  rw [e, IntKind.wrap_u64]
  generalize (2 ^ s - 1) * 2 ^ p = z at *
  have : (2 : Nat) ^ 64 = 18446744073709551616 := by decide
  omega
theorem mask_one (p : Nat) (h : p + 1 ≤ 64) : IntKind.u64.wrap ((2 : Int) ^ p) = (((2 ^ 1 - 1) * 2 ^ p : Nat) : Int) := by
  have h2 := mask_wrap 1 p h
  rwa [show ((2 ^ 1 - 1 : Nat) : Int) * 2 ^ p = 2 ^ p by simp] at h2
theorem mask_lt (s p : Nat) (h : p + s ≤ 64) : (2 ^ s - 1) * 2 ^ p < 18446744073709551616 := by
  have h2 : 2 ^ s * 2 ^ p ≤ 2 ^ 64 := by
    rw [← Nat.pow_add]
    exact Nat.pow_le_pow_right (by decide) (by omega)
  have h3 : 0 < 2 ^ s := Nat.two_pow_pos s
  have h4 : 0 < 2 ^ p := Nat.two_pow_pos p
  have h5 : (2 ^ s - 1) * 2 ^ p < 2 ^ s * 2 ^ p := Nat.mul_lt_mul_of_pos_right (by omega) h4
  have : (2 : Nat) ^ 64 = 18446744073709551616 := by decide
  omega
section
variable (kd ar n : Int) (p : Nat) (w : World)

set_option maxRecDepth 100000 in
set_option maxHeartbeats 4000000 in
theorem bytes_k1 (op : Int) (ho : op < 34) (hs : szI kd = 1) (hp : p + 1 ≤ 64) : Calls Try.prog 28 #[insV ⟨op, kd, ar, p, n⟩] w (Tells (.int .u64 ((2 ^ 1 - 1) * 2 ^ p : Nat)) w) := by
  have HS := Lib.hid (fun W => cSize_any kd W)
  rw [hs] at HS
  clear hs
  have HW := Lib.hid (mask_one p hp)
  have hp64 : (p : Int) ≤ 64 := by omega
  clear hp
  unfold insV
  go_enter Try.func28, Try.ntmps28
  go_wp2_with fail
  refine (HS.out _).mono ?_
  rintro e w1 ⟨rfl, hb⟩
  have hN := one_box w #[.int .i64 op, .int .i64 kd, .int .i64 ar, .int .i64 p, .int .i64 n] 41
  have c0 := kept_cell hb (hN.1 0 (.int .i64 op) rfl)
  have c3 := kept_cell hb (hN.1 3 (.int .i64 p) rfl)
  have HB := Lib.hid (hN.2.next hb)
  clear hN hb
  go_wp2_with fail
  go_quiet (fail)
  go_wp2
  go_ret
  exact ⟨congrArg (fun z => Ending.returned (Value.int .u64 z)) HW.out, HB.out.1.trans ⟨rfl, rfl, rfl, Nat.le_refl _, fun _ _ => rfl⟩⟩

set_option maxRecDepth 100000 in
set_option maxHeartbeats 4000000 in
theorem bytes_k2 (op : Int) (ho : op < 34) (hs : szI kd = 2) (hp : p + 2 ≤ 64) : Calls Try.prog 28 #[insV ⟨op, kd, ar, p, n⟩] w (Tells (.int .u64 ((2 ^ 2 - 1) * 2 ^ p : Nat)) w) := by
  have HS := Lib.hid (fun W => cSize_any kd W)
  rw [hs] at HS
  clear hs
  have HW := Lib.hid (mask_wrap 2 p hp)
  have hp64 : (p : Int) ≤ 64 := by omega
  clear hp
  unfold insV
  go_enter Try.func28, Try.ntmps28
  go_wp2_with fail
  refine (HS.out _).mono ?_
  rintro e w1 ⟨rfl, hb⟩
  have hN := one_box w #[.int .i64 op, .int .i64 kd, .int .i64 ar, .int .i64 p, .int .i64 n] 41
  have c0 := kept_cell hb (hN.1 0 (.int .i64 op) rfl)
  have c3 := kept_cell hb (hN.1 3 (.int .i64 p) rfl)
  have HB := Lib.hid (hN.2.next hb)
  clear hN hb
  go_wp2_with fail
  go_quiet (fail)
  go_wp2
  go_ret
  exact ⟨congrArg (fun z => Ending.returned (Value.int .u64 z)) HW.out, HB.out.1.trans ⟨rfl, rfl, rfl, Nat.le_refl _, fun _ _ => rfl⟩⟩

set_option maxRecDepth 100000 in
set_option maxHeartbeats 4000000 in
theorem bytes_k4 (op : Int) (ho : op < 34) (hs : szI kd = 4) (hp : p + 4 ≤ 64) : Calls Try.prog 28 #[insV ⟨op, kd, ar, p, n⟩] w (Tells (.int .u64 ((2 ^ 4 - 1) * 2 ^ p : Nat)) w) := by
  have HS := Lib.hid (fun W => cSize_any kd W)
  rw [hs] at HS
  clear hs
  have HW := Lib.hid (mask_wrap 4 p hp)
  have hp64 : (p : Int) ≤ 64 := by omega
  clear hp
  unfold insV
  go_enter Try.func28, Try.ntmps28
  go_wp2_with fail
  refine (HS.out _).mono ?_
  rintro e w1 ⟨rfl, hb⟩
  have hN := one_box w #[.int .i64 op, .int .i64 kd, .int .i64 ar, .int .i64 p, .int .i64 n] 41
  have c0 := kept_cell hb (hN.1 0 (.int .i64 op) rfl)
  have c3 := kept_cell hb (hN.1 3 (.int .i64 p) rfl)
  have HB := Lib.hid (hN.2.next hb)
  clear hN hb
  go_wp2_with fail
  go_quiet (fail)
  go_wp2
  go_ret
  exact ⟨congrArg (fun z => Ending.returned (Value.int .u64 z)) HW.out, HB.out.1.trans ⟨rfl, rfl, rfl, Nat.le_refl _, fun _ _ => rfl⟩⟩

set_option maxRecDepth 100000 in
set_option maxHeartbeats 4000000 in
theorem bytes_34 (hp : p + 5 ≤ 64) : Calls Try.prog 28 #[insV ⟨(34 : Int), kd, ar, p, n⟩] w (Tells (.int .u64 ((2 ^ 5 - 1) * 2 ^ p : Nat)) w) := by
  have HS := Lib.hid (fun W => cSize_any kd W)
  generalize szI kd = sz at *
  have HW := Lib.hid (mask_wrap 5 p hp)
  have hp64 : (p : Int) ≤ 64 := by omega
  clear hp
  unfold insV
  go_enter Try.func28, Try.ntmps28
  go_wp2_with fail
  refine (HS.out _).mono ?_
  rintro e w1 ⟨rfl, hb⟩
  have hN := one_box w #[.int .i64 (34 : Int), .int .i64 kd, .int .i64 ar, .int .i64 p, .int .i64 n] 41
  have c0 := kept_cell hb (hN.1 0 (.int .i64 (34 : Int)) rfl)
  have c3 := kept_cell hb (hN.1 3 (.int .i64 p) rfl)
  have HB := Lib.hid (hN.2.next hb)
  clear hN hb
  go_wp2_with fail
  go_quiet (fail)
  go_wp2
  go_ret
  exact ⟨congrArg (fun z => Ending.returned (Value.int .u64 z)) HW.out, HB.out.1.trans ⟨rfl, rfl, rfl, Nat.le_refl _, fun _ _ => rfl⟩⟩

set_option maxRecDepth 100000 in
set_option maxHeartbeats 4000000 in
theorem bytes_35 (hp : p + 5 ≤ 64) : Calls Try.prog 28 #[insV ⟨(35 : Int), kd, ar, p, n⟩] w (Tells (.int .u64 ((2 ^ 5 - 1) * 2 ^ p : Nat)) w) := by
  have HS := Lib.hid (fun W => cSize_any kd W)
  generalize szI kd = sz at *
  have HW := Lib.hid (mask_wrap 5 p hp)
  have hp64 : (p : Int) ≤ 64 := by omega
  clear hp
  unfold insV
  go_enter Try.func28, Try.ntmps28
  go_wp2_with fail
  refine (HS.out _).mono ?_
  rintro e w1 ⟨rfl, hb⟩
  have hN := one_box w #[.int .i64 (35 : Int), .int .i64 kd, .int .i64 ar, .int .i64 p, .int .i64 n] 41
  have c0 := kept_cell hb (hN.1 0 (.int .i64 (35 : Int)) rfl)
  have c3 := kept_cell hb (hN.1 3 (.int .i64 p) rfl)
  have HB := Lib.hid (hN.2.next hb)
  clear hN hb
  go_wp2_with fail
  go_quiet (fail)
  go_wp2
  go_ret
  exact ⟨congrArg (fun z => Ending.returned (Value.int .u64 z)) HW.out, HB.out.1.trans ⟨rfl, rfl, rfl, Nat.le_refl _, fun _ _ => rfl⟩⟩

set_option maxRecDepth 100000 in
set_option maxHeartbeats 4000000 in
theorem bytes_36 (hp : p + 1 ≤ 64) : Calls Try.prog 28 #[insV ⟨(36 : Int), kd, ar, p, n⟩] w (Tells (.int .u64 ((2 ^ 1 - 1) * 2 ^ p : Nat)) w) := by
  have HS := Lib.hid (fun W => cSize_any kd W)
  generalize szI kd = sz at *
  have HW := Lib.hid (mask_one p hp)
  have hp64 : (p : Int) ≤ 64 := by omega
  clear hp
  unfold insV
  go_enter Try.func28, Try.ntmps28
  go_wp2_with fail
  refine (HS.out _).mono ?_
  rintro e w1 ⟨rfl, hb⟩
  have hN := one_box w #[.int .i64 (36 : Int), .int .i64 kd, .int .i64 ar, .int .i64 p, .int .i64 n] 41
  have c0 := kept_cell hb (hN.1 0 (.int .i64 (36 : Int)) rfl)
  have c3 := kept_cell hb (hN.1 3 (.int .i64 p) rfl)
  have HB := Lib.hid (hN.2.next hb)
  clear hN hb
  go_wp2_with fail
  go_quiet (fail)
  go_wp2
  go_ret
  exact ⟨congrArg (fun z => Ending.returned (Value.int .u64 z)) HW.out, HB.out.1.trans ⟨rfl, rfl, rfl, Nat.le_refl _, fun _ _ => rfl⟩⟩

end
theorem right_size {i : In} (h : rightI i = true) (ha : i.ar ≠ 0) : 1 ≤ i.ar ∧ i.ar ≤ 4 ∧ i.pl = (i.pl.toNat : Nat) ∧ i.pl.toNat + sizeI i ≤ 64 ∧ sizeI i ≤ 5 ∧ 1 ≤ sizeI i ∧ i.op ≤ 36 := by
  obtain ⟨h1, h4, h0, h⟩ := right_area h ha
  have ho := (right_op ‹_›).2
  have h4' : szI i.kd ≤ 4 := Ic.sz_le i.kd
  have hk : i.op < 34 → szI i.kd ≠ 0 := by
    intro hlt
    cases right_way ‹rightI i = true› with
    | lit _ h2 => exact absurd h2 ha
    | get _ _ _ ht => unfold thereB at ht; rw [decide_eq_true_iff] at ht; exact ht.1
    | put _ _ _ ht => unfold thereB at ht; rw [decide_eq_true_iff] at ht; exact ht.1
    | jump _ _ h2 => exact absurd h2 ha
    | bare _ _ h2 => exact absurd h2 ha
    | close _ _ h2 => exact absurd h2 ha
    | conv _ _ h2 => exact absurd h2 ha
    | opens _ _ h2 => exact absurd h2 ha
    | timer h => omega
    | trig h => omega
  unfold sizeI
  refine ⟨h1, h4, by omega, ?_, ?_, ?_, ho⟩
  · split
    · omega
    · split <;> omega
  · split
    · omega
    · split <;> omega
  · split
    · omega
    · split
      · omega
      · have := hk (by omega); omega
theorem sz_vals (k : Int) (h : szI k ≠ 0) : szI k = 1 ∨ szI k = 2 ∨ szI k = 4 := by
  unfold szI at *
  split
  · exact .inl rfl
  · split
    · exact .inr (.inl rfl)
    · split
      · exact .inr (.inr rfl)
      · rename_i h1 h2 h3; rw [if_neg h1, if_neg h2, if_neg h3] at h; exact absurd rfl h
theorem cBytesOf_any (i : In) (w : World) (h : rightI i = true) (ha : i.ar ≠ 0) : Calls Try.prog 28 #[insV i] w (Tells (.int .u64 (maskI i : Nat)) w) := by
  obtain ⟨_, _, h3, h4, _, h5, h6⟩ := right_size h ha
  obtain ⟨op, kd, ar, pl, n⟩ := i
  unfold maskI
  dsimp only at *
  obtain ⟨p, hp⟩ : ∃ p : Nat, p = pl.toNat := ⟨_, rfl⟩
  rw [← hp] at h3 h4 ⊢
  subst h3
  clear hp
  unfold sizeI at *
  dsimp only at *
  by_cases h34 : op = 34 ∨ op = 35
  · rw [if_pos h34] at *
    rcases h34 with rfl | rfl
    · exact bytes_34 kd ar n p w h4
    · exact bytes_35 kd ar n p w h4
  rw [if_neg h34] at *
  by_cases h36 : op = 36
  · rw [if_pos h36] at *
    subst h36
    exact bytes_36 kd ar n p w h4
  rw [if_neg h36] at *
  rcases sz_vals kd (by omega) with hs | hs | hs
  · rw [hs] at h4 ⊢
    exact bytes_k1 kd ar n p w op (by omega) hs h4
  · rw [hs] at h4 ⊢
    exact bytes_k2 kd ar n p w op (by omega) hs h4
  · rw [hs] at h4 ⊢
    exact bytes_k4 kd ar n p w op (by omega) hs h4

end Go.Proofs.Ytbejajnhgoejhaa.Ve
