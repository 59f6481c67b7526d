/-
  One address, more or less, walked. Conditions: none.
-/
import Derived.Test.YtedlfognpbbhhaaGreatDoorRows
import Derived.Test.YtedlfognpbbhhaaGreatDoorMemMath
import Derived.WalkKit
import Derived.WalkSpells
import Derived.WalkLawsBesides
import Derived.Laws.BitsAllLaws
import Derived.Lib.Hide
import Derived.Below
import Derived.BigQuiet
import Derived.Deep.QuietTactic
import Derived.StillTailTactics
namespace Go.Proofs.YtedlfognpbbhhaaGreatDoor.Mem
open Go.RowKit

theorem ret_int {k : IntKind} {a b : Int} (h : a = b) : Ending.returned (.int k a) = .returned (.int k b) := by rw [h]
theorem ret_bool {a b : Bool} (h : a = b) : Ending.returned (.bool a) = .returned (.bool b) := by rw [h]

/-- A set as Go holds it. -/
abbrev sv (s : St) : Value := .int .u32 (s.toNat : Int)

theorem and32 (s t : St) : bits .and .u32 (s.toNat : Int) (t.toNat : Int) = ((s &&& t).toNat : Int) := by
  rw [u32_and_nat _ _ s.isLt t.isLt, BitVec.toNat_and]
theorem or32 (s t : St) : bits .or .u32 (s.toNat : Int) (t.toNat : Int) = ((s ||| t).toNat : Int) := by
  rw [u32_or_nat _ _ s.isLt t.isLt, BitVec.toNat_or]
theorem andNot32 (s t : St) : bits .andNot .u32 (s.toNat : Int) (t.toNat : Int) = ((s &&& ~~~ t).toNat : Int) := by
  rw [u32_andNot_nat _ _ s.isLt t.isLt, BitVec.toNat_and, BitVec.toNat_not]

theorem isAddr_any (a : Int) (w : World) : Calls Tryz.prog 66 #[.int .i64 a] w fun e w' => e = .returned (.bool (adr a)) ∧ w = w' := by
  by_cases h0 : 0 ≤ a
  · have h1 : decide (0 ≤ a) = true := by simpa using h0
    go_enter Tryz.func66, Tryz.ntmps66
    go_wp2
    go_ret
    exact ⟨ret_bool (by simp [adr, h0]), rfl⟩
  · have h1 : decide (0 ≤ a) = false := by simpa using h0
    go_enter Tryz.func66, Tryz.ntmps66
    go_wp2
    go_ret
    exact ⟨ret_bool (by unfold adr; rw [h1]; rfl), rfl⟩

theorem one_shift (a : Int) (h : adr a = true) : IntKind.u32.wrap (2 ^ min a.toNat 32) = ((one a).toNat : Int) := by
  have h1 := (adr_iff a).1 h
  have e : min a.toNat 32 = a.toNat := by omega
  rw [e]
  unfold one
  rw [if_pos h, BitVec.toNat_twoPow, IntKind.wrap_u32]
  have : (2 : Int) ^ a.toNat = ((2 ^ a.toNat : Nat) : Int) := by simp
  rw [this]
  omega

theorem alone_any (a : Int) (w : World) : Calls Tryz.prog 63 #[.int .i64 a] w fun e w' => e = .returned (sv (one a)) ∧ w = w' := by
  by_cases h : adr a = true
  · have hs := one_shift a h
    have h0 := ((adr_iff a).1 h).1
    go_enter Tryz.func63, Tryz.ntmps63
    go_wp2_with fail
    refine (isAddr_any a w).mono ?_
    rintro e w1 ⟨rfl, rfl⟩
    rw [h]
    go_wp2
    go_ret
    exact ⟨rfl, rfl⟩
  · have h := eq_false_of_ne_true h
    go_enter Tryz.func63, Tryz.ntmps63
    go_wp2_with fail
    refine (isAddr_any a w).mono ?_
    rintro e w1 ⟨rfl, rfl⟩
    rw [h]
    go_wp2
    go_ret
    exact ⟨ret_int (by rw [one_none a h]; rfl), rfl⟩

theorem has_zero (s : St) (a : Int) : (bits .and .u32 (s.toNat : Int) ((one a).toNat : Int) != 0) = hasB s a := by
  rw [and32]
  show (!(((s &&& one a).toNat : Int) == 0)) = hasB s a
  rw [Bool.eq_iff_iff]
  have hz : ((((s &&& one a).toNat : Int) == 0) = true) ↔ s &&& one a = 0#32 := by
    rw [beq_iff_eq]
    constructor
    · intro h; exact BitVec.eq_of_toNat_eq (by simpa using h)
    · intro h; rw [h]; rfl
  rw [Bool.not_eq_true', ← Bool.not_eq_true, hz]
  by_cases h : adr a = true
  · have h1 := (adr_iff a).1 h
    obtain ⟨i, rfl⟩ := Int.eq_ofNat_of_zero_le h1.1
    have hi : i < 32 := by omega
    rw [hasB_nat]
    constructor
    · intro hn
      by_cases c : s.getLsbD i = true
      · exact c
      · exfalso
        apply hn
        apply st_ext
        intro j hj
        rw [BitVec.getLsbD_and, one_bit _ _ hj]
        by_cases e : i = j
        · subst e; simp at c; simp [c]
        · simp; omega
    · intro hb he
      have := congrArg (fun x => BitVec.getLsbD x i) he
      simp only [BitVec.getLsbD_and, one_bit _ _ hi] at this
      simp [hb] at this
  · have h := eq_false_of_ne_true h
    rw [one_none a h]
    simp [hasB, h]

theorem Has_any (s : St) (a : Int) (w : World) : Calls Tryz.prog 48 #[sv s, .int .i64 a] w fun e w' => e = .returned (.bool (hasB s a)) ∧ w = w' := by
  have h2 := has_zero s a
  go_enter Tryz.func48, Tryz.ntmps48
  go_wp2_with fail
  refine (alone_any a w).mono ?_
  rintro e w1 ⟨rfl, rfl⟩
  go_wp2
  go_ret
  exact ⟨rfl, rfl⟩

theorem With_any (s : St) (a : Int) (w : World) : Calls Tryz.prog 41 #[sv s, .int .i64 a] w fun e w' => e = .returned (sv (withB s a)) ∧ w = w' := by
  go_enter Tryz.func41, Tryz.ntmps41
  go_wp2_with fail
  refine (alone_any a w).mono ?_
  rintro e w1 ⟨rfl, rfl⟩
  go_wp2
  go_ret
  exact ⟨ret_int (or32 s (one a)), rfl⟩

theorem Without_any (s : St) (a : Int) (w : World) : Calls Tryz.prog 40 #[sv s, .int .i64 a] w fun e w' => e = .returned (sv (woB s a)) ∧ w = w' := by
  go_enter Tryz.func40, Tryz.ntmps40
  go_wp2_with fail
  refine (alone_any a w).mono ?_
  rintro e w1 ⟨rfl, rfl⟩
  go_wp2
  go_ret
  exact ⟨ret_int (andNot32 s (one a)), rfl⟩

theorem low_nat (n : Nat) : ((low n).toNat : Int) = IntKind.u32.wrap (IntKind.u32.wrap (2 ^ min n 32) - 1) := by
  unfold low
  rw [BitVec.toNat_ofNat, IntKind.wrap_u32, IntKind.wrap_u32]
  by_cases h : n ≤ 32
  · have e : min n 32 = n := by omega
    rw [e]
    have e2 : (2 : Int) ^ n = ((2 ^ n : Nat) : Int) := by simp
    have e3 : 0 < 2 ^ n := Nat.two_pow_pos n
    rw [e2]
    omega
  · have e : min n 32 = 32 := by omega
    have e3 : 2 ^ n = 2 ^ (n - 32) * 2 ^ 32 := by rw [← Nat.pow_add]; congr 1; omega
    have e4 : 0 < 2 ^ (n - 32) := Nat.two_pow_pos _
    rw [e, e3]
    generalize 2 ^ (n - 32) = k at *
    omega

theorem lowest_any (n : Nat) (w : World) : Calls Tryz.prog 86 #[.int .i64 n] w fun e w' => e = .returned (sv (low n)) ∧ w = w' := by
  have h1 : (0 : Int) ≤ n := by omega
  go_enter Tryz.func86, Tryz.ntmps86
  go_wp2
  go_ret
  exact ⟨ret_int (by rw [low_nat, IntKind.wrap_u32, IntKind.wrap_u32]), rfl⟩

/-- The builtins' answers, hidden. -/
theorem max_run (a : Int) (ts : Array TypeId) (t : TypeId) (W : World) : (Builtin.max_ ts t #[.int .i64 a, .int .i64 (-1)]).run Tryz.prog W = .ok (.int .i64 (max a (-1))) W := by
  rw [run_max_int2]
  congr 2
  split <;> omega
theorem min_run (a : Int) (ts : Array TypeId) (t : TypeId) (W : World) : (Builtin.min_ ts t #[.int .i64 (max a (-1)), .int .i64 31]).run Tryz.prog W = .ok (.int .i64 ((upN a : Int) - 1)) W := by
  rw [run_min_int2]
  unfold upN
  congr 2
  split <;> omega

theorem upTo_any (a : Int) (w : World) : Calls Tryz.prog 98 #[.int .i64 a] w fun e w' => e = .returned (sv (upB a)) ∧ w = w' := by
  have h1 := max_run a
  have h2 := min_run a
  have h3 : upN a ≤ 32 := by unfold upN; omega
  have h4 : IntKind.i64.wrap ((upN a : Int) - 1 + 1) = upN a := by rw [IntKind.wrap_i64]; omega
  go_enter Tryz.func98, Tryz.ntmps98
  go_wp2_with fail
  refine (lowest_any (upN a) w).mono ?_
  rintro e w1 ⟨rfl, rfl⟩
  go_wp2
  go_ret
  exact ⟨rfl, rfl⟩

end Go.Proofs.YtedlfognpbbhhaaGreatDoor.Mem
