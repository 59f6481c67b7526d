/-
  Minting and hopping, walked. Conditions: numbers such as their kinds hold.
-/
import Derived.Test.YtedlfognpbbhhaaGreatDoorEpMax
namespace Go.Proofs.YtedlfognpbbhhaaGreatDoor.Epo
open Go.RowKit

/-- How far a counter goes. -/
def lim (limit : Int) : Int := if 65535 < limit then 65535 else limit
theorem lim_run (limit : Int) (ts : Array TypeId) (t : TypeId) (W : World) : (Builtin.min_ ts t #[.int .i64 limit, .int .i64 65535]).run Tryz.prog W = .ok (.int .i64 (lim limit)) W := by
  rw [run_min_int2]; rfl

set_option maxRecDepth 100000 in
set_option maxHeartbeats 2000000 in
theorem mint_yes (x : Ep) (a i : Nat) (limit : Int) (w : World) (h1 : ¬ limit ≤ (x.c : Int)) (h2 : ¬ (65535 : Int) ≤ (x.c : Int)) : Calls Tryz.prog 90 #[.agg #[.int .u16 x.c, .int .u8 x.a, .int .u16 x.i], .int .u8 a, .int .u16 i, .int .i64 limit] w fun e w' => e = .returned (.tuple #[.agg #[.int .u16 (x.c + 1 : Nat), .int .u8 a, .int .u16 i], .bool true]) ∧ Below w.heap.size w w' := by
  have hm := lim_run limit
  have hd : decide (lim limit ≤ (x.c : Int)) = false := by unfold lim; simp; split <;> omega
  have hw : IntKind.u16.wrap ((x.c : Int) + 1) = ((x.c + 1 : Nat) : Int) := by rw [IntKind.wrap_u16]; omega
  have hi : IntKind.i64.wrap (x.c : Int) = x.c := by rw [IntKind.wrap_i64]; omega
  clear h1 h2
  generalize lim limit = m at *
  generalize x.c + 1 = c1 at *
  go_enter Tryz.func90, Tryz.ntmps90
  go_wp2
  exact bodyPost_ret (v := .tuple #[.agg #[.int .u16 (c1 : Nat), .int .u8 (a : Nat), .int .u16 (i : Nat)], .bool true]) (by simp [results, Tryz.results90, go_sem]) rfl ⟨rfl, ((Below.refl _ _).alloc (Nat.le_refl _) _).alloc (by simp) _⟩

set_option maxRecDepth 100000 in
set_option maxHeartbeats 2000000 in
theorem mint_no (x : Ep) (a i : Nat) (limit : Int) (w : World) (hx : x.c ≤ 65535) (h1 : limit ≤ (x.c : Int) ∨ (65535 : Int) ≤ (x.c : Int)) : Calls Tryz.prog 90 #[.agg #[.int .u16 x.c, .int .u8 x.a, .int .u16 x.i], .int .u8 a, .int .u16 i, .int .i64 limit] w fun e w' => e = .returned (.tuple #[.agg #[.int .u16 (0 : Nat), .int .u8 (0 : Nat), .int .u16 (0 : Nat)], .bool false]) ∧ Below w.heap.size w w' := by
  have hm := lim_run limit
  have hd : decide (lim limit ≤ (x.c : Int)) = true := by unfold lim; simp; split <;> omega
  have hi : IntKind.i64.wrap (x.c : Int) = x.c := by rw [IntKind.wrap_i64]; omega
  clear h1
  generalize lim limit = m at *
  go_enter Tryz.func90, Tryz.ntmps90
  go_wp2
  exact bodyPost_ret (v := .tuple #[.agg #[.int .u16 (0 : Nat), .int .u8 (0 : Nat), .int .u16 (0 : Nat)], .bool false]) (by simp [results, Tryz.results90, go_sem]) rfl ⟨rfl, ((Below.refl _ _).alloc (Nat.le_refl _) _).alloc (by simp) _⟩

set_option maxRecDepth 100000 in
set_option maxHeartbeats 2000000 in
theorem hop_yes (x : Ep) (h : Nat) (w : World) (hh : ¬ (65535 : Int) ≤ (h : Int)) : Calls Tryz.prog 96 #[.agg #[.int .u16 x.c, .int .u8 x.a, .int .u16 x.i, .int .u16 h]] w fun e w' => e = .returned (.tuple #[.agg #[.int .u16 x.c, .int .u8 x.a, .int .u16 x.i, .int .u16 (h + 1 : Nat)], .bool true]) ∧ Below w.heap.size w w' := by
  have he : ((h : Int) == 65535) = false := by simp; omega
  have hw : IntKind.u16.wrap ((h : Int) + 1) = ((h + 1 : Nat) : Int) := by rw [IntKind.wrap_u16]; omega
  clear hh
  generalize h + 1 = c1 at *
  go_enter Tryz.func96, Tryz.ntmps96
  go_wp2
  exact bodyPost_ret (v := .tuple #[.agg #[.int .u16 x.c, .int .u8 x.a, .int .u16 x.i, .int .u16 (c1 : Nat)], .bool true]) (by simp [results, Tryz.results96, go_sem]) rfl ⟨rfl, ((Below.refl _ _).alloc (Nat.le_refl _) _).alloc (by simp) _⟩

set_option maxRecDepth 100000 in
set_option maxHeartbeats 2000000 in
theorem hop_no (x : Ep) (w : World) : Calls Tryz.prog 96 #[.agg #[.int .u16 x.c, .int .u8 x.a, .int .u16 x.i, .int .u16 65535]] w fun e w' => e = .returned (.tuple #[.agg #[.int .u16 (0 : Nat), .int .u8 (0 : Nat), .int .u16 (0 : Nat), .int .u16 (0 : Nat)], .bool false]) ∧ Below w.heap.size w w' := by
  go_enter Tryz.func96, Tryz.ntmps96
  go_wp2
  exact bodyPost_ret (v := .tuple #[.agg #[.int .u16 (0 : Nat), .int .u8 (0 : Nat), .int .u16 (0 : Nat), .int .u16 (0 : Nat)], .bool false]) (by simp [results, Tryz.results96, go_sem]) rfl ⟨rfl, ((Below.refl _ _).alloc (Nat.le_refl _) _).alloc (by simp) _⟩

end Go.Proofs.YtedlfognpbbhhaaGreatDoor.Epo
