/-
  How many ticks an act has, and what a switch on its kind sees: walked. Conditions: none.
-/
import Derived.Test.YtedlfognpbbhhaaGreatDoorMaAct
namespace Go.Proofs.YtedlfognpbbhhaaGreatDoor.Ma
open Go.RowKit
open Go.Proofs.YtedlfognpbbhhaaGreatDoor.Frm (Fr)
attribute [local go_sem ↓] exec_ldC exec_stC exec_ldF exec_stF
attribute [local go_sem] stC_new0 stF_new0

def tkI (a : Ac) : Int := 1 + bits .and .i64 a.n 63
theorem and63 (z : Int) : 0 ≤ bits .and .i64 z 63 ∧ bits .and .i64 z 63 ≤ 63 := by
  have hw : ∀ m : Nat, m ≤ 63 → 0 ≤ IntKind.i64.wrap (m : Int) ∧ IntKind.i64.wrap (m : Int) ≤ 63 := fun m hm => by
    rw [IntKind.wrap_i64]
    omega
  have h : (BitVec.ofInt 64 z &&& BitVec.ofInt 64 63).toNat ≤ 63 := by
    rw [BitVec.toNat_and]
    exact Nat.le_trans Nat.and_le_right (by decide)
  exact hw _ h
theorem tkI_range (a : Ac) : 1 ≤ tkI a ∧ tkI a ≤ 64 := by
  have := and63 a.n
  unfold tkI
  omega
set_option maxRecDepth 100000 in
set_option maxHeartbeats 4000000 in
theorem cTicks (w : World) (a : Ac) : Calls Tryz.prog 11 #[.agg (actA a)] w (Tells (.int .i64 (tkI a)) w) := by
  have HB := Lib.hid (one_S w (actA a) 40)
  have x1 : (w.alloc (.cells (actA a) 40)).cell? ⟨w.heap.size, 1, none⟩ = some (.int .i64 a.n) := (AcOwn.new w a).at 1 rfl
  have e1 : IntKind.i64.wrap (1 + bits .and .i64 a.n 63) = tkI a := by
    have := and63 a.n
    rw [IntKind.wrap_i64]
    unfold tkI
    omega
  go_enter Tryz.func11, Tryz.ntmps11
  go_wp2
  go_ret
  exact ⟨rfl, HB.out⟩
end Go.Proofs.YtedlfognpbbhhaaGreatDoor.Ma
