/-
  The laws on programs that may run: what lies in memory from call to call; awake, walked. Conditions: none.
-/
import Derived.Test.YtbejajnhgoejhaaVeTouch
namespace Go.Proofs.Ytbejajnhgoejhaa.Ve
open Go.RowKit
open Go.Proofs.Ytbejajnhgoejhaa.Il hiding Next
open Go.Proofs.Ytbejajnhgoejhaa.Ic

theorem fitU (a : Int) (h : 0 ≤ a ∧ a < 18446744073709551616) : (Lit.int .u64 a).wf = true := by
  simp [Lit.wf, IntKind.min, IntKind.max, IntKind.signed, IntKind.bits]; omega
theorem key_u4 (d : Nat) (a b c e : Int) (ha : 0 ≤ a ∧ a < 18446744073709551616) (hb : 0 ≤ b ∧ b < 18446744073709551616) (hc : 0 ≤ c ∧ c < 18446744073709551616) (he : 0 ≤ e ∧ e < 18446744073709551616) :
    Try.prog.keyLits (d + 2) 37 [.int .u64 a, .int .u64 b, .int .u64 c, .int .u64 e] = some [.int .u64 a, .int .u64 b, .int .u64 c, .int .u64 e] := by
  have k : ∀ z : Int, (0 ≤ z ∧ z < 18446744073709551616) → Try.prog.keyLits (d + 1) 36 [.int .u64 z] = some [.int .u64 z] := fun z hz => by
    unfold Program.keyLits
    rw [Try.underlying36]
    simp [fitU z hz]
  have e0 : ∀ cs, Try.prog.keyLits (d + 2) 37 cs = if cs.length = Try.prog.cellsOf 37 then ((List.range 4).mapM fun i => Try.prog.keyLits (d + 1) 36 ((cs.drop (i * Try.prog.cellsOf 36)).take (Try.prog.cellsOf 36))).map List.flatten else none := fun cs => by
    conv => lhs; unfold Program.keyLits
    rw [Try.underlying37]
  rw [e0, show Try.prog.cellsOf 37 = 4 from by kernel_rfl, show Try.prog.cellsOf 36 = 1 from by kernel_rfl, if_pos (by rfl), show List.range 4 = [0, 1, 2, 3] from rfl]
  simp only [List.mapM_cons, List.mapM_nil, List.drop, List.take, k a ha, k b hb, k c hc, k e he]
  rfl
/-- Four numbers are themselves. -/
theorem u4_same (a b c e : Int) (ha : 0 ≤ a ∧ a < 18446744073709551616) (hb : 0 ≤ b ∧ b < 18446744073709551616) (hc : 0 ≤ c ∧ c < 18446744073709551616) (he : 0 ≤ e ∧ e < 18446744073709551616) (W : World) :
    (Op.equalIn 10000 37 (.agg #[.int .u64 a, .int .u64 b, .int .u64 c, .int .u64 e]) (.agg #[.int .u64 a, .int .u64 b, .int .u64 c, .int .u64 e])).run Try.prog W = .ok true W := by
  have hk := key_u4 3 a b c e ha hb hc he
  have hf : (Value.agg #[.int .u64 a, .int .u64 b, .int .u64 c, .int .u64 e]).formed Try.prog 37 = true := by
    unfold Value.formed
    rw [Try.underlying37, show Try.prog.cellsOf 37 = 4 from by kernel_rfl]
    rfl
  obtain ⟨r, hr, hiff⟩ := run_equalIn_deep (P := Try.prog) 9990 10 37 (by kernel_rfl) W _ _ _ _ _ _ hf hf hk hk
  rw [hiff.2 rfl] at hr
  exact hr
theorem Try.guardU4 : Try.prog.eqGuardType Try.prog.depth 37 = false := by kernel_rfl
theorem use_lt (ws : Bool) (c : List In) (j : Nat) : (0 : Int) ≤ (useB ws c j : Nat) ∧ ((useB ws c j : Nat) : Int) < 18446744073709551616 := by
  have : useB ws c j < 18446744073709551616 := by
    unfold useB
    cases h : allB c with
    | error e => simp
    | ok l => exact acc_lt (right_all h) j _
  omega

/-- A world behind the law's first one, in which a list lies. -/
structure At (w wr : World) (ao : Option Addr) (l : List In) : Prop where
  lies : Lies wr wr.heap.size ao l
  below : Below w.heap.size w wr
section
variable {w wr w' : World} {ao : Option Addr} {l : List In}
theorem At.first (h : Lies w w.heap.size ao l) : At w w ao l := ⟨h, Below.refl _ _⟩
theorem At.next (h : At w wr ao l) (hb : Below wr.heap.size wr w') : At w w' ao l := ⟨(h.lies.below hb).more hb.size, h.below.trans (hb.mono h.below.size)⟩
end

def ten (x y : In) : Array Value := #[.int .i64 x.op, .int .i64 x.kd, .int .i64 x.ar, .int .i64 x.pl, .int .i64 x.n, .int .i64 y.op, .int .i64 y.kd, .int .i64 y.ar, .int .i64 y.pl, .int .i64 y.n]
theorem lies_ten (W : World) (x y : In) : Lies (W.alloc (.cells (ten x y) 41)) (W.alloc (.cells (ten x y) 41)).heap.size (some ⟨W.heap.size, 0, none⟩) [x, y] := fun _ => by
  refine ⟨W.heap.size, 0, rfl, by simp, fun i z hz => ?_⟩
  have hc : ∀ j v, (ten x y)[j]? = some v → (W.alloc (.cells (ten x y) 41)).cell? ⟨W.heap.size, j, none⟩ = some v := fun j v hv => by rw [World.cell?_alloc_new]; exact hv
  match i with
  | 0 => injection hz with hz; subst hz; exact ⟨hc 0 _ rfl, hc 1 _ rfl, hc 2 _ rfl, hc 3 _ rfl, hc 4 _ rfl⟩
  | 1 => injection hz with hz; subst hz; exact ⟨hc 5 _ rfl, hc 6 _ rfl, hc 7 _ rfl, hc 8 _ rfl, hc 9 _ rfl⟩
  | i + 2 => simp at hz
def l1 : List In := [⟨1, 1, 0, 0, 0⟩, ⟨14, 3, 0, 0, 1⟩]
def l2 : List In := [⟨1, 1, 0, 0, 0⟩, ⟨3, 1, 2, 3, 0⟩]
def s2 : List Ah := [⟨true, 0, []⟩, ⟨true, 1, []⟩, ⟨true, 1, []⟩]
theorem fit_of {l : List In} (h : l.all (fun x => decide (-100 ≤ x.op ∧ x.op ≤ 100) && decide (-100 ≤ x.kd ∧ x.kd ≤ 100) && decide (-100 ≤ x.ar ∧ x.ar ≤ 100) && decide (-100 ≤ x.pl ∧ x.pl ≤ 100) && decide (-100 ≤ x.n ∧ x.n ≤ 100)) = true) : FitL l := fun k x hx => by
  have := List.all_eq_true.1 h x (List.mem_of_getElem? hx)
  simp only [Bool.and_eq_true, decide_eq_true_eq] at this
  unfold FitI I64
  omega
theorem chk1 : chkB l1 = (6, 1) := by decide +kernel
theorem all2 : allB l2 = .ok s2 := by rfl
theorem use2 : useB true l2 0 = 0 ∧ useB true l2 1 = 8 ∧ useB true l2 2 = 0 ∧ useB true l2 3 = 0 := by
  unfold useB
  rw [all2]
  decide +kernel

set_option maxRecDepth 100000 in
set_option maxHeartbeats 4000000 in
theorem wake_any (w : World) : Calls Try.prog 6 #[] w (Tells (.bool true) w) := by
  have HC := Lib.hid (fun W => cCheck_any l1 (some ⟨W.heap.size, 0, none⟩) 2 (W.alloc (.cells (ten ⟨1, 1, 0, 0, 0⟩ ⟨14, 3, 0, 0, 1⟩) 41)) (lies_ten W _ _) (fit_of (by decide +kernel)) (by unfold maxLen; decide))
  rw [chk1] at HC
  have HK := Lib.hid (fun W => cKinds_any l2 (some ⟨W.heap.size, 0, none⟩) 2 (W.alloc (.cells (ten ⟨1, 1, 0, 0, 0⟩ ⟨3, 1, 2, 3, 0⟩) 41)) (lies_ten W _ _) (fit_of (by decide +kernel)) (by unfold maxLen; decide))
  unfold KindsOf at HK
  rw [all2] at HK
  dsimp only at HK
  have HW := Lib.hid (fun W => cWritesOf_any l2 (some ⟨W.heap.size, 0, none⟩) 2 (W.alloc (.cells (ten ⟨1, 1, 0, 0, 0⟩ ⟨3, 1, 2, 3, 0⟩) 41)) (lies_ten W _ _) (fit_of (by decide +kernel)) (by unfold maxLen; decide))
  unfold u4V at HW
  obtain ⟨u0, u1, u2, u3⟩ := use2
  rw [u0, u1, u2, u3] at HW
  clear u0 u1 u2 u3
  unfold ten at HC HK HW
  rw [show l1.length = 2 from rfl] at HC
  rw [show l2.length = 2 from rfl] at HK HW
  have hu := u4_same 0 8 0 0 (by omega) (by omega) (by omega) (by omega)
  have hg := Try.guardU4
  go_enter Try.func6, Try.ntmps6
  go_wp2_with fail
  refine (HC.out _).mono ?_
  rintro e w1 ⟨rfl, hb1⟩
  have B1 := Lib.hid (((Below.refl w.heap.size w).alloc (Nat.le_refl _) (.cells (ten ⟨1, 1, 0, 0, 0⟩ ⟨14, 3, 0, 0, 1⟩) 41)).trans (hb1.mono (by simp)))
  clear hb1
  go_wp2_with fail
  refine (HK.out _).mono ?_
  rintro e w2 ⟨h, rfl, ho, hb2⟩
  have B2 := Lib.hid ((B1.out.alloc B1.out.size (.cells (ten ⟨1, 1, 0, 0, 0⟩ ⟨3, 1, 2, 3, 0⟩) 41)).trans (hb2.mono (by have := B1.out.size; simp; omega)))
  have k1 := (World.ownsRow.cellAt ho 1 (by omega)).trans (show (kindsV s2 2)[1]? = some (.int .i64 1) from rfl)
  clear B1 ho hb2
  go_wp2_with fail
  refine (HW.out _).mono ?_
  rintro e w3 ⟨rfl, hb3⟩
  have k2 := kept_cell hb3 (kept_cell ((Below.refl _ _).alloc (Nat.le_refl _) _) k1)
  have hlt : h < w3.heap.size := World.block_lt_of_cell? w3 _ k2
  have B3 := Lib.hid ((B2.out.alloc B2.out.size (.cells (ten ⟨1, 1, 0, 0, 0⟩ ⟨3, 1, 2, 3, 0⟩) 41)).trans (hb3.mono (by have := B2.out.size; simp; omega)))
  clear B2 hb3 k1
  go_wp2
  go_ret
  exact ⟨rfl, B3.out.alloc B3.out.size _⟩
end Go.Proofs.Ytbejajnhgoejhaa.Ve
