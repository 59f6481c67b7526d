/-
  The laws on programs that may run: what lies in memory from call to call; awake, walked. Conditions: none.
-/
import Derived.Test.YtbjmdehfdnpljaaVeD
namespace Go.Proofs.Ytbjmdehfdnpljaa.Ve
open Go.RowKit
open Go.Proofs.Ytbjmdehfdnpljaa.Il hiding Next
open Go.Proofs.Ytbjmdehfdnpljaa.Ic hiding I64

theorem fitU (a : Int) (h : 0 ≤ a ∧ a < 18446744073709551616) : (Lit.int .u64 a).wf = true := by
  simp [Lit.wf, IntKind.min, IntKind.max, IntKind.signed, IntKind.bits]; omega
theorem key_u4 (d : Nat) (a b c e : Int) (ha : 0 ≤ a ∧ a < 18446744073709551616) (hb : 0 ≤ b ∧ b < 18446744073709551616) (hc : 0 ≤ c ∧ c < 18446744073709551616) (he : 0 ≤ e ∧ e < 18446744073709551616) :
    Try.prog.keyLits (d + 2) 47 [.int .u64 a, .int .u64 b, .int .u64 c, .int .u64 e] = some [.int .u64 a, .int .u64 b, .int .u64 c, .int .u64 e] := by
  have k : ∀ z : Int, (0 ≤ z ∧ z < 18446744073709551616) → Try.prog.keyLits (d + 1) 46 [.int .u64 z] = some [.int .u64 z] := fun z hz => by
    unfold Program.keyLits
    rw [Try.underlying46]
    simp [fitU z hz]
  have e0 : ∀ cs, Try.prog.keyLits (d + 2) 47 cs = if cs.length = Try.prog.cellsOf 47 then ((List.range 4).mapM fun i => Try.prog.keyLits (d + 1) 46 ((cs.drop (i * Try.prog.cellsOf 46)).take (Try.prog.cellsOf 46))).map List.flatten else none := fun cs => by
    conv => lhs; unfold Program.keyLits
    rw [Try.underlying47]
  rw [e0, show Try.prog.cellsOf 47 = 4 from by kernel_rfl, show Try.prog.cellsOf 46 = 1 from by kernel_rfl, if_pos (by rfl), show List.range 4 = [0, 1, 2, 3] from rfl]
  simp only [List.mapM_cons, List.mapM_nil, List.drop, List.take, k a ha, k b hb, k c hc, k e he]
  rfl
/-- Four numbers are themselves. -/
theorem u4_same (a b c e : Int) (ha : 0 ≤ a ∧ a < 18446744073709551616) (hb : 0 ≤ b ∧ b < 18446744073709551616) (hc : 0 ≤ c ∧ c < 18446744073709551616) (he : 0 ≤ e ∧ e < 18446744073709551616) (W : World) :
    (Op.equalIn 10000 47 (.agg #[.int .u64 a, .int .u64 b, .int .u64 c, .int .u64 e]) (.agg #[.int .u64 a, .int .u64 b, .int .u64 c, .int .u64 e])).run Try.prog W = .ok true W := by
  have hk := key_u4 3 a b c e ha hb hc he
  have hf : (Value.agg #[.int .u64 a, .int .u64 b, .int .u64 c, .int .u64 e]).formed Try.prog 47 = true := by
    unfold Value.formed
    rw [Try.underlying47, show Try.prog.cellsOf 47 = 4 from by kernel_rfl]
    rfl
  obtain ⟨r, hr, hiff⟩ := run_equalIn_deep (P := Try.prog) 9990 10 47 (by kernel_rfl) W _ _ _ _ _ _ hf hf hk hk
  rw [hiff.2 rfl] at hr
  exact hr
theorem Try.guardU4 : Try.prog.eqGuardType Try.prog.depth 47 = false := by kernel_rfl
theorem use_lt (ws : Bool) (c : List In) (j : Nat) : (0 : Int) ≤ (useB ws c j : Nat) ∧ ((useB ws c j : Nat) : Int) < 18446744073709551616 := by
  have : useB ws c j < 18446744073709551616 := by
    unfold useB
    cases h : allB c with
    | error e => simp
    | ok l => exact acc_lt (right_all h) j _
  omega

/-- A world behind the law's first one, in which a list lies. -/
structure At (w wr : World) (ao : Option Addr) (l : List In) : Prop where
  lies : Lies wr wr.heap.size ao l
  below : Below w.heap.size w wr
section
variable {w wr w' : World} {ao : Option Addr} {l : List In}
theorem At.first (h : Lies w w.heap.size ao l) : At w w ao l := ⟨h, Below.refl _ _⟩
theorem At.next (h : At w wr ao l) (hb : Below wr.heap.size wr w') : At w w' ao l := ⟨(h.lies.below hb).more hb.size, h.below.trans (hb.mono h.below.size)⟩
end

def ten (x y : In) : Array Value := #[.int .i64 x.op, .int .i64 x.kd, .int .i64 x.ar, .int .i64 x.pl, .int .i64 x.n, .int .i64 y.op, .int .i64 y.kd, .int .i64 y.ar, .int .i64 y.pl, .int .i64 y.n]
theorem lies_ten (W : World) (x y : In) : Lies (W.alloc (.cells (ten x y) 54)) (W.alloc (.cells (ten x y) 54)).heap.size (some ⟨W.heap.size, 0, none⟩) [x, y] := fun _ => by
  refine ⟨W.heap.size, 0, rfl, by simp, fun i z hz => ?_⟩
  have hc : ∀ j v, (ten x y)[j]? = some v → (W.alloc (.cells (ten x y) 54)).cell? ⟨W.heap.size, j, none⟩ = some v := fun j v hv => by rw [World.cell?_alloc_new]; exact hv
  match i with
  | 0 => injection hz with hz; subst hz; exact ⟨hc 0 _ rfl, hc 1 _ rfl, hc 2 _ rfl, hc 3 _ rfl, hc 4 _ rfl⟩
  | 1 => injection hz with hz; subst hz; exact ⟨hc 5 _ rfl, hc 6 _ rfl, hc 7 _ rfl, hc 8 _ rfl, hc 9 _ rfl⟩
  | i + 2 => simp at hz
def l1 : List In := [⟨1, 1, 0, 0, 0⟩, ⟨14, 3, 0, 0, 1⟩]
def l2 : List In := [⟨1, 1, 0, 0, 0⟩, ⟨3, 1, 2, 3, 0⟩]
def s2 : List Ah := [⟨true, 0, []⟩, ⟨true, 1, []⟩, ⟨true, 1, []⟩]
theorem fit_of {l : List In} (h : l.all (fun x => decide (-100 ≤ x.op ∧ x.op ≤ 100) && decide (-100 ≤ x.kd ∧ x.kd ≤ 100) && decide (-100 ≤ x.ar ∧ x.ar ≤ 100) && decide (-100 ≤ x.pl ∧ x.pl ≤ 100) && decide (-100 ≤ x.n ∧ x.n ≤ 100)) = true) : FitL l := fun k x hx => by
  have := List.all_eq_true.1 h x (List.mem_of_getElem? hx)
  simp only [Bool.and_eq_true, decide_eq_true_eq] at this
  unfold FitI I64
  omega
theorem chk1 : chkB l1 = (6, 1) := by decide +kernel
theorem all2 : allB l2 = .ok s2 := by rfl
theorem use2 : useB true l2 0 = 0 ∧ useB true l2 1 = 8 ∧ useB true l2 2 = 0 ∧ useB true l2 3 = 0 := by
  unfold useB
  rw [all2]
  decide +kernel

end Go.Proofs.Ytbjmdehfdnpljaa.Ve
