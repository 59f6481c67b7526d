/-
  What the rows' listed variables give the walks, and one start at which they lie so. Conditions: none.
-/
import Derived.Test.YtgeelnpdahlcpaaDoorMemTurn
import Derived.Stop.LaidErr
import Derived.LaidLaws
import Derived.Lib.LaidTab
import Derived.ChangeSame
import Derived.ProofKit
import Derived.OpenShut
import Derived.ShutString
import Derived.ChangeOld
import Derived.Carry
namespace Go.Proofs.YtgeelnpdahlcpaaDoor
open Go.RowKit Go.ChangeShapes Go.WideShapes

theorem Tryd.gTzT : (Tryd.prog.globals[0]?).map (·.type) = some 61 := by kernel_rfl
theorem Tryd.cellsTz : Tryd.prog.cellsOf 61 = 32 := by kernel_rfl
theorem Tryd.cellsU8 : Tryd.prog.cellsOf 5 = 1 := by kernel_rfl
def tzTab : List Int := [0, 1, 28, 2, 29, 14, 24, 3, 30, 22, 20, 15, 25, 17, 4, 8, 31, 27, 13, 23, 21, 19, 16, 7, 26, 12, 18, 6, 11, 5, 10, 9]
theorem tzTab_eq : tzTab = Lib.deBruijn32tab.map fun n : Nat => (n : Int) := by decide
theorem env_of_laid {W : World} (h : laidMet Tryd.prog Rows.membersSetsRow.laid W) : Tz W := by
  have ht : Lib.TabIs Tryd.prog W "math/bits.deBruijn32tab" .u8 tzTab :=
    Lib.tabIs_of_head Tryd.gTz Tryd.gTzT Tryd.underlying61 Tryd.underlying5 Tryd.cellsU8 Tryd.cellsTz h
  intro j hj
  unfold Lib.TabIs at ht
  have h0 := World.var?_cell Tryd.gTz ht j
  rw [h0, tzTab_eq]
  have hl : Lib.deBruijn32tab.length = 32 := by decide
  simp [hl, hj]

/-! ### One start that fits -/
def litsOf {H : Type} : DataW H → List Value
  | .agg l => l.map fun d => match d with | .lit (.int k z) => .int k z | _ => undef
  | _ => []
def lay (g : Nat) (cs : Array Value) (h : Array Obj) : Array Obj := h.modify g fun
  | .cells _ t frozen => .cells cs t frozen
  | o => o
noncomputable def laidWorld (os : Os) : World :=
  let w0 := World.holding Tryd.prog os ⟨#[], #[], []⟩
  { w0 with heap := lay 1 (litsOf (H := Unit) Rows.laid_internal_strconv_uint64pow10).toArray (lay 0 (litsOf (H := Unit) Rows.laid_math_bits_deBruijn32tab).toArray (lay 3 (litsOf (H := Unit) Rows.laid_math_bits_deBruijn64tab).toArray w0.heap)) }
theorem laidWorld_met (os : Os) (args : Array Value) : laidMet Tryd.prog Rows.membersSetsRow.laid ((laidWorld os).forCall (fun _ _ => 0) ⟨#[], args, []⟩).memory :=
  laidMet_of_run' 8 (by kernel_rfl) (by kernel_rfl)

/-! ### Arguments -/
theorem u8_nat {z : Int} (h : (Lit.int .u8 z).wf = true) : ∃ n : Nat, z = n ∧ (n : Int) ≤ 255 := by
  simp [Lit.wf, IntKind.min, IntKind.max, IntKind.signed, IntKind.bits] at h
  exact ⟨z.toNat, by omega, by omega⟩
theorem u32_set {z : Int} (h : (Lit.int .u32 z).wf = true) : ∃ s : St, z = (s.toNat : Int) := by
  simp [Lit.wf, IntKind.min, IntKind.max, IntKind.signed, IntKind.bits] at h
  refine ⟨BitVec.ofNat 32 z.toNat, ?_⟩
  rw [BitVec.toNat_ofNat]
  omega
theorem Tryd.cPair : Tryd.prog.cellsOf 41 = 2 := by kernel_rfl
theorem some_of_lt {α : Type} {l : List α} {i : Nat} (h : i < l.length) : ∃ x, l[i]? = some x := ⟨l[i], List.getElem?_eq_getElem h⟩
theorem agg_of {cs : Array Value} {l : List Value} (h : (Value.agg cs).cells.toList = l) : Value.agg cs = .agg l.toArray := by
  have h' : cs.toList = l := h
  subst h'
  rfl
section
variable {H : Type} {enc : TypeId × Value → H} {w : World} {base : Nat} {spare : Nat → Bool} {held : Bool}
theorem cells_pair {fuel : Nat} {cs : List Value} {x : DataW H × List MemPlace} (h : DataW.trod enc Tryd.prog w base spare held fuel 41 cs = some x) :
    ∃ a b : Nat, (a : Int) ≤ 255 ∧ (b : Int) ≤ 255 ∧ cs = [.int .u8 a, .int .u8 b] := by
  obtain ⟨ys, n, rfl, hx, hlen, hyl, hf⟩ := DataW.trod_array Tryd.underlying41 h
  rw [Tryd.cPair] at hlen
  obtain ⟨y0, e0⟩ := some_of_lt (l := ys) (i := 0) (by rw [hyl]; decide)
  obtain ⟨y1, e1⟩ := some_of_lt (l := ys) (i := 1) (by rw [hyl]; decide)
  obtain ⟨z0, h0, -, w0⟩ := DataW.trod_int Tryd.underlying5 ((hf 0 (by decide)).trans e0)
  obtain ⟨z1, h1, -, w1⟩ := DataW.trod_int Tryd.underlying5 ((hf 1 (by decide)).trans e1)
  rw [Tryd.cellsU8] at h0 h1
  obtain ⟨a, rfl, ha⟩ := u8_nat w0
  obtain ⟨b, rfl, hb⟩ := u8_nat w1
  refine ⟨a, b, ha, hb, ?_⟩
  match cs, hlen with
  | [v0, v1], _ =>
    simp at h0 h1
    rw [h0, h1]
variable {v : Value} {d : DataW H} {p : List MemPlace}
theorem open_pair {b : Nat} (hv : Value.okWide Tryd.prog w .any b 41 v) (h : DataW.Trod enc Tryd.prog w base spare held 41 v d p) :
    ∃ x y : Nat, (x : Int) ≤ 255 ∧ (y : Int) ≤ 255 ∧ v = .agg #[.int .u8 x, .int .u8 y] := by
  unfold Value.okWide at hv
  rw [Tryd.underlying41] at hv
  obtain ⟨cs, rfl, -, -⟩ := hv
  obtain ⟨n, h⟩ := h
  obtain ⟨a, c, ha, hb, hc⟩ := cells_pair h
  exact ⟨a, c, ha, hb, agg_of hc⟩
end
end Go.Proofs.YtgeelnpdahlcpaaDoor
