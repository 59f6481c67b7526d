/-
  What the rows' listed variables give the walks, and one start at which they lie so. Conditions: none.
-/
import Derived.Test.YtgdamcajjifliaaDoorRows
import Derived.Test.YtgdamcajjifliaaDoorFmt
import Derived.Stop.LaidErr
import Derived.LaidLaws
import Derived.Lib.LaidTab
namespace Go.Proofs.YtgdamcajjifliaaDoor
open Go.RowKit

theorem Tryd.gES : Tryd.prog.globalNamed "strconv.ErrSyntax" = some 2 := by kernel_rfl
theorem Tryd.gER : Tryd.prog.globalNamed "strconv.ErrRange" = some 3 := by kernel_rfl
theorem Tryd.gESType : (Tryd.prog.globals[2]?).map (·.type) = some 60 := by kernel_rfl
theorem Tryd.gERType : (Tryd.prog.globals[3]?).map (·.type) = some 60 := by kernel_rfl
theorem Tryd.gT : (Tryd.prog.globals[1]?).map (·.type) = some 80 := by kernel_rfl
theorem Tryd.cells95 : Tryd.prog.cellsOf 95 = 1 := by kernel_rfl
theorem Tryd.cells9 : Tryd.prog.cellsOf 9 = 1 := by kernel_rfl
theorem Tryd.cells28 : Tryd.prog.cellsOf 28 = 1 := by kernel_rfl
theorem Tryd.cells80 : Tryd.prog.cellsOf 80 = 20 := by kernel_rfl
theorem Tryd.star : "*" ++ "errors.errorString" = "*errors.errorString" := by decide
theorem Tryd.row93 (u : TypeId) (h : Tryd.prog.typeName? 3 u = some "*errors.errorString") : u = 93 :=
  typeName_ptr_named (nm := "errors.errorString") (by rw [Tryd.star]; kernel_rfl) (by kernel_rfl) (by decide) u (by rw [Tryd.star]; exact h)

theorem env_of_laid {W : World} (h : laidMet Tryd.prog Rows.epochOrdersRow.laid W) : Env W := by
  have h3 := h.tail.tail
  have h4 := h3.tail
  have h5 := h4.tail
  have ht : Lib.TabIs Tryd.prog W "internal/strconv.uint64pow10" .u64 Lib.pow10Tab :=
    Lib.tabIs_of_head Tryd.g1 Tryd.gT Tryd.underlying80 Tryd.underlying28 Tryd.cells28 Tryd.cells80 h3
  obtain ⟨a0, s0, hv0, -, -, -⟩ := laid_sentinel h4 Tryd.gER Tryd.gERType Tryd.underlying60 Tryd.row93 Tryd.underlying93 Tryd.underlying95 rfl rfl Tryd.underlying9 Tryd.cells95 Tryd.cells9
  obtain ⟨a1, s1, hv1, -, -, -⟩ := laid_sentinel h5 Tryd.gES Tryd.gESType Tryd.underlying60 Tryd.row93 Tryd.underlying93 Tryd.underlying95 rfl rfl Tryd.underlying9 Tryd.cells95 Tryd.cells9
  exact ⟨ht, ⟨_, _, by have h0 := World.var?_cell Tryd.gES hv1 0; simpa using h0⟩, _, _, by have h0 := World.var?_cell Tryd.gER hv0 0; simpa using h0⟩

/-! ### One start that fits -/
def litsOf {H : Type} : DataW H → List Value
  | .agg l => l.map fun d => match d with | .lit (.int k z) => .int k z | _ => undef
  | _ => []
/-- So many blocks has the settled world. -/
noncomputable def low : Nat := (World.holding Tryd.prog default ⟨#[], #[], []⟩).heap.size
def lay (g : Nat) (cs : Array Value) (h : Array Obj) : Array Obj := h.modify g fun
  | .cells _ t frozen => .cells cs t frozen
  | o => o
noncomputable def laidWorld (os : Os) : World :=
  let w0 := World.holding Tryd.prog os ⟨#[.cells #[.string ⟨#[105, 110, 118, 97, 108, 105, 100, 32, 115, 121, 110, 116, 97, 120]⟩] 95, .cells #[.string ⟨#[118, 97, 108, 117, 101, 32, 111, 117, 116, 32, 111, 102, 32, 114, 97, 110, 103, 101]⟩] 95], #[], []⟩
  { w0 with heap := lay 1 (litsOf (H := Unit) Rows.laid_internal_strconv_uint64pow10).toArray (lay 2 #[.iface 93 (.pointer (some ⟨low, 0, none⟩))] (lay 3 #[.iface 93 (.pointer (some ⟨low + 1, 0, none⟩))]
      (lay 4 (litsOf (H := Unit) Rows.laid_math_bits_deBruijn32tab).toArray (lay 5 (litsOf (H := Unit) Rows.laid_math_bits_deBruijn64tab).toArray w0.heap)))) }
theorem laidWorld_met (os : Os) (args : Array Value) : laidMet Tryd.prog Rows.epochOrdersRow.laid ((laidWorld os).forCall (fun _ _ => 0) ⟨#[], args, []⟩).memory :=
  laidMet_of_run' 8 (by kernel_rfl) (by kernel_rfl)

end Go.Proofs.YtgdamcajjifliaaDoor
