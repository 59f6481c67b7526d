/-
  What the rows' listed variables, and a world's shape, give the walks; one start at which the variables lie so. Conditions: none.
-/
import Derived.Test.YtpnjhodpbjhmcaaGreatDoorRows
import Derived.Test.YtpnjhodpbjhmcaaGreatDoorJc
import Derived.Stop.LaidErr
import Derived.LaidLaws
import Derived.Lib.LaidTab
import Derived.SizedLaws
import Derived.Shelf.Vars
namespace Go.Proofs.YtpnjhodpbjhmcaaGreatDoor.Il
open Go.RowKit

theorem Tryz.gT : (Tryz.prog.globals[0]?).map (·.type) = some 115 := by kernel_rfl
theorem Tryz.cells99 : Tryz.prog.cellsOf 99 = 1 := by kernel_rfl
theorem Tryz.cells115 : Tryz.prog.cellsOf 115 = 20 := by kernel_rfl
theorem env_of_laid {W : World} (h : laidMet Tryz.prog Rows.ilPrintsRow.laid W) (hs : W.ShapedOpen Tryz.prog) : Env W :=
  ⟨Lib.tabIs_of_head Tryz.gPow Tryz.gT Tryz.underlying115 Tryz.underlying99 Tryz.cells99 Tryz.cells115 h.tail.tail,
    cell_of_shapedOpen_int (g := 1) (t := 3) (zero := #[.int .i64 0]) hs (by decide +kernel) (by kernel_rfl) rfl (by kernel_rfl) (by kernel_rfl) Tryz.underlying3⟩

/-! ### One start that fits -/
def litsOf {H : Type} : DataW H → List Value
  | .agg l => l.flatMap fun d => match d with | .lit (.int k z) => [.int k z] | .agg m => (m.map fun d => match d with | .lit (.int k z) => .int k z | _ => undef) | _ => [undef]
  | _ => []
def layG (g : Nat) (cs : Array Value) (h : Array Obj) : Array Obj := h.modify g fun
  | .cells _ t frozen => .cells cs t frozen
  | o => o
noncomputable def laidWorld (os : Os) : World :=
  let w0 := World.holding Tryz.prog os ⟨#[], #[], []⟩
  { w0 with heap := layG 3 (litsOf (H := Unit) Rows.laid_unicode_utf8_acceptRanges).toArray (layG 2 (litsOf (H := Unit) Rows.laid_unicode_utf8_first).toArray
      (layG 0 (litsOf (H := Unit) Rows.laid_internal_strconv_uint64pow10).toArray
        (layG 4 (litsOf (H := Unit) Rows.laid_math_bits_deBruijn32tab).toArray (layG 5 (litsOf (H := Unit) Rows.laid_math_bits_deBruijn64tab).toArray w0.heap)))) }
theorem laidWorld_met (os : Os) (args : Array Value) : laidMet Tryz.prog Rows.ilPrintsRow.laid ((laidWorld os).forCall (fun _ _ => 0) ⟨#[], args, []⟩).memory :=
  laidMet_of_run' 8 (by kernel_rfl) (by kernel_rfl)

/-! ### The wrap of a row that lists variables, with the world's shape handed on -/
theorem returns_laid {H : Type} {enc : TypeId × Value → H} {a : Assume} {C : Checked} {os : Os} {f : FuncId} {fn : Func} {s : ChangeSpec} {conds : List PathCond} {apart fresh handsOn again : Bool} {X : World → Array Value → Prop}
    (hX : ∀ (w w' : World) (args : Array Value), w.heap = w'.heap → X w args → X w' args) (own : ownKnob C.prog.godebug = none) (started : os.Started) (noInit : C.prog.inits.idxOf? f = none) (hfn : C.prog.funcs[f]? = some fn)
    (start : ∃ (w : World) (tape : Tape) (i : Input), w.os = os ∧ (w.forCall tape i).Shaped C.prog ∧ i.vars = [] ∧ Input.okWide C.prog (w.forCall tape i) .any w.heap.size f i ∧
      ((s.pre enc C.prog fn conds apart (w.forCall tape i).memory i.args ∧ X (w.forCall tape i).memory i.args) ∧ sizedMet enc C.prog fn (OpenSpec.ofChange s) apart (w.forCall tape i).memory i.args) ∧ a.holds C.prog (lone (Frame.enter C.prog f i.args .normal) [] (w.forCall tape i)))
    (walk : ∀ (W : World) (base : Nat) (args : Array Value) (ds gs : List (DataW H)) (before : List MemPlace), W.ShapedOpen C.prog → X W args →
      (∀ (j : Nat) t v, fn.params[j]? = some t → args[j]? = some v → Value.okWide C.prog W .any base t v) → DataW.Whole enc C.prog fn.params.toList s.vars apart W args.toList ds gs before →
      Calls C.prog f args W fun e W' => ∃ v, e = .returned v ∧ s.post enc C.prog fn apart fresh handsOn again W args v W') :
    ReturnsInHanded a C os f .any (fun w args => (s.pre enc C.prog fn conds apart w args ∧ X w args) ∧ sizedMet enc C.prog fn (OpenSpec.ofChange s) apart w args) (s.post enc C.prog fn apart fresh handsOn again) :=
  returnsInHanded_of_calls own started noInit start fun w tape i _ hshape _ hok hpre _ => by
    obtain ⟨_, _, _, fn', hfn', _, _, _, _, hval⟩ := hok
    cases Option.some.inj (hfn'.symm.trans hfn)
    have hall := hpre.1.1
    obtain ⟨ds, gs, before, hw, _⟩ := hall
    exact (walk (w.forCall tape i) w.heap.size i.args ds gs before hshape (hX _ _ _ (by rfl) hpre.1.2) hval (DataW.Whole.of_heap (w' := w.forCall tape i) (by rfl) hw)).mono
      fun e W' h => by obtain ⟨v, he, hp⟩ := h; rw [he]; exact ChangeSpec.post_blind hp

end Go.Proofs.YtpnjhodpbjhmcaaGreatDoor.Il
