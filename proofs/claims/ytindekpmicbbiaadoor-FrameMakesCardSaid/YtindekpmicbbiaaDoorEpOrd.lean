/-
  Comparing numbers, the first that is not 0, and comparing epochs, walked. Conditions: none.
-/
import Derived.Test.YtindekpmicbbiaaDoorRows
import Derived.Test.YtindekpmicbbiaaDoorEpMath
import Derived.WalkKit
import Derived.WalkSpells
import Derived.WalkLawsBesides
import Derived.Lib.Hide
import Derived.Below
import Derived.BigQuiet
import Derived.Deep.QuietTactic
import Derived.StillTailTactics
namespace Go.Proofs.YtindekpmicbbiaaDoor.Epo
open Go.RowKit

theorem ret_int {k : IntKind} {a b : Int} (h : a = b) : Ending.returned (.int k a) = .returned (.int k b) := by rw [h]

theorem orL_drop (xs : List Int) (k : Nat) (h : k < xs.length) : orL (xs.drop k) = if xs[k] = 0 then orL (xs.drop (k + 1)) else xs[k] := by
  rw [List.drop_eq_getElem_cons h]; rfl

end Go.Proofs.YtindekpmicbbiaaDoor.Epo
