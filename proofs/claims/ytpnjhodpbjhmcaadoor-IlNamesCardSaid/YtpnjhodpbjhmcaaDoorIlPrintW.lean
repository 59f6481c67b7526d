/-
  The law IlPrints, walked: it returns true. Conditions: that the calls answer as is asked.
-/
import Derived.Test.YtpnjhodpbjhmcaaDoorIlPrt
import Derived.Test.YtpnjhodpbjhmcaaDoorIlSame
import Derived.Test.YtpnjhodpbjhmcaaDoorIlRightW
namespace Go.Proofs.YtpnjhodpbjhmcaaDoor.Il
open Go.RowKit
open Go.Proofs.YtpnjhodpbjhmcaaDoor.Ic

theorem asm_back {t : Bs} {l : List In} (h : asmB t = .ok l) {w w' : World} {e : Ending} (ha : Asms t w e w') : ∃ ao cap, e = .returned (.tuple #[.slice ao l.length cap, .int .i64 0, .int .i64 0]) ∧ Lies w' w'.heap.size ao l ∧ Below w.heap.size w w' := by
  obtain ⟨ao, cap, h1, h2, -, h3⟩ := ha
  rw [h] at h1 h2
  exact ⟨ao, cap, h1, h2, h3⟩

end Go.Proofs.YtpnjhodpbjhmcaaDoor.Il
