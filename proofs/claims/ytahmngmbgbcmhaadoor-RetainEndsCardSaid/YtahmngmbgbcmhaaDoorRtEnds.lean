/-
  Plain facts ahead of the law RetainEnds: a record in the first slot, and nothing in the second. Conditions: none.
-/
import Derived.Test.YtahmngmbgbcmhaaDoorRtTears
namespace Go.Proofs.YtahmngmbgbcmhaaDoor.Ret
open Go.RowKit
open Oct
open Sto (St CodeAt Only)

/-- A record in the first slot, nothing in the second. -/
def endL (r : Rc) : List UInt8 := (165 :: slot r) ++ List.replicate 74 0
theorem endL_length {r : Rc} (h : r.d.size ≤ 64) : (endL r).length = 148 := by simp [endL, slot_length h]
theorem end_new {r : Rc} (h : r.Ok) : newI (endL r) = 0 ∧ newR (endL r) = r := by
  have h74 : (165 :: slot r : List UInt8).length = 74 := by simp [slot_length h.d]
  have e1 : (endL r).take 74 = 165 :: slot r := by unfold endL; rw [List.take_append_of_le_length (by omega), List.take_of_length_le (by omega)]
  have e2 : ((endL r).drop 74).take 74 = List.replicate 74 0 := by unfold endL; rw [← h74, List.drop_left, h74, List.take_of_length_le (by simp)]
  obtain ⟨w1, w2⟩ := whole_yes h
  have w3 : wholeB (List.replicate 74 (0 : UInt8)) = false := whole_no rfl
  unfold newI newR
  rw [e1, e2, w1, w2, w3]
  exact ⟨rfl, rfl⟩

/-- A goal at a world that is written out, at any world of which so much is told. -/
theorem any_world {G : World → Prop} {W0 : World} (T : World → Prop) (h0 : T W0) (h : ∀ W, T W → G W) : G W0 := h W0 h0

end Go.Proofs.YtahmngmbgbcmhaaDoor.Ret
