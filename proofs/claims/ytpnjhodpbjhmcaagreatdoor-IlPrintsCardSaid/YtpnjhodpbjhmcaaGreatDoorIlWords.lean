/-
  The reference's Words, walked. Conditions: texts of up to 1000 bytes.
-/
import Derived.Test.YtpnjhodpbjhmcaaGreatDoorIlSplit
import Derived.Test.YtpnjhodpbjhmcaaGreatDoorIlSp
namespace Go.Proofs.YtpnjhodpbjhmcaaGreatDoor.Il
open Go.RowKit
open Go.Proofs.YtpnjhodpbjhmcaaGreatDoor.Ic

theorem split_head (c : UInt8) : ∀ (s : Bs), (splitB c s)[0]? = some (cutB c s)
  | [] => rfl
  | x :: s => by
    have ih := split_head c s
    unfold splitB cutB
    by_cases h : x = c
    · rw [if_pos h]; simp [h]
    · rw [if_neg h, List.takeWhile_cons, if_pos (by simpa using h)]
      cases hs : splitB c s with
      | nil => exact absurd hs (split_ne c s)
      | cons a r =>
        rw [hs] at ih
        simp at ih
        simp [ih, cutB]
theorem full_snoc {L : List Bs} {k : Nat} {x : Bs} (h : L[k]? = some x) : fullB (L.take (k + 1)) = fullB (L.take k) ++ (if x = [] then [] else [x]) := by
  unfold fullB
  rw [List.take_add_one, h]
  simp only [Option.toList, List.filter_append]
  congr 1
  by_cases hx : x = [] <;> simp [hx]
/-- A row of texts that may be read. -/
def TextsAt (W : World) (g : Nat) (L : List Bs) : Prop := ∀ (j : Nat) (x : Bs), L[j]? = some x → W.cell? ⟨g, j, none⟩ = some (.string (S x))
theorem TextsAt.kept {w w' : World} {g : Nat} {L : List Bs} (h : TextsAt w g L) (hb : Below w.heap.size w w') : TextsAt w' g L := fun j x hx => kept_cell hb (h j x hx)
theorem row_texts {w : World} {N n : Nat} {v : Value} {L : List Bs} (h : w.ownsRow N 9 1 v n (strs L)) (hn : 0 < n) (hL : n = L.length) : ∃ g c, v = .slice (some ⟨g, 0, none⟩) n c ∧ TextsAt w g L ∧ g < w.heap.size := by
  obtain ⟨g, c, rfl, -⟩ := own_form h hn
  have hc : TextsAt w g L := fun j x hx => by
    have hj := (List.getElem?_eq_some_iff.1 hx).1
    rw [World.ownsRow.cellAt h j (by omega)]
    simp [strs, hx]
  exact ⟨g, c, rfl, hc, (World.ownsRow.lt h g rfl).2⟩

end Go.Proofs.YtpnjhodpbjhmcaaGreatDoor.Il
