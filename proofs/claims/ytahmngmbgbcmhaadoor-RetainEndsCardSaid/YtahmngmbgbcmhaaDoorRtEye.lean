/-
  What the code's eye makes of a slot's bytes. Conditions: the slot's 74 bytes are there.
-/
import Derived.Test.YtahmngmbgbcmhaaDoorRtCMath
import Derived.Test.YtahmngmbgbcmhaaDoorRtNew
namespace Go.Proofs.YtahmngmbgbcmhaaDoor.Ret
open Go.RowKit
open Oct
open Sto (St CodeAt Only)

theorem open_of (L : List UInt8) (hl : L.length = 74) (w : World) :
    (sealL (inner L) = L.drop 1 → Calls Tryd.prog 42 #[.string (S (L.drop 1))] w fun e w' => e = .returned (.tuple #[.string (S (inner L)), .bool true]) ∧ Below w.heap.size w w') ∧
    (sealL (inner L) ≠ L.drop 1 → Calls Tryd.prog 42 #[.string (S (L.drop 1))] w fun e w' => e = .returned (.tuple #[.string ⟨#[]⟩, .bool false]) ∧ Below w.heap.size w w') := by
  have hs : (S (L.drop 1)).size = 73 := by rw [S_size, List.length_drop, hl]
  have he : (S (L.drop 1)).extract 0 ((S (L.drop 1)).size - 2) = S (inner L) := by rw [hs, S_take]; rfl
  refine ⟨fun h => ?_, fun h => ?_⟩
  · have := open_yes (S (L.drop 1)) w (by omega) (by omega) (by rw [he, sealed_list, h])
    rw [he] at this
    exact this
  · exact open_no (S (L.drop 1)) w (by omega) (by omega) (by rw [he, sealed_list]; exact fun e => h (S_inj e))

/-- What the eye's calls make of the bytes behind the mark. -/
theorem eye_of {l : List UInt8} (hl : l.length = 74) :
    num (got 4 (inner l)) = (recOf (l.drop 1)).q ∧ left 4 (inner l) = (inner l).drop 4 ∧ lost 4 (inner l) false = false ∧
    num (got 2 ((inner l).drop 4)) = (recOf (l.drop 1)).i ∧ left 2 ((inner l).drop 4) = (inner l).drop 6 ∧ lost 2 ((inner l).drop 4) false = false ∧
    num (got 1 ((inner l).drop 6)) = dlen l ∧ left 1 ((inner l).drop 6) = (inner l).drop 7 ∧ lost 1 ((inner l).drop 6) false = false := by
  have ht : (l.drop 1).length = 73 := by rw [List.length_drop, hl]
  have hi : (inner l).length = 71 := by unfold inner; rw [List.length_take, ht]; rfl
  have f4 : fits 4 (inner l) = true := fits_yes (by decide) (by omega)
  have f2 : fits 2 ((inner l).drop 4) = true := fits_yes (by decide) (by rw [List.length_drop]; omega)
  have f1 : fits 1 ((inner l).drop 6) = true := fits_yes (by decide) (by rw [List.length_drop]; omega)
  have e4 : (inner l).take 4 = (l.drop 1).take 4 := by unfold inner; rw [List.take_take]; rfl
  have e2 : ((inner l).drop 4).take 2 = ((l.drop 1).drop 4).take 2 := by unfold inner; rw [List.drop_take, List.take_take]; rfl
  have e1 : ((inner l).drop 6).take 1 = ((l.drop 1).drop 6).take 1 := by unfold inner; rw [List.drop_take, List.take_take]; rfl
  refine ⟨?_, ?_, ?_, ?_, ?_, ?_, ?_, ?_, ?_⟩
  · simp only [got, f4, if_true]; exact congrArg num e4
  · simp [left, f4]
  · simp [lost, f4]
  · simp only [got, f2, if_true]; exact congrArg num e2
  · simp [left, f2]
  · simp [lost, f2]
  · simp only [got, f1, if_true]; exact congrArg num e1
  · simp [left, f1]
  · simp [lost, f1]

theorem eye_yes {l : List UInt8} (hl : l.length = 74) (hd : dlen l ≤ 64) :
    S (got (dlen l : Int) ((inner l).drop 7)) = (recOf (l.drop 1)).d ∧ left (dlen l : Int) ((inner l).drop 7) = rest l ∧ lost (dlen l : Int) ((inner l).drop 7) false = false := by
  have ht : (l.drop 1).length = 73 := by rw [List.length_drop, hl]
  have hi : (inner l).length = 71 := by unfold inner; rw [List.length_take, ht]; rfl
  have f : fits (dlen l : Int) ((inner l).drop 7) = true := fits_yes (by omega) (by rw [List.length_drop]; omega)
  refine ⟨?_, ?_, ?_⟩
  · simp only [got, f, if_true]
    show S _ = S _
    congr 1
    unfold inner
    rw [List.drop_take, List.take_take, Int.toNat_natCast, Nat.min_eq_left (by omega)]
    rfl
  · simp only [left, f, if_true]
    unfold rest
    rw [List.drop_drop, Int.toNat_natCast]
  · simp [lost, f]

theorem eye_no {l : List UInt8} (hl : l.length = 74) (hd : ¬ dlen l ≤ 64) :
    lost (dlen l : Int) ((inner l).drop 7) false = true := by
  have ht : (l.drop 1).length = 73 := by rw [List.length_drop, hl]
  have hi : (inner l).length = 71 := by unfold inner; rw [List.length_take, ht]; rfl
  have f : fits (dlen l : Int) ((inner l).drop 7) = false := fits_no (.inr (by rw [List.length_drop]; omega))
  simp [lost, f]

/-- A slot that isn't whole. -/
theorem not_whole {l : List UInt8} (hl : l.length = 74) (h : sealL (inner l) ≠ l.drop 1 ∨ (l.getD 0 0).toNat ≠ 165 ∨ ¬ dlen l ≤ 64 ∨ (dlen l ≤ 64 ∧ rest l ≠ List.replicate (64 - dlen l) 0)) : wholeB l = false := by
  by_cases h0 : (l.getD 0 0).toNat = 165
  · by_cases hd : dlen l ≤ 64
    · rw [whole_parts hl h0 hd]
      rcases h with h | h | h | h
      · rw [decide_eq_false h, Bool.false_and]
      · exact absurd h0 h
      · exact absurd hd h
      · rw [decide_eq_false h.2, Bool.and_false]
    · unfold wholeB
      rw [if_pos (.inr (by rw [← dlen_is hl]; omega))]
  · unfold wholeB
    rw [if_pos (.inl h0)]

def SlotRead (r : Rc) (b : Bool) (w : World) (e : Ending) (w' : World) : Prop :=
  e = .returned (.tuple #[.agg #[.int .u32 r.q, .int .u16 r.i, .string r.d], .bool b]) ∧ Below w.heap.size w w'

theorem read_parts {x : St} {k : Nat} {kk : Int} {L : List UInt8} (hkk : kk = k) (hk : k + 74 ≤ x.l.length) (hL : L = (x.l.drop k).take 74) :
    L.length = 74 ∧ (Sto.got x.l kk 1 = S [L.getD 0 0] ∧ Sto.there x.l kk 1 = true) ∧ (Sto.got x.l (kk + 1) 73 = S (L.drop 1) ∧ Sto.there x.l (kk + 1) 73 = true) := by
  have hl : L.length = 74 := by rw [hL, List.length_take, List.length_drop]; omega
  have t1 : Sto.there x.l kk 1 = true := Sto.there_of (by omega) (by omega) (by omega)
  have t2 : Sto.there x.l (kk + 1) 73 = true := Sto.there_of (by omega) (by omega) (by omega)
  refine ⟨hl, ⟨?_, t1⟩, ?_, t2⟩
  · unfold Sto.got
    rw [if_pos t1]
    show S _ = S _
    congr 1
    subst hkk hL
    rw [Int.toNat_natCast]
    have h : k < x.l.length := by omega
    have e : ((x.l.drop k).take 74).getD 0 0 = x.l[k] := by simp [List.getD_eq_getElem?_getD, h]
    rw [e, List.drop_eq_getElem_cons h]
    rfl
  · unfold Sto.got
    rw [if_pos t2]
    show S _ = S _
    congr 1
    subst hkk hL
    rw [show ((k : Int) + 1).toNat = k + 1 by omega, List.drop_take, List.drop_drop]
    rfl

end Go.Proofs.YtahmngmbgbcmhaaDoor.Ret
