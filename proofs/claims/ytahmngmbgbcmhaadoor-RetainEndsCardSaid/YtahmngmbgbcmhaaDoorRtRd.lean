/-
  The code's reading of a slot, and the library's Repeat of a byte, in all cases. Conditions: the slot's 74 bytes are there.
-/
import Derived.Test.YtahmngmbgbcmhaaDoorRtRead
import Derived.Test.YtahmngmbgbcmhaaDoorRtShelf
namespace Go.Proofs.YtahmngmbgbcmhaaDoor.Ret
open Go.RowKit
open Oct
open Sto (St CodeAt Only)

theorem trim_any (l : List UInt8) (hl : l.length ≤ 1000) (w : World) :
    Calls Tryd.prog 48 #[.string (S l), .string ⟨#[0]⟩] w fun e w' => e = .returned (.string (S (Lib.trimB l 0))) ∧ Below w.heap.size w w' :=
  (Tryd.strings_Trim_one (S l) 0 (by decide) w (by rw [S_size]; omega)).mono fun e w' ⟨h1, h2⟩ => ⟨h1, by
    rcases h2 with rfl | rfl
    · exact Below.refl _ _
    · exact (Below.refl _ _).drew⟩

theorem repeat_any (c : Nat) (hc : c ≤ 64) (w : World) :
    Calls Tryd.prog 59 #[.string ⟨#[0]⟩, .int .i64 (c : Int)] w fun e w' => e = .returned (.string (S (List.replicate c 0))) ∧ Below w.heap.size w w' :=
  (Tryd.strings_Repeat ⟨#[0]⟩ c w (by omega) (by show 1 * c ≤ _; omega)).mono fun e w' ⟨h1, h2⟩ => ⟨by
    rw [h1]
    have := Lib.repeatL_replicate 0 1 c
    rw [Nat.mul_one] at this
    exact congrArg (fun l : List UInt8 => Ending.returned (.string ⟨l.toArray⟩)) this, h2⟩

theorem slot_any (p g cap : Nat) (x : St) (k : Nat) (kk : Int) (w : World) (hx : CodeAt w p g cap x) (hkk : kk = k) (hk : k + 74 ≤ x.l.length) :
    Calls Tryd.prog 35 #[.pointer (some ⟨p, 0, none⟩), .int .i64 kk] w (SlotRead (codeV ((x.l.drop k).take 74)) (wholeB ((x.l.drop k).take 74)) w) := by
  obtain ⟨L, hL⟩ : ∃ L, L = (x.l.drop k).take 74 := ⟨_, rfl⟩
  have hl : L.length = 74 := by rw [hL, List.length_take, List.length_drop]; omega
  rw [← hL]
  have no : wholeB L = false → codeV L = Rc.zero := fun h => by unfold codeV; rw [if_neg (by rw [h]; decide)]
  by_cases h : sealL (inner L) = L.drop 1
  · by_cases h0 : (L.getD 0 0).toNat = 165
    · by_cases hd : dlen L ≤ 64
      · by_cases hr : rest L = List.replicate (64 - dlen L) 0
        · have hw : wholeB L = true := by rw [whole_parts hl h0 hd, decide_eq_true h, decide_eq_true hr]; rfl
          have hv : codeV L = recOf (L.drop 1) := by
            unfold codeV
            rw [if_pos hw]
            unfold wholeV
            rw [if_neg (by rw [← dlen_is hl]; omega)]
          rw [hw, hv]
          exact slot_good trim_any p g cap x k kk L w hx hkk hk hL h h0 hd hr
        · have hw := not_whole hl (.inr (.inr (.inr ⟨hd, hr⟩)))
          rw [hw, no hw]
          exact slot_dirty trim_any p g cap x k kk L w hx hkk hk hL h h0 hd hr
      · have hw := not_whole hl (.inr (.inr (.inl hd)))
        rw [hw, no hw]
        exact slot_long p g cap x k kk L w hx hkk hk hL h h0 hd
    · have hw := not_whole hl (.inr (.inl h0))
      rw [hw, no hw]
      exact slot_unmarked p g cap x k kk L w hx hkk hk hL h h0
  · have hw := not_whole hl (.inl h)
    rw [hw, no hw]
    exact slot_unsealed p g cap x k kk L w hx hkk hk hL h

end Go.Proofs.YtahmngmbgbcmhaaDoor.Ret
