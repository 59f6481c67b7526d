/-
  Bits of a text: a burst turns none but sixteen of them; the reference's Bit, walked. Conditions: the bit is one of the text's.
-/
import Derived.Test.YthepnckbooioeaaBuTwin
namespace Go.Proofs.Ythepnckbooioeaa.Bus
open Go.RowKit

/-- A bit of a text, the first one of a byte is its highest. -/
def bitL (l : List UInt8) (i : Nat) : Bool := (l.getD (i / 8) 0).toNat.testBit (7 - i % 8)
def bitB (s : ByteArray) (i : Nat) : Bool := bitL s.data.toList i

theorem pow_small : ∀ m : Fin 8, (UInt8.ofNat (2 ^ m.val)).toNat = 2 ^ m.val := by decide
theorem xor_bit (c : UInt8) (m j : Nat) (hm : m < 8) (h : m ≠ j) : (c ^^^ UInt8.ofNat (2 ^ m)).toNat.testBit j = c.toNat.testBit j := by
  rw [UInt8.toNat_xor, pow_small ⟨m, hm⟩, Nat.testBit_xor, Nat.testBit_two_pow_of_ne h]
  simp
theorem rturn_bit (l : List UInt8) (a : Nat) (p : BitVec 16) (i : Nat) (k : Nat) (h : i < a ∨ a + k ≤ i) : bitL (rturn l a p k) i = bitL l i := by
  induction k with
  | zero => rfl
  | succ k ih =>
    have ih := ih (by omega)
    cases hb : p.getLsbD (15 - k)
    · rw [rturn_no l a p k hb]; exact ih
    · rw [rturn_yes l a p k hb, ← ih]
      unfold bitL
      by_cases hj : (a + k) / 8 = i / 8
      · by_cases hlt : i / 8 < (rturn l a p k).length
        · rw [List.getD_eq_getElem?_getD, List.getD_eq_getElem?_getD, List.getElem?_modify, List.getElem?_eq_getElem hlt]
          simp only [hj, if_true, Option.map_eq_map, Option.map_some, Option.getD_some]
          exact xor_bit _ _ _ (by omega) (by omega)
        · rw [List.modify_eq_self (by omega)]
      · rw [List.getD_eq_getElem?_getD, List.getD_eq_getElem?_getD, List.getElem?_modify]
        simp only [hj, if_false, Option.map_eq_map]
        cases (rturn l a p k)[i / 8]? <;> rfl
theorem burst_bit (s : ByteArray) (a : Nat) (p : BitVec 16) (i : Nat) (h : i < a ∨ a + 16 ≤ i) : bitB (burstB s a p) i = bitB s i := by
  rw [← burst_ref]
  exact rturn_bit s.data.toList a p i 16 h

def difB (s t : ByteArray) (i : Nat) : Bool := bitB s i != bitB t i
/-- The first and the last of the first k bits that two texts do not share; -1: none. -/
def fstTo (s t : ByteArray) : Nat → Int
  | 0 => -1
  | k + 1 => if difB s t k = true ∧ fstTo s t k < 0 then (k : Int) else fstTo s t k
def lstTo (s t : ByteArray) : Nat → Int
  | 0 => -1
  | k + 1 => if difB s t k = true then (k : Int) else lstTo s t k
theorem span_in (s t : ByteArray) (a : Nat) (k : Nat) (h : ∀ i, i < k → difB s t i = true → a ≤ i ∧ i < a + 16) : (fstTo s t k = -1 ∧ lstTo s t k = -1) ∨ ((a : Int) ≤ fstTo s t k ∧ fstTo s t k ≤ lstTo s t k ∧ lstTo s t k < (a : Int) + 16 ∧ lstTo s t k < k) := by
  induction k with
  | zero => exact .inl ⟨rfl, rfl⟩
  | succ k ih =>
    have ih := ih (fun i hi => h i (by omega))
    unfold fstTo lstTo
    by_cases hd : difB s t k = true
    · have hk := h k (by omega) hd
      rw [if_pos hd]
      rcases ih with ⟨h1, h2⟩ | ⟨h1, h2, h3, h4⟩
      · rw [if_pos ⟨hd, by omega⟩]
        exact .inr ⟨by omega, by omega, by omega, by omega⟩
      · rw [if_neg (by omega)]
        exact .inr ⟨by omega, by omega, by omega, by omega⟩
    · rw [if_neg (fun hh => hd hh.1), if_neg hd]
      rcases ih with h1 | ⟨h1, h2, h3, h4⟩
      · exact .inl h1
      · exact .inr ⟨h1, h2, h3, by omega⟩
theorem fst_bound (s t : ByteArray) (k : Nat) : -1 ≤ fstTo s t k ∧ fstTo s t k ≤ k ∧ -1 ≤ lstTo s t k ∧ lstTo s t k ≤ k := by
  induction k with
  | zero => exact ⟨Int.le_refl _, by show (-1 : Int) ≤ 0; omega, Int.le_refl _, by show (-1 : Int) ≤ 0; omega⟩
  | succ k ih =>
    unfold fstTo lstTo
    split <;> split <;> omega

/-- Were bytes sent as these, or such that they are with one burst, or cut? -/
def fromB (t s : ByteArray) : Bool := decide (s = t) || (decide (s.size < t.size) && decide (t.extract 0 s.size = s)) || (decide (s.size = t.size) && decide (lstTo s t (8 * s.size) - fstTo s t (8 * s.size) < 16))
theorem from_self (t : ByteArray) : fromB t t = true := by simp [fromB]
theorem from_burst (t : ByteArray) (at_ : Int) (p : BitVec 16) : fromB t (burB t at_ p) = true := by
  unfold burB
  split
  · have hs := burst_size t at_.toNat p
    have hsp := span_in (burstB t at_.toNat p) t at_.toNat (8 * (burstB t at_.toNat p).size) (fun i _ hd => by
      by_cases h : i < at_.toNat ∨ at_.toNat + 16 ≤ i
      · unfold difB at hd
        rw [burst_bit t at_.toNat p i h] at hd
        simp at hd
      · omega)
    unfold fromB
    have : decide (lstTo (burstB t at_.toNat p) t (8 * (burstB t at_.toNat p).size) - fstTo (burstB t at_.toNat p) t (8 * (burstB t at_.toNat p).size) < 16) = true := by
      rw [decide_eq_true_eq]
      rcases hsp with h | h <;> omega
    rw [this, decide_eq_true hs]
    simp
  · exact from_self t
theorem from_cut (t : ByteArray) (n : Nat) (h1 : 1 ≤ n) (h2 : n < t.size) : fromB t (t.extract 0 (t.size - n)) = true := by
  have hs : (t.extract 0 (t.size - n)).size = t.size - n := by rw [ByteArray.size_extract]; omega
  have e1 : decide ((t.extract 0 (t.size - n)).size < t.size) = true := by rw [hs, decide_eq_true_eq]; omega
  have e2 : decide (t.extract 0 (t.extract 0 (t.size - n)).size = t.extract 0 (t.size - n)) = true := by rw [hs, decide_eq_true_eq]
  unfold fromB
  rw [e1, e2]
  simp

def bitI (b : Bool) : Int := if b then 1 else 0
theorem bit_int (c : UInt8) (j : Nat) : (wrap64 (c.toNat : Int) / 2 ^ j).tmod 2 = bitI (c.toNat.testBit j) := by
  have hc := c.toNat_lt
  have hw : wrap64 (c.toNat : Int) = c.toNat := by unfold wrap64; omega
  rw [hw, Int.tmod_eq_emod_of_nonneg (Int.ediv_nonneg (by omega) (Int.le_of_lt (Int.pow_pos (by decide))))]
  have h1 : ((c.toNat : Int) / 2 ^ j) % 2 = ((c.toNat / 2 ^ j % 2 : Nat) : Int) := by norm_cast
  rw [h1]
  have h2 := Nat.testBit_eq_decide_div_mod_eq (x := c.toNat) (i := j)
  rw [h2]
  unfold bitI
  by_cases h : c.toNat / 2 ^ j % 2 = 1
  · simp [h]
  · have : c.toNat / 2 ^ j % 2 = 0 := by omega
    simp [this]

set_option maxHeartbeats 1000000 in
theorem bit_any (s : ByteArray) (i : Nat) (w : World) (hs : s.size ≤ 4000) (h : i < 8 * s.size) :
    Calls Try.prog 30 #[.string s, .int .i64 (i : Int)] w fun e w' => e = .returned (.int .i64 (bitI (bitB s i))) ∧ w = w' := by
  have hi : i / 8 < s.size := by omega
  have hc : (s.data.toList.getD (i / 8) 0) = s[i / 8] := by
    rw [List.getD_eq_getElem?_getD, List.getElem?_eq_getElem (by simpa using hi)]
    rfl
  have hb := bit_int (s.data.toList.getD (i / 8) 0) (7 - i % 8)
  unfold bitB bitL
  rw [hc] at hb ⊢
  go_enter Try.func30, Try.ntmps30
  go_wp2
  go_ret
  exact ⟨by rw [← hb]; rfl, rfl⟩

end Go.Proofs.Ythepnckbooioeaa.Bus
