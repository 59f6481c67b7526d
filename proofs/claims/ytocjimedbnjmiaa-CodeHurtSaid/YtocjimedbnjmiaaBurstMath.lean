/-
  Plain facts on bursts: a sealed text in which up to 16 bits, one behind the other, are turned is no sealed text, if anything is turned. Conditions: the burst begins within the text.
-/
import Derived.Test.YtocjimedbnjmiaaBurst
namespace Go.Proofs.Ytocjimedbnjmiaa
open Sums

theorem lin_of_bits {f : BitVec 16 → BitVec 16} (c : Nat → Bool) (k : Nat → Nat) (h : ∀ p i, i < 16 → (f p).getLsbD i = (c i && p.getLsbD (k i))) : Lin f := by
  intro a b
  apply BitVec.eq_of_getLsbD_eq
  intro i hi
  rw [BitVec.getLsbD_xor, h _ _ hi, h _ _ hi, h _ _ hi, BitVec.getLsbD_xor]
  cases c i <;> simp

/-- The byte that is turned j bytes behind the first one, the burst beginning at bit r of a byte. -/
def piece (r j : Nat) (p : BitVec 16) : BitVec 16 := byte (UInt8.ofNat (p.toNat * 2 ^ (8 - r) / 2 ^ (16 - 8 * j)))

theorem byte_bit (N i : Nat) : (byte (UInt8.ofNat N)).getLsbD i = (decide (i < 8) && N.testBit i) := by
  unfold byte
  rw [UInt8.toNat_ofNat', BitVec.getLsbD_ofNat, Nat.testBit_mod_two_pow]
  by_cases h : i < 8
  · simp [h]
    intro _
    omega
  · simp [h]

theorem piece_bit (r j : Nat) (p : BitVec 16) (i : Nat) :
    (piece r j p).getLsbD i = ((decide (i < 8) && decide (8 - r ≤ i + (16 - 8 * j))) && p.getLsbD (i + (16 - 8 * j) - (8 - r))) := by
  unfold piece
  rw [byte_bit, Nat.testBit_div_two_pow, Nat.testBit_mul_two_pow]
  simp only [BitVec.getLsbD, Bool.and_assoc]

theorem piece_lin (r j : Nat) : Lin (piece r j) :=
  lin_of_bits (fun i => decide (i < 8) && decide (8 - r ≤ i + (16 - 8 * j))) (fun i => i + (16 - 8 * j) - (8 - r)) (fun p i _ => piece_bit r j p i)

theorem up_lin : Lin (fun x => x <<< 8) := fun a b => BitVec.shiftLeft_xor_distrib a b 8

theorem low_bits : ∀ i : Fin 16, (0xFF#16 : BitVec 16).getLsbD i.val = decide (i.val < 8) := by decide

theorem low_lin : Lin (fun x => x &&& 0xFF#16) :=
  lin_of_bits (fun i => decide (i < 8)) (fun i => i) (fun p i hi => by
    rw [BitVec.getLsbD_and, low_bits ⟨i, hi⟩, Bool.and_comm])

theorem byte_low (c : UInt8) : byte c &&& 0xFF#16 = byte c := by
  apply BitVec.eq_of_toNat_eq
  unfold byte
  have := c.toNat_lt
  rw [BitVec.toNat_and, BitVec.toNat_ofNat, show (0xFF#16 : BitVec 16).toNat = 2 ^ 8 - 1 from rfl, Nat.and_two_pow_sub_one_eq_mod]
  omega

/-- Eight bits on, what stood in the lower eight stands in the upper eight. -/
theorem byte_up (c : UInt8) : dblN 8 (byte c) = byte c <<< 8 := by
  have h := lin_ext (f := fun x => dblN 8 (x &&& 0xFF#16)) (g := fun x => (x &&& 0xFF#16) <<< 8) ((dblN_lin 8).comp low_lin) (up_lin.comp low_lin) (by decide +kernel) (byte c)
  simpa [byte_low] using h

theorem three_basis : ∀ r : Fin 8, ∀ i : Fin 16,
    dblN 24 (piece r.val 0 (BitVec.twoPow 16 i.val) <<< 8) ^^^ (dblN 16 (piece r.val 1 (BitVec.twoPow 16 i.val) <<< 8) ^^^ dblN 8 (piece r.val 2 (BitVec.twoPow 16 i.val) <<< 8)) = dblN (24 - r.val) (BitVec.twoPow 16 i.val) := by decide +kernel

/-- The whole burst, in three bytes: it comes to the pattern itself, so many bits on. -/
theorem three (r : Nat) (hr : r < 8) (p : BitVec 16) :
    dblN 24 (piece r 0 p <<< 8) ^^^ (dblN 16 (piece r 1 p <<< 8) ^^^ dblN 8 (piece r 2 p <<< 8)) = dblN (24 - r) p := by
  have hf : Lin (fun p => dblN 24 (piece r 0 p <<< 8) ^^^ (dblN 16 (piece r 1 p <<< 8) ^^^ dblN 8 (piece r 2 p <<< 8))) :=
    ((dblN_lin 24).comp (up_lin.comp (piece_lin r 0))).xor (((dblN_lin 16).comp (up_lin.comp (piece_lin r 1))).xor ((dblN_lin 8).comp (up_lin.comp (piece_lin r 2))))
  exact lin_ext hf (dblN_lin (24 - r)) (fun i => three_basis ⟨r, hr⟩ i) p

theorem bstep_turn (y : BitVec 16) (b c : UInt8) : bstep y (b ^^^ c) = bstep y b ^^^ dblN 8 (byte c <<< 8) := by
  unfold bstep
  rw [← dblN_lin]
  congr 1
  rw [BitVec.xor_assoc, ← up_lin]
  congr 2
  apply BitVec.eq_of_toNat_eq
  unfold byte
  have hb := b.toNat_lt
  have hc := c.toNat_lt
  have := Nat.xor_lt_two_pow (n := 8) hb hc
  rw [BitVec.toNat_xor, BitVec.toNat_ofNat, BitVec.toNat_ofNat, BitVec.toNat_ofNat, UInt8.toNat_xor]
  rw [Nat.mod_eq_of_lt (by omega), Nat.mod_eq_of_lt (by omega), Nat.mod_eq_of_lt (by omega)]

/-- One byte turned: the sum is turned by that byte, as many bytes on as stand from it to the end. -/
theorem more_modify (x : BitVec 16) (l : List UInt8) (i : Nat) (hi : i < l.length) (c : UInt8) :
    more x (l.modify i (· ^^^ c)) = more x l ^^^ dblN (8 * (l.length - i)) (byte c <<< 8) := by
  induction l generalizing x i with
  | nil => simp at hi
  | cons b l ih =>
    cases i with
    | zero =>
      rw [List.modify_zero_cons, more_cons, bstep_turn, BitVec.xor_comm, more_xor, more_cons, BitVec.xor_comm, ← dblN_add]
      rw [List.length_cons, show 8 * (l.length + 1 - 0) = 8 + 8 * l.length by omega]
    | succ i =>
      rw [List.modify_succ_cons, more_cons, ih _ _ (by simpa using hi), more_cons, List.length_cons, show l.length + 1 - (i + 1) = l.length - i by omega]

theorem xor_self_zero {a e : BitVec 16} (h : a ^^^ e = a) : e = 0 := by
  have := congrArg (fun z => a ^^^ z) h
  simpa [← BitVec.xor_assoc] using this

theorem xor_eq_of_zero {a b : BitVec 16} (h : a ^^^ b = 0) : a = b := by
  have := congrArg (fun z => z ^^^ b) h
  simpa [BitVec.xor_assoc] using this

theorem byte_zero {c : UInt8} (h : byte c <<< 8 = 0) : c = 0 := by
  have h1 := congrArg BitVec.toNat h
  unfold byte at h1
  rw [BitVec.toNat_shiftLeft, BitVec.toNat_ofNat, Nat.shiftLeft_eq] at h1
  have := c.toNat_lt
  apply UInt8.toNat_inj.1
  simp at h1 ⊢
  omega

theorem two_zero {c d : UInt8} (h : byte c <<< 8 ^^^ byte d = 0) : c = 0 ∧ d = 0 := by
  have h1 := congrArg BitVec.toNat (xor_eq_of_zero h)
  unfold byte at h1
  rw [BitVec.toNat_shiftLeft, BitVec.toNat_ofNat, BitVec.toNat_ofNat, Nat.shiftLeft_eq] at h1
  have hc := c.toNat_lt
  have hd := d.toNat_lt
  constructor
  · apply UInt8.toNat_inj.1
    simp at h1 ⊢
    omega
  · apply UInt8.toNat_inj.1
    simp at h1 ⊢
    omega

theorem modify_zero (l : List UInt8) (i : Nat) (c : UInt8) (hc : c = 0) : l.modify i (· ^^^ c) = l := by
  subst hc
  have : (fun x : UInt8 => x ^^^ 0) = id := by funext x; simp
  rw [this]
  exact List.modify_id i l

theorem turn_one (l : List UInt8) (q sp : Nat) : turn l q sp 1 = l.modify q (· ^^^ UInt8.ofNat (sp / 2 ^ 16)) := rfl

theorem turn_two (l : List UInt8) (q sp : Nat) : turn l q sp 2 = (l.modify q (· ^^^ UInt8.ofNat (sp / 2 ^ 16))).modify (q + 1) (· ^^^ UInt8.ofNat (sp / 2 ^ 8)) := rfl

theorem turn_three (l : List UInt8) (q sp : Nat) : turn l q sp 3 = ((l.modify q (· ^^^ UInt8.ofNat (sp / 2 ^ 16))).modify (q + 1) (· ^^^ UInt8.ofNat (sp / 2 ^ 8))).modify (q + 2) (· ^^^ UInt8.ofNat (sp / 2 ^ 0)) := rfl

/-- A burst that leaves the sum as it was turns nothing. -/
theorem turn_same (x : BitVec 16) (l : List UInt8) (q r : Nat) (hr : r < 8) (p : BitVec 16) (hq : q < l.length)
    (h : more x (turn l q (p.toNat * 2 ^ (8 - r)) (min 3 (l.length - q))) = more x l) : turn l q (p.toNat * 2 ^ (8 - r)) (min 3 (l.length - q)) = l := by
  by_cases h3 : 3 ≤ l.length - q
  · rw [Nat.min_eq_left h3] at h ⊢
    obtain ⟨t, ht⟩ : ∃ t, l.length - q = 3 + t := ⟨l.length - q - 3, by omega⟩
    rw [turn_three] at h ⊢
    rw [more_modify _ _ _ (by simp; omega), more_modify _ _ _ (by simp; omega), more_modify _ _ _ hq] at h
    simp only [List.length_modify] at h
    rw [BitVec.xor_assoc, BitVec.xor_assoc] at h
    have h0 := xor_self_zero h
    rw [show 8 * (l.length - q) = 24 + 8 * t by omega, show 8 * (l.length - (q + 1)) = 16 + 8 * t by omega, show 8 * (l.length - (q + 2)) = 8 + 8 * t by omega,
      dblN_add, dblN_add, dblN_add, ← dblN_lin, ← dblN_lin] at h0
    have h1 := dblN_inj0 _ _ h0
    have h2 : dblN (24 - r) p = 0 := (three r hr p).symm.trans h1
    have hp := dblN_inj0 _ _ h2
    have e : ∀ j, UInt8.ofNat (p.toNat * 2 ^ (8 - r) / 2 ^ j) = 0 := by intro j; rw [hp]; simp
    rw [modify_zero _ _ _ (e 0), modify_zero _ _ _ (e 8), modify_zero _ _ _ (e 16)]
  · by_cases h2 : 2 ≤ l.length - q
    · have e2 : l.length - q = 2 := by omega
      rw [show min 3 (l.length - q) = 2 by omega] at h ⊢
      rw [turn_two] at h ⊢
      rw [more_modify _ _ _ (by simp; omega), more_modify _ _ _ hq] at h
      simp only [List.length_modify] at h
      rw [BitVec.xor_assoc] at h
      have h0 := xor_self_zero h
      rw [show 8 * (l.length - q) = 8 + 8 by omega, show 8 * (l.length - (q + 1)) = 8 by omega, dblN_add, ← dblN_lin] at h0
      have h1 := dblN_inj0 _ _ h0
      rw [← byte_up (UInt8.ofNat (p.toNat * 2 ^ (8 - r) / 2 ^ 8)), ← dblN_lin] at h1
      obtain ⟨hc, hd⟩ := two_zero (dblN_inj0 _ _ h1)
      rw [modify_zero _ _ _ hd, modify_zero _ _ _ hc]
    · rw [show min 3 (l.length - q) = 1 by omega] at h ⊢
      rw [turn_one] at h ⊢
      rw [more_modify _ _ _ hq] at h
      have h0 := xor_self_zero h
      rw [modify_zero _ _ _ (byte_zero (dblN_inj0 _ _ h0))]

/-- What is sealed has the sum 0. -/
theorem more_own (x : BitVec 16) : more x [UInt8.ofNat ((x.toNat : Int) / 256).toNat, UInt8.ofNat ((x.toNat : Int) % 256).toNat] = 0 := by
  have hx := x.isLt
  rw [more_cons, more_cons, more_nil]
  unfold bstep
  rw [← byte_up (UInt8.ofNat ((x.toNat : Int) % 256).toNat), ← dblN_lin, BitVec.xor_assoc]
  have e : byte (UInt8.ofNat ((x.toNat : Int) / 256).toNat) <<< 8 ^^^ byte (UInt8.ofNat ((x.toNat : Int) % 256).toNat) = x := by
    rw [show ((x.toNat : Int) / 256).toNat = x.toNat / 2 ^ 8 by omega, show ((x.toNat : Int) % 256).toNat = x.toNat % 2 ^ 8 by omega]
    apply BitVec.eq_of_getLsbD_eq
    intro i hi
    rw [BitVec.getLsbD_xor, BitVec.getLsbD_shiftLeft, byte_bit, byte_bit, Nat.testBit_div_two_pow, Nat.testBit_mod_two_pow]
    by_cases h8 : i < 8
    · simp [h8, BitVec.getLsbD]
    · simp [h8, hi, BitVec.getLsbD]
      rw [show i - 8 + 8 = i by omega]
      simp [show i - 8 < 8 by omega]
  rw [e, BitVec.xor_self]
  show dblN 8 (dblN 8 0) = 0
  rw [dblN_zero, dblN_zero]

theorem sealed_list (s : ByteArray) : (sealedB s).data.toList =
    s.data.toList ++ [UInt8.ofNat (((sum s.data.toList).toNat : Int) / 256).toNat, UInt8.ofNat (((sum s.data.toList).toNat : Int) % 256).toNat] := by
  unfold sealedB
  rw [ByteArray.data_append, Array.toList_append]
  rfl

theorem sealed_size (s : ByteArray) : (sealedB s).size = s.size + 2 := by
  rw [Lib.size_eq, sealed_list, Lib.size_eq]; simp

theorem sealed_inner (s : ByteArray) : (sealedB s).extract 0 ((sealedB s).size - 2) = s := by
  rw [Lib.extract_eq, sealed_list, sealed_size, List.drop_zero, show s.size + 2 - 2 - 0 = s.data.toList.length by simp, List.take_left]

theorem sum_sealed (s : ByteArray) : sum (sealedB s).data.toList = 0 := by
  rw [sealed_list]
  show more _ _ = 0
  rw [more_append]
  exact more_own _

theorem sum_of_sealed (b : ByteArray) (h : sealedB (b.extract 0 (b.size - 2)) = b) : sum b.data.toList = 0 := by
  rw [← h]; exact sum_sealed _

theorem burst_list (s : ByteArray) (a : Nat) (p : BitVec 16) : (burstB s a p).data.toList = turn s.data.toList (a / 8) (p.toNat * 2 ^ (8 - a % 8)) (min 3 (s.size - a / 8)) := rfl

theorem burst_size (s : ByteArray) (a : Nat) (p : BitVec 16) : (burstB s a p).size = s.size := by
  rw [Lib.size_eq, burst_list, turn_length, Lib.size_eq]

/-- A sealed text with a burst that turns something is none. -/
theorem burst_none (s : ByteArray) (a : Nat) (p : BitVec 16) (ha : a < 8 * (sealedB s).size) (hne : burstB (sealedB s) a p ≠ sealedB s) :
    sealedB ((burstB (sealedB s) a p).extract 0 ((burstB (sealedB s) a p).size - 2)) ≠ burstB (sealedB s) a p := by
  intro h
  apply hne
  have h1 := sum_of_sealed _ h
  have h2 := sum_sealed s
  have hl : (sealedB s).size = (sealedB s).data.toList.length := Lib.size_eq _
  rw [burst_list, hl] at h1
  have h3 := turn_same 0xFFFF#16 (sealedB s).data.toList (a / 8) (a % 8) (by omega) p (by omega) (h1.trans h2.symm)
  rw [← Lib.mk_data (burstB (sealedB s) a p), burst_list, hl, h3, Lib.mk_data]

end Go.Proofs.Ytocjimedbnjmiaa
