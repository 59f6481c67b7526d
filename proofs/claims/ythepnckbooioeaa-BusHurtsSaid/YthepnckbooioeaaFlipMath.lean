/-
  Plain facts on bursts: a text turned byte by byte is the text turned bit by bit; turned twice it is as it was. Conditions: the burst begins within the text.
-/
import Derived.Test.YthepnckbooioeaaBurstMath
import Derived.Test.YthepnckbooioeaaRefBurst
namespace Go.Proofs.Ythepnckbooioeaa
open Sums

def xorWith (l : List UInt8) (f : Nat → UInt8) : List UInt8 := l.mapIdx fun j c => c ^^^ f j

theorem xorWith_modify (l : List UInt8) (f : Nat → UInt8) (i : Nat) (c : UInt8) :
    (xorWith l f).modify i (· ^^^ c) = xorWith l (fun j => f j ^^^ if j = i then c else 0) := by
  apply List.ext_getElem
  · simp [xorWith]
  · intro j h1 h2
    simp only [xorWith, List.getElem_modify, List.getElem_mapIdx]
    by_cases h : i = j
    · subst h; simp [UInt8.xor_assoc]
    · have h' : ¬ j = i := fun e => h e.symm
      simp [h, h']

theorem xorWith_zero (l : List UInt8) : xorWith l (fun _ => 0) = l := by
  apply List.ext_getElem
  · simp [xorWith]
  · intro j h1 h2; simp [xorWith]

theorem xorWith_congr (l : List UInt8) (f g : Nat → UInt8) (h : ∀ j, j < l.length → f j = g j) : xorWith l f = xorWith l g := by
  apply List.ext_getElem
  · simp [xorWith]
  · intro j h1 h2
    simp only [xorWith, List.getElem_mapIdx]
    rw [h j (by simpa [xorWith] using h1)]

theorem xorWith_twice (l : List UInt8) (f : Nat → UInt8) : xorWith (xorWith l f) f = l := by
  apply List.ext_getElem
  · simp [xorWith]
  · intro j h1 h2
    simp [xorWith, UInt8.xor_assoc]

/-- What turn turns at each byte. -/
def tf (q sp : Nat) : Nat → Nat → UInt8
  | 0, _ => 0
  | k + 1, j => tf q sp k j ^^^ if j = q + k then UInt8.ofNat (sp / 2 ^ (16 - 8 * k)) else 0

theorem turn_xor (l : List UInt8) (q sp k : Nat) : turn l q sp k = xorWith l (tf q sp k) := by
  induction k with
  | zero => exact (xorWith_zero l).symm
  | succ k ih =>
    show (turn l q sp k).modify (q + k) _ = _
    rw [ih, xorWith_modify]
    rfl

theorem turn_twice (l : List UInt8) (q sp k : Nat) : turn (turn l q sp k) q sp k = l := by
  rw [turn_xor, turn_xor, xorWith_twice]

/-- What rturn turns at each byte. -/
def rf (a : Nat) (p : BitVec 16) : Nat → Nat → UInt8
  | 0, _ => 0
  | k + 1, j => rf a p k j ^^^ if p.getLsbD (15 - k) = true ∧ j = (a + k) / 8 then UInt8.ofNat (2 ^ (7 - (a + k) % 8)) else 0

theorem rturn_xor (l : List UInt8) (a : Nat) (p : BitVec 16) (k : Nat) : rturn l a p k = xorWith l (rf a p k) := by
  induction k with
  | zero => exact (xorWith_zero l).symm
  | succ k ih =>
    cases hb : p.getLsbD (15 - k)
    · rw [rturn_no l a p k hb, ih]
      apply xorWith_congr
      intro j _
      simp [rf, hb]
    · rw [rturn_yes l a p k hb, ih, xorWith_modify]
      apply xorWith_congr
      intro j _
      simp [rf, hb]

/-- The same at the byte that lies d bytes behind the first one, the burst beginning at bit r of a byte. -/
def rg (r d : Nat) (p : BitVec 16) : Nat → BitVec 16
  | 0 => 0
  | k + 1 => rg r d p k ^^^ if p.getLsbD (15 - k) then (if d = (r + k) / 8 then byte (UInt8.ofNat (2 ^ (7 - (r + k) % 8))) else 0) else 0

theorem byte_xor (b c : UInt8) : byte (b ^^^ c) = byte b ^^^ byte c := by
  apply BitVec.eq_of_toNat_eq
  unfold byte
  have hb := b.toNat_lt
  have hc := c.toNat_lt
  have := Nat.xor_lt_two_pow (n := 8) hb hc
  rw [BitVec.toNat_xor, BitVec.toNat_ofNat, BitVec.toNat_ofNat, BitVec.toNat_ofNat, UInt8.toNat_xor]
  rw [Nat.mod_eq_of_lt (by omega), Nat.mod_eq_of_lt (by omega), Nat.mod_eq_of_lt (by omega)]

theorem byte_inj {b c : UInt8} (h : byte b = byte c) : b = c := by
  have h1 := congrArg BitVec.toNat h
  unfold byte at h1
  have hb := b.toNat_lt
  have hc := c.toNat_lt
  rw [BitVec.toNat_ofNat, BitVec.toNat_ofNat] at h1
  exact UInt8.toNat_inj.1 (by omega)

theorem rg_rf (q r d : Nat) (p : BitVec 16) (k : Nat) : byte (rf (8 * q + r) p k (q + d)) = rg r d p k := by
  induction k with
  | zero => rfl
  | succ k ih =>
    show byte (rf _ p k (q + d) ^^^ _) = rg r d p k ^^^ _
    rw [byte_xor, ih]
    congr 1
    rw [show (8 * q + r + k) / 8 = q + (r + k) / 8 by omega, show (8 * q + r + k) % 8 = (r + k) % 8 by omega]
    cases hb : p.getLsbD (15 - k)
    · simp [byte]
    · by_cases hd : d = (r + k) / 8
      · simp [hd]
      · simp [hd, byte]

theorem rg_lin (r d k : Nat) : Lin (fun p => rg r d p k) := by
  induction k with
  | zero => intro a b; simp [rg]
  | succ k ih =>
    intro a b
    show rg r d (a ^^^ b) k ^^^ _ = (rg r d a k ^^^ _) ^^^ (rg r d b k ^^^ _)
    rw [show rg r d (a ^^^ b) k = rg r d a k ^^^ rg r d b k from ih a b, BitVec.getLsbD_xor, xor4]
    cases a.getLsbD (15 - k) <;> cases b.getLsbD (15 - k) <;> simp

theorem rg_basis : ∀ r : Fin 8, ∀ d : Fin 3, ∀ i : Fin 16, rg r.val d.val (BitVec.twoPow 16 i.val) 16 = piece r.val d.val (BitVec.twoPow 16 i.val) := by decide +kernel

theorem rg_piece (r d : Nat) (hr : r < 8) (hd : d < 3) (p : BitVec 16) : rg r d p 16 = piece r d p :=
  lin_ext (rg_lin r d 16) (piece_lin r d) (fun i => rg_basis ⟨r, hr⟩ ⟨d, hd⟩ i) p

theorem rf_far (a : Nat) (p : BitVec 16) (k j : Nat) (hk : k ≤ 16) (h : j < a / 8 ∨ a / 8 + 2 < j) : rf a p k j = 0 := by
  induction k with
  | zero => rfl
  | succ k ih =>
    show rf a p k j ^^^ _ = 0
    rw [ih (by omega), if_neg (by omega)]
    rfl

theorem tf_far (q sp k j : Nat) (h : j < q ∨ q + k ≤ j) : tf q sp k j = 0 := by
  induction k with
  | zero => rfl
  | succ k ih =>
    show tf q sp k j ^^^ _ = 0
    rw [ih (by omega), if_neg (by omega)]
    rfl

theorem tf_at (q sp k d : Nat) (h : d < k) : tf q sp k (q + d) = UInt8.ofNat (sp / 2 ^ (16 - 8 * d)) := by
  induction k with
  | zero => omega
  | succ k ih =>
    show tf q sp k (q + d) ^^^ _ = _
    by_cases hd : d = k
    · subst hd
      rw [tf_far _ _ _ _ (by omega), if_pos rfl]
      simp
    · rw [ih (by omega), if_neg (by omega)]
      simp

/-- Byte by byte and bit by bit: the same. -/
theorem turn_rturn (l : List UInt8) (a : Nat) (p : BitVec 16) : turn l (a / 8) (p.toNat * 2 ^ (8 - a % 8)) (min 3 (l.length - a / 8)) = rturn l a p 16 := by
  rw [turn_xor, rturn_xor]
  apply xorWith_congr
  intro j hj
  by_cases hlo : j < a / 8
  · rw [tf_far _ _ _ _ (.inl hlo), rf_far a p 16 j (by omega) (.inl hlo)]
  · by_cases hhi : a / 8 + 2 < j
    · rw [tf_far _ _ _ _ (.inr (by omega)), rf_far a p 16 j (by omega) (.inr hhi)]
    · obtain ⟨d, hd⟩ : ∃ d, j = a / 8 + d := ⟨j - a / 8, by omega⟩
      subst hd
      rw [tf_at _ _ _ _ (by omega)]
      apply byte_inj
      have h1 := rg_rf (a / 8) (a % 8) d p 16
      rw [show 8 * (a / 8) + a % 8 = a by omega, rg_piece (a % 8) d (by omega) (by omega) p] at h1
      exact h1.symm

theorem burst_ref (s : ByteArray) (a : Nat) (p : BitVec 16) : (⟨(rturn s.data.toList a p 16).toArray⟩ : ByteArray) = burstB s a p := by
  unfold burstB
  rw [Lib.size_eq, turn_rturn]

theorem burst_twice (s : ByteArray) (a : Nat) (p : BitVec 16) : burstB (burstB s a p) a p = s := by
  have h : burstB (burstB s a p) a p = ⟨(turn (turn s.data.toList (a / 8) (p.toNat * 2 ^ (8 - a % 8)) (min 3 (s.size - a / 8))) (a / 8) (p.toNat * 2 ^ (8 - a % 8)) (min 3 ((burstB s a p).size - a / 8))).toArray⟩ := rfl
  rw [h, burst_size, turn_twice, Lib.mk_data]

end Go.Proofs.Ythepnckbooioeaa
