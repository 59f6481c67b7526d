/-
  Sets of the addresses 0 to 31 as 32 bits: what they have, who is next, who is between. Conditions: none.
-/
import Derived.Lib.TrailingZeros
import Derived.Lib.BitFns
namespace Go.Proofs.YtedlfognpbbhhaaGreatDoor.Mem

/-- A set of addresses. -/
abbrev St := BitVec 32

/-- Is the number an address? -/
def adr (a : Int) : Bool := decide (0 ≤ a) && decide (a < 32)
theorem adr_iff (a : Int) : adr a = true ↔ 0 ≤ a ∧ a < 32 := by simp [adr]
theorem adr_not (a : Int) : adr a = false ↔ a < 0 ∨ 32 ≤ a := by
  rw [← Bool.not_eq_true, adr_iff]; omega

theorem st_ext {s t : St} (h : ∀ i, i < 32 → s.getLsbD i = t.getLsbD i) : s = t := BitVec.eq_of_getLsbD_eq fun i hi => h i hi
theorem st_big (s : St) (i : Nat) (h : ¬ i < 32) : s.getLsbD i = false := BitVec.getLsbD_of_ge s i (by omega)

/-- The set of one number: none, if it is no address. -/
def one (a : Int) : St := if adr a then BitVec.twoPow 32 a.toNat else 0#32
theorem one_bit (a : Int) (i : Nat) (hi : i < 32) : (one a).getLsbD i = decide (a = i) := by
  unfold one
  split
  · rename_i h
    have h := (adr_iff a).1 h
    rw [BitVec.getLsbD_twoPow]
    rw [Bool.eq_iff_iff]
    simp
    omega
  · rename_i h
    have h := (adr_not a).1 (by simpa using h)
    simp
    omega
theorem one_none (a : Int) (h : adr a = false) : one a = 0#32 := by simp [one, h]

def hasB (s : St) (a : Int) : Bool := adr a && s.getLsbD a.toNat
def withB (s : St) (a : Int) : St := s ||| one a
def woB (s : St) (a : Int) : St := s &&& ~~~ one a
def listB (s : St) : List Nat := (List.range 32).filter fun a => s.getLsbD a

theorem hasB_nat (s : St) (i : Nat) : hasB s i = s.getLsbD i := by
  unfold hasB
  by_cases h : i < 32
  · have : adr (i : Int) = true := (adr_iff _).2 (by omega)
    simp [this]
  · have : adr (i : Int) = false := (adr_not _).2 (by omega)
    simp [this, st_big s i h]
theorem withB_bit (s : St) (a : Int) (i : Nat) (hi : i < 32) : (withB s a).getLsbD i = (s.getLsbD i || decide (a = i)) := by
  unfold withB
  rw [BitVec.getLsbD_or, one_bit a i hi]
theorem woB_bit (s : St) (a : Int) (i : Nat) (hi : i < 32) : (woB s a).getLsbD i = (s.getLsbD i && !decide (a = i)) := by
  unfold woB
  rw [BitVec.getLsbD_and, BitVec.getLsbD_not, one_bit a i hi]
  simp [hi]
theorem listB_mem (s : St) (a : Nat) : a ∈ listB s ↔ s.getLsbD a = true := by
  unfold listB
  simp only [List.mem_filter, List.mem_range]
  constructor
  · exact fun h => h.2
  · intro h
    refine ⟨?_, h⟩
    by_cases h2 : a < 32
    · exact h2
    · rw [st_big s a h2] at h; simp at h
theorem listB_lt (s : St) (a : Nat) (h : a ∈ listB s) : a < 32 := by
  unfold listB at h
  simp only [List.mem_filter, List.mem_range] at h
  exact h.1
theorem listB_len (s : St) : (listB s).length ≤ 32 := by
  have := List.length_filter_le (fun a => s.getLsbD a) (List.range 32)
  simp only [List.length_range] at this
  exact this

/-- How far up a number is from behind a, going round. -/
def off (a i : Nat) : Nat := (i + 31 - a) % 32

/-- A turn by so many bits. -/
theorem rot_bit (s : St) (r j : Nat) (hr : r < 32) (hj : j < 32) : (s.rotateLeft r).getLsbD j = s.getLsbD ((j + 32 - r) % 32) := by
  rw [BitVec.getLsbD_rotateLeft]
  have h1 : r % 32 = r := Nat.mod_eq_of_lt hr
  rw [h1]
  by_cases h : j < r
  · have e : (j + 32 - r) % 32 = 32 - r + j := by omega
    simp [h, e]
  · have e : (j + 32 - r) % 32 = j - r := by omega
    simp [h, e, hj]

/-- The so many lowest. -/
def low (n : Nat) : St := BitVec.ofNat 32 (2 ^ n - 1)
theorem low_bit (n i : Nat) (hi : i < 32) : (low n).getLsbD i = decide (i < n) := by
  unfold low
  rw [BitVec.getLsbD_ofNat, Nat.testBit_two_pow_sub_one]
  simp [hi]

/-- Those between two addresses. -/
def betwN (a b : Nat) : St := (low (off a b)).rotateLeft ((a + 1) % 32)
theorem betwN_bit (a b i : Nat) (ha : a < 32) (hi : i < 32) : (betwN a b).getLsbD i = decide (off a i < off a b) := by
  unfold betwN
  rw [rot_bit _ _ _ (by omega) hi, low_bit _ _ (by omega)]
  have e : (i + 32 - (a + 1) % 32) % 32 = off a i := by unfold off; omega
  rw [e]
def betw (a b : Int) : St := if adr a && adr b then betwN a.toNat b.toNat else 0#32
theorem betw_nat (a b : Nat) (ha : a < 32) (hb : b < 32) : betw a b = betwN a b := by
  have h1 : adr (a : Int) = true := (adr_iff _).2 (by omega)
  have h2 : adr (b : Int) = true := (adr_iff _).2 (by omega)
  simp [betw, h1, h2]

/-- Behind a token. -/
def passB (s : St) (a b : Int) : St := if adr a && adr b then withB (withB (s &&& ~~~ betw a b) a) b else s

/-- The first of s going up, from the i-th on; below 0: none. -/
def turnFrom (s : St) (a : Nat) : Nat → Nat → Int
  | 0, _ => -1
  | f + 1, i => if s.getLsbD ((a + i) % 32) then (((a + i) % 32 : Nat) : Int) else turnFrom s a f (i + 1)
def turnI (s : St) (a : Int) : Int := if adr a then turnFrom s a.toNat 32 1 else -1
def nextI (s : St) (a : Int) : Int := turnI (woB s a) a

/-- The first of s going down. -/
def prevFrom (s : St) (a : Nat) : Nat → Nat → Int
  | 0, _ => -1
  | f + 1, i => if s.getLsbD ((a + 32 - i) % 32) then (((a + 32 - i) % 32 : Nat) : Int) else prevFrom s a f (i + 1)
def prevI (s : St) (a : Int) : Int := if adr a then prevFrom s a.toNat 31 1 else -1

theorem turnFrom_first (s : St) (a b : Nat) (ha : a < 32) (hb : b < 32) (hs : s.getLsbD b = true) (hmin : ∀ j, j < 32 → s.getLsbD j = true → off a b ≤ off a j) :
    ∀ f i, i + f = 33 → 1 ≤ i → i ≤ off a b + 1 → turnFrom s a f i = b
  | 0, i, h1, _, h3 => by unfold off at h3; omega
  | f + 1, i, h1, h2, h3 => by
    unfold turnFrom
    split
    · rename_i h
      have := hmin _ (Nat.mod_lt _ (by omega)) h
      have : (a + i) % 32 = b := by unfold off at *; omega
      rw [this]
    · rename_i h
      refine turnFrom_first s a b ha hb hs hmin f (i + 1) (by omega) (by omega) ?_
      by_cases e : i = off a b + 1
      · exfalso
        apply h
        have : (a + i) % 32 = b := by unfold off at *; omega
        rw [this, hs]
      · omega
theorem turnFrom_none (a : Nat) : ∀ f i, turnFrom 0#32 a f i = -1
  | 0, _ => rfl
  | f + 1, i => by unfold turnFrom; simp [turnFrom_none a f (i + 1)]
theorem turnFrom_ge (s : St) (a : Nat) : ∀ f i, -1 ≤ turnFrom s a f i ∧ turnFrom s a f i < 32
  | 0, _ => by unfold turnFrom; omega
  | f + 1, i => by
    have := turnFrom_ge s a f (i + 1)
    unfold turnFrom
    split
    · omega
    · exact this

theorem turnI_first (s : St) (a b : Nat) (ha : a < 32) (hb : b < 32) (hs : s.getLsbD b = true) (hmin : ∀ j, j < 32 → s.getLsbD j = true → off a b ≤ off a j) : turnI s a = b := by
  have h1 : adr (a : Int) = true := (adr_iff _).2 (by omega)
  unfold turnI
  rw [if_pos h1]
  exact turnFrom_first s a b ha hb hs hmin 32 1 rfl (by omega) (by omega)
theorem turnI_none (a : Int) : turnI 0#32 a = -1 := by
  unfold turnI
  split
  · exact turnFrom_none _ _ _
  · rfl
theorem turnI_range (s : St) (a : Int) : -1 ≤ turnI s a ∧ turnI s a < 32 := by
  unfold turnI
  split
  · exact turnFrom_ge _ _ _ _
  · omega

theorem prevFrom_first (s : St) (a b : Nat) (ha : a < 32) (hb : b < 32) (hn : b ≠ a) (hs : s.getLsbD b = true) (hmin : ∀ j, j < 32 → j ≠ a → s.getLsbD j = true → (j + 32 - a) % 32 ≤ (b + 32 - a) % 32) :
    ∀ f i, i + f = 32 → 1 ≤ i → i ≤ 32 - (b + 32 - a) % 32 → prevFrom s a f i = b
  | 0, i, h1, _, h3 => by omega
  | f + 1, i, h1, h2, h3 => by
    unfold prevFrom
    split
    · rename_i h
      have := hmin _ (Nat.mod_lt _ (by omega)) (by omega) h
      have : (a + 32 - i) % 32 = b := by omega
      rw [this]
    · rename_i h
      refine prevFrom_first s a b ha hb hn hs hmin f (i + 1) (by omega) (by omega) ?_
      by_cases e : i = 32 - (b + 32 - a) % 32
      · exfalso
        apply h
        have : (a + 32 - i) % 32 = b := by omega
        rw [this, hs]
      · omega
theorem prevFrom_none (s : St) (a : Nat) (ha : a < 32) (hs : ∀ j, j < 32 → j ≠ a → s.getLsbD j = false) : ∀ f i, i + f = 32 → 1 ≤ i → prevFrom s a f i = -1
  | 0, _, _, _ => rfl
  | f + 1, i, h1, h2 => by
    unfold prevFrom
    rw [hs _ (Nat.mod_lt _ (by omega)) (by omega)]
    simp [prevFrom_none s a ha hs f (i + 1) (by omega) (by omega)]
theorem prevI_first (s : St) (a b : Nat) (ha : a < 32) (hb : b < 32) (hn : b ≠ a) (hs : s.getLsbD b = true) (hmin : ∀ j, j < 32 → j ≠ a → s.getLsbD j = true → (j + 32 - a) % 32 ≤ (b + 32 - a) % 32) : prevI s a = b := by
  have h1 : adr (a : Int) = true := (adr_iff _).2 (by omega)
  unfold prevI
  rw [if_pos h1]
  exact prevFrom_first s a b ha hb hn hs hmin 31 1 rfl (by omega) (by omega)
theorem prevI_none (s : St) (a : Nat) (ha : a < 32) (hs : ∀ j, j < 32 → j ≠ a → s.getLsbD j = false) : prevI s a = -1 := by
  have h1 : adr (a : Int) = true := (adr_iff _).2 (by omega)
  unfold prevI
  rw [if_pos h1]
  exact prevFrom_none s a ha hs 31 1 rfl (by omega)

/-- Bits of a number that has some, from its lowest on. -/
theorem ctz_bits (s : St) (h : s ≠ 0#32) : s.getLsbD (Lib.ctz 32 s.toNat) = true ∧ Lib.ctz 32 s.toNat < 32 ∧ ∀ j, s.getLsbD j = true → Lib.ctz 32 s.toNat ≤ j := by
  have h0 : s.toNat ≠ 0 := fun e => h (BitVec.eq_of_toNat_eq (by simpa using e))
  have e : Lib.ctz 32 s.toNat = Lib.ctzFrom 32 s.toNat := by simp [Lib.ctz, h0]
  obtain ⟨m, hm, hk⟩ := Lib.ctzFrom_spec 32 s.toNat (by omega) s.isLt
  rw [e]
  generalize Lib.ctzFrom 32 s.toNat = k at *
  have hb : ∀ j, s.getLsbD j = (decide (j ≥ k) && (2 * m + 1).testBit (j - k)) := by
    intro j
    unfold BitVec.getLsbD
    rw [hm, Nat.testBit_two_pow_mul]
  refine ⟨?_, hk, ?_⟩
  · rw [hb]; simp
  · intro j hj
    rw [hb] at hj
    simp at hj
    exact hj.1

/-- The highest bit. -/
theorem bitLenAux_bnd : ∀ (f x : Nat), x < 2 ^ f → x ≠ 0 → 1 ≤ Lib.bitLenAux f x ∧ 2 ^ (Lib.bitLenAux f x - 1) ≤ x ∧ x < 2 ^ Lib.bitLenAux f x
  | 0, x, h, h0 => by simp at h; omega
  | f + 1, x, h, h0 => by
    unfold Lib.bitLenAux
    rw [if_neg h0]
    by_cases h2 : x / 2 = 0
    · have e : Lib.bitLenAux f (x / 2) = 0 := by rw [h2]; cases f <;> simp [Lib.bitLenAux]
      rw [e]
      simp
      omega
    · obtain ⟨i1, i2, i3⟩ := bitLenAux_bnd f (x / 2) (by rw [Nat.pow_succ] at h; omega) h2
      generalize Lib.bitLenAux f (x / 2) = k at *
      obtain ⟨k, rfl⟩ : ∃ l, k = l + 1 := ⟨k - 1, by omega⟩
      simp only [Nat.add_sub_cancel] at i2
      have e1 : 1 + (k + 1) - 1 = k + 1 := by omega
      have e2 : 1 + (k + 1) = k + 1 + 1 := by omega
      rw [e1, e2]
      simp only [Nat.pow_succ] at *
      omega

theorem len_bits (s : St) (h : s ≠ 0#32) : 1 ≤ Lib.bitLen s.toNat ∧ Lib.bitLen s.toNat ≤ 32 ∧ s.getLsbD (Lib.bitLen s.toNat - 1) = true ∧ ∀ j, s.getLsbD j = true → j ≤ Lib.bitLen s.toNat - 1 := by
  have h0 : s.toNat ≠ 0 := fun e => h (BitVec.eq_of_toNat_eq (by simpa using e))
  have hl := s.isLt
  obtain ⟨i1, i2, i3⟩ := bitLenAux_bnd 64 s.toNat (by omega) h0
  have hle := Lib.bitLen_le s.toNat 32 (by omega) hl
  have e : Lib.bitLenAux 64 s.toNat = Lib.bitLen s.toNat := rfl
  rw [e] at i1 i2 i3
  clear e
  generalize Lib.bitLen s.toNat = k at *
  obtain ⟨k, rfl⟩ : ∃ l, k = l + 1 := ⟨k - 1, by omega⟩
  simp only [Nat.add_sub_cancel] at *
  refine ⟨i1, hle, ?_, ?_⟩
  · unfold BitVec.getLsbD
    rw [Nat.testBit_eq_decide_div_mod_eq]
    rw [Nat.pow_succ] at i3
    have hp : 0 < 2 ^ k := Nat.two_pow_pos k
    have : s.toNat / 2 ^ k = 1 := by
      rw [Nat.div_eq_iff hp]
      omega
    rw [this]; rfl
  · intro j hj
    unfold BitVec.getLsbD at hj
    by_cases c : j ≤ k
    · exact c
    · have : 2 ^ (k + 1) ≤ 2 ^ j := Nat.pow_le_pow_right (by omega) (by omega)
      rw [Nat.testBit_lt_two_pow (by omega)] at hj
      simp at hj

/-- The way up, by the lowest bit of the set turned. -/
theorem turn_code (s : St) (a : Nat) (ha : a < 32) (h : s ≠ 0#32) (t : St) (ht : t = s.rotateLeft (31 - a)) : t ≠ 0#32 ∧ turnI s a = ((a + 1 + Lib.ctz 32 t.toNat) % 32 : Nat) := by
  have hb : ∀ j, j < 32 → t.getLsbD j = s.getLsbD ((j + a + 1) % 32) := by
    intro j hj
    rw [ht, rot_bit s _ _ (by omega) hj]
    congr 1
    omega
  have ht0 : t ≠ 0#32 := by
    intro e
    apply h
    apply st_ext
    intro i hi
    have := hb (off a i) (by unfold off; omega)
    rw [e] at this
    have e2 : (off a i + a + 1) % 32 = i := by unfold off; omega
    rw [e2] at this
    simpa using this.symm
  refine ⟨ht0, ?_⟩
  obtain ⟨c1, c2, c3⟩ := ctz_bits t ht0
  generalize Lib.ctz 32 t.toNat = d at *
  refine turnI_first s a _ ha (Nat.mod_lt _ (by omega)) ?_ ?_
  · rw [hb d c2] at c1
    rw [← c1]
    congr 1
    omega
  · intro j hj hs
    have := c3 (off a j) (by
      rw [hb _ (by unfold off; omega)]
      have e2 : (off a j + a + 1) % 32 = j := by unfold off; omega
      rw [e2, hs])
    have e : off a ((a + 1 + d) % 32) = d := by unfold off; omega
    rw [e]
    exact this

/-- The way down, by the highest bit of the others turned. -/
theorem prev_code (s : St) (a : Nat) (ha : a < 32) (h : woB s a ≠ 0#32) (t : St) (ht : t = (woB s a).rotateLeft ((32 - a) % 32)) : prevI s a = ((a + Lib.bitLen t.toNat - 1) % 32 : Nat) ∧ 1 ≤ Lib.bitLen t.toNat ∧ Lib.bitLen t.toNat ≤ 32 := by
  have hb : ∀ j, j < 32 → t.getLsbD j = (woB s a).getLsbD ((j + a) % 32) := by
    intro j hj
    rw [ht, rot_bit _ _ _ (by omega) hj]
    congr 1
    omega
  have ht0 : t ≠ 0#32 := by
    intro e
    apply h
    apply st_ext
    intro i hi
    have := hb ((i + 32 - a) % 32) (by omega)
    rw [e] at this
    have e2 : ((i + 32 - a) % 32 + a) % 32 = i := by omega
    rw [e2] at this
    simpa using this.symm
  obtain ⟨c0, c1, c2, c3⟩ := len_bits t ht0
  refine ⟨?_, c0, c1⟩
  generalize Lib.bitLen t.toNat = d at *
  have c4 := c2
  rw [hb _ (by omega), woB_bit _ _ _ (by omega)] at c4
  simp only [Bool.and_eq_true, Bool.not_eq_true', decide_eq_false_iff_not] at c4
  obtain ⟨c4, c5⟩ := c4
  have e0 : (a + d - 1) % 32 = (d - 1 + a) % 32 := by congr 1; omega
  rw [e0]
  refine prevI_first s a _ ha (Nat.mod_lt _ (by omega)) (by omega) c4 ?_
  intro j hj hn hs
  have := c3 ((j + 32 - a) % 32) (by
    rw [hb _ (by omega)]
    have e2 : ((j + 32 - a) % 32 + a) % 32 = j := by omega
    rw [e2, woB_bit _ _ _ hj, hs]
    simp
    omega)
  omega
theorem prev_none (s : St) (a : Nat) (ha : a < 32) (h : woB s a = 0#32) : prevI s a = -1 := by
  apply prevI_none s a ha
  intro j hj hn
  have := woB_bit s a j hj
  rw [h] at this
  simp at this
  by_cases c : s.getLsbD j = true
  · have := this c
    omega
  · simpa using c

/-- The addresses up to top. -/
def upN (top : Int) : Nat := (min (max top (-1)) 31 + 1).toNat
def upB (top : Int) : St := low (upN top)
theorem upB_bit (top : Int) (i : Nat) (hi : i < 32) : (upB top).getLsbD i = decide ((i : Int) ≤ top) := by
  unfold upB upN
  rw [low_bit _ _ hi]
  rw [Bool.eq_iff_iff]
  simp only [decide_eq_true_eq]
  omega
def gapB (s : St) (a top : Int) : St := betw a (if nextI s a < 0 then a else nextI s a) &&& upB top

end Go.Proofs.YtedlfognpbbhhaaGreatDoor.Mem
