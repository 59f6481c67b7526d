/-
  Sets of addresses: plain facts; With, of the program and of the reference, walked. Conditions: none.
-/
import Derived.Lib.TrailingZeros
import Derived.Lib.BitFns
import Derived.Test.YtmlopacekoghkaaRows
import Derived.WalkKit
import Derived.WalkSpells
import Derived.WalkLawsBesides
import Derived.Laws.BitsAllLaws
import Derived.Lib.Hide
import Derived.Below
import Derived.BigQuiet
import Derived.Deep.QuietTactic
import Derived.StillTailTactics
import Derived.Maps.AppendAt
import Derived.Laws.OwnMore
import Derived.OwnWalk
import Derived.Laws.MakeOwn
namespace Go.Proofs.Ytmlopacekoghkaa.Mem

/-- A set of addresses. -/
abbrev St := BitVec 32

/-- Is the number an address? -/
def adr (a : Int) : Bool := decide (0 ≤ a) && decide (a < 32)
theorem adr_iff (a : Int) : adr a = true ↔ 0 ≤ a ∧ a < 32 := by simp [adr]
theorem adr_not (a : Int) : adr a = false ↔ a < 0 ∨ 32 ≤ a := by
  rw [← Bool.not_eq_true, adr_iff]; omega

theorem st_ext {s t : St} (h : ∀ i, i < 32 → s.getLsbD i = t.getLsbD i) : s = t := BitVec.eq_of_getLsbD_eq fun i hi => h i hi
theorem st_big (s : St) (i : Nat) (h : ¬ i < 32) : s.getLsbD i = false := BitVec.getLsbD_of_ge s i (by omega)

/-- The set of one number: none, if it is no address. -/
def one (a : Int) : St := if adr a then BitVec.twoPow 32 a.toNat else 0#32
theorem one_bit (a : Int) (i : Nat) (hi : i < 32) : (one a).getLsbD i = decide (a = i) := by
  unfold one
  split
  · rename_i h
    have h := (adr_iff a).1 h
    rw [BitVec.getLsbD_twoPow]
    rw [Bool.eq_iff_iff]
    simp
    omega
  · rename_i h
    have h := (adr_not a).1 (by simpa using h)
    simp
    omega
theorem one_none (a : Int) (h : adr a = false) : one a = 0#32 := by simp [one, h]

def hasB (s : St) (a : Int) : Bool := adr a && s.getLsbD a.toNat
def withB (s : St) (a : Int) : St := s ||| one a
def woB (s : St) (a : Int) : St := s &&& ~~~ one a
def listB (s : St) : List Nat := (List.range 32).filter fun a => s.getLsbD a

theorem hasB_nat (s : St) (i : Nat) : hasB s i = s.getLsbD i := by
  unfold hasB
  by_cases h : i < 32
  · have : adr (i : Int) = true := (adr_iff _).2 (by omega)
    simp [this]
  · have : adr (i : Int) = false := (adr_not _).2 (by omega)
    simp [this, st_big s i h]
theorem withB_bit (s : St) (a : Int) (i : Nat) (hi : i < 32) : (withB s a).getLsbD i = (s.getLsbD i || decide (a = i)) := by
  unfold withB
  rw [BitVec.getLsbD_or, one_bit a i hi]
theorem woB_bit (s : St) (a : Int) (i : Nat) (hi : i < 32) : (woB s a).getLsbD i = (s.getLsbD i && !decide (a = i)) := by
  unfold woB
  rw [BitVec.getLsbD_and, BitVec.getLsbD_not, one_bit a i hi]
  simp [hi]
theorem listB_mem (s : St) (a : Nat) : a ∈ listB s ↔ s.getLsbD a = true := by
  unfold listB
  simp only [List.mem_filter, List.mem_range]
  constructor
  · exact fun h => h.2
  · intro h
    refine ⟨?_, h⟩
    by_cases h2 : a < 32
    · exact h2
    · rw [st_big s a h2] at h; simp at h
theorem listB_lt (s : St) (a : Nat) (h : a ∈ listB s) : a < 32 := by
  unfold listB at h
  simp only [List.mem_filter, List.mem_range] at h
  exact h.1
theorem listB_len (s : St) : (listB s).length ≤ 32 := by
  have := List.length_filter_le (fun a => s.getLsbD a) (List.range 32)
  simp only [List.length_range] at this
  exact this

/-- How far up a number is from behind a, going round. -/
def off (a i : Nat) : Nat := (i + 31 - a) % 32

/-- A turn by so many bits. -/
theorem rot_bit (s : St) (r j : Nat) (hr : r < 32) (hj : j < 32) : (s.rotateLeft r).getLsbD j = s.getLsbD ((j + 32 - r) % 32) := by
  rw [BitVec.getLsbD_rotateLeft]
  have h1 : r % 32 = r := Nat.mod_eq_of_lt hr
  rw [h1]
  by_cases h : j < r
  · have e : (j + 32 - r) % 32 = 32 - r + j := by omega
    simp [h, e]
  · have e : (j + 32 - r) % 32 = j - r := by omega
    simp [h, e, hj]

/-- The so many lowest. -/
def low (n : Nat) : St := BitVec.ofNat 32 (2 ^ n - 1)
theorem low_bit (n i : Nat) (hi : i < 32) : (low n).getLsbD i = decide (i < n) := by
  unfold low
  rw [BitVec.getLsbD_ofNat, Nat.testBit_two_pow_sub_one]
  simp [hi]

/-- Those between two addresses. -/
def betwN (a b : Nat) : St := (low (off a b)).rotateLeft ((a + 1) % 32)
theorem betwN_bit (a b i : Nat) (ha : a < 32) (hi : i < 32) : (betwN a b).getLsbD i = decide (off a i < off a b) := by
  unfold betwN
  rw [rot_bit _ _ _ (by omega) hi, low_bit _ _ (by omega)]
  have e : (i + 32 - (a + 1) % 32) % 32 = off a i := by unfold off; omega
  rw [e]
def betw (a b : Int) : St := if adr a && adr b then betwN a.toNat b.toNat else 0#32
theorem betw_nat (a b : Nat) (ha : a < 32) (hb : b < 32) : betw a b = betwN a b := by
  have h1 : adr (a : Int) = true := (adr_iff _).2 (by omega)
  have h2 : adr (b : Int) = true := (adr_iff _).2 (by omega)
  simp [betw, h1, h2]

/-- Behind a token. -/
def passB (s : St) (a b : Int) : St := if adr a && adr b then withB (withB (s &&& ~~~ betw a b) a) b else s

/-- The first of s going up, from the i-th on; below 0: none. -/
def turnFrom (s : St) (a : Nat) : Nat → Nat → Int
  | 0, _ => -1
  | f + 1, i => if s.getLsbD ((a + i) % 32) then (((a + i) % 32 : Nat) : Int) else turnFrom s a f (i + 1)
def turnI (s : St) (a : Int) : Int := if adr a then turnFrom s a.toNat 32 1 else -1
def nextI (s : St) (a : Int) : Int := turnI (woB s a) a

/-- The first of s going down. -/
def prevFrom (s : St) (a : Nat) : Nat → Nat → Int
  | 0, _ => -1
  | f + 1, i => if s.getLsbD ((a + 32 - i) % 32) then (((a + 32 - i) % 32 : Nat) : Int) else prevFrom s a f (i + 1)
def prevI (s : St) (a : Int) : Int := if adr a then prevFrom s a.toNat 31 1 else -1

theorem turnFrom_first (s : St) (a b : Nat) (ha : a < 32) (hb : b < 32) (hs : s.getLsbD b = true) (hmin : ∀ j, j < 32 → s.getLsbD j = true → off a b ≤ off a j) :
    ∀ f i, i + f = 33 → 1 ≤ i → i ≤ off a b + 1 → turnFrom s a f i = b
  | 0, i, h1, _, h3 => by unfold off at h3; omega
  | f + 1, i, h1, h2, h3 => by
    unfold turnFrom
    split
    · rename_i h
      have := hmin _ (Nat.mod_lt _ (by omega)) h
      have : (a + i) % 32 = b := by unfold off at *; omega
      rw [this]
    · rename_i h
      refine turnFrom_first s a b ha hb hs hmin f (i + 1) (by omega) (by omega) ?_
      by_cases e : i = off a b + 1
      · exfalso
        apply h
        have : (a + i) % 32 = b := by unfold off at *; omega
        rw [this, hs]
      · omega
theorem turnFrom_none (a : Nat) : ∀ f i, turnFrom 0#32 a f i = -1
  | 0, _ => rfl
  | f + 1, i => by unfold turnFrom; simp [turnFrom_none a f (i + 1)]
theorem turnFrom_ge (s : St) (a : Nat) : ∀ f i, -1 ≤ turnFrom s a f i ∧ turnFrom s a f i < 32
  | 0, _ => by unfold turnFrom; omega
  | f + 1, i => by
    have := turnFrom_ge s a f (i + 1)
    unfold turnFrom
    split
    · omega
    · exact this

theorem turnI_first (s : St) (a b : Nat) (ha : a < 32) (hb : b < 32) (hs : s.getLsbD b = true) (hmin : ∀ j, j < 32 → s.getLsbD j = true → off a b ≤ off a j) : turnI s a = b := by
  have h1 : adr (a : Int) = true := (adr_iff _).2 (by omega)
  unfold turnI
  rw [if_pos h1]
  exact turnFrom_first s a b ha hb hs hmin 32 1 rfl (by omega) (by omega)
theorem turnI_none (a : Int) : turnI 0#32 a = -1 := by
  unfold turnI
  split
  · exact turnFrom_none _ _ _
  · rfl
theorem turnI_range (s : St) (a : Int) : -1 ≤ turnI s a ∧ turnI s a < 32 := by
  unfold turnI
  split
  · exact turnFrom_ge _ _ _ _
  · omega

theorem prevFrom_first (s : St) (a b : Nat) (ha : a < 32) (hb : b < 32) (hn : b ≠ a) (hs : s.getLsbD b = true) (hmin : ∀ j, j < 32 → j ≠ a → s.getLsbD j = true → (j + 32 - a) % 32 ≤ (b + 32 - a) % 32) :
    ∀ f i, i + f = 32 → 1 ≤ i → i ≤ 32 - (b + 32 - a) % 32 → prevFrom s a f i = b
  | 0, i, h1, _, h3 => by omega
  | f + 1, i, h1, h2, h3 => by
    unfold prevFrom
    split
    · rename_i h
      have := hmin _ (Nat.mod_lt _ (by omega)) (by omega) h
      have : (a + 32 - i) % 32 = b := by omega
      rw [this]
    · rename_i h
      refine prevFrom_first s a b ha hb hn hs hmin f (i + 1) (by omega) (by omega) ?_
      by_cases e : i = 32 - (b + 32 - a) % 32
      · exfalso
        apply h
        have : (a + 32 - i) % 32 = b := by omega
        rw [this, hs]
      · omega
theorem prevFrom_none (s : St) (a : Nat) (ha : a < 32) (hs : ∀ j, j < 32 → j ≠ a → s.getLsbD j = false) : ∀ f i, i + f = 32 → 1 ≤ i → prevFrom s a f i = -1
  | 0, _, _, _ => rfl
  | f + 1, i, h1, h2 => by
    unfold prevFrom
    rw [hs _ (Nat.mod_lt _ (by omega)) (by omega)]
    simp [prevFrom_none s a ha hs f (i + 1) (by omega) (by omega)]
theorem prevI_first (s : St) (a b : Nat) (ha : a < 32) (hb : b < 32) (hn : b ≠ a) (hs : s.getLsbD b = true) (hmin : ∀ j, j < 32 → j ≠ a → s.getLsbD j = true → (j + 32 - a) % 32 ≤ (b + 32 - a) % 32) : prevI s a = b := by
  have h1 : adr (a : Int) = true := (adr_iff _).2 (by omega)
  unfold prevI
  rw [if_pos h1]
  exact prevFrom_first s a b ha hb hn hs hmin 31 1 rfl (by omega) (by omega)
theorem prevI_none (s : St) (a : Nat) (ha : a < 32) (hs : ∀ j, j < 32 → j ≠ a → s.getLsbD j = false) : prevI s a = -1 := by
  have h1 : adr (a : Int) = true := (adr_iff _).2 (by omega)
  unfold prevI
  rw [if_pos h1]
  exact prevFrom_none s a ha hs 31 1 rfl (by omega)

/-- Bits of a number that has some, from its lowest on. -/
theorem ctz_bits (s : St) (h : s ≠ 0#32) : s.getLsbD (Lib.ctz 32 s.toNat) = true ∧ Lib.ctz 32 s.toNat < 32 ∧ ∀ j, s.getLsbD j = true → Lib.ctz 32 s.toNat ≤ j := by
  have h0 : s.toNat ≠ 0 := fun e => h (BitVec.eq_of_toNat_eq (by simpa using e))
  have e : Lib.ctz 32 s.toNat = Lib.ctzFrom 32 s.toNat := by simp [Lib.ctz, h0]
  obtain ⟨m, hm, hk⟩ := Lib.ctzFrom_spec 32 s.toNat (by omega) s.isLt
  rw [e]
  generalize Lib.ctzFrom 32 s.toNat = k at *
  have hb : ∀ j, s.getLsbD j = (decide (j ≥ k) && (2 * m + 1).testBit (j - k)) := by
    intro j
    unfold BitVec.getLsbD
    rw [hm, Nat.testBit_two_pow_mul]
  refine ⟨?_, hk, ?_⟩
  · rw [hb]; simp
  · intro j hj
    rw [hb] at hj
    simp at hj
    exact hj.1

/-- The highest bit. -/
theorem bitLenAux_bnd : ∀ (f x : Nat), x < 2 ^ f → x ≠ 0 → 1 ≤ Lib.bitLenAux f x ∧ 2 ^ (Lib.bitLenAux f x - 1) ≤ x ∧ x < 2 ^ Lib.bitLenAux f x
  | 0, x, h, h0 => by simp at h; omega
  | f + 1, x, h, h0 => by
    unfold Lib.bitLenAux
    rw [if_neg h0]
    by_cases h2 : x / 2 = 0
    · have e : Lib.bitLenAux f (x / 2) = 0 := by rw [h2]; cases f <;> simp [Lib.bitLenAux]
      rw [e]
      simp
      omega
    · obtain ⟨i1, i2, i3⟩ := bitLenAux_bnd f (x / 2) (by rw [Nat.pow_succ] at h; omega) h2
      generalize Lib.bitLenAux f (x / 2) = k at *
      obtain ⟨k, rfl⟩ : ∃ l, k = l + 1 := ⟨k - 1, by omega⟩
      simp only [Nat.add_sub_cancel] at i2
      have e1 : 1 + (k + 1) - 1 = k + 1 := by omega
      have e2 : 1 + (k + 1) = k + 1 + 1 := by omega
      rw [e1, e2]
      simp only [Nat.pow_succ] at *
      omega

theorem len_bits (s : St) (h : s ≠ 0#32) : 1 ≤ Lib.bitLen s.toNat ∧ Lib.bitLen s.toNat ≤ 32 ∧ s.getLsbD (Lib.bitLen s.toNat - 1) = true ∧ ∀ j, s.getLsbD j = true → j ≤ Lib.bitLen s.toNat - 1 := by
  have h0 : s.toNat ≠ 0 := fun e => h (BitVec.eq_of_toNat_eq (by simpa using e))
  have hl := s.isLt
  obtain ⟨i1, i2, i3⟩ := bitLenAux_bnd 64 s.toNat (by omega) h0
  have hle := Lib.bitLen_le s.toNat 32 (by omega) hl
  have e : Lib.bitLenAux 64 s.toNat = Lib.bitLen s.toNat := rfl
  rw [e] at i1 i2 i3
  clear e
  generalize Lib.bitLen s.toNat = k at *
  obtain ⟨k, rfl⟩ : ∃ l, k = l + 1 := ⟨k - 1, by omega⟩
  simp only [Nat.add_sub_cancel] at *
  refine ⟨i1, hle, ?_, ?_⟩
  · unfold BitVec.getLsbD
    rw [Nat.testBit_eq_decide_div_mod_eq]
    rw [Nat.pow_succ] at i3
    have hp : 0 < 2 ^ k := Nat.two_pow_pos k
    have : s.toNat / 2 ^ k = 1 := by
      rw [Nat.div_eq_iff hp]
      omega
    rw [this]; rfl
  · intro j hj
    unfold BitVec.getLsbD at hj
    by_cases c : j ≤ k
    · exact c
    · have : 2 ^ (k + 1) ≤ 2 ^ j := Nat.pow_le_pow_right (by omega) (by omega)
      rw [Nat.testBit_lt_two_pow (by omega)] at hj
      simp at hj

/-- The way up, by the lowest bit of the set turned. -/
theorem turn_code (s : St) (a : Nat) (ha : a < 32) (h : s ≠ 0#32) (t : St) (ht : t = s.rotateLeft (31 - a)) : t ≠ 0#32 ∧ turnI s a = ((a + 1 + Lib.ctz 32 t.toNat) % 32 : Nat) := by
  have hb : ∀ j, j < 32 → t.getLsbD j = s.getLsbD ((j + a + 1) % 32) := by
    intro j hj
    rw [ht, rot_bit s _ _ (by omega) hj]
    congr 1
    omega
  have ht0 : t ≠ 0#32 := by
    intro e
    apply h
    apply st_ext
    intro i hi
    have := hb (off a i) (by unfold off; omega)
    rw [e] at this
    have e2 : (off a i + a + 1) % 32 = i := by unfold off; omega
    rw [e2] at this
    simpa using this.symm
  refine ⟨ht0, ?_⟩
  obtain ⟨c1, c2, c3⟩ := ctz_bits t ht0
  generalize Lib.ctz 32 t.toNat = d at *
  refine turnI_first s a _ ha (Nat.mod_lt _ (by omega)) ?_ ?_
  · rw [hb d c2] at c1
    rw [← c1]
    congr 1
    omega
  · intro j hj hs
    have := c3 (off a j) (by
      rw [hb _ (by unfold off; omega)]
      have e2 : (off a j + a + 1) % 32 = j := by unfold off; omega
      rw [e2, hs])
    have e : off a ((a + 1 + d) % 32) = d := by unfold off; omega
    rw [e]
    exact this

/-- The way down, by the highest bit of the others turned. -/
theorem prev_code (s : St) (a : Nat) (ha : a < 32) (h : woB s a ≠ 0#32) (t : St) (ht : t = (woB s a).rotateLeft ((32 - a) % 32)) : prevI s a = ((a + Lib.bitLen t.toNat - 1) % 32 : Nat) ∧ 1 ≤ Lib.bitLen t.toNat ∧ Lib.bitLen t.toNat ≤ 32 := by
  have hb : ∀ j, j < 32 → t.getLsbD j = (woB s a).getLsbD ((j + a) % 32) := by
    intro j hj
    rw [ht, rot_bit _ _ _ (by omega) hj]
    congr 1
    omega
  have ht0 : t ≠ 0#32 := by
    intro e
    apply h
    apply st_ext
    intro i hi
    have := hb ((i + 32 - a) % 32) (by omega)
    rw [e] at this
    have e2 : ((i + 32 - a) % 32 + a) % 32 = i := by omega
    rw [e2] at this
    simpa using this.symm
  obtain ⟨c0, c1, c2, c3⟩ := len_bits t ht0
  refine ⟨?_, c0, c1⟩
  generalize Lib.bitLen t.toNat = d at *
  have c4 := c2
  rw [hb _ (by omega), woB_bit _ _ _ (by omega)] at c4
  simp only [Bool.and_eq_true, Bool.not_eq_true', decide_eq_false_iff_not] at c4
  obtain ⟨c4, c5⟩ := c4
  have e0 : (a + d - 1) % 32 = (d - 1 + a) % 32 := by congr 1; omega
  rw [e0]
  refine prevI_first s a _ ha (Nat.mod_lt _ (by omega)) (by omega) c4 ?_
  intro j hj hn hs
  have := c3 ((j + 32 - a) % 32) (by
    rw [hb _ (by omega)]
    have e2 : ((j + 32 - a) % 32 + a) % 32 = j := by omega
    rw [e2, woB_bit _ _ _ hj, hs]
    simp
    omega)
  omega
theorem prev_none (s : St) (a : Nat) (ha : a < 32) (h : woB s a = 0#32) : prevI s a = -1 := by
  apply prevI_none s a ha
  intro j hj hn
  have := woB_bit s a j hj
  rw [h] at this
  simp at this
  by_cases c : s.getLsbD j = true
  · have := this c
    omega
  · simpa using c

/-- The addresses up to top. -/
def upN (top : Int) : Nat := (min (max top (-1)) 31 + 1).toNat
def upB (top : Int) : St := low (upN top)
theorem upB_bit (top : Int) (i : Nat) (hi : i < 32) : (upB top).getLsbD i = decide ((i : Int) ≤ top) := by
  unfold upB upN
  rw [low_bit _ _ hi]
  rw [Bool.eq_iff_iff]
  simp only [decide_eq_true_eq]
  omega
def gapB (s : St) (a top : Int) : St := betw a (if nextI s a < 0 then a else nextI s a) &&& upB top

end Go.Proofs.Ytmlopacekoghkaa.Mem

namespace Go.Proofs.Ytmlopacekoghkaa.Mem
open Go.RowKit

theorem ret_int {k : IntKind} {a b : Int} (h : a = b) : Ending.returned (.int k a) = .returned (.int k b) := by rw [h]
theorem ret_bool {a b : Bool} (h : a = b) : Ending.returned (.bool a) = .returned (.bool b) := by rw [h]

/-- A set as Go holds it. -/
abbrev sv (s : St) : Value := .int .u32 (s.toNat : Int)

theorem and32 (s t : St) : bits .and .u32 (s.toNat : Int) (t.toNat : Int) = ((s &&& t).toNat : Int) := by
  rw [u32_and_nat _ _ s.isLt t.isLt, BitVec.toNat_and]
theorem or32 (s t : St) : bits .or .u32 (s.toNat : Int) (t.toNat : Int) = ((s ||| t).toNat : Int) := by
  rw [u32_or_nat _ _ s.isLt t.isLt, BitVec.toNat_or]
theorem andNot32 (s t : St) : bits .andNot .u32 (s.toNat : Int) (t.toNat : Int) = ((s &&& ~~~ t).toNat : Int) := by
  rw [u32_andNot_nat _ _ s.isLt t.isLt, BitVec.toNat_and, BitVec.toNat_not]

theorem isAddr_any (a : Int) (w : World) : Calls Try.prog 48 #[.int .i64 a] w fun e w' => e = .returned (.bool (adr a)) ∧ w = w' := by
  by_cases h0 : 0 ≤ a
  · have h1 : decide (0 ≤ a) = true := by simpa using h0
    go_enter Try.func48, Try.ntmps48
    go_wp2
    go_ret
    exact ⟨ret_bool (by simp [adr, h0]), rfl⟩
  · have h1 : decide (0 ≤ a) = false := by simpa using h0
    go_enter Try.func48, Try.ntmps48
    go_wp2
    go_ret
    exact ⟨ret_bool (by unfold adr; rw [h1]; rfl), rfl⟩

theorem one_shift (a : Int) (h : adr a = true) : IntKind.u32.wrap (2 ^ min a.toNat 32) = ((one a).toNat : Int) := by
  have h1 := (adr_iff a).1 h
  have e : min a.toNat 32 = a.toNat := by omega
  rw [e]
  unfold one
  rw [if_pos h, BitVec.toNat_twoPow, IntKind.wrap_u32]
  have : (2 : Int) ^ a.toNat = ((2 ^ a.toNat : Nat) : Int) := by simp
  rw [this]
  omega

theorem alone_any (a : Int) (w : World) : Calls Try.prog 40 #[.int .i64 a] w fun e w' => e = .returned (sv (one a)) ∧ w = w' := by
  by_cases h : adr a = true
  · have hs := one_shift a h
    have h0 := ((adr_iff a).1 h).1
    go_enter Try.func40, Try.ntmps40
    go_wp2_with fail
    refine (isAddr_any a w).mono ?_
    rintro e w1 ⟨rfl, rfl⟩
    rw [h]
    go_wp2
    go_ret
    exact ⟨rfl, rfl⟩
  · have h := eq_false_of_ne_true h
    go_enter Try.func40, Try.ntmps40
    go_wp2_with fail
    refine (isAddr_any a w).mono ?_
    rintro e w1 ⟨rfl, rfl⟩
    rw [h]
    go_wp2
    go_ret
    exact ⟨ret_int (by rw [one_none a h]; rfl), rfl⟩

theorem has_zero (s : St) (a : Int) : (bits .and .u32 (s.toNat : Int) ((one a).toNat : Int) != 0) = hasB s a := by
  rw [and32]
  show (!(((s &&& one a).toNat : Int) == 0)) = hasB s a
  rw [Bool.eq_iff_iff]
  have hz : ((((s &&& one a).toNat : Int) == 0) = true) ↔ s &&& one a = 0#32 := by
    rw [beq_iff_eq]
    constructor
    · intro h; exact BitVec.eq_of_toNat_eq (by simpa using h)
    · intro h; rw [h]; rfl
  rw [Bool.not_eq_true', ← Bool.not_eq_true, hz]
  by_cases h : adr a = true
  · have h1 := (adr_iff a).1 h
    obtain ⟨i, rfl⟩ := Int.eq_ofNat_of_zero_le h1.1
    have hi : i < 32 := by omega
    rw [hasB_nat]
    constructor
    · intro hn
      by_cases c : s.getLsbD i = true
      · exact c
      · exfalso
        apply hn
        apply st_ext
        intro j hj
        rw [BitVec.getLsbD_and, one_bit _ _ hj]
        by_cases e : i = j
        · subst e; simp at c; simp [c]
        · simp; omega
    · intro hb he
      have := congrArg (fun x => BitVec.getLsbD x i) he
      simp only [BitVec.getLsbD_and, one_bit _ _ hi] at this
      simp [hb] at this
  · have h := eq_false_of_ne_true h
    rw [one_none a h]
    simp [hasB, h]

theorem With_any (s : St) (a : Int) (w : World) : Calls Try.prog 26 #[sv s, .int .i64 a] w fun e w' => e = .returned (sv (withB s a)) ∧ w = w' := by
  go_enter Try.func26, Try.ntmps26
  go_wp2_with fail
  refine (alone_any a w).mono ?_
  rintro e w1 ⟨rfl, rfl⟩
  go_wp2
  go_ret
  exact ⟨ret_int (or32 s (one a)), rfl⟩

theorem low_nat (n : Nat) : ((low n).toNat : Int) = IntKind.u32.wrap (IntKind.u32.wrap (2 ^ min n 32) - 1) := by
  unfold low
  rw [BitVec.toNat_ofNat, IntKind.wrap_u32, IntKind.wrap_u32]
  by_cases h : n ≤ 32
  · have e : min n 32 = n := by omega
    rw [e]
    have e2 : (2 : Int) ^ n = ((2 ^ n : Nat) : Int) := by simp
    have e3 : 0 < 2 ^ n := Nat.two_pow_pos n
    rw [e2]
    omega
  · have e : min n 32 = 32 := by omega
    have e3 : 2 ^ n = 2 ^ (n - 32) * 2 ^ 32 := by rw [← Nat.pow_add]; congr 1; omega
    have e4 : 0 < 2 ^ (n - 32) := Nat.two_pow_pos _
    rw [e, e3]
    generalize 2 ^ (n - 32) = k at *
    omega

/-- The builtins' answers, hidden. -/
theorem max_run (a : Int) (ts : Array TypeId) (t : TypeId) (W : World) : (Builtin.max_ ts t #[.int .i64 a, .int .i64 (-1)]).run Try.prog W = .ok (.int .i64 (max a (-1))) W := by
  rw [run_max_int2]
  congr 2
  split <;> omega
theorem min_run (a : Int) (ts : Array TypeId) (t : TypeId) (W : World) : (Builtin.min_ ts t #[.int .i64 (max a (-1)), .int .i64 31]).run Try.prog W = .ok (.int .i64 ((upN a : Int) - 1)) W := by
  rw [run_min_int2]
  unfold upN
  congr 2
  split <;> omega

end Go.Proofs.Ytmlopacekoghkaa.Mem

namespace Go.Proofs.Ytmlopacekoghkaa.Mem
open Go.RowKit

theorem Try.infoInt : (Try.prog.info? 3).map (fun i => (i.zero, i.size, i.bytes)) = some (some (.int .i64 0), 1, 8) := by kernel_rfl
theorem info_parts {P : Program} {t : TypeId} {z : Option Value} {a b : Nat} (h : (P.info? t).map (fun i => (i.zero, i.size, i.bytes)) = some (z, a, b)) :
    ∃ i, P.info? t = some i ∧ i.zero = z ∧ i.size = a ∧ i.bytes = b := by
  cases h2 : P.info? t with
  | none => simp [h2] at h
  | some i =>
    simp only [h2, Option.map_some, Option.some.injEq, Prod.mk.injEq] at h
    exact ⟨i, rfl, h.1, h.2.1, h.2.2⟩

/-- Numbers as cells. -/
def ivals (l : List Nat) : List Value := l.map fun n : Nat => Value.int .i64 (n : Int)
theorem ivals_len (l : List Nat) : (ivals l).length = l.length := by simp [ivals]

/-- A slice that reads as these numbers. -/
def Lst (w : World) (v : Value) (l : List Nat) : Prop :=
  ∃ A c, v = .slice A l.length c ∧ ∀ i, i < l.length → ∃ g, A = some ⟨g, 0, none⟩ ∧ g < w.heap.size ∧ ∀ (j x : Nat), l[j]? = some x → w.cell? ⟨g, j, none⟩ = some (.int .i64 (x : Int))
theorem Lst.below {w w' : World} {v : Value} {l : List Nat} (h : Lst w v l) (hb : Below w.heap.size w w') : Lst w' v l := by
  obtain ⟨A, c, hv, h⟩ := h
  refine ⟨A, c, hv, fun i hi => ?_⟩
  obtain ⟨g, hA, hg, hc⟩ := h i hi
  refine ⟨g, hA, Nat.lt_of_lt_of_le hg hb.size, fun j x hx => ?_⟩
  rw [← hc j x hx]
  exact World.cell?_of_block (hb.block g hg)
theorem Lst.of_own {w : World} {base n : Nat} {v : Value} {l : List Nat} (h : w.ownsRow base 3 1 v n (ivals l)) : Lst w v l := by
  have hn : n = l.length := by have := h.1; rw [ivals_len] at this; omega
  subst hn
  rcases h.2 with ⟨hv, h0⟩ | ⟨g, cap, cur, rfl, hb, hg, _⟩
  · exact ⟨none, 0, by rw [h0]; exact hv, fun i hi => by omega⟩
  · refine ⟨_, _, rfl, fun i hi => ⟨g, rfl, ?_, fun j x hx => ?_⟩⟩
    · rcases Nat.lt_or_ge g w.heap.size with hl | hl
      · exact hl
      · rw [Array.getElem?_eq_none hl] at hg; simp at hg
    · have hj : j < l.length := (List.getElem?_eq_some_iff.1 hx).1
      rw [h.cellAt j (by omega)]
      simp [ivals, hx]

theorem own_base {w : World} {base n size : Nat} {e : TypeId} {v : Value} {xs : List Value} (h : w.ownsRow base e size v n xs) (g : Nat) (hg : v.ownBlock = some g) : base ≤ g := by
  rcases h.2 with ⟨rfl, _⟩ | ⟨g', cap, cur, rfl, hb, _⟩
  · simp [Value.ownBlock] at hg
  · simp [Value.ownBlock] at hg; omega
theorem own_form {w : World} {base n size : Nat} {e : TypeId} {v : Value} {xs : List Value} (h : w.ownsRow base e size v n xs) : ∃ A c, v = .slice A n c := by
  rcases h.2 with ⟨rfl, h0⟩ | ⟨g', cap, cur, rfl, _⟩
  · exact ⟨none, 0, by rw [h0]⟩
  · exact ⟨_, _, rfl⟩

/-- What a set has below k. -/
def upto (s : St) (k : Nat) : List Nat := (List.range k).filter fun a => s.getLsbD a
theorem upto_zero (s : St) : upto s 0 = [] := rfl
theorem upto_all (s : St) : upto s 32 = listB s := rfl
theorem upto_yes (s : St) (k : Nat) (h : s.getLsbD k = true) : upto s (k + 1) = upto s k ++ [k] := by
  unfold upto
  rw [List.range_succ, List.filter_append]
  simp [h]
theorem upto_no (s : St) (k : Nat) (h : s.getLsbD k = false) : upto s (k + 1) = upto s k := by
  unfold upto
  rw [List.range_succ, List.filter_append]
  simp [h]
theorem upto_len (s : St) (k : Nat) : (upto s k).length ≤ k := by
  have := List.length_filter_le (fun a => s.getLsbD a) (List.range k)
  simpa [upto] using this

theorem half (x k : Nat) : ((x / 2 ^ k : Nat) : Int) / 2 = ((x / 2 ^ (k + 1) : Nat) : Int) := by
  rw [Nat.pow_succ, ← Nat.div_div_eq_div_mul]
  omega

theorem bit_at (s : St) (i : Nat) : (((s.toNat / 2 ^ i : Nat) : Int) % 2 == 1) = s.getLsbD i := by
  unfold BitVec.getLsbD
  rw [Nat.testBit_eq_decide_div_mod_eq, Bool.eq_iff_iff]
  simp only [beq_iff_eq, decide_eq_true_eq]
  omega

set_option maxHeartbeats 800000 in
theorem rHas_any (s : St) (a : Int) (w : World) : Calls Try.prog 41 #[sv s, .int .i64 a] w fun e w' => e = .returned (.bool (hasB s a)) ∧ w = w' := by
  by_cases h0 : a < 0
  · have e1 : hasB s a = false := by unfold hasB; rw [(adr_not a).2 (by omega)]; rfl
    rw [e1]
    go_enter Try.func41, Try.ntmps41
    go_wp2
    go_ret
    exact ⟨rfl, rfl⟩
  · by_cases h1 : 31 < a
    · have e1 : hasB s a = false := by unfold hasB; rw [(adr_not a).2 (by omega)]; rfl
      rw [e1]
      go_enter Try.func41, Try.ntmps41
      go_wp2
      go_ret
      exact ⟨rfl, rfl⟩
    · obtain ⟨i, rfl⟩ := Int.eq_ofNat_of_zero_le (show 0 ≤ a by omega)
      rw [hasB_nat]
      have hi : i < 32 := by omega
      have h1 : decide ((31 : Int) < (i : Int)) = false := by simp; omega
      have hl := Lib.hid s.isLt
      go_enter Try.func41, Try.ntmps41
      go_wp2
      go_loop [0, 5] (fun x j => ∃ k : Nat, k ≤ i ∧ x = .int .u32 ((s.toNat / 2 ^ k : Nat) : Int) ∧ j = .int .i64 k) (fun _ j => i - (intOf j).toNat)
      case atStart => exact ⟨0, Nat.zero_le _, by simp, rfl⟩
      case round =>
        obtain ⟨k, hk, rfl, rfl⟩ := hrel
        by_cases hlt : k < i
        · have e1 := half s.toNat k
          have e2 : decide ((k : Int) < (i : Int)) = true := by simp; omega
          obtain ⟨y, hy⟩ : ∃ y, Hid (y = s.toNat / 2 ^ (k + 1)) := ⟨_, Lib.hid rfl⟩
          have e3 : (y : Int) % 4294967296 = y := by
            have := hl.out
            have := Nat.div_le_self s.toNat (2 ^ (k + 1))
            have := hy.out
            omega
          rw [← hy.out] at e1
          generalize s.toNat / 2 ^ k = x at *
          go_wp2
          go_round
          case rel => exact ⟨k + 1, by omega, by rw [hy.out], by go_num⟩
          case measure => simp [intOf]; omega
        · obtain rfl : k = i := by omega
          have e1 := Lib.hid (bit_at s k)
          generalize s.toNat / 2 ^ k = x at *
          go_wp2
          go_ret
          exact ⟨ret_bool e1.out, rfl⟩

theorem add_one_bit (s : St) (i : Nat) (hi : i < 32) (h : s.getLsbD i = false) : ((s.toNat : Int) + ((2 ^ i : Nat) : Int)) % 4294967296 = ((withB s i).toNat : Int) := by
  have ha : adr (i : Int) = true := (adr_iff _).2 (by omega)
  have e : withB s i = s + BitVec.twoPow 32 i := by
    unfold withB one
    rw [if_pos ha]
    rw [BitVec.add_eq_or_of_and_eq_zero]
    · rfl
    · apply st_ext
      intro j hj
      rw [BitVec.getLsbD_and, BitVec.getLsbD_twoPow]
      by_cases e : i = j
      · subst e; rw [h]; simp
      · simp [e]
  rw [e, BitVec.toNat_add, BitVec.toNat_twoPow]
  omega
theorem withB_has (s : St) (a : Int) (h : adr a = false ∨ hasB s a = true) : withB s a = s := by
  apply st_ext
  intro i hi
  rw [withB_bit _ _ _ hi]
  by_cases e : a = (i : Int)
  · subst e
    rw [hasB_nat] at h
    rcases h with h | h
    · have := (adr_not _).1 h; omega
    · rw [h]; rfl
  · simp [e]

set_option maxHeartbeats 800000 in
theorem rWith_any (s : St) (a : Int) (w : World) : Calls Try.prog 27 #[sv s, .int .i64 a] w fun e w' => e = .returned (sv (withB s a)) ∧ w = w' := by
  by_cases h0 : a < 0
  · rw [withB_has s a (.inl ((adr_not a).2 (by omega)))]
    go_enter Try.func27, Try.ntmps27
    go_wp2
    go_ret
    exact ⟨rfl, rfl⟩
  · by_cases h1 : 31 < a
    · rw [withB_has s a (.inl ((adr_not a).2 (by omega)))]
      go_enter Try.func27, Try.ntmps27
      go_wp2
      go_ret
      exact ⟨rfl, rfl⟩
    · obtain ⟨i, rfl⟩ := Int.eq_ofNat_of_zero_le (show 0 ≤ a by omega)
      have hi : i < 32 := by omega
      have h1 : decide ((31 : Int) < (i : Int)) = false := by simp; omega
      by_cases hh : hasB s i = true
      · rw [withB_has s i (.inr hh)]
        go_enter Try.func27, Try.ntmps27
        go_wp2_with fail
        refine (rHas_any s i w).mono ?_
        rintro e w1 ⟨rfl, rfl⟩
        rw [hh]
        go_wp2
        go_ret
        exact ⟨rfl, rfl⟩
      · have hh := eq_false_of_ne_true hh
        have ho := Lib.hid (add_one_bit s i hi (by rw [← hasB_nat]; exact hh))
        go_enter Try.func27, Try.ntmps27
        go_wp2_with fail
        refine (rHas_any s i w).mono ?_
        rintro e w1 ⟨rfl, rfl⟩
        rw [hh]
        go_wp2
        go_loop [5, 6] (fun x j => ∃ k : Nat, k ≤ i ∧ x = .int .u32 ((2 ^ k : Nat) : Int) ∧ j = .int .i64 k) (fun _ j => i - (intOf j).toNat)
        case atStart => exact ⟨0, Nat.zero_le _, rfl, rfl⟩
        case round =>
          obtain ⟨k, hk, rfl, rfl⟩ := hrel
          by_cases hlt : k < i
          · have e1 : IntKind.u32.wrap (((2 ^ k : Nat) : Int) * 2) = ((2 ^ (k + 1) : Nat) : Int) := by
              have : 2 ^ k < 2 ^ 31 := Nat.pow_lt_pow_of_lt (by omega) (by omega)
              rw [IntKind.wrap_u32, Nat.pow_succ]
              omega
            have e2 : decide ((k : Int) < (i : Int)) = true := by simp; omega
            obtain ⟨y, hy⟩ : ∃ y, Hid (y = 2 ^ (k + 1)) := ⟨_, Lib.hid rfl⟩
            rw [← hy.out] at e1
            generalize 2 ^ k = x at *
            go_wp2
            go_round
            case rel => exact ⟨k + 1, by omega, by rw [hy.out], by go_num⟩
            case measure => simp [intOf]; omega
          · obtain rfl : k = i := by omega
            generalize 2 ^ k = x at *
            go_wp2
            go_ret
            exact ⟨ret_int (by first | exact ho.out | (rw [← ho.out, IntKind.wrap_u32])), rfl⟩

end Go.Proofs.Ytmlopacekoghkaa.Mem
