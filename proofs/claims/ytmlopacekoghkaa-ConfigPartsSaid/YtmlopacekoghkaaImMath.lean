/-
  What lies where in an area: plain facts. Conditions: as each states.
-/
import Derived.Test.YtmlopacekoghkaaBlMath
namespace Go.Proofs.Ytmlopacekoghkaa.Bl

/-- A spot: whose block, and from which byte on. -/
structure Spt where
  b : Int
  a : Int
def noS : Spt := ⟨0, 0⟩
theorem sget_at {l : List Spt} {k : Nat} {b : Spt} (h : l[k]? = some b) : l.getD k noS = b := by rw [List.getD_eq_getElem?_getD, h]; rfl

/-! ### Which bytes are taken -/
def hitB (U : Nat → Bool) (p z : Nat) : Bool := (List.range z).any fun k => U (p + k)
def setB (U : Nat → Bool) (p z : Nat) : Nat → Bool := fun k => U k || (decide (p ≤ k) && decide (k < p + z))
theorem hit_iff {U : Nat → Bool} {p z : Nat} : hitB U p z = true ↔ ∃ k, p ≤ k ∧ k < p + z ∧ U k = true := by
  unfold hitB
  rw [List.any_eq_true]
  constructor
  · rintro ⟨k, hk, h⟩
    rw [List.mem_range] at hk
    exact ⟨p + k, by omega, by omega, h⟩
  · rintro ⟨k, h1, h2, h⟩
    exact ⟨k - p, List.mem_range.2 (by omega), by rw [show p + (k - p) = k by omega]; exact h⟩
theorem hit_no {U : Nat → Bool} {p z : Nat} (h : hitB U p z = false) {k : Nat} (h1 : p ≤ k) (h2 : k < p + z) : U k = false := by
  cases hu : U k
  · rfl
  · rw [hit_iff.2 ⟨k, h1, h2, hu⟩] at h; cases h
theorem hit_zero (U : Nat → Bool) (p : Nat) : hitB U p 0 = false := rfl
theorem hit_next (U : Nat → Bool) (p z : Nat) : hitB U p (z + 1) = (hitB U p z || U (p + z)) := by
  unfold hitB
  rw [List.range_succ, List.any_append]
  simp
theorem set_zero (U : Nat → Bool) (p : Nat) : setB U p 0 = U := by
  funext k
  unfold setB
  have : (decide (p ≤ k) && decide (k < p + 0)) = false := by simp
  rw [this, Bool.or_false]
theorem set_next (U : Nat → Bool) (p z k : Nat) : setB U p (z + 1) k = if k = p + z then true else setB U p z k := by
  unfold setB
  by_cases h : k = p + z
  · rw [if_pos h, h]
    simp
  · rw [if_neg h]
    congr 2
    rw [decide_eq_decide]
    omega
/-- Numbers whose bits tell which bytes are taken. -/
def TB (t : Nat) (U : Nat → Bool) : Prop := t < 2 ^ 64 ∧ ∀ k, k < 64 → t.testBit k = U k
def spanN (p z : Nat) : Nat := (2 ^ z - 1) * 2 ^ p
theorem span_bit (p z k : Nat) : (spanN p z).testBit k = (decide (p ≤ k) && decide (k < p + z)) := by
  unfold spanN
  rw [← Nat.shiftLeft_eq, Nat.testBit_shiftLeft, Nat.testBit_two_pow_sub_one]
  by_cases h : p ≤ k
  · simp [h]
    omega
  · simp [h]
theorem span_lt {p z : Nat} (h : p + z ≤ 64) : spanN p z < 2 ^ 64 := by
  unfold spanN
  have h1 : 0 < 2 ^ z := Nat.pow_pos (by decide)
  have h2 : 0 < 2 ^ p := Nat.pow_pos (by decide)
  have h3 : (2 ^ z - 1) * 2 ^ p < 2 ^ z * 2 ^ p := Nat.mul_lt_mul_of_pos_right (by omega) h2
  rw [← Nat.pow_add] at h3
  have h4 : 2 ^ (z + p) ≤ 2 ^ 64 := Nat.pow_le_pow_right (by decide) (by omega)
  omega
theorem tb_first (n : Nat) (h : n ≤ 64) : TB (spanN 0 n) (fun k => decide ((k : Int) < (n : Int))) := by
  refine ⟨span_lt (by omega), fun k _ => ?_⟩
  rw [span_bit]
  simp
theorem tb_hit {t : Nat} {U : Nat → Bool} (h : TB t U) {p z : Nat} (hp : p + z ≤ 64) : (spanN p z &&& t = 0) ↔ hitB U p z = false := by
  constructor
  · intro h0
    cases hh : hitB U p z
    · rfl
    · obtain ⟨k, h1, h2, h3⟩ := hit_iff.1 hh
      have : (spanN p z &&& t).testBit k = true := by
        rw [Nat.testBit_and, span_bit, h.2 k (by omega), h3]
        simp [h1, h2]
      rw [h0, Nat.zero_testBit] at this
      cases this
  · intro hh
    apply Nat.eq_of_testBit_eq
    intro k
    rw [Nat.zero_testBit, Nat.testBit_and, span_bit]
    by_cases hk : p ≤ k ∧ k < p + z
    · rw [h.2 k (by omega), hit_no hh hk.1 hk.2, Bool.and_false]
    · have : (decide (p ≤ k) && decide (k < p + z)) = false := by simp; omega
      rw [this, Bool.false_and]
theorem tb_or {t : Nat} {U : Nat → Bool} (h : TB t U) {p z : Nat} (hp : p + z ≤ 64) : TB (t ||| spanN p z) (setB U p z) := by
  refine ⟨Nat.or_lt_two_pow h.1 (span_lt hp), fun k hk => ?_⟩
  rw [Nat.testBit_or, h.2 k hk, span_bit]
  rfl

/-! ### A spot's error, and the first one's of all -/
def twB (l : List Spt) (i q : Nat) (b : Int) : Bool := ((l.take i).drop q).any fun s => decide (s.b = b)
theorem tw_end (l : List Spt) (i : Nat) (b : Int) : twB l i i b = false := by
  unfold twB
  rw [List.drop_eq_nil_of_le (by simp; omega)]
  rfl
theorem tw_at {l : List Spt} {i k : Nat} {x : Spt} (h : l[k]? = some x) (hk : k < i) (b : Int) : twB l i k b = (decide (x.b = b) || twB l i (k + 1) b) := by
  unfold twB
  obtain ⟨hl, rfl⟩ := List.getElem?_eq_some_iff.1 h
  have hk2 : k < (l.take i).length := by rw [List.length_take]; omega
  rw [List.drop_eq_getElem_cons hk2, List.any_cons]
  simp
def longB (a z : Int) : Bool := decide (a < 0) || decide (64 < a) || decide (z < 0) || decide (64 - a < z)
def spE (l : List Spt) (D : List Blk) (i : Nat) : Int :=
  if (findB D (l.getD i noS).b).2 = true then (if twB l i 0 (l.getD i noS).b = true then 14 else if longB (l.getD i noS).a (findB D (l.getD i noS).b).1.sz = true then 2 else 0) else 5
def spP (l : List Spt) (i : Nat) : Nat := (l.getD i noS).a.toNat
def spZ (l : List Spt) (D : List Blk) (i : Nat) : Nat := (findB D (l.getD i noS).b).1.sz.toNat
def spN (l : List Spt) (D : List Blk) (i : Nat) : Nat := if spE l D i = 0 then spanN (spP l i) (spZ l D i) else 0
theorem spE_bd (l : List Spt) (D : List Blk) (i : Nat) : spE l D i = 0 ∨ spE l D i = 2 ∨ spE l D i = 5 ∨ spE l D i = 14 := by
  unfold spE
  split
  · split
    · exact .inr (.inr (.inr rfl))
    · split
      · exact .inr (.inl rfl)
      · exact .inl rfl
  · exact .inr (.inr (.inl rfl))
theorem long_no {a z : Int} (h : ¬ longB a z = true) : 0 ≤ a ∧ a ≤ 64 ∧ 0 ≤ z ∧ z ≤ 64 - a := by
  unfold longB at h
  simp at h
  omega
theorem long_yes {a z : Int} (h : longB a z = true) : a < 0 ∨ 64 < a ∨ z < 0 ∨ 64 - a < z := by
  unfold longB at h
  simp at h
  omega
theorem sp_zero {l : List Spt} {D : List Blk} {i : Nat} (h : spE l D i = 0) :
    (findB D (l.getD i noS).b).2 = true ∧ 0 ≤ (l.getD i noS).a ∧ 0 ≤ (findB D (l.getD i noS).b).1.sz ∧ (spP l i : Int) = (l.getD i noS).a ∧ (spZ l D i : Int) = (findB D (l.getD i noS).b).1.sz ∧ spP l i + spZ l D i ≤ 64 ∧ spN l D i = spanN (spP l i) (spZ l D i) := by
  have hN : spN l D i = spanN (spP l i) (spZ l D i) := by unfold spN; rw [if_pos h]
  unfold spE at h
  split at h
  · rename_i h1
    split at h
    · cases h
    · split at h
      · cases h
      · rename_i h3
        have := long_no h3
        refine ⟨h1, this.1, this.2.2.1, ?_, ?_, ?_, hN⟩
        · unfold spP; omega
        · unfold spZ; omega
        · unfold spP spZ; omega
  · cases h
/-- The first error from the spot i on, of n spots, and whose. -/
def layF (ov : Bool) (l : List Spt) (D : List Blk) : Nat → Nat → (Nat → Bool) → Int × Int
  | 0, _, _ => (0, 0)
  | n + 1, i, U => if spE l D i = 0 then (if (ov && hitB U (spP l i) (spZ l D i)) = true then (15, (i : Int)) else layF ov l D n (i + 1) (setB U (spP l i) (spZ l D i))) else (spE l D i, (i : Int))
theorem layF_at (ov : Bool) (l : List Spt) (D : List Blk) (n i : Nat) (U : Nat → Bool) : layF ov l D (n + 1) i U = if spE l D i = 0 then (if (ov && hitB U (spP l i) (spZ l D i)) = true then (15, (i : Int)) else layF ov l D n (i + 1) (setB U (spP l i) (spZ l D i))) else (spE l D i, (i : Int)) := rfl
def beyB (n : Int) : Bool := decide (n < 0) || decide (64 < n)
def layO (ov : Bool) (n : Int) (l : List Spt) (D : List Blk) : Int × Int :=
  if (ov && beyB n) = true then (2, -1) else layF ov l D l.length 0 fun k => ov && decide ((k : Int) < n)

/-! ### Areas -/
def bringN (n : Int) : Nat := (min (max n 0) 64).toNat
def putB (A : Bs) (p : Int) (v : Bs) : Bs := (List.range A.length).map fun (i : Nat) => if p ≤ (i : Int) ∧ (i : Int) - p < v.length then v.getD ((i : Int) - p).toNat 0 else A.getD i 0
theorem put_len (A : Bs) (p : Int) (v : Bs) : (putB A p v).length = A.length := by unfold putB; simp
theorem put_get (A : Bs) (p : Int) (v : Bs) (i : Nat) (h : i < A.length) : (putB A p v).getD i 0 = if p ≤ (i : Int) ∧ (i : Int) - p < v.length then v.getD ((i : Int) - p).toNat 0 else A.getD i 0 := by
  unfold putB
  rw [List.getD_eq_getElem?_getD, List.getElem?_map, List.getElem?_range h]
  rfl
theorem bs_ext {A B : Bs} (hl : A.length = B.length) (h : ∀ i, i < A.length → A.getD i 0 = B.getD i 0) : A = B := by
  apply List.ext_getElem hl
  intro i h1 h2
  have := h i h1
  rwa [List.getD_eq_getElem?_getD, List.getD_eq_getElem?_getD, List.getElem?_eq_getElem h1, List.getElem?_eq_getElem h2] at this
theorem getD_ge {A : Bs} {i : Nat} (h : A.length ≤ i) : A.getD i 0 = 0 := by rw [List.getD_eq_getElem?_getD, List.getElem?_eq_none h]; rfl
theorem put_none {A : Bs} {p : Int} {v : Bs} (h : (A.length : Int) ≤ p ∨ p ≤ -(v.length : Int)) : putB A p v = A :=
  bs_ext (put_len _ _ _) fun i hi => by
    rw [put_len] at hi
    rw [put_get _ _ _ _ hi, if_neg (by omega)]
/-- As the program lays it: from o on, m bytes of the value's from q on. -/
theorem put_some {A : Bs} {p : Int} {v : Bs} {o q m : Nat} (ho : (o : Int) = max p 0) (hq : (q : Int) = max (-p) 0) (hm : m = min (A.length - o) (v.length - q)) (h1 : o ≤ A.length) (h2 : q ≤ v.length) :
    putB A p v = A.take o ++ (v.drop q).take m ++ A.drop (o + m) := by
  have hml : ((v.drop q).take m).length = m := by rw [List.length_take, List.length_drop]; omega
  have hol : (A.take o).length = o := by rw [List.length_take]; omega
  refine bs_ext ?_ fun i hi => ?_
  · rw [put_len, List.length_append, List.length_append, hol, hml, List.length_drop]; omega
  · rw [put_len] at hi
    rw [put_get _ _ _ _ hi]
    simp only [List.getD_eq_getElem?_getD]
    rw [List.append_assoc, List.getElem?_append, hol]
    by_cases c1 : i < o
    · rw [if_pos c1, if_neg (by omega), List.getElem?_take, if_pos c1]
    · rw [if_neg c1, List.getElem?_append, hml]
      by_cases c2 : i - o < m
      · rw [if_pos c2, if_pos (by omega), List.getElem?_take, if_pos c2, List.getElem?_drop]
        congr 2
        omega
      · rw [if_neg c2, if_neg (by omega), List.getElem?_drop]
        congr 2
        omega
def zeroA (n : Nat) : Bs := List.replicate n 0
theorem zero_len (n : Nat) : (zeroA n).length = n := List.length_replicate
theorem zero_get (n i : Nat) : (zeroA n).getD i 0 = 0 := by
  unfold zeroA
  rw [List.getD_eq_getElem?_getD, List.getElem?_replicate]
  split <;> rfl
/-- An area with its own first bytes. -/
def ownA (n : Int) (own : Bs) : Bs := own.take (bringN n) ++ List.replicate (64 - min (bringN n) own.length) 0
theorem bring_le (n : Int) : bringN n ≤ 64 := by unfold bringN; omega
theorem own_len (n : Int) (own : Bs) : (ownA n own).length = 64 := by
  unfold ownA
  have := bring_le n
  rw [List.length_append, List.length_take, List.length_replicate]
  omega
theorem own_get (n : Int) (own : Bs) (i : Nat) (h : i < 64) : (ownA n own).getD i 0 = if (i : Int) < n then own.getD i 0 else 0 := by
  unfold ownA
  have hb : i < bringN n ↔ (i : Int) < n := by unfold bringN; omega
  simp only [List.getD_eq_getElem?_getD]
  rw [List.getElem?_append, List.length_take]
  by_cases c : i < min (bringN n) own.length
  · rw [if_pos c, if_pos (by omega), List.getElem?_take, if_pos (by omega)]
  · rw [if_neg c, List.getElem?_replicate]
    by_cases c2 : (i : Int) < n
    · rw [if_pos c2, List.getElem?_eq_none (l := own) (by omega)]
      split <;> rfl
    · rw [if_neg c2]
      split <;> rfl
/-- An area into which the first k values were laid. -/
def arN (A : Bs) (l : List Spt) (vs : List Bs) : Nat → Bs
  | 0 => A
  | k + 1 => putB (arN A l vs k) (l.getD k noS).a (vs.getD k [])
theorem ar_len (A : Bs) (l : List Spt) (vs : List Bs) : ∀ k, (arN A l vs k).length = A.length
  | 0 => rfl
  | k + 1 => by rw [arN, put_len, ar_len A l vs k]
def inpB (n : Int) (own : Bs) (l : List Spt) (vs : List Bs) : Bs := arN (ownA n own) l vs (min l.length vs.length)
theorem inp_len (n : Int) (own : Bs) (l : List Spt) (vs : List Bs) : (inpB n own l vs).length = 64 := by unfold inpB; rw [ar_len, own_len]
def valB (A : Bs) (p z : Int) : Bs := putB (zeroA (bringN z)) (-p) A
/-- The byte i, as it is asked for: who wrote it last of the first k values. -/
def byK (n : Int) (own : Bs) (l : List Spt) (vs : List Bs) (i : Nat) : Nat → UInt8
  | 0 => if (i : Int) < n then own.getD i 0 else 0
  | k + 1 => if (l.getD k noS).a ≤ (i : Int) ∧ (i : Int) - (l.getD k noS).a < (vs.getD k []).length then (vs.getD k []).getD ((i : Int) - (l.getD k noS).a).toNat 0 else byK n own l vs i k
theorem by_ar (n : Int) (own : Bs) (l : List Spt) (vs : List Bs) (i : Nat) (hi : i < 64) : ∀ k, byK n own l vs i k = (arN (ownA n own) l vs k).getD i 0
  | 0 => (own_get n own i hi).symm
  | k + 1 => by
    rw [byK, arN, put_get _ _ _ _ (by rw [ar_len, own_len]; exact hi), by_ar n own l vs i hi k]
def bytsB (n : Int) (own : Bs) (l : List Spt) (vs : List Bs) (m : Nat) : Bs := (List.range m).map fun i => byK n own l vs i (min l.length vs.length)
theorem byts_all (n : Int) (own : Bs) (l : List Spt) (vs : List Bs) : bytsB n own l vs 64 = inpB n own l vs :=
  bs_ext (by unfold bytsB; rw [inp_len]; simp) fun i hi => by
    have hi : i < 64 := by unfold bytsB at hi; simpa using hi
    unfold bytsB inpB
    rw [← by_ar n own l vs i hi, List.getD_eq_getElem?_getD, List.getElem?_map, List.getElem?_range hi]
    rfl
end Go.Proofs.Ytmlopacekoghkaa.Bl
