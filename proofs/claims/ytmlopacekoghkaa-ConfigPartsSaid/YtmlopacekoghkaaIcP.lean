/-
  Plain facts on kinds of values, operations, and bytes. No program is named here. Conditions: none.
-/
namespace Go.Proofs.Ytmlopacekoghkaa.Ic

/-- How many bytes a kind has; 0: no kind. -/
def szI (k : Int) : Nat := if k = 1 ∨ k = 2 then 1 else if k = 3 ∨ k = 5 ∨ k = 6 then 2 else if k = 4 ∨ k = 7 then 4 else 0
/-- How many values. -/
def manyI (k : Int) : Int := if k = 1 then 2 else if k = 2 then 256 else if k = 3 ∨ k = 5 ∨ k = 6 then 65536 else if k = 4 ∨ k = 7 then 4294967296 else 1
def leastI (k : Int) : Int := if k = 2 then -128 else if k = 3 then -32768 else if k = 4 then -2147483648 else 0
def isI (k v : Int) : Bool := decide (szI k ≠ 0 ∧ leastI k ≤ v ∧ v < leastI k + manyI k)
def wrapI (k v : Int) : Int := if szI k = 0 then 0 else if k = 1 then (if v = 0 then 0 else 1) else leastI k + (v - leastI k) % manyI k
def mayI (op k : Int) : Bool := decide (szI k ≠ 0 ∧ ((14 ≤ op ∧ op ≤ 18 ∧ 2 ≤ k ∧ k ≤ 5) ∨ (7 ≤ op ∧ op ≤ 13 ∧ (k = 1 ∨ 6 ≤ k)) ∨ (19 ≤ op ∧ op ≤ 24)))
def notI (k v : Int) : Int := if (k = 1 ∨ k = 6 ∨ k = 7) ∧ isI k v = true then manyI k - 1 - v else 0
def nameI (k : Int) : ByteArray :=
  if k = 1 then ⟨#[66, 79, 79, 76]⟩ else if k = 2 then ⟨#[83, 73, 78, 84]⟩ else if k = 3 then ⟨#[73, 78, 84]⟩ else if k = 4 then ⟨#[68, 73, 78, 84]⟩ else if k = 5 then ⟨#[85, 73, 78, 84]⟩ else if k = 6 then ⟨#[87, 79, 82, 68]⟩ else if k = 7 then ⟨#[68, 87, 79, 82, 68]⟩ else ⟨#[]⟩
/-- The kind of a name; 0: none. -/
def namedI (s : ByteArray) : Int :=
  if s = nameI 1 then 1 else if s = nameI 2 then 2 else if s = nameI 3 then 3 else if s = nameI 4 then 4 else if s = nameI 5 then 5 else if s = nameI 6 then 6 else if s = nameI 7 then 7 else 0

theorem kinds (k : Int) : (k < 1 ∨ 7 < k) ∨ k = 1 ∨ k = 2 ∨ k = 3 ∨ k = 4 ∨ k = 5 ∨ k = 6 ∨ k = 7 := by omega
theorem sz_none (k : Int) (h : k < 1 ∨ 7 < k) : szI k = 0 := by unfold szI; split <;> (try split) <;> (try split) <;> omega
theorem sz_some (k : Int) (h1 : 1 ≤ k) (h2 : k ≤ 7) : szI k ≠ 0 := by
  rcases kinds k with h | rfl | rfl | rfl | rfl | rfl | rfl | rfl
  · omega
  all_goals decide
theorem sz_iff (k : Int) : szI k ≠ 0 ↔ 1 ≤ k ∧ k ≤ 7 := by
  constructor
  · intro h
    rcases kinds k with h' | h'
    · exact absurd (sz_none k h') h
    · omega
  · exact fun h => sz_some k h.1 h.2
theorem sz_le (k : Int) : szI k ≤ 4 := by unfold szI; split <;> (try split) <;> (try split) <;> omega
theorem many_none (k : Int) (h : k < 1 ∨ 7 < k) : manyI k = 1 := by unfold manyI; split <;> (try split) <;> (try split) <;> (try split) <;> omega
theorem many_ge (k : Int) (h : szI k ≠ 0) : 2 ≤ manyI k := by unfold manyI; unfold szI at h; (repeat' split at h) <;> (repeat' split) <;> omega
theorem many_le (k : Int) : 1 ≤ manyI k ∧ manyI k ≤ 4294967296 := by unfold manyI; (repeat' split) <;> omega
theorem least_le (k : Int) : -2147483648 ≤ leastI k ∧ leastI k ≤ 0 := by unfold leastI; (repeat' split) <;> omega
theorem least_many (k : Int) : leastI k = 0 ∨ 2 * leastI k = - manyI k := by unfold leastI manyI; (repeat' split) <;> omega

/-- The powers of 256 that are met. -/
def pwI (j : Nat) : Int := if j = 0 then 1 else if j = 1 then 256 else if j = 2 then 65536 else if j = 3 then 16777216 else 4294967296
theorem pw_zero : pwI 0 = 1 := rfl
theorem pw_step (j : Nat) (h : j < 4) : pwI j * 256 = pwI (j + 1) := by
  match j, h with
  | 0, _ => decide
  | 1, _ => decide
  | 2, _ => decide
  | 3, _ => decide
theorem pw_pos (j : Nat) : 1 ≤ pwI j ∧ pwI j ≤ 4294967296 := by unfold pwI; (repeat' split) <;> omega
theorem pw_many (k : Int) (h : k ≠ 1) : pwI (szI k) = manyI k := by
  rcases kinds k with h' | rfl | rfl | rfl | rfl | rfl | rfl | rfl
  · rw [sz_none k h', many_none k h']; rfl
  · exact absurd rfl h
  all_goals decide

/-- What a number is brought into is a value of the kind. -/
theorem wrap_is (k v : Int) (h : szI k ≠ 0) : isI k (wrapI k v) = true := by
  unfold isI wrapI
  rw [decide_eq_true_iff, if_neg h]
  refine ⟨h, ?_⟩
  by_cases h1 : k = 1
  · rw [if_pos h1]; subst h1
    have e1 : leastI 1 = 0 := rfl
    have e2 : manyI 1 = 2 := rfl
    rw [e1, e2]
    split <;> omega
  · rw [if_neg h1]
    have := many_ge k h
    have e1 := Int.emod_nonneg (v - leastI k) (show manyI k ≠ 0 by omega)
    have e2 := Int.emod_lt_of_pos (v - leastI k) (show 0 < manyI k by omega)
    omega
theorem wrap_bd (k v : Int) : -2147483648 ≤ wrapI k v ∧ wrapI k v ≤ 4294967296 := by
  by_cases h : szI k = 0
  · unfold wrapI; rw [if_pos h]; omega
  · have := wrap_is k v h
    unfold isI at this
    rw [decide_eq_true_iff] at this
    have h1 := many_le k
    have h2 := least_le k
    omega
theorem is_bd {k v : Int} (h : isI k v = true) : -2147483648 ≤ v ∧ v ≤ 4294967295 := by
  unfold isI at h
  rw [decide_eq_true_iff] at h
  have h1 := many_le k
  have h2 := least_le k
  have h3 := least_many k
  omega
theorem is_sz {k v : Int} (h : isI k v = true) : szI k ≠ 0 := by
  unfold isI at h
  rw [decide_eq_true_iff] at h
  exact h.1
/-- A value stays. -/
theorem wrap_same (k v : Int) (h : isI k v = true) : wrapI k v = v := by
  have hs := is_sz h
  unfold isI at h
  rw [decide_eq_true_iff] at h
  unfold wrapI
  rw [if_neg hs]
  by_cases h1 : k = 1
  · subst h1
    have e1 : leastI 1 = 0 := rfl
    have e2 : manyI 1 = 2 := rfl
    rw [e1, e2] at h
    rw [if_pos rfl]
    split <;> omega
  · rw [if_neg h1, Int.emod_eq_of_lt (by omega) (by omega)]
    omega
/-- As the document's own answer reckons it. -/
theorem wrap_ref (k v : Int) (h : szI k ≠ 0) (h1 : k ≠ 1) : wrapI k v = if v % manyI k > leastI k + manyI k - 1 then v % manyI k - manyI k else v % manyI k := by
  have hm := many_ge k h
  have e1 := Int.emod_nonneg v (show manyI k ≠ 0 by omega)
  have e2 := Int.emod_lt_of_pos v (show 0 < manyI k by omega)
  have hl := least_many k
  have hl2 := least_le k
  unfold wrapI
  rw [if_neg h, if_neg h1]
  have e3 : (v - leastI k) % manyI k = (v % manyI k - leastI k) % manyI k := by
    have := Int.emod_add_mul_ediv v (manyI k)
    rw [show v - leastI k = (v % manyI k - leastI k) + manyI k * (v / manyI k) by omega, Int.add_mul_emod_self_left]
  rw [e3]
  split
  · next hg =>
    have e4 : (v % manyI k - leastI k) % manyI k = (v % manyI k - leastI k - manyI k) % manyI k := by rw [Int.sub_emod_right]
    rw [e4, Int.emod_eq_of_lt (by omega) (by omega)]
    omega
  · rw [Int.emod_eq_of_lt (by omega) (by omega)]
    omega
theorem tmod_twice (v n : Int) (hn : 0 < n) : (v.tmod n + n).tmod n = v % n := by
  have h1 : -n < v.tmod n := by
    have := Int.lt_tmod_of_pos v hn
    omega
  rw [Int.tmod_eq_emod_of_nonneg (by omega), Int.add_emod_right]
  rcases Int.le_total 0 v with h | h
  · rw [Int.tmod_eq_emod_of_nonneg h, Int.emod_emod]
  · have e := Int.tmod_add_mul_tdiv v n
    rw [show v.tmod n = v + n * (- v.tdiv n) by rw [Int.mul_neg]; omega, Int.add_mul_emod_self_left]

end Go.Proofs.Ytmlopacekoghkaa.Ic

namespace Go.Proofs.Ytmlopacekoghkaa.Ic

def logN (op : Int) (a b : Nat) : Nat := if op = 7 then a &&& b else if op = 8 then a ||| b else a ^^^ b
def logI (op a b : Int) : Int := (logN op a.toNat b.toNat : Nat)
def yesI (b : Bool) : Int := if b then 1 else 0
def doV (op k a b : Int) : Int :=
  if op = 14 then wrapI k (a + b) else if op = 15 then wrapI k (a - b) else if op = 16 then wrapI k (a * b)
  else if op = 17 then (if b = 0 then 0 else wrapI k (a.tdiv b)) else if op = 18 then (if b = 0 then 0 else wrapI k (a.tmod b))
  else if op = 19 then yesI (decide (b < a)) else if op = 20 then yesI (decide (b ≤ a)) else if op = 21 then yesI (decide (a = b))
  else if op = 22 then yesI (decide (a ≠ b)) else if op = 23 then yesI (decide (a ≤ b)) else if op = 24 then yesI (decide (a < b))
  else if 10 ≤ op then logI (op - 3) a (notI k b) else logI op a b
def doE (op k a b : Int) : Int := if mayI op k = false ∨ op = 13 then 6 else if isI k a = false ∨ isI k b = false then 1 else 0
def doR (op k a b : Int) : Int := if doE op k a b = 0 then doV op k a b else 0

/-- A kind's bytes are there. -/
def thereI (size : Nat) (at_ k : Int) : Bool := decide (szI k ≠ 0 ∧ 0 ≤ at_ ∧ at_ ≤ size ∧ (szI k : Int) ≤ size - at_)

theorem may_kind {op k : Int} (h : mayI op k = true) : szI k ≠ 0 := by
  unfold mayI at h
  rw [decide_eq_true_iff] at h
  exact h.1
theorem may_ops {op k : Int} (h : mayI op k = true) (h13 : op ≠ 13) : (14 ≤ op ∧ op ≤ 18 ∧ 2 ≤ k ∧ k ≤ 5) ∨ (7 ≤ op ∧ op ≤ 12 ∧ (k = 1 ∨ k = 6 ∨ k = 7)) ∨ (19 ≤ op ∧ op ≤ 24) := by
  have hs := (sz_iff k).1 (may_kind h)
  unfold mayI at h
  rw [decide_eq_true_iff] at h
  omega
/-- Values of a kind of arithmetic. -/
theorem arith_bd {k v : Int} (h1 : 2 ≤ k) (h2 : k ≤ 5) (h : isI k v = true) : -2147483648 ≤ v ∧ v ≤ 2147483647 := by
  unfold isI at h
  rw [decide_eq_true_iff] at h
  obtain rfl | rfl | rfl | rfl : k = 2 ∨ k = 3 ∨ k = 4 ∨ k = 5 := by omega
  · rw [show leastI 2 = -128 from rfl, show manyI 2 = 256 from rfl] at h; omega
  · rw [show leastI 3 = -32768 from rfl, show manyI 3 = 65536 from rfl] at h; omega
  · rw [show leastI 4 = -2147483648 from rfl, show manyI 4 = 4294967296 from rfl] at h; omega
  · rw [show leastI 5 = 0 from rfl, show manyI 5 = 65536 from rfl] at h; omega
/-- Values of a kind of logic. -/
theorem logic_bd {k v : Int} (hk : k = 1 ∨ k = 6 ∨ k = 7) (h : isI k v = true) : 0 ≤ v ∧ v ≤ 4294967295 := by
  have := is_bd h
  unfold isI at h
  rw [decide_eq_true_iff] at h
  rcases hk with rfl | rfl | rfl
  · rw [show leastI 1 = 0 from rfl] at h; omega
  · rw [show leastI 6 = 0 from rfl] at h; omega
  · rw [show leastI 7 = 0 from rfl] at h; omega
theorem mul_bd {a b : Int} (a1 : -2147483648 ≤ a) (a2 : a ≤ 2147483647) (b1 : -2147483648 ≤ b) (b2 : b ≤ 2147483647) : -4611686018427387904 ≤ a * b ∧ a * b ≤ 4611686018427387904 := by
  have h1 : a.natAbs ≤ 2147483648 := by omega
  have h2 : b.natAbs ≤ 2147483648 := by omega
  have h3 : (a * b).natAbs ≤ 2147483648 * 2147483648 := by rw [Int.natAbs_mul]; exact Nat.mul_le_mul h1 h2
  omega
theorem tdiv_bd (a b : Int) (a1 : -2147483648 ≤ a) (a2 : a ≤ 2147483647) : -2147483648 ≤ a.tdiv b ∧ a.tdiv b ≤ 2147483648 := by
  have h := Int.natAbs_tdiv_le_natAbs a b
  omega
theorem tmod_bd (a b : Int) (a1 : -2147483648 ≤ a) (a2 : a ≤ 2147483647) : -2147483648 ≤ a.tmod b ∧ a.tmod b ≤ 2147483648 := by
  have h : (a.tmod b).natAbs ≤ a.natAbs := by
    rw [Int.natAbs_tmod]
    exact Nat.mod_le _ _
  omega
theorem not_bd {k v : Int} (hk : k = 1 ∨ k = 6 ∨ k = 7) (h : isI k v = true) : 0 ≤ notI k v ∧ notI k v ≤ 4294967295 := by
  have := logic_bd hk h
  unfold notI
  rw [if_pos ⟨hk, h⟩]
  unfold isI at h
  rw [decide_eq_true_iff] at h
  have := many_le k
  rcases hk with rfl | rfl | rfl
  · rw [show leastI 1 = 0 from rfl] at h; omega
  · rw [show leastI 6 = 0 from rfl] at h; omega
  · rw [show leastI 7 = 0 from rfl] at h; omega

/-- The bits of two numbers, one behind the other. -/
theorem log_step (op : Int) (a b j : Nat) : logN op a b % 2 ^ (j + 1) = logN op a b % 2 ^ j + 2 ^ j * logN op (a / 2 ^ j % 2) (b / 2 ^ j % 2) := by
  rw [Nat.mod_pow_succ]
  congr 2
  have h : ∀ n : Nat, n / 2 ^ j % 2 = (n.testBit j).toNat := fun n => by rw [Nat.testBit_eq_decide_div_mod_eq]; have := Nat.mod_two_eq_zero_or_one (n / 2 ^ j); rcases this with h | h <;> simp [h]
  rw [h, h, h]
  unfold logN
  by_cases h7 : op = 7
  · rw [if_pos h7, if_pos h7, Nat.testBit_and]; cases a.testBit j <;> cases b.testBit j <;> rfl
  · rw [if_neg h7, if_neg h7]
    by_cases h8 : op = 8
    · rw [if_pos h8, if_pos h8, Nat.testBit_or]; cases a.testBit j <;> cases b.testBit j <;> rfl
    · rw [if_neg h8, if_neg h8, Nat.testBit_xor]; cases a.testBit j <;> cases b.testBit j <;> rfl
theorem log_small (op : Int) (a b : Nat) (ha : a < 2 ^ 32) (hb : b < 2 ^ 32) : logN op a b % 2 ^ 32 = logN op a b := by
  apply Nat.mod_eq_of_lt
  unfold logN
  split
  · exact Nat.and_lt_two_pow _ hb
  · split
    · exact Nat.or_lt_two_pow ha hb
    · exact Nat.xor_lt_two_pow ha hb

end Go.Proofs.Ytmlopacekoghkaa.Ic

namespace Go.Proofs.Ytmlopacekoghkaa
namespace Oct

/-- The lowest k bytes of n, the highest first. -/
def be (n : Nat) : Nat → List UInt8
  | 0 => []
  | k + 1 => UInt8.ofNat (n / 256 ^ k) :: be n k

theorem be_length (n k : Nat) : (be n k).length = k := by
  induction k with
  | zero => rfl
  | succ k ih => show (be n k).length + 1 = _; rw [ih]

/-- The number that bytes make behind a number. -/
def numOf (m : Nat) (l : List UInt8) : Nat := l.foldl (fun n c => n * 256 + c.toNat) m
def num (l : List UInt8) : Nat := numOf 0 l

theorem num_snoc (l : List UInt8) (c : UInt8) : num (l ++ [c]) = num l * 256 + c.toNat := by
  unfold num numOf; rw [List.foldl_append]; rfl

theorem num_nil : num [] = 0 := rfl

theorem numOf_lt (l : List UInt8) (m : Nat) : numOf m l < (m + 1) * 256 ^ l.length := by
  induction l generalizing m with
  | nil => simp [numOf]
  | cons c l ih =>
    have h := ih (m * 256 + c.toNat)
    have hc := c.toNat_lt
    show numOf (m * 256 + c.toNat) l < _
    have e : (m + 1) * 256 ^ (l.length + 1) = (m * 256 + 256) * 256 ^ l.length := by
      rw [Nat.pow_succ, Nat.mul_comm (256 ^ l.length) 256, ← Nat.mul_assoc, Nat.add_mul, Nat.one_mul]
    rw [List.length_cons, e]
    exact Nat.lt_of_lt_of_le h (Nat.mul_le_mul_right _ (by omega))

theorem num_lt (l : List UInt8) : num l < 256 ^ l.length := by
  have := numOf_lt l 0
  simpa [num] using this

theorem numOf_be (n k m : Nat) : numOf m (be n k) = m * 256 ^ k + n % 256 ^ k := by
  induction k generalizing m with
  | zero => simp [be, numOf, Nat.mod_one]
  | succ k ih =>
    show numOf (m * 256 + (UInt8.ofNat (n / 256 ^ k)).toNat) (be n k) = _
    rw [ih, UInt8.toNat_ofNat']
    have e8 : n / 256 ^ k % 2 ^ 8 = n / 256 ^ k % 256 := rfl
    have hm := Nat.mod_mul (a := 256 ^ k) (b := 256) (x := n)
    rw [e8, Nat.pow_succ, hm, Nat.add_mul, Nat.mul_assoc m, Nat.mul_comm 256 (256 ^ k), Nat.mul_comm (256 ^ k) (n / 256 ^ k % 256)]
    omega

theorem num_be (n k : Nat) : num (be n k) = n % 256 ^ k := by
  unfold num; rw [numOf_be]; simp

/-- A text of bytes. -/
def S (l : List UInt8) : ByteArray := ⟨l.toArray⟩

theorem S_size (l : List UInt8) : (S l).size = l.length := by simp [S, ByteArray.size]
theorem S_list (l : List UInt8) : (S l).data.toList = l := rfl
theorem S_of (s : ByteArray) : S s.data.toList = s := rfl
theorem S_app (a b : List UInt8) : S a ++ S b = S (a ++ b) := by
  apply ByteArray.ext
  simp [S, ByteArray.data_append]
theorem S_inj {a b : List UInt8} (h : S a = S b) : a = b := by
  have := congrArg (fun x : ByteArray => x.data.toList) h
  exact this

/-- A thing that is written, or read. -/
structure It where
  a : Nat
  n : Nat
  s : ByteArray

def enc (x : It) : List UInt8 :=
  if x.a % 5 = 0 then be x.n 1 else if x.a % 5 = 1 then be x.n 2 else if x.a % 5 = 2 then be x.n 4 else if x.a % 5 = 3 then x.s.data.toList
  else if x.s.size ≤ 255 then be x.s.size 1 ++ x.s.data.toList else []

def encAll (l : List It) : List UInt8 := l.flatMap enc

theorem encAll_snoc (l : List It) (x : It) : encAll (l ++ [x]) = encAll l ++ enc x := by simp [encAll]
theorem encAll_cons (l : List It) (x : It) : encAll (x :: l) = enc x ++ encAll l := by simp [encAll]

theorem enc_le (x : It) (h : x.s.size ≤ 300) : (enc x).length ≤ 300 := by
  have hl : x.s.data.toList.length = x.s.size := Array.length_toList
  unfold enc
  repeat' split
  all_goals first | (rw [be_length]; omega) | (rw [List.length_append, be_length]; omega) | (rw [hl]; exact h) | simp

theorem encAll_le (l : List It) (h : ∀ x ∈ l, x.s.size ≤ 300) : (encAll l).length ≤ 300 * l.length := by
  induction l with
  | nil => simp [encAll]
  | cons x l ih =>
    rw [encAll_cons, List.length_append, List.length_cons]
    have h1 := enc_le x (h x (by simp))
    have h2 := ih (fun y hy => h y (by simp [hy]))
    omega

end Oct
end Go.Proofs.Ytmlopacekoghkaa

namespace Go.Proofs.Ytmlopacekoghkaa.Ic
open Oct

def cutL (l : List UInt8) (at_ n : Nat) : List UInt8 := (l.drop at_).take n
def getI (s : ByteArray) (at_ : Nat) (k : Int) : Int := wrapI k (num (cutL s.data.toList at_ (szI k)) : Nat)
/-- What stands in bytes of a number. -/
def nvI (k v : Int) : Nat := (if wrapI k v < 0 then wrapI k v + manyI k else wrapI k v).toNat
def putL (l : List UInt8) (at_ : Nat) (k v : Int) : List UInt8 := l.take at_ ++ be (nvI k v) (szI k) ++ l.drop (at_ + szI k)

theorem cut_zero (l : List UInt8) (at_ : Nat) : cutL l at_ 0 = [] := by simp [cutL]
theorem cut_more (l : List UInt8) (at_ n : Nat) (h : at_ + n < l.length) : cutL l at_ (n + 1) = cutL l at_ n ++ [l[at_ + n]] := by
  unfold cutL
  rw [List.take_succ_eq_append_getElem (by simp; omega)]
  simp
theorem cut_length (l : List UInt8) (at_ n : Nat) (h : at_ + n ≤ l.length) : (cutL l at_ n).length = n := by simp [cutL]; omega
theorem cut_num (l : List UInt8) (at_ n : Nat) (h : at_ + n ≤ l.length) (hn : n ≤ 4) : num (cutL l at_ n) ≤ 4294967295 := by
  have h1 := num_lt (cutL l at_ n)
  rw [cut_length l at_ n h] at h1
  have h2 : 256 ^ n ≤ 256 ^ 4 := Nat.pow_le_pow_right (by decide) hn
  omega
theorem there_pos {size : Nat} {at_ k : Int} (h : thereI size at_ k = true) : ∃ a : Nat, at_ = a ∧ a + szI k ≤ size ∧ szI k ≠ 0 := by
  unfold thereI at h
  rw [decide_eq_true_iff] at h
  exact ⟨at_.toNat, by omega, by omega, h.1⟩
theorem put_length (l : List UInt8) (at_ : Nat) (k v : Int) (h : at_ + szI k ≤ l.length) : (putL l at_ k v).length = l.length := by
  unfold putL
  simp [be_length]
  omega
/-- A number of bytes is the same as what it stands for, as far as its kind looks. -/
theorem nv_bd (k v : Int) (h : szI k ≠ 0) : nvI k v < 256 ^ szI k := by
  have hi := wrap_is k v h
  unfold isI at hi
  rw [decide_eq_true_iff] at hi
  obtain ⟨-, h1, h2⟩ := hi
  have hk := (sz_iff k).1 h
  unfold nvI
  obtain rfl | rfl | rfl | rfl | rfl | rfl | rfl : k = 1 ∨ k = 2 ∨ k = 3 ∨ k = 4 ∨ k = 5 ∨ k = 6 ∨ k = 7 := by omega
  · rw [show leastI 1 = 0 from rfl, show manyI 1 = 2 from rfl] at *; rw [show szI 1 = 1 from rfl]; split <;> omega
  · rw [show leastI 2 = -128 from rfl, show manyI 2 = 256 from rfl] at *; rw [show szI 2 = 1 from rfl]; split <;> omega
  · rw [show leastI 3 = -32768 from rfl, show manyI 3 = 65536 from rfl] at *; rw [show szI 3 = 2 from rfl]; split <;> omega
  · rw [show leastI 4 = -2147483648 from rfl, show manyI 4 = 4294967296 from rfl] at *; rw [show szI 4 = 4 from rfl]; split <;> omega
  · rw [show leastI 5 = 0 from rfl, show manyI 5 = 65536 from rfl] at *; rw [show szI 5 = 2 from rfl]; split <;> omega
  · rw [show leastI 6 = 0 from rfl, show manyI 6 = 65536 from rfl] at *; rw [show szI 6 = 2 from rfl]; split <;> omega
  · rw [show leastI 7 = 0 from rfl, show manyI 7 = 4294967296 from rfl] at *; rw [show szI 7 = 4 from rfl]; split <;> omega
/-- The number in bytes, brought into the kind, is the value. -/
theorem wrap_nv (k v : Int) (h : szI k ≠ 0) : wrapI k (nvI k v : Nat) = wrapI k v := by
  have hi := wrap_is k v h
  have hs := wrap_same k _ hi
  unfold isI at hi
  rw [decide_eq_true_iff] at hi
  obtain ⟨-, h1, h2⟩ := hi
  unfold nvI
  by_cases hn : wrapI k v < 0
  · rw [if_pos hn]
    have hl := least_many k
    have hl2 := least_le k
    rw [Int.toNat_of_nonneg (by omega)]
    have hk1 : k ≠ 1 := by
      intro e
      subst e
      rw [show leastI 1 = 0 from rfl] at h1
      omega
    have e : wrapI k (wrapI k v + manyI k) = wrapI k (wrapI k v) := by
      generalize wrapI k v = x at *
      unfold wrapI
      rw [if_neg h, if_neg h, if_neg hk1, if_neg hk1, show x + manyI k - leastI k = x - leastI k + manyI k by omega, Int.add_emod_right]
    rw [e, hs]
  · rw [if_neg hn, Int.toNat_of_nonneg (by omega), hs]

end Go.Proofs.Ytmlopacekoghkaa.Ic
