/-
  Plain facts on numbers as bytes, the highest first, and on things that are written and read: no program is named here. Conditions: none.
-/
namespace Go.Proofs.Ytocjimedbnjmiaa
namespace Oct

/-- The lowest k bytes of n, the highest first. -/
def be (n : Nat) : Nat → List UInt8
  | 0 => []
  | k + 1 => UInt8.ofNat (n / 256 ^ k) :: be n k

theorem be_length (n k : Nat) : (be n k).length = k := by
  induction k with
  | zero => rfl
  | succ k ih => show (be n k).length + 1 = _; rw [ih]

/-- The number that bytes make behind a number. -/
def numOf (m : Nat) (l : List UInt8) : Nat := l.foldl (fun n c => n * 256 + c.toNat) m
def num (l : List UInt8) : Nat := numOf 0 l

theorem num_snoc (l : List UInt8) (c : UInt8) : num (l ++ [c]) = num l * 256 + c.toNat := by
  unfold num numOf; rw [List.foldl_append]; rfl

theorem num_nil : num [] = 0 := rfl

theorem numOf_lt (l : List UInt8) (m : Nat) : numOf m l < (m + 1) * 256 ^ l.length := by
  induction l generalizing m with
  | nil => simp [numOf]
  | cons c l ih =>
    have h := ih (m * 256 + c.toNat)
    have hc := c.toNat_lt
    show numOf (m * 256 + c.toNat) l < _
    have e : (m + 1) * 256 ^ (l.length + 1) = (m * 256 + 256) * 256 ^ l.length := by
      rw [Nat.pow_succ, Nat.mul_comm (256 ^ l.length) 256, ← Nat.mul_assoc, Nat.add_mul, Nat.one_mul]
    rw [List.length_cons, e]
    exact Nat.lt_of_lt_of_le h (Nat.mul_le_mul_right _ (by omega))

theorem num_lt (l : List UInt8) : num l < 256 ^ l.length := by
  have := numOf_lt l 0
  simpa [num] using this

theorem numOf_be (n k m : Nat) : numOf m (be n k) = m * 256 ^ k + n % 256 ^ k := by
  induction k generalizing m with
  | zero => simp [be, numOf, Nat.mod_one]
  | succ k ih =>
    show numOf (m * 256 + (UInt8.ofNat (n / 256 ^ k)).toNat) (be n k) = _
    rw [ih, UInt8.toNat_ofNat']
    have e8 : n / 256 ^ k % 2 ^ 8 = n / 256 ^ k % 256 := rfl
    have hm := Nat.mod_mul (a := 256 ^ k) (b := 256) (x := n)
    rw [e8, Nat.pow_succ, hm, Nat.add_mul, Nat.mul_assoc m, Nat.mul_comm 256 (256 ^ k), Nat.mul_comm (256 ^ k) (n / 256 ^ k % 256)]
    omega

theorem num_be (n k : Nat) : num (be n k) = n % 256 ^ k := by
  unfold num; rw [numOf_be]; simp

/-- A text of bytes. -/
def S (l : List UInt8) : ByteArray := ⟨l.toArray⟩

theorem S_size (l : List UInt8) : (S l).size = l.length := by simp [S, ByteArray.size]
theorem S_list (l : List UInt8) : (S l).data.toList = l := rfl
theorem S_of (s : ByteArray) : S s.data.toList = s := rfl
theorem S_app (a b : List UInt8) : S a ++ S b = S (a ++ b) := by
  apply ByteArray.ext
  simp [S, ByteArray.data_append]
theorem S_inj {a b : List UInt8} (h : S a = S b) : a = b := by
  have := congrArg (fun x : ByteArray => x.data.toList) h
  exact this

/-- A thing that is written, or read. -/
structure It where
  a : Nat
  n : Nat
  s : ByteArray

def enc (x : It) : List UInt8 :=
  if x.a % 5 = 0 then be x.n 1 else if x.a % 5 = 1 then be x.n 2 else if x.a % 5 = 2 then be x.n 4 else if x.a % 5 = 3 then x.s.data.toList
  else if x.s.size ≤ 255 then be x.s.size 1 ++ x.s.data.toList else []

def encAll (l : List It) : List UInt8 := l.flatMap enc

theorem encAll_snoc (l : List It) (x : It) : encAll (l ++ [x]) = encAll l ++ enc x := by simp [encAll]
theorem encAll_cons (l : List It) (x : It) : encAll (x :: l) = enc x ++ encAll l := by simp [encAll]

theorem enc_le (x : It) (h : x.s.size ≤ 300) : (enc x).length ≤ 300 := by
  have hl : x.s.data.toList.length = x.s.size := Array.length_toList
  unfold enc
  repeat' split
  all_goals first | (rw [be_length]; omega) | (rw [List.length_append, be_length]; omega) | (rw [hl]; exact h) | simp

theorem encAll_le (l : List It) (h : ∀ x ∈ l, x.s.size ≤ 300) : (encAll l).length ≤ 300 * l.length := by
  induction l with
  | nil => simp [encAll]
  | cons x l ih =>
    rw [encAll_cons, List.length_append, List.length_cons]
    have h1 := enc_le x (h x (by simp))
    have h2 := ih (fun y hy => h y (by simp [hy]))
    omega

end Oct
end Go.Proofs.Ytocjimedbnjmiaa
