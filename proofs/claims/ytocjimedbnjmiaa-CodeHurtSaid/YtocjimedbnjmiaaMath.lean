/-
  Plain facts on check sums of 16 bits, as polynomials over two elements: no program is named here. Conditions: none.
-/
namespace Go.Proofs.Ytocjimedbnjmiaa
namespace Sums

/-- A sum shifted on by one bit. -/
def dbl (x : BitVec 16) : BitVec 16 := if x.getLsbD 15 then (x <<< 1) ^^^ 0x1021#16 else x <<< 1

def dblN : Nat → BitVec 16 → BitVec 16
  | 0, x => x
  | n + 1, x => dblN n (dbl x)

/-- Keeps '^^^'. -/
def Lin (f : BitVec 16 → BitVec 16) : Prop := ∀ a b, f (a ^^^ b) = f a ^^^ f b

theorem xor4 (a b c d : BitVec 16) : (a ^^^ b) ^^^ (c ^^^ d) = (a ^^^ c) ^^^ (b ^^^ d) := by
  simp only [BitVec.xor_assoc]
  rw [← BitVec.xor_assoc b c d, BitVec.xor_comm b c, BitVec.xor_assoc c b d]

theorem dbl_lin : Lin dbl := by
  intro a b
  unfold dbl
  rw [BitVec.getLsbD_xor, BitVec.shiftLeft_xor_distrib]
  cases ha : a.getLsbD 15 <;> cases hb : b.getLsbD 15 <;> simp [BitVec.xor_assoc]
  · rw [BitVec.xor_comm (b <<< 1) 4129#16]
  · rw [← BitVec.xor_assoc 4129#16 (b <<< 1), BitVec.xor_comm 4129#16 (b <<< 1), BitVec.xor_assoc]; simp

theorem Lin.zero {f : BitVec 16 → BitVec 16} (h : Lin f) : f 0 = 0 := by
  have := h 0 0
  simp at this
  exact this

theorem Lin.comp {f g : BitVec 16 → BitVec 16} (hf : Lin f) (hg : Lin g) : Lin (fun x => f (g x)) := fun a b => by
  show f (g (a ^^^ b)) = _
  rw [hg, hf]

theorem Lin.xor {f g : BitVec 16 → BitVec 16} (hf : Lin f) (hg : Lin g) : Lin (fun x => f x ^^^ g x) := fun a b => by
  show f (a ^^^ b) ^^^ g (a ^^^ b) = _
  rw [hg, hf, xor4]

theorem dblN_lin (n : Nat) : Lin (dblN n) := by
  induction n with
  | zero => intro a b; rfl
  | succ n ih => intro a b; show dblN n (dbl (a ^^^ b)) = _; rw [dbl_lin, ih]; rfl

theorem dblN_add (m n : Nat) (x : BitVec 16) : dblN (m + n) x = dblN n (dblN m x) := by
  induction m generalizing x with
  | zero => simp [dblN]
  | succ m ih => rw [Nat.succ_add]; show dblN (m + n) (dbl x) = _; rw [ih]; rfl

theorem dblN_succ' (n : Nat) (x : BitVec 16) : dblN (n + 1) x = dbl (dblN n x) := by rw [dblN_add]; rfl

theorem dblN_zero (n : Nat) : dblN n 0 = 0 := (dblN_lin n).zero

/-- What keeps '^^^' is known by its values at the sixteen bits. -/
theorem lin_ext {f g : BitVec 16 → BitVec 16} (hf : Lin f) (hg : Lin g) (h : ∀ i : Fin 16, f (BitVec.twoPow 16 i.val) = g (BitVec.twoPow 16 i.val)) (a : BitVec 16) : f a = g a := by
  have key : ∀ n, n ≤ 16 → ∀ a : BitVec 16, (∀ i, n ≤ i → a.getLsbD i = false) → f a = g a := by
    intro n
    induction n with
    | zero =>
      intro _ a ha
      have : a = 0 := by
        apply BitVec.eq_of_getLsbD_eq
        intro i _
        rw [ha i (Nat.zero_le _)]; simp
      rw [this, hf.zero, hg.zero]
    | succ n ih =>
      intro hn a ha
      by_cases hb : a.getLsbD n = true
      · have e : a = (a ^^^ BitVec.twoPow 16 n) ^^^ BitVec.twoPow 16 n := by
          rw [BitVec.xor_assoc]; simp
        rw [e, hf, hg, h ⟨n, by omega⟩]
        rw [ih (by omega) (a ^^^ BitVec.twoPow 16 n) ?_]
        intro i hi
        rw [BitVec.getLsbD_xor, BitVec.getLsbD_twoPow]
        by_cases hin : i = n
        · subst hin; simp [hb]; omega
        · rw [ha i (by omega)]; simp; omega
      · apply ih (by omega)
        intro i hi
        by_cases hin : i = n
        · subst hin; simpa using hb
        · exact ha i (by omega)
  exact key 16 (Nat.le_refl _) a (fun i hi => BitVec.getLsbD_of_ge a i hi)

theorem dbl_inj0 (x : BitVec 16) (h : dbl x = 0) : x = 0 := by
  unfold dbl at h
  have k : ∀ i, i < 16 → (if x.getLsbD 15 then (x <<< 1) ^^^ 0x1021#16 else x <<< 1).getLsbD i = false := by intro i _; rw [h]; simp
  cases hx : x.getLsbD 15
  · simp only [hx, Bool.false_eq_true, if_false] at k
    apply BitVec.eq_of_getLsbD_eq
    intro i hi
    by_cases h15 : i = 15
    · subst h15; rw [hx]; rfl
    · have := k (i + 1) (by omega)
      simp [BitVec.getLsbD_shiftLeft] at this
      rw [this (by omega)]; simp
  · simp only [hx, if_true] at k
    have := k 0 (by omega)
    simp at this

theorem dblN_inj0 (n : Nat) (x : BitVec 16) (h : dblN n x = 0) : x = 0 := by
  induction n generalizing x with
  | zero => exact h
  | succ n ih => exact dbl_inj0 x (ih _ h)

/-! Multiplying, the other one's highest bits first. -/
def tm (a b : BitVec 16) : Nat → BitVec 16
  | 0 => 0
  | k + 1 => dbl (tm a b k) ^^^ (if b.getLsbD (15 - k) then a else 0)

def times (a b : BitVec 16) : BitVec 16 := tm a b 16

theorem tm_lin_right (a : BitVec 16) (k : Nat) : Lin (fun b => tm a b k) := by
  induction k with
  | zero => intro b c; simp [tm]
  | succ k ih =>
    intro b c
    show dbl (tm a (b ^^^ c) k) ^^^ _ = _
    rw [show tm a (b ^^^ c) k = tm a b k ^^^ tm a c k from ih b c, dbl_lin, BitVec.getLsbD_xor]
    show _ = (dbl (tm a b k) ^^^ (if b.getLsbD (15 - k) then a else 0)) ^^^ (dbl (tm a c k) ^^^ (if c.getLsbD (15 - k) then a else 0))
    rw [xor4]
    cases b.getLsbD (15 - k) <;> cases c.getLsbD (15 - k) <;> simp

theorem tm_lin_left (b : BitVec 16) (k : Nat) : Lin (fun a => tm a b k) := by
  induction k with
  | zero => intro a c; simp [tm]
  | succ k ih =>
    intro a c
    show dbl (tm (a ^^^ c) b k) ^^^ _ = _
    rw [show tm (a ^^^ c) b k = tm a b k ^^^ tm c b k from ih a c, dbl_lin]
    show _ = (dbl (tm a b k) ^^^ (if b.getLsbD (15 - k) then a else 0)) ^^^ (dbl (tm c b k) ^^^ (if b.getLsbD (15 - k) then c else 0))
    rw [xor4]
    cases b.getLsbD (15 - k) <;> simp

theorem times_dbl_basis : ∀ i : Fin 16, ∀ j : Fin 16, times (BitVec.twoPow 16 i.val) (dbl (BitVec.twoPow 16 j.val)) = dbl (times (BitVec.twoPow 16 i.val) (BitVec.twoPow 16 j.val)) := by decide +kernel

theorem times_dbl (a b : BitVec 16) : times a (dbl b) = dbl (times a b) := by
  refine lin_ext (f := fun a => times a (dbl b)) (g := fun a => dbl (times a b)) (tm_lin_left _ 16) (dbl_lin.comp (tm_lin_left b 16)) ?_ a
  intro i
  exact lin_ext (f := fun b => times (BitVec.twoPow 16 i.val) (dbl b)) (g := fun b => dbl (times (BitVec.twoPow 16 i.val) b)) ((tm_lin_right _ 16).comp dbl_lin) (dbl_lin.comp (tm_lin_right _ 16)) (fun j => times_dbl_basis i j) b

theorem times_one (a : BitVec 16) : times a 1#16 = a :=
  lin_ext (f := fun a => times a 1#16) (g := fun a => a) (tm_lin_left _ 16) (fun _ _ => rfl) (by decide +kernel) a

/-- x to the k. -/
def pw (k : Nat) : BitVec 16 := dblN k 1#16

theorem times_pw (a : BitVec 16) (k : Nat) : times a (pw k) = dblN k a := by
  induction k with
  | zero => exact times_one a
  | succ k ih =>
    show times a (dblN (k + 1) 1#16) = _
    rw [dblN_succ', dblN_succ', times_dbl]
    rw [show times a (dblN k 1#16) = _ from ih]

theorem times_pw_pw (j k : Nat) : times (pw j) (pw k) = pw (j + k) := by
  rw [times_pw]; unfold pw; rw [dblN_add]

/-! Bytes. -/
def byte (c : UInt8) : BitVec 16 := BitVec.ofNat 16 c.toNat

def bstep (x : BitVec 16) (c : UInt8) : BitVec 16 := dblN 8 (x ^^^ (byte c <<< 8))

def more (x : BitVec 16) (l : List UInt8) : BitVec 16 := l.foldl bstep x

theorem more_nil (x : BitVec 16) : more x [] = x := rfl
theorem more_cons (x : BitVec 16) (c : UInt8) (l : List UInt8) : more x (c :: l) = more (bstep x c) l := rfl
theorem more_append (x : BitVec 16) (l m : List UInt8) : more x (l ++ m) = more (more x l) m := List.foldl_append
theorem more_snoc (x : BitVec 16) (l : List UInt8) (c : UInt8) : more x (l ++ [c]) = bstep (more x l) c := by rw [more_append]; rfl

theorem bstep_xor (x y : BitVec 16) (c : UInt8) : bstep (x ^^^ y) c = dblN 8 x ^^^ bstep y c := by
  unfold bstep
  rw [← dblN_lin, BitVec.xor_assoc]

/-- Sums are linear in what they began with. -/
theorem more_xor (x y : BitVec 16) (l : List UInt8) : more (x ^^^ y) l = dblN (8 * l.length) x ^^^ more y l := by
  induction l generalizing x y with
  | nil => rfl
  | cons c l ih =>
    rw [more_cons, bstep_xor, ih, more_cons, List.length_cons, Nat.mul_add, Nat.mul_one, Nat.add_comm, dblN_add]

theorem bstep_zero (x : BitVec 16) : bstep x 0 = dblN 8 x := by
  unfold bstep byte; simp

theorem more_zeros (x : BitVec 16) (n : Nat) : more x (List.replicate n 0) = dblN (8 * n) x := by
  induction n generalizing x with
  | zero => rfl
  | succ n ih => rw [List.replicate_succ, more_cons, bstep_zero, ih, Nat.mul_add, Nat.mul_one, Nat.add_comm, dblN_add]

end Sums
end Go.Proofs.Ytocjimedbnjmiaa
