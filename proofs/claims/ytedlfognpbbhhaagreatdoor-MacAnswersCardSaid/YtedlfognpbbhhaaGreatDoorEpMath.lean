/-
  Epochs as three numbers, and their order. Conditions: none.
-/
import Derived.Lib.Itoa
namespace Go.Proofs.YtedlfognpbbhhaaGreatDoor.Epo

/-- An epoch's three numbers. -/
structure Ep where
  c : Nat
  a : Nat
  i : Nat

/-- They are such as their kinds hold. -/
def Ep.fit (e : Ep) : Prop := e.c ≤ 65535 ∧ e.a ≤ 255 ∧ e.i ≤ 65535

/-- Less, equal, greater. -/
def cmpN (a b : Nat) : Int := if a < b then -1 else if b < a then 1 else 0
theorem cmpN_lt {a b : Nat} (h : a < b) : cmpN a b = -1 := by simp [cmpN, h]
theorem cmpN_gt {a b : Nat} (h : b < a) : cmpN a b = 1 := by unfold cmpN; rw [if_neg (by omega), if_pos h]
theorem cmpN_eq {a b : Nat} (h : a = b) : cmpN a b = 0 := by simp [cmpN, h]

/-- The first that is not 0. -/
def orL : List Int → Int
  | [] => 0
  | x :: r => if x = 0 then orL r else x

def cmpE (x y : Ep) : Int := orL [cmpN x.c y.c, cmpN x.a y.a, cmpN x.i y.i]

/-- An epoch as one number. -/
def numE (x : Ep) : Nat := (x.c * 256 + x.a) * 65536 + x.i

theorem cmpE_num (x y : Ep) (hx : x.fit) (hy : y.fit) : cmpE x y = cmpN (numE x) (numE y) := by
  obtain ⟨x1, x2, x3⟩ := hx
  obtain ⟨y1, y2, y3⟩ := hy
  unfold cmpE
  rcases Nat.lt_trichotomy x.c y.c with h | h | h
  · have e : numE x < numE y := by unfold numE; omega
    rw [cmpN_lt h, cmpN_lt e]; rfl
  · rw [cmpN_eq h]
    rcases Nat.lt_trichotomy x.a y.a with h2 | h2 | h2
    · have e : numE x < numE y := by unfold numE; omega
      rw [cmpN_lt h2, cmpN_lt e]; rfl
    · rw [cmpN_eq h2]
      rcases Nat.lt_trichotomy x.i y.i with h3 | h3 | h3
      · have e : numE x < numE y := by unfold numE; omega
        rw [cmpN_lt h3, cmpN_lt e]; rfl
      · have e : numE x = numE y := by unfold numE; omega
        rw [cmpN_eq h3, cmpN_eq e]; rfl
      · have e : numE y < numE x := by unfold numE; omega
        rw [cmpN_gt h3, cmpN_gt e]; rfl
    · have e : numE y < numE x := by unfold numE; omega
      rw [cmpN_gt h2, cmpN_gt e]; rfl
  · have e : numE y < numE x := by unfold numE; omega
    rw [cmpN_gt h, cmpN_gt e]; rfl

theorem numE_inj (x y : Ep) (hx : x.fit) (hy : y.fit) (h : numE x = numE y) : x = y := by
  obtain ⟨x1, x2, x3⟩ := hx
  obtain ⟨y1, y2, y3⟩ := hy
  unfold numE at h
  cases x; cases y
  simp only [Ep.mk.injEq] at *
  omega

theorem numE_le (x : Ep) (hx : x.fit) : numE x ≤ 1099511627775 := by
  obtain ⟨x1, x2, x3⟩ := hx
  unfold numE; omega

end Go.Proofs.YtedlfognpbbhhaaGreatDoor.Epo
