/-
  Plain facts on a store's bytes, and on what its calls make of it: no program is named here. Conditions: none.
-/
namespace Go.Proofs.YtahmngmbgbcmhaaDoor.Sto

/-- Bytes with others laid over them from a place on. -/
def lay (l : List UInt8) (a : Nat) (s : List UInt8) : List UInt8 := l.take a ++ (s ++ l.drop (a + s.length))

theorem lay_length {l : List UInt8} {a : Nat} {s : List UInt8} (h : a + s.length ≤ l.length) : (lay l a s).length = l.length := by
  simp [lay]; omega

theorem lay_nil (l : List UInt8) (a : Nat) : lay l a [] = l := by simp [lay]

theorem lay_at {l : List UInt8} {a : Nat} {s : List UInt8} (h : a + s.length ≤ l.length) (i : Nat) :
    (lay l a s)[i]? = if a ≤ i ∧ i < a + s.length then s[i - a]? else l[i]? := by
  unfold lay
  rw [List.getElem?_append, List.length_take, Nat.min_eq_left (by omega)]
  split
  · rename_i h1
    rw [if_neg (by omega), List.getElem?_take, if_pos h1]
  · rename_i h1
    rw [List.getElem?_append]
    split
    · rename_i h2
      rw [if_pos (by omega)]
    · rename_i h2
      rw [if_neg (by omega), List.getElem?_drop]
      congr 1; omega

theorem lay_getD {l : List UInt8} {a : Nat} {s : List UInt8} (h : a + s.length ≤ l.length) (i : Nat) :
    (lay l a s).getD i 0 = if a ≤ i ∧ i < a + s.length then s.getD (i - a) 0 else l.getD i 0 := by
  rw [List.getD_eq_getElem?_getD, lay_at h]
  split <;> rw [List.getD_eq_getElem?_getD]

theorem ext_getD {a b : List UInt8} (h : a.length = b.length) (hg : ∀ i, i < a.length → a.getD i 0 = b.getD i 0) : a = b := by
  apply List.ext_getElem h
  intro i h1 h2
  have := hg i h1
  simpa [List.getD_eq_getElem?_getD, h1, h2] using this

/-- Laid twice at one place: the first lies under the second, where it is no longer. -/
theorem lay_lay {l : List UInt8} {a : Nat} {r s : List UInt8} (h : a + s.length ≤ l.length) (hr : r.length ≤ s.length) : lay (lay l a r) a s = lay l a s := by
  have h1 : a + r.length ≤ l.length := by omega
  have h2 : a + s.length ≤ (lay l a r).length := by rw [lay_length h1]; exact h
  refine ext_getD (by rw [lay_length h2, lay_length h1, lay_length h]) fun i hi => ?_
  rw [lay_getD h2, lay_getD h, lay_getD h1]
  split
  · rfl
  · rw [if_neg (by omega)]

/-- Laid at places apart: in either order the same. -/
theorem lay_comm {l : List UInt8} {a b : Nat} {s t : List UInt8} (ha : a + s.length ≤ b) (hb : b + t.length ≤ l.length) : lay (lay l a s) b t = lay (lay l b t) a s := by
  have h1 : a + s.length ≤ l.length := by omega
  have h2 : b + t.length ≤ (lay l a s).length := by rw [lay_length h1]; exact hb
  have h3 : a + s.length ≤ (lay l b t).length := by rw [lay_length hb]; exact h1
  refine ext_getD (by rw [lay_length h2, lay_length h1, lay_length h3, lay_length hb]) fun i hi => ?_
  rw [lay_getD h2, lay_getD h3, lay_getD h1, lay_getD hb]
  split
  · rw [if_neg (by omega)]
  · split <;> rfl

/-- What was laid is found there. -/
theorem lay_got {l : List UInt8} {a : Nat} {s : List UInt8} (h : a + s.length ≤ l.length) : ((lay l a s).drop a).take s.length = s := by
  have e : (l.take a).length = a := by rw [List.length_take]; omega
  unfold lay
  rw [List.drop_left' e, List.take_left' rfl]

theorem lay_got_other {l : List UInt8} {a b : Nat} {s t : List UInt8} (ha : a + s.length ≤ b) (hb : b + t.length ≤ l.length) : ((lay (lay l a s) b t).drop a).take s.length = s := by
  rw [lay_comm ha hb]
  exact lay_got (by rw [lay_length hb]; omega)

/-- A text of bytes. -/
def S (l : List UInt8) : ByteArray := ⟨l.toArray⟩
theorem S_size (l : List UInt8) : (S l).size = l.length := by simp [S, ByteArray.size]
theorem S_list (l : List UInt8) : (S l).data.toList = l := rfl
theorem S_of (s : ByteArray) : S s.data.toList = s := rfl
theorem size_list (s : ByteArray) : s.data.toList.length = s.size := Array.length_toList

/-- A store: its bytes; has it power; is it armed, for how many; how many were written. -/
structure St where
  l : List UInt8
  up : Bool
  arm : Option Nat
  n : Nat

/-- Are so many places there from one on? -/
def there (l : List UInt8) (a n : Int) : Bool := decide (0 ≤ a ∧ 0 ≤ n ∧ n ≤ (l.length : Int) - a)

theorem there_yes {l : List UInt8} {a n : Int} (h : there l a n = true) : 0 ≤ a ∧ 0 ≤ n ∧ n ≤ (l.length : Int) - a := by simpa [there] using h
theorem there_of {l : List UInt8} {a n : Int} (h0 : 0 ≤ a) (h1 : 0 ≤ n) (h2 : n ≤ (l.length : Int) - a) : there l a n = true := by simp [there]; omega

/-- A store behind a Write: without the error; the error. -/
def wrote (x : St) (a : Int) (s : List UInt8) : St :=
  if there x.l a s.length = false then x
  else if x.up = false then x
  else match x.arm with
  | none => ⟨lay x.l a.toNat s, true, none, x.n + s.length⟩
  | some k => if k < s.length then ⟨lay x.l a.toNat (s.take k), false, none, x.n + k⟩ else ⟨lay x.l a.toNat s, true, some (k - s.length), x.n + s.length⟩

def wroteE (x : St) (a : Int) (s : List UInt8) : Int :=
  if there x.l a s.length = false then 1
  else if x.up = false then 12
  else match x.arm with
  | none => 0
  | some k => if k < s.length then 12 else 0

/-- For how many it is armed, as a number: -1, if it isn't. -/
def left : Option Nat → Int
  | none => -1
  | some k => k

def armed (n : Int) : Nat := n.toNat

theorem wrote_no {x : St} {a : Int} {s : List UInt8} (h : there x.l a s.length = false) : wroteE x a s = 1 ∧ wrote x a s = x := by
  unfold wroteE wrote
  rw [if_pos h, if_pos h]
  exact ⟨rfl, rfl⟩
theorem wrote_down {l : List UInt8} {arm : Option Nat} {n : Nat} {a : Int} {s : List UInt8} (h : there l a s.length = true) : wroteE ⟨l, false, arm, n⟩ a s = 12 ∧ wrote ⟨l, false, arm, n⟩ a s = ⟨l, false, arm, n⟩ := by
  simp [wroteE, wrote, h]
theorem wrote_free {l : List UInt8} {n k : Nat} {s : List UInt8} (h : there l (k : Int) s.length = true) : wroteE ⟨l, true, none, n⟩ k s = 0 ∧ wrote ⟨l, true, none, n⟩ k s = ⟨lay l k s, true, none, n + s.length⟩ := by
  simp [wroteE, wrote, h]
theorem wrote_torn {l : List UInt8} {n j k : Nat} {s : List UInt8} (h : there l (k : Int) s.length = true) (hj : j < s.length) : wroteE ⟨l, true, some j, n⟩ k s = 12 ∧ wrote ⟨l, true, some j, n⟩ k s = ⟨lay l k (s.take j), false, none, n + j⟩ := by
  simp [wroteE, wrote, h, hj]
theorem wrote_full {l : List UInt8} {n j k : Nat} {s : List UInt8} (h : there l (k : Int) s.length = true) (hj : ¬ j < s.length) : wroteE ⟨l, true, some j, n⟩ k s = 0 ∧ wrote ⟨l, true, some j, n⟩ k s = ⟨lay l k s, true, some (j - s.length), n + s.length⟩ := by
  simp [wroteE, wrote, h, hj]

theorem wrote_length (x : St) (a : Int) (s : List UInt8) : (wrote x a s).l.length = x.l.length := by
  unfold wrote
  split
  · rfl
  · rename_i h
    have h := there_yes (by simpa using h : there x.l a s.length = true)
    split
    · rfl
    · split
      · exact lay_length (by omega)
      · split
        · exact lay_length (by rw [List.length_take]; omega)
        · exact lay_length (by omega)

theorem wrote_n (x : St) (a : Int) (s : List UInt8) : (wrote x a s).n ≤ x.n + s.length := by
  unfold wrote
  repeat' split
  all_goals first | omega | (show _ + _ ≤ _; omega) | (show x.n ≤ _; omega)

end Go.Proofs.YtahmngmbgbcmhaaDoor.Sto
