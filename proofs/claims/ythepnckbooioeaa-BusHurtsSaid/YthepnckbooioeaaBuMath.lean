/-
  Plain facts on a bus: what sending, delivering, dropping, doubling and hurting make of the pieces under way. No program is named here. Conditions: none.
-/
namespace Go.Proofs.Ythepnckbooioeaa.Bus

/-- A piece under way. -/
structure Pc where
  b : ByteArray
  src : Nat
  to : BitVec 32
  hurt : Bool
def Pc.zero : Pc := ⟨⟨#[]⟩, 0, 0#32, false⟩

/-- A bus: its pieces; the fault. -/
structure Bs where
  l : List Pc
  f : Bool
def Bs.zero : Bs := ⟨[], false⟩
/-- No more than 64 pieces, each of at most 255 bytes. -/
structure Bs.Ok (x : Bs) : Prop where
  len : x.l.length ≤ 64
  small : ∀ p ∈ x.l, p.b.size ≤ 255
theorem Bs.zero_ok : Bs.zero.Ok := ⟨by decide, fun p hp => by cases hp⟩

/-- One more; its error. -/
def addX (x : Bs) (p : Pc) : Bs := if x.l.length = 64 then ⟨x.l, true⟩ else ⟨x.l ++ [p], x.f⟩
def addE (x : Bs) : Int := if x.l.length = 64 then 8 else 0
/-- One less. -/
def lessX (x : Bs) (k : Nat) : Bs := ⟨x.l.eraseIdx k, x.f⟩
def thereB (x : Bs) (k : Int) : Bool := decide (0 ≤ k ∧ k < x.l.length)
def sendB (src : Int) (s : ByteArray) : Bool := decide (0 ≤ src ∧ src ≤ 31 ∧ 1 ≤ s.size ∧ s.size ≤ 255)
/-- What lies ahead of a place, and a place's piece turned. -/
def putX (x : Bs) (k : Nat) (p : Pc) : Bs := ⟨x.l.set k p, x.f⟩
def pieceOf (x : Bs) (k : Nat) : Pc := x.l.getD k Pc.zero

theorem getD_lt (l : List Pc) (k : Nat) (h : k < l.length) : l.getD k Pc.zero = l[k] := by simp [List.getD_eq_getElem?_getD, h]
theorem add_ok {x : Bs} (h : x.Ok) (p : Pc) (hp : p.b.size ≤ 255) : (addX x p).Ok := by
  unfold addX
  have hl := h.len
  split
  · exact ⟨hl, h.small⟩
  · refine ⟨by simp; omega, fun q hq => ?_⟩
    simp at hq
    rcases hq with hq | hq
    · exact h.small q hq
    · subst hq; exact hp
theorem less_ok {x : Bs} (h : x.Ok) (k : Nat) : (lessX x k).Ok :=
  ⟨Nat.le_trans (by unfold lessX; exact List.length_eraseIdx_le x.l k) h.len, fun q hq => h.small q (List.mem_of_mem_eraseIdx hq)⟩
theorem put_ok {x : Bs} (h : x.Ok) (k : Nat) (p : Pc) (hp : p.b.size ≤ 255) : (putX x k p).Ok := by
  refine ⟨by unfold putX; rw [List.length_set]; exact h.len, fun q hq => ?_⟩
  rcases List.mem_or_eq_of_mem_set hq with hq | hq
  · exact h.small q hq
  · subst hq; exact hp
theorem piece_small {x : Bs} (h : x.Ok) (k : Nat) : (pieceOf x k).b.size ≤ 255 := by
  unfold pieceOf
  by_cases hk : k < x.l.length
  · rw [getD_lt _ _ hk]; exact h.small _ (List.getElem_mem hk)
  · rw [List.getD_eq_getElem?_getD, List.getElem?_eq_none (by omega)]; decide

/-- The first k pieces but number j: what a list without it is made of, piece by piece. -/
def skipTo (l : List Pc) (j k : Nat) : List Pc := (l.take k).eraseIdx j
theorem skip_zero (l : List Pc) (j : Nat) : skipTo l j 0 = [] := by simp [skipTo]
theorem skip_same (l : List Pc) (j : Nat) (h : j < l.length) : skipTo l j (j + 1) = skipTo l j j := by
  unfold skipTo
  rw [List.take_add_one, List.getElem?_eq_getElem h]
  have hj : (l.take j).length = j := by rw [List.length_take]; omega
  rw [List.eraseIdx_append_of_length_le (by omega), hj, Nat.sub_self]
  simp [List.eraseIdx_of_length_le (show (l.take j).length ≤ j by omega)]
theorem skip_more (l : List Pc) (j k : Nat) (h : k < l.length) (hne : k ≠ j) : skipTo l j (k + 1) = skipTo l j k ++ [l[k]] := by
  unfold skipTo
  have hk : (l.take k).length = k := by rw [List.length_take]; omega
  rw [List.take_add_one, List.getElem?_eq_getElem h]
  by_cases hlt : j < k
  · rw [List.eraseIdx_append_of_lt_length (by omega)]
    rfl
  · rw [List.eraseIdx_append_of_length_le (by omega), hk]
    rw [List.eraseIdx_of_length_le (show (l.take k).length ≤ j by omega), List.eraseIdx_of_length_le]
    · rfl
    · simp; omega
theorem skip_all (l : List Pc) (j : Nat) : skipTo l j l.length = l.eraseIdx j := by
  unfold skipTo
  rw [List.take_of_length_le (Nat.le_refl _)]

end Go.Proofs.Ythepnckbooioeaa.Bus
