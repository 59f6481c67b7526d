/-
  Plain facts on timers: what is set, cancelled, ticked and skipped makes of the ticks left. No program is named here. Conditions: none.
-/
namespace Go.Proofs.Ytmjbdpgjalkbpaa.Whl

/-- Of each timer the ticks left; 0: it isn't set. -/
abbrev Wh := List Nat
structure Ok (x : Wh) : Prop where
  len : x.length = 16
  le : ∀ i, x.getD i 0 ≤ 10000
def zero : Wh := List.replicate 16 0

def idB (id : Int) : Bool := decide (0 ≤ id ∧ id ≤ 15)
def setB (id n : Int) : Bool := decide (0 ≤ id ∧ id ≤ 15 ∧ 1 ≤ n ∧ n ≤ 10000)
def setX (x : Wh) (id n : Int) : Wh := if setB id n = true then x.set id.toNat n.toNat else x
def leftN (x : Wh) (id : Int) : Nat := if idB id = true then x.getD id.toNat 0 else 0
def canX (x : Wh) (id : Int) : Wh := if idB id = true then x.set id.toNat 0 else x
def canB (x : Wh) (id : Int) : Bool := decide (0 < leftN x id)
def tickX (x : Wh) : Wh := x.map (· - 1)
/-- Those of the first n timers that come with the next tick. -/
def comeTo (x : Wh) (n : Nat) : List Nat := (List.range n).filter fun i => x.getD i 0 == 1
def comeL (x : Wh) : List Nat := comeTo x 16
def skipX (x : Wh) : Nat → Wh
  | 0 => x
  | n + 1 => skipX (tickX x) n
def skipL (x : Wh) : Nat → List Nat
  | 0 => []
  | n + 1 => comeL x ++ skipL (tickX x) n
/-- How many are skipped. -/
def skipN (n : Int) : Nat := (min (max n 0) 20000).toNat
/-- Of the first n timers: the least that is left of one that is set; how many are set. -/
def lessOf (b v : Nat) : Nat := if v ≠ 0 ∧ (b = 0 ∨ v < b) then v else b
def soonTo (x : Wh) : Nat → Nat
  | 0 => 0
  | n + 1 => lessOf (soonTo x n) (x.getD n 0)
def lenTo (x : Wh) : Nat → Nat
  | 0 => 0
  | n + 1 => if 0 < x.getD n 0 then lenTo x n + 1 else lenTo x n
/-- Behind a tick of the first n timers. -/
def tickTo (x : Wh) (n : Nat) : Wh := (x.take n).map (· - 1) ++ x.drop n

theorem getD_lt (x : Wh) (i : Nat) (h : i < x.length) : x.getD i 0 = x[i] := by simp [List.getD_eq_getElem?_getD, h]
theorem getD_set (x : Wh) (i j v : Nat) (h : i < x.length) : (x.set i v).getD j 0 = if i = j then v else x.getD j 0 := by
  simp only [List.getD_eq_getElem?_getD]
  by_cases e : i = j
  · subst e; simp [h]
  · simp [e]
theorem getD_tick (x : Wh) (i : Nat) : (tickX x).getD i 0 = x.getD i 0 - 1 := by
  unfold tickX
  simp only [List.getD_eq_getElem?_getD, List.getElem?_map]
  cases x[i]? <;> simp

theorem zero_ok : Ok zero := ⟨rfl, fun i => by
  unfold zero
  simp only [List.getD_eq_getElem?_getD, List.getElem?_replicate]
  split <;> simp⟩
theorem Ok.set {x : Wh} (h : Ok x) (id n : Int) : Ok (setX x id n) := by
  unfold setX
  split
  · rename_i hb
    simp [setB] at hb
    refine ⟨by rw [List.length_set]; exact h.len, fun i => ?_⟩
    rw [getD_set _ _ _ _ (by rw [h.len]; omega)]
    split
    · omega
    · exact h.le i
  · exact h
theorem Ok.cancel {x : Wh} (h : Ok x) (id : Int) : Ok (canX x id) := by
  unfold canX
  split
  · rename_i hb
    simp [idB] at hb
    refine ⟨by rw [List.length_set]; exact h.len, fun i => ?_⟩
    rw [getD_set _ _ _ _ (by rw [h.len]; omega)]
    split
    · omega
    · exact h.le i
  · exact h
theorem Ok.tick {x : Wh} (h : Ok x) : Ok (tickX x) := ⟨by unfold tickX; rw [List.length_map]; exact h.len, fun i => by rw [getD_tick]; have := h.le i; omega⟩
theorem Ok.skip {x : Wh} (h : Ok x) (n : Nat) : Ok (skipX x n) := by
  induction n generalizing x with
  | zero => exact h
  | succ n ih => exact ih h.tick

theorem leftN_le {x : Wh} (h : Ok x) (id : Int) : leftN x id ≤ 10000 := by
  unfold leftN; split
  · exact h.le _
  · omega

theorem skipX_add (x : Wh) (a b : Nat) : skipX x (a + b) = skipX (skipX x a) b := by
  induction a generalizing x with
  | zero => simp [skipX]
  | succ a ih => rw [Nat.succ_add]; exact ih _
theorem skipL_add (x : Wh) (a b : Nat) : skipL x (a + b) = skipL x a ++ skipL (skipX x a) b := by
  induction a generalizing x with
  | zero => simp [skipX, skipL]
  | succ a ih =>
    rw [Nat.succ_add]
    show comeL x ++ skipL (tickX x) (a + b) = (comeL x ++ skipL (tickX x) a) ++ _
    rw [ih, List.append_assoc]
    rfl
theorem skipL_one (x : Wh) (n : Nat) : skipL x (n + 1) = skipL x n ++ comeL (skipX x n) := by
  rw [skipL_add]
  show _ ++ (comeL _ ++ []) = _
  rw [List.append_nil]
theorem skipX_one (x : Wh) (n : Nat) : skipX x (n + 1) = tickX (skipX x n) := by
  rw [skipX_add]; rfl

/-- No more come than there are timers that are set. -/
theorem comeTo_le (x : Wh) (n : Nat) : (comeTo x n).length ≤ n := by
  unfold comeTo
  exact Nat.le_trans (List.length_filter_le _ _) (by simp)
theorem lenTo_le (x : Wh) (n : Nat) : lenTo x n ≤ n := by
  induction n with
  | zero => exact Nat.le_refl _
  | succ n ih => unfold lenTo; split <;> omega
theorem comeTo_succ (x : Wh) (n : Nat) : comeTo x (n + 1) = comeTo x n ++ (if x.getD n 0 = 1 then [n] else []) := by
  unfold comeTo
  rw [List.range_succ, List.filter_append]
  congr 1
  by_cases h : x.getD n 0 = 1
  · rw [if_pos h, List.filter_cons_of_pos (by rw [h]; rfl), List.filter_nil]
  · rw [if_neg h, List.filter_cons_of_neg (by rw [beq_iff_eq]; exact h), List.filter_nil]
theorem come_len (x : Wh) (n : Nat) : (comeTo x n).length + lenTo (tickX x) n = lenTo x n := by
  induction n with
  | zero => rfl
  | succ n ih =>
    rw [comeTo_succ, List.length_append]
    unfold lenTo
    rw [getD_tick]
    by_cases h1 : x.getD n 0 = 1
    · rw [if_pos h1, if_neg (by omega), if_pos (by omega), List.length_singleton]; omega
    · rw [if_neg h1, List.length_nil]
      by_cases h0 : 0 < x.getD n 0
      · rw [if_pos (by omega), if_pos h0]; omega
      · rw [if_neg (by omega), if_neg h0]; omega
theorem skipL_le (x : Wh) (n : Nat) : (skipL x n).length + lenTo (skipX x n) 16 = lenTo x 16 := by
  induction n generalizing x with
  | zero => simp [skipL, skipX]
  | succ n ih =>
    show (comeL x ++ skipL (tickX x) n).length + lenTo (skipX (tickX x) n) 16 = _
    rw [List.length_append]
    have h1 := ih (tickX x)
    have h2 := come_len x 16
    unfold comeL
    omega
theorem skip_small (x : Wh) (n : Nat) : (skipL x n).length ≤ 16 := by
  have h1 := skipL_le x n
  have h2 := lenTo_le x 16
  omega

theorem mem_come (x : Wh) (i : Nat) : i ∈ comeL x ↔ i < 16 ∧ x.getD i 0 = 1 := by
  unfold comeL comeTo
  simp [List.mem_filter]
theorem come_lt (x : Wh) : ∀ i ∈ comeL x, i < 16 := fun i h => ((mem_come x i).1 h).1

theorem soonTo_zero (x : Wh) (n : Nat) : soonTo x n = 0 ↔ lenTo x n = 0 := by
  induction n with
  | zero => exact ⟨fun _ => rfl, fun _ => rfl⟩
  | succ n ih =>
    unfold soonTo lenTo lessOf
    by_cases h0 : 0 < x.getD n 0
    · rw [if_pos h0]
      by_cases hs : soonTo x n = 0
      · rw [if_pos ⟨by omega, .inl hs⟩]; omega
      · constructor
        · intro h
          split at h
          · omega
          · exact absurd h hs
        · intro h; omega
    · rw [if_neg h0, if_neg (by omega)]
      exact ih
theorem soonTo_le {x : Wh} (h : Ok x) (n : Nat) : soonTo x n ≤ 10000 := by
  induction n with
  | zero => exact Nat.zero_le _
  | succ n ih =>
    unfold soonTo lessOf
    split
    · exact h.le n
    · exact ih

theorem tickTo_zero (x : Wh) : tickTo x 0 = x := by simp [tickTo]
theorem tickTo_all {x : Wh} (h : x.length = 16) : tickTo x 16 = tickX x := by
  unfold tickTo tickX
  rw [List.take_of_length_le (by omega), List.drop_of_length_le (by omega), List.append_nil]
theorem tickTo_length (x : Wh) (n : Nat) : (tickTo x n).length = x.length := by
  unfold tickTo
  rw [List.length_append, List.length_map, List.length_take, List.length_drop]; omega
theorem tickTo_getD {x : Wh} {n : Nat} (hn : n ≤ x.length) (i : Nat) : (tickTo x n).getD i 0 = if i < n then x.getD i 0 - 1 else x.getD i 0 := by
  unfold tickTo
  simp only [List.getD_eq_getElem?_getD]
  by_cases h : i < n
  · rw [if_pos h, List.getElem?_append_left (by rw [List.length_map, List.length_take]; omega), List.getElem?_map, List.getElem?_take, if_pos h]
    cases x[i]? <;> simp
  · rw [if_neg h, List.getElem?_append_right (by rw [List.length_map, List.length_take]; omega), List.length_map, List.length_take, List.getElem?_drop]
    rw [show n + (i - min n x.length) = i by omega]
theorem ext_getD {a b : Wh} (h : a.length = b.length) (hg : ∀ i, i < a.length → a.getD i 0 = b.getD i 0) : a = b := by
  apply List.ext_getElem h
  intro i h1 h2
  have := hg i h1
  rw [getD_lt _ _ h1, getD_lt _ _ h2] at this
  exact this
/-- One timer more is ticked. -/
theorem tickTo_succ {x : Wh} {n : Nat} (hn : n < x.length) : (tickTo x n).set n (x.getD n 0 - 1) = tickTo x (n + 1) := by
  refine ext_getD (by rw [List.length_set, tickTo_length, tickTo_length]) fun i _ => ?_
  rw [getD_set _ _ _ _ (by rw [tickTo_length]; exact hn), tickTo_getD (by omega), tickTo_getD (by omega)]
  by_cases e : n = i
  · subst e; rw [if_pos rfl, if_pos (by omega)]
  · rw [if_neg e]
    by_cases h : i < n
    · rw [if_pos h, if_pos (by omega)]
    · rw [if_neg h, if_neg (by omega)]
theorem tickTo_same {x : Wh} {n : Nat} (hn : n < x.length) (h : x.getD n 0 = 0) : tickTo x n = tickTo x (n + 1) := by
  refine ext_getD (by rw [tickTo_length, tickTo_length]) fun i _ => ?_
  rw [tickTo_getD (by omega), tickTo_getD (by omega)]
  by_cases e : i = n
  · subst e; rw [if_neg (by omega), if_pos (by omega), h]
  · by_cases h : i < n
    · rw [if_pos h, if_pos (by omega)]
    · rw [if_neg h, if_neg (by omega)]

end Go.Proofs.Ytmjbdpgjalkbpaa.Whl
