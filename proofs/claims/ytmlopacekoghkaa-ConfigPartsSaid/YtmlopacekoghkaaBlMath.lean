/-
  Blocks, directories, parts of a value: plain facts. Conditions: none.
-/
import Derived.Lib.Hide
namespace Go.Proofs.Ytmlopacekoghkaa.Bl

/-- A block: its ID, its address, its size, whether it goes ahead of others. -/
structure Blk where
  id : Int
  ad : Int
  sz : Int
  hi : Bool
deriving DecidableEq
abbrev Bs := List UInt8
def rightB (b : Blk) : Bool := decide (0 ≤ b.id ∧ b.id ≤ 15 ∧ 0 ≤ b.ad ∧ b.ad ≤ 31 ∧ 1 ≤ b.sz ∧ b.sz ≤ 64)
def noB : Blk := ⟨0, 0, 0, false⟩
/-- The first block of an ID, and whether there is one. -/
def findB : List Blk → Int → Blk × Bool
  | [], _ => (noB, false)
  | b :: l, id => if b.id = id then (b, true) else findB l id
def ofB (l : List Blk) (a : Int) : List Int := (l.filter (fun b => decide (b.ad = a))).map Blk.id
def badB (l : List Blk) (i : Nat) : Int := if rightB (l.getD i noB) then (if (findB (l.take i) (l.getD i noB).id).2 then 14 else 0) else 3
def chkF (l : List Blk) : Nat → Nat → Int × Nat
  | _, 0 => (0, 0)
  | i, n + 1 => if badB l i = 0 then chkF l (i + 1) n else (badB l i, i)
def chkB (l : List Blk) : Int × Nat := if l.length ≤ 16 then chkF l 0 l.length else (2, 16)

theorem find_at {l : List Blk} {k : Nat} {b : Blk} (h : l[k]? = some b) (id : Int) : findB (l.drop k) id = if b.id = id then (b, true) else findB (l.drop (k + 1)) id := by
  obtain ⟨hk, rfl⟩ := List.getElem?_eq_some_iff.1 h
  rw [List.drop_eq_getElem_cons hk]
  rfl
theorem of_at {l : List Blk} {k : Nat} {b : Blk} (h : l[k]? = some b) (a : Int) : ofB (l.take (k + 1)) a = ofB (l.take k) a ++ if b.ad = a then [b.id] else [] := by
  obtain ⟨hk, rfl⟩ := List.getElem?_eq_some_iff.1 h
  unfold ofB
  rw [List.take_succ_eq_append_getElem hk, List.filter_append, List.map_append]
  congr 1
  by_cases e : (l[k]).ad = a
  · rw [if_pos e]; simp [e]
  · rw [if_neg e]; simp [e]
theorem of_len (l : List Blk) (a : Int) : (ofB l a).length ≤ l.length := by
  unfold ofB
  rw [List.length_map]
  exact List.length_filter_le _ _
/-- Is there one with this ID ahead? -/
def anyB (l : List Blk) (i k : Nat) (id : Int) : Bool := ((l.take i).drop k).any (fun b => decide (b.id = id))
theorem find_any : ∀ (l : List Blk) (id : Int), (findB l id).2 = l.any (fun b => decide (b.id = id))
  | [], _ => rfl
  | b :: l, id => by
    unfold findB
    rw [List.any_cons]
    by_cases e : b.id = id
    · rw [if_pos e]; simp [e]
    · rw [if_neg e, find_any l id]; simp [e]
theorem any_end (l : List Blk) (i : Nat) (id : Int) : anyB l i i id = false := by
  unfold anyB
  rw [List.drop_eq_nil_of_le (by simp; omega)]
  rfl
theorem any_at {l : List Blk} {i k : Nat} {b : Blk} (h : l[k]? = some b) (hk : k < i) (id : Int) : anyB l i k id = (decide (b.id = id) || anyB l i (k + 1) id) := by
  unfold anyB
  obtain ⟨hl, rfl⟩ := List.getElem?_eq_some_iff.1 h
  have hk2 : k < (l.take i).length := by rw [List.length_take]; omega
  rw [List.drop_eq_getElem_cons hk2, List.any_cons]
  simp
theorem get_at {l : List Blk} {k : Nat} {b : Blk} (h : l[k]? = some b) : l.getD k noB = b := by rw [List.getD_eq_getElem?_getD, h]; rfl
theorem chkF_at (l : List Blk) (i n : Nat) : chkF l i (n + 1) = if badB l i = 0 then chkF l (i + 1) n else (badB l i, i) := rfl

/-! Parts. -/
def partsN (n : Int) : Int := if 1 ≤ n ∧ n ≤ 64 then (n + 15) / 16 else 0
def hasP (n p : Int) : Bool := decide (0 ≤ p ∧ p < partsN n)
def atP (n p : Int) : Int := if hasP n p then p * 16 else 0
def lenP (n p : Int) : Int := if hasP n p then min (n - p * 16) 16 else 0
def cutL (v : Bs) (p : Int) : Bs := (v.drop (atP v.length p).toNat).take (lenP v.length p).toNat
theorem parts_bd (n : Int) : 0 ≤ partsN n ∧ partsN n ≤ 4 := by
  unfold partsN
  split <;> omega
theorem has_iff {n p : Int} : hasP n p = true ↔ 0 ≤ p ∧ p < partsN n := by unfold hasP; rw [decide_eq_true_iff]
theorem has_bd {n p : Int} (h : hasP n p = true) : 0 ≤ p ∧ p ≤ 3 ∧ 1 ≤ n ∧ n ≤ 64 ∧ p * 16 < n := by
  have h1 := has_iff.1 h
  unfold partsN at h1
  split at h1 <;> omega
theorem at_bd (n p : Int) (hn : 0 ≤ n) : 0 ≤ atP n p ∧ 0 ≤ lenP n p ∧ lenP n p ≤ 16 ∧ atP n p + lenP n p ≤ n ∧ atP n p ≤ 48 := by
  unfold atP lenP
  by_cases h : hasP n p = true
  · rw [if_pos h, if_pos h]
    have := has_bd h
    omega
  · rw [if_neg h, if_neg h]
    omega
/-- The parts of a text, cut off one by one. -/
def pcL (v : Bs) (k : Nat) : Bs := (v.drop (16 * k)).take 16
def pcsL (v : Bs) (k : Nat) : List Bs := (List.range k).map (pcL v)
def numN (v : Bs) : Nat := (v.length + 15) / 16
theorem pcs_len (v : Bs) (k : Nat) : (pcsL v k).length = k := by simp [pcsL]
theorem pcs_next (v : Bs) (k : Nat) : pcsL v (k + 1) = pcsL v k ++ [pcL v k] := by simp [pcsL, List.range_succ]
theorem pcs_at (v : Bs) {k m : Nat} (h : k < m) : (pcsL v m)[k]? = some (pcL v k) := by
  unfold pcsL
  rw [List.getElem?_map, List.getElem?_range h]
  rfl
theorem drop_next (v : Bs) (k : Nat) : (v.drop (16 * k)).drop 16 = v.drop (16 * (k + 1)) := by
  rw [List.drop_drop]
  congr 1
theorem pc_all (v : Bs) (k : Nat) : v.take (16 * k) ++ pcL v k = v.take (16 * (k + 1)) := by
  unfold pcL
  rw [show 16 * (k + 1) = 16 * k + 16 from rfl, List.take_add]
theorem num_parts {v : Bs} (h : v.length ≤ 64) : partsN v.length = (numN v : Int) := by
  unfold partsN numN
  split <;> omega
theorem parts_long {v : Bs} (h : 64 < v.length) : partsN v.length = 0 := by unfold partsN; rw [if_neg (by omega)]
theorem cut_pc {v : Bs} {k : Nat} (hv : v.length ≤ 64) (h : k < numN v) : cutL v k = pcL v k ∧ atP v.length k = 16 * k ∧ lenP v.length k = (pcL v k).length ∧ 1 ≤ (pcL v k).length ∧ (pcL v k).length ≤ 16 := by
  have hh : hasP v.length k = true := by rw [has_iff, num_parts hv]; omega
  have hb := has_bd hh
  have hp : (pcL v k).length = min 16 (v.length - 16 * k) := by unfold pcL; rw [List.length_take, List.length_drop]
  refine ⟨?_, ?_, ?_, by omega, by omega⟩
  · unfold cutL atP lenP
    rw [if_pos hh, if_pos hh]
    unfold pcL
    rw [show ((k : Int) * 16).toNat = 16 * k by omega]
    rcases Nat.lt_or_ge (v.length - 16 * k) 16 with h1 | h1
    · rw [show (min ((v.length : Int) - k * 16) 16).toNat = v.length - 16 * k by omega]
      rw [List.take_of_length_le (by simp), List.take_of_length_le (by simp; omega)]
    · rw [show (min ((v.length : Int) - k * 16) 16).toNat = 16 by omega]
  · unfold atP; rw [if_pos hh]; omega
  · unfold lenP; rw [if_pos hh]; omega
theorem cut_none {v : Bs} {p : Int} (h : hasP v.length p = false) : cutL v p = [] ∧ atP v.length p = 0 ∧ lenP v.length p = 0 := by
  have hn : ¬ hasP v.length p = true := by rw [h]; decide
  refine ⟨?_, ?_, ?_⟩
  · unfold cutL lenP; rw [if_neg hn]; rfl
  · unfold atP; rw [if_neg hn]
  · unfold lenP; rw [if_neg hn]

/-! A directory that may be. -/
theorem chkF_ok : ∀ (l : List Blk) (n i : Nat), (chkF l i n).1 = 0 → ∀ k, i ≤ k → k < i + n → badB l k = 0
  | _, 0, i, _, k, h1, h2 => absurd h2 (by omega)
  | l, n + 1, i, h, k, h1, h2 => by
    rw [chkF_at] at h
    by_cases hb : badB l i = 0
    · rw [if_pos hb] at h
      by_cases e : k = i
      · rw [e]; exact hb
      · exact chkF_ok l n (i + 1) h k (by omega) (by omega)
    · rw [if_neg hb] at h
      exact absurd h hb
theorem chkF_lt : ∀ (l : List Blk) (n i : Nat), (chkF l i n).1 ≠ 0 → (chkF l i n).2 < i + n
  | _, 0, i, h => absurd rfl h
  | l, n + 1, i, h => by
    rw [chkF_at] at h ⊢
    by_cases hb : badB l i = 0
    · rw [if_pos hb] at h ⊢
      have := chkF_lt l n (i + 1) h
      omega
    · rw [if_neg hb]
      show i < i + (n + 1)
      omega
theorem chk_ok {l : List Blk} (h : (chkB l).1 = 0) : l.length ≤ 16 ∧ ∀ k, k < l.length → badB l k = 0 := by
  unfold chkB at h
  by_cases hl : l.length ≤ 16
  · rw [if_pos hl] at h
    exact ⟨hl, fun k hk => chkF_ok l _ 0 h k (by omega) (by omega)⟩
  · rw [if_neg hl] at h
    cases h
theorem chk_lt {l : List Blk} (h : (chkB l).1 ≠ 0) : (chkB l).2 < l.length := by
  unfold chkB at h ⊢
  by_cases hl : l.length ≤ 16
  · rw [if_pos hl] at h ⊢
    have := chkF_lt l _ 0 h
    omega
  · rw [if_neg hl]
    show 16 < l.length
    omega
theorem chk_bd (l : List Blk) : 0 ≤ (chkB l).1 ∧ (chkB l).1 ≤ 14 ∧ (chkB l).2 ≤ l.length := by
  have key : ∀ (n i : Nat), 0 ≤ (chkF l i n).1 ∧ (chkF l i n).1 ≤ 14 ∧ (chkF l i n).2 ≤ i + n := by
    intro n
    induction n with
    | zero => intro i; exact ⟨Int.le_refl 0, (by decide : (0 : Int) ≤ 14), Nat.zero_le _⟩
    | succ n ih =>
      intro i
      rw [chkF_at]
      split
      · have := ih (i + 1)
        exact ⟨this.1, this.2.1, by omega⟩
      · refine ⟨?_, ?_, ?_⟩
        · show 0 ≤ badB l i
          unfold badB; split <;> (try split) <;> decide
        · show badB l i ≤ 14
          unfold badB; split <;> (try split) <;> decide
        · show i ≤ i + (n + 1)
          omega
  unfold chkB
  split
  · have := key l.length 0
    exact ⟨this.1, this.2.1, by omega⟩
  · exact ⟨by decide, by decide, by show 16 ≤ l.length; omega⟩
theorem bad_zero {l : List Blk} {k : Nat} (h : badB l k = 0) : rightB (l.getD k noB) = true ∧ (findB (l.take k) (l.getD k noB).id).2 = false := by
  unfold badB at h
  by_cases h1 : rightB (l.getD k noB) = true
  · rw [if_pos h1] at h
    refine ⟨h1, ?_⟩
    by_cases h2 : (findB (l.take k) (l.getD k noB).id).2 = true
    · rw [if_pos h2] at h; cases h
    · exact eq_false_of_ne_true h2
  · rw [if_neg h1] at h
    cases h
theorem find_app : ∀ (l m : List Blk) (id : Int), findB (l ++ m) id = if (findB l id).2 then findB l id else findB m id
  | [], m, id => by simp [findB]
  | b :: l, m, id => by
    have c : ∀ n : List Blk, findB (b :: n) id = if b.id = id then (b, true) else findB n id := fun n => rfl
    rw [List.cons_append, c, c]
    by_cases e : b.id = id
    · rw [if_pos e, if_pos e]; rfl
    · rw [if_neg e, if_neg e, find_app l m id]
/-- Each block is found by its ID. -/
theorem find_own {l : List Blk} (h : (chkB l).1 = 0) {b : Blk} (hb : b ∈ l) : findB l b.id = (b, true) := by
  obtain ⟨k, hk, rfl⟩ := List.mem_iff_getElem.1 hb
  have h1 := (bad_zero ((chk_ok h).2 k hk)).2
  have hg : l.getD k noB = l[k] := get_at (List.getElem?_eq_getElem hk)
  rw [hg] at h1
  have e : l = l.take k ++ (l[k] :: l.drop (k + 1)) := by rw [← List.drop_eq_getElem_cons hk, List.take_append_drop]
  have : findB (l.take k ++ (l[k] :: l.drop (k + 1))) l[k].id = (l[k], true) := by
    rw [find_app, h1]
    simp [findB]
  rw [← e] at this
  exact this
theorem of_mem {l : List Blk} {a id : Int} (h : id ∈ ofB l a) : ∃ b ∈ l, b.id = id ∧ b.ad = a := by
  unfold ofB at h
  obtain ⟨b, hb, rfl⟩ := List.mem_map.1 h
  obtain ⟨h1, h2⟩ := List.mem_filter.1 hb
  exact ⟨b, h1, rfl, of_decide_eq_true h2⟩
/-- How many are published by the addresses ahead of a. -/
def cntB (l : List Blk) (a : Nat) : Nat := ((List.range a).map (fun k => (ofB l (k : Nat)).length)).sum
theorem cnt_next (l : List Blk) (a : Nat) : cntB l (a + 1) = cntB l a + (ofB l (a : Nat)).length := by
  unfold cntB
  rw [List.range_succ, List.map_append, List.sum_append]
  simp
theorem cnt_step (l : List Blk) (a : Nat) : (l.filter (fun b => decide (b.ad < (a : Int)))).length + (l.filter (fun b => decide (b.ad = ((a : Nat) : Int)))).length = (l.filter (fun b => decide (b.ad < ((a + 1 : Nat) : Int)))).length := by
    induction l with
    | nil => rfl
    | cons b l ih =>
      simp only [List.filter_cons]
      rcases Int.lt_trichotomy b.ad (a : Nat) with c | c | c
      · rw [if_pos (decide_eq_true c), if_neg (by simp; omega), if_pos (decide_eq_true (by omega))]
        simp only [List.length_cons]; omega
      · rw [if_neg (by simp; omega), if_pos (decide_eq_true c), if_pos (decide_eq_true (by omega))]
        simp only [List.length_cons]; omega
      · rw [if_neg (by simp; omega), if_neg (by simp; omega), if_neg (by simp; omega)]
        exact ih
theorem cnt_count (l : List Blk) (h : ∀ b ∈ l, 0 ≤ b.ad) : ∀ a : Nat, cntB l a = (l.filter (fun b => decide (b.ad < (a : Int)))).length
  | 0 => by
    unfold cntB
    rw [List.filter_eq_nil_iff.2 (fun b hb => by have := h b hb; simp; omega)]
    rfl
  | a + 1 => by
    rw [cnt_next, cnt_count l h a]
    unfold ofB
    rw [List.length_map]
    exact cnt_step l a
theorem cnt_all {l : List Blk} (h : (chkB l).1 = 0) : cntB l 32 = l.length := by
  have hr : ∀ b ∈ l, rightB b = true := fun b hb => by
    obtain ⟨k, hk, rfl⟩ := List.mem_iff_getElem.1 hb
    have h1 := (bad_zero ((chk_ok h).2 k hk)).1
    rw [get_at (List.getElem?_eq_getElem hk)] at h1
    exact h1
  have hb : ∀ b ∈ l, 0 ≤ b.ad ∧ b.ad ≤ 31 := fun b hm => by
    have := hr b hm
    unfold rightB at this
    rw [decide_eq_true_iff] at this
    omega
  rw [cnt_count l (fun b hm => (hb b hm).1), List.filter_eq_self.2 (fun b hm => by have := hb b hm; simp; omega)]
end Go.Proofs.Ytmlopacekoghkaa.Bl
