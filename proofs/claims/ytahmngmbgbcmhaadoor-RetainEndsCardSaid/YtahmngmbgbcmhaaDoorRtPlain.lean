/-
  Plain facts on commits: a store's three writes and the bytes behind so many of them; a record is read of its slot; which slot is the newest behind a commit. No program is named here. Conditions: none.
-/
import Derived.Test.YtahmngmbgbcmhaaDoorRtCommit
namespace Go.Proofs.YtahmngmbgbcmhaaDoor.Ret
open Oct
open Sto (lay lay_length lay_getD lay_at ext_getD St wrote wroteE there there_of wrote_free wrote_torn wrote_full wrote_down wrote_no)

theorem lay_one {l : List UInt8} {k : Nat} (c : UInt8) (h : k < l.length) : lay l k [c] = l.set k c := by
  refine ext_getD (by rw [lay_length (by simp; omega), List.length_set]) fun i hi => ?_
  rw [lay_length (by simp; omega)] at hi
  rw [lay_getD (by simp; omega)]
  by_cases e : k = i
  · subst e
    simp [List.getD_eq_getElem?_getD, h]
  · rw [if_neg (by simp; omega)]
    simp [List.getD_eq_getElem?_getD, e]

theorem lay_more {l s : List UInt8} {k j : Nat} (hj : j < s.length) (hfit : k + s.length ≤ l.length) : (lay l k (s.take j)).set (k + j) (s.getD j 0) = lay l k (s.take (j + 1)) := by
  have h1 : (s.take j).length = j := by rw [List.length_take]; omega
  have h2 : (s.take (j + 1)).length = j + 1 := by rw [List.length_take]; omega
  have e1 : k + (s.take j).length ≤ l.length := by omega
  have e2 : k + (s.take (j + 1)).length ≤ l.length := by omega
  refine ext_getD (by rw [List.length_set, lay_length e1, lay_length e2]) fun i hi => ?_
  rw [List.length_set, lay_length e1] at hi
  rw [lay_getD e2]
  by_cases e : k + j = i
  · subst e
    rw [if_pos (by omega)]
    have : k + j < (lay l k (s.take j)).length := by rw [lay_length e1]; exact hi
    simp [List.getD_eq_getElem?_getD, this, hj]
  · have : ((lay l k (s.take j)).set (k + j) (s.getD j 0)).getD i 0 = (lay l k (s.take j)).getD i 0 := by
      simp [List.getD_eq_getElem?_getD, e]
    rw [this, lay_getD e1]
    by_cases hin : k ≤ i ∧ i < k + j
    · rw [if_pos (by omega), if_pos (by omega)]
      simp only [List.getD_eq_getElem?_getD, List.getElem?_take]
      rw [if_pos (by omega), if_pos (by omega)]
    · rw [if_neg (by omega), if_neg (by omega)]

theorem plcs_at (k j : Nat) (h : j < 75) : (plcs k).getD j 0 = if j = 0 ∨ j = 74 then k else k + j := by
  unfold plcs plc
  rw [List.getD_eq_getElem?_getD]
  match j, h with
  | 0, _ => simp
  | j + 1, h =>
    by_cases e : j = 73
    · subst e
      simp
    · rw [if_neg (by omega)]
      rw [List.getElem?_append_left (by simp; omega)]
      simp
      rw [List.getElem?_range (by omega)]
      simp
      omega

theorem byts_get (sl : List UInt8) (j : Nat) (hs : sl.length = 73) (h : j < 75) : (byts sl).getD j 0 = if j = 0 then 0 else if j = 74 then 165 else sl.getD (j - 1) 0 := by
  unfold byts byt
  rw [List.getD_eq_getElem?_getD]
  match j, h with
  | 0, _ => simp
  | j + 1, h =>
    by_cases e : j = 73
    · subst e
      rw [List.getElem?_append_right (by simp [hs])]
      simp [hs]
    · rw [if_neg (by omega), if_neg (by omega), List.getElem?_append_left (by simp [hs]; omega)]
      simp only [List.getElem?_cons_succ, Nat.add_sub_cancel]
      rw [List.getElem?_take, if_pos (by omega), List.getD_eq_getElem?_getD]

/-- A store's bytes behind so many of a commit's bytes, told by what is laid. -/
theorem cur_one {l : List UInt8} {k : Nat} {sl : List UInt8} (hs : sl.length = 73) (hk : k + 74 ≤ l.length) : ∀ j, j ≤ 73 → cur l k sl (j + 1) = lay (lay l k [0]) (k + 1) (sl.take j) := by
  have h0 : k < l.length := by omega
  intro j
  induction j with
  | zero =>
    intro _
    rw [cur, cur, plcs_at k 0 (by omega), byts_get sl 0 hs (by omega), if_pos (.inl rfl), if_pos rfl, List.take_zero, Sto.lay_nil, lay_one 0 h0]
  | succ j ih =>
    intro hj
    have hf : k + 1 + sl.length ≤ (lay l k [0]).length := by rw [lay_length (by simp; omega), hs]; omega
    rw [cur, ih (by omega), plcs_at k (j + 1) (by omega), byts_get sl (j + 1) hs (by omega), if_neg (by omega), if_neg (by omega), if_neg (by omega), Nat.add_sub_cancel,
      show k + (j + 1) = k + 1 + j by omega, lay_more (by omega) hf]

theorem cur_all {l : List UInt8} {k : Nat} {sl : List UInt8} (hs : sl.length = 73) (hk : k + 74 ≤ l.length) : cur l k sl 75 = lay (lay (lay l k [0]) (k + 1) sl) k [165] := by
  have h := cur_one hs hk 73 (by omega)
  rw [List.take_of_length_le (by omega)] at h
  have hl : (lay l k [0]).length = l.length := lay_length (by simp; omega)
  have hl2 : (lay (lay l k [0]) (k + 1) sl).length = l.length := by rw [lay_length (by omega), hl]
  rw [cur, h, plcs_at k 74 (by omega), byts_get sl 74 hs (by omega), if_pos (.inr rfl), if_neg (by omega), if_pos rfl, lay_one 165 (by omega)]

/-- A commit's three writes, none behind one that fails. -/
def threeE (x : St) (k : Nat) (sl : List UInt8) : Int :=
  if wroteE x k [0] ≠ 0 then wroteE x k [0]
  else if wroteE (wrote x k [0]) (k + 1 : Nat) sl ≠ 0 then wroteE (wrote x k [0]) (k + 1 : Nat) sl
  else wroteE (wrote (wrote x k [0]) (k + 1 : Nat) sl) k [165]
def three (x : St) (k : Nat) (sl : List UInt8) : St :=
  if wroteE x k [0] ≠ 0 then wrote x k [0]
  else if wroteE (wrote x k [0]) (k + 1 : Nat) sl ≠ 0 then wrote (wrote x k [0]) (k + 1 : Nat) sl
  else wrote (wrote (wrote x k [0]) (k + 1 : Nat) sl) k [165]

/-- For how many bytes it is armed; below 0: it isn't. -/
def armI (a : Option Nat) : Int := match a with | none => -1 | some m => m

theorem th {l : List UInt8} {k n : Nat} (h : k + n ≤ l.length) : there l (k : Int) (n : Int) = true := there_of (by omega) (by omega) (by omega)

theorem three_free {l : List UInt8} {n k : Nat} {sl : List UInt8} (hs : sl.length = 73) (hk : k + 74 ≤ l.length) :
    threeE ⟨l, true, none, n⟩ k sl = 0 ∧ three ⟨l, true, none, n⟩ k sl = ⟨cur l k sl 75, true, none, n + 75⟩ := by
  have hl : (lay l k [0]).length = l.length := lay_length (by simp; omega)
  have hl2 : (lay (lay l k [0]) (k + 1) sl).length = l.length := by rw [lay_length (by omega), hl]
  obtain ⟨a1, a2⟩ := wrote_free (n := n) (th (l := l) (k := k) (n := ([0] : List UInt8).length) (by simp; omega))
  obtain ⟨b1, b2⟩ := wrote_free (n := n + ([0] : List UInt8).length) (th (l := lay l k [0]) (k := k + 1) (n := sl.length) (by omega))
  obtain ⟨c1, c2⟩ := wrote_free (n := n + ([0] : List UInt8).length + sl.length) (th (l := lay (lay l k [0]) (k + 1) sl) (k := k) (n := ([165] : List UInt8).length) (by simp; omega))
  unfold threeE three
  rw [a1, a2, b1, b2, c1, c2, cur_all hs hk, hs]
  exact ⟨rfl, rfl⟩

theorem three_down {l : List UInt8} {a : Option Nat} {n k : Nat} {sl : List UInt8} (hk : k + 74 ≤ l.length) :
    threeE ⟨l, false, a, n⟩ k sl = 12 ∧ three ⟨l, false, a, n⟩ k sl = ⟨l, false, a, n⟩ := by
  obtain ⟨a1, a2⟩ := wrote_down (arm := a) (n := n) (th (l := l) (k := k) (n := ([0] : List UInt8).length) (by simp; omega))
  unfold threeE three
  rw [a1, a2]
  exact ⟨rfl, rfl⟩

theorem three_arm {l : List UInt8} {m n k : Nat} {sl : List UInt8} (hs : sl.length = 73) (hk : k + 74 ≤ l.length) :
    (m < 75 → threeE ⟨l, true, some m, n⟩ k sl = 12 ∧ three ⟨l, true, some m, n⟩ k sl = ⟨cur l k sl m, false, none, n + m⟩) ∧
    (75 ≤ m → threeE ⟨l, true, some m, n⟩ k sl = 0 ∧ three ⟨l, true, some m, n⟩ k sl = ⟨cur l k sl 75, true, some (m - 75), n + 75⟩) := by
  have hl : (lay l k [0]).length = l.length := lay_length (by simp; omega)
  have hl2 : (lay (lay l k [0]) (k + 1) sl).length = l.length := by rw [lay_length (by omega), hl]
  have t1 := th (l := l) (k := k) (n := ([0] : List UInt8).length) (by simp; omega)
  have t2 := th (l := lay l k [0]) (k := k + 1) (n := sl.length) (by omega)
  have t3 := th (l := lay (lay l k [0]) (k + 1) sl) (k := k) (n := ([165] : List UInt8).length) (by simp; omega)
  unfold threeE three
  by_cases h0 : m = 0
  · subst h0
    obtain ⟨a1, a2⟩ := wrote_torn (n := n) (j := 0) t1 (by simp)
    rw [a1, a2]
    exact ⟨fun _ => ⟨rfl, by simp [Sto.lay_nil, cur]⟩, fun h => by omega⟩
  · obtain ⟨a1, a2⟩ := wrote_full (n := n) (j := m) t1 (by simp; omega)
    rw [a1, a2]
    simp only [List.length_singleton, ne_eq, not_true_eq_false, if_false]
    by_cases h1 : m - 1 < sl.length
    · obtain ⟨b1, b2⟩ := wrote_torn (n := n + 1) (j := m - 1) t2 h1
      rw [b1, b2]
      refine ⟨fun _ => ⟨by simp, ?_⟩, fun h => by omega⟩
      have hc := cur_one hs hk (m - 1) (by omega)
      rw [show m - 1 + 1 = m by omega] at hc
      rw [hc]
      simp; omega
    · obtain ⟨b1, b2⟩ := wrote_full (n := n + 1) (j := m - 1) t2 h1
      rw [b1, b2]
      simp only [not_true_eq_false, if_false]
      by_cases h2 : m = 74
      · subst h2
        obtain ⟨c1, c2⟩ := wrote_torn (n := n + 1 + sl.length) (j := 74 - 1 - sl.length) t3 (by simp; omega)
        rw [c1, c2]
        refine ⟨fun _ => ⟨rfl, ?_⟩, fun h => by omega⟩
        have hc := cur_one hs hk 73 (by omega)
        rw [List.take_of_length_le (by omega)] at hc
        rw [hs, hc]
        simp [Sto.lay_nil]
      · obtain ⟨c1, c2⟩ := wrote_full (n := n + 1 + sl.length) (j := m - 1 - sl.length) t3 (by simp; omega)
        rw [c1, c2, cur_all hs hk]
        refine ⟨fun h => by omega, fun _ => ⟨rfl, ?_⟩⟩
        rw [hs]
        simp; omega

end Go.Proofs.YtahmngmbgbcmhaaDoor.Ret
