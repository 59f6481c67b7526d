/-
  Spots that lie apart: plain facts. Conditions: as each states.
-/
import Derived.Test.YtncodfogioaddaaImMath
namespace Go.Proofs.Ytncodfogioaddaa.Bl

/-- What is taken ahead of the spot k. -/
def takU (l : List Spt) (D : List Blk) (m : Nat) : Nat → Nat → Bool
  | 0 => fun k => decide (k < m)
  | i + 1 => setB (takU l D m i) (spP l i) (spZ l D i)
structure Apart (l : List Spt) (D : List Blk) (m : Nat) : Prop where
  le : m ≤ 64
  ok : ∀ i, i < l.length → spE l D i = 0
  no : ∀ i, i < l.length → hitB (takU l D m i) (spP l i) (spZ l D i) = false
theorem layF_ok (l : List Spt) (D : List Blk) (m : Nat) : ∀ (c i : Nat), (layF true l D c i (takU l D m i)).1 = 0 → ∀ j, i ≤ j → j < i + c → spE l D j = 0 ∧ hitB (takU l D m j) (spP l j) (spZ l D j) = false
  | 0, i, _, j, h1, h2 => absurd h2 (by omega)
  | c + 1, i, h, j, h1, h2 => by
    rw [layF_at] at h
    by_cases hE : spE l D i = 0
    · rw [if_pos hE, Bool.true_and] at h
      by_cases hh : hitB (takU l D m i) (spP l i) (spZ l D i) = true
      · rw [if_pos hh] at h
        cases h
      · rw [if_neg hh] at h
        by_cases e : j = i
        · subst e
          exact ⟨hE, eq_false_of_ne_true hh⟩
        · exact layF_ok l D m c (i + 1) h j (by omega) (by omega)
    · rw [if_neg hE] at h
      exact absurd h hE
theorem lay_apart {n : Int} {l : List Spt} {D : List Blk} (h : (layO true n l D).1 = 0) : ∃ m : Nat, n = (m : Int) ∧ Apart l D m := by
  unfold layO at h
  by_cases hb : (true && beyB n) = true
  · rw [if_pos hb] at h
    cases h
  · rw [if_neg hb] at h
    unfold beyB at hb
    simp at hb
    obtain ⟨m, rfl⟩ : ∃ m : Nat, n = (m : Int) := ⟨n.toNat, by omega⟩
    have hu : (fun k : Nat => true && decide ((k : Int) < (m : Int))) = takU l D m 0 := by
      funext k
      rw [Bool.true_and]
      unfold takU
      rw [decide_eq_decide]
      omega
    rw [hu] at h
    have := layF_ok l D m l.length 0 h
    exact ⟨m, rfl, by omega, fun i hi => (this i (by omega) (by omega)).1, fun i hi => (this i (by omega) (by omega)).2⟩
/-- The value that the law gives the spot i. -/
def vB (i k : Nat) : UInt8 := UInt8.ofNat (1 + i * 16 + k % 16)
def valN (i z : Nat) : Bs := (List.range z).map (vB i)
theorem valN_len (i z : Nat) : (valN i z).length = z := by unfold valN; simp
theorem valN_get {i z k : Nat} (h : k < z) : (valN i z).getD k 0 = vB i k := by
  unfold valN
  rw [List.getD_eq_getElem?_getD, List.getElem?_map, List.getElem?_range h]
  rfl
theorem vB_ne {i k : Nat} (h : i < 15) : vB i k ≠ 0 := by
  unfold vB
  intro h0
  have := congrArg UInt8.toNat h0
  simp at this
  omega
def vals (l : List Spt) (D : List Blk) (c : Nat) : List Bs := (List.range c).map fun i => valN i (spZ l D i)
theorem vals_len (l : List Spt) (D : List Blk) (c : Nat) : (vals l D c).length = c := by unfold vals; simp
theorem vals_at {l : List Spt} {D : List Blk} {c i : Nat} (h : i < c) : (vals l D c)[i]? = some (valN i (spZ l D i)) := by
  unfold vals
  rw [List.getElem?_map, List.getElem?_range h]
  rfl
theorem vals_get {l : List Spt} {D : List Blk} {c i : Nat} (h : i < c) : (vals l D c).getD i [] = valN i (spZ l D i) := by rw [List.getD_eq_getElem?_getD, vals_at h]; rfl
theorem vals_next (l : List Spt) (D : List Blk) (c : Nat) : vals l D (c + 1) = vals l D c ++ [valN c (spZ l D c)] := by
  unfold vals
  rw [List.range_succ, List.map_append]
  rfl
section
variable {l : List Spt} {D : List Blk} {m : Nat}
theorem tak_own (l : List Spt) (D : List Blk) (m : Nat) : ∀ (k q : Nat), q < m → takU l D m k q = true
  | 0, q, h => by unfold takU; exact decide_eq_true h
  | k + 1, q, h => by
    unfold takU setB
    rw [tak_own l D m k q h, Bool.true_or]
theorem tak_spot (l : List Spt) (D : List Blk) (m : Nat) : ∀ (k i q : Nat), i < k → spP l i ≤ q → q < spP l i + spZ l D i → takU l D m k q = true
  | 0, i, q, h, _, _ => absurd h (by omega)
  | k + 1, i, q, h, h1, h2 => by
    unfold takU setB
    by_cases e : i = k
    · subst e
      rw [decide_eq_true h1, decide_eq_true h2]
      simp
    · rw [tak_spot l D m k i q (by omega) h1 h2, Bool.true_or]
def arA (own : Bs) (l : List Spt) (D : List Blk) (m k : Nat) : Bs := arN (ownA (m : Nat) own) l (vals l D l.length) k
theorem arA_len (own : Bs) (l : List Spt) (D : List Blk) (m k : Nat) : (arA own l D m k).length = 64 := by unfold arA; rw [ar_len, own_len]
theorem arA_next (h : Apart l D m) (own : Bs) {k q : Nat} (hk : k < l.length) (hq : q < 64) :
    (arA own l D m (k + 1)).getD q 0 = if spP l k ≤ q ∧ q < spP l k + spZ l D k then vB k (q - spP l k) else (arA own l D m k).getD q 0 := by
  obtain ⟨-, ha, hz, hp, hzz, hpz, -⟩ := sp_zero (h.ok k hk)
  unfold arA
  rw [arN, put_get _ _ _ _ (by rw [ar_len, own_len]; exact hq), vals_get hk, valN_len]
  by_cases c : spP l k ≤ q ∧ q < spP l k + spZ l D k
  · rw [if_pos c, if_pos (by omega), show ((q : Int) - (l.getD k noS).a).toNat = q - spP l k by omega, valN_get (by omega)]
  · rw [if_neg c, if_neg (by omega)]
theorem arA_own (h : Apart l D m) (own : Bs) : ∀ (k q : Nat), k ≤ l.length → q < m → (arA own l D m k).getD q 0 = own.getD q 0
  | 0, q, _, hq => by
    have := h.le
    unfold arA
    rw [arN, own_get _ _ _ (by omega), if_pos (by omega)]
  | k + 1, q, hk, hq => by
    have := h.le
    rw [arA_next h own (by omega) (by omega), if_neg, arA_own h own k q (by omega) hq]
    intro c
    have h1 := hit_no (h.no k (by omega)) c.1 c.2
    rw [tak_own l D m k q hq] at h1
    cases h1
theorem arA_spot (h : Apart l D m) (own : Bs) : ∀ (k i j : Nat), k ≤ l.length → i < k → j < spZ l D i → (arA own l D m k).getD (spP l i + j) 0 = vB i j
  | 0, i, _, _, hi, _ => absurd hi (by omega)
  | k + 1, i, j, hk, hi, hj => by
    obtain ⟨-, -, -, -, -, hpz, -⟩ := sp_zero (h.ok i (by omega))
    rw [arA_next h own (by omega) (by omega)]
    by_cases e : i = k
    · subst e
      rw [if_pos (by omega), show spP l i + j - spP l i = j by omega]
    · rw [if_neg, arA_spot h own k i j (by omega) (by omega) hj]
      intro c
      have h1 := hit_no (h.no k (by omega)) c.1 c.2
      rw [tak_spot l D m k i _ (by omega) (by omega) (by omega)] at h1
      cases h1
theorem arA_free (h : Apart l D m) (own : Bs) : ∀ (k q : Nat), k ≤ l.length → q < 64 → takU l D m k q = false → (arA own l D m k).getD q 0 = 0
  | 0, q, _, hq, hf => by
    unfold takU at hf
    have := of_decide_eq_false hf
    unfold arA
    rw [arN, own_get _ _ _ hq, if_neg (by omega)]
  | k + 1, q, hk, hq, hf => by
    unfold takU setB at hf
    rw [Bool.or_eq_false_iff] at hf
    rw [arA_next h own (by omega) hq, if_neg, arA_free h own k q (by omega) hq hf.1]
    intro c
    have := hf.2
    rw [decide_eq_true c.1, decide_eq_true c.2] at this
    cases this
theorem arA_taken (h : Apart l D m) (own : Bs) (hl : l.length ≤ 15) : ∀ (k q : Nat), k ≤ l.length → q < 64 → m ≤ q → takU l D m k q = true → (arA own l D m k).getD q 0 ≠ 0
  | 0, q, _, hq, hm, hf => by
    unfold takU at hf
    have := of_decide_eq_true hf
    omega
  | k + 1, q, hk, hq, hm, hf => by
    rw [arA_next h own (by omega) hq]
    by_cases c : spP l k ≤ q ∧ q < spP l k + spZ l D k
    · rw [if_pos c]
      exact vB_ne (by omega)
    · rw [if_neg c]
      refine arA_taken h own hl k q (by omega) hq hm ?_
      unfold takU setB at hf
      rw [Bool.or_eq_true] at hf
      rcases hf with hf | hf
      · exact hf
      · rw [Bool.and_eq_true, decide_eq_true_iff, decide_eq_true_iff] at hf
        exact absurd hf c
/-- How many of the first n are so. -/
def cntU (U : Nat → Bool) : Nat → Nat
  | 0 => 0
  | n + 1 => cntU U n + if U n then 1 else 0
theorem cnt_set (U : Nat → Bool) (p z : Nat) (hn : hitB U p z = false) : ∀ n, cntU (setB U p z) n = cntU U n + (min n (p + z) - min n p)
  | 0 => by simp [cntU]
  | n + 1 => by
    rw [cntU, cntU, cnt_set U p z hn n]
    by_cases c : p ≤ n ∧ n < p + z
    · have h1 : setB U p z n = true := by unfold setB; rw [decide_eq_true c.1, decide_eq_true c.2]; simp
      rw [h1, hit_no hn c.1 c.2]
      simp
      omega
    · have h1 : setB U p z n = U n := by
        unfold setB
        have : (decide (p ≤ n) && decide (n < p + z)) = false := by
          rw [Bool.and_eq_false_iff, decide_eq_false_iff_not, decide_eq_false_iff_not]
          omega
        rw [this, Bool.or_false]
      rw [h1]
      omega
theorem cnt_lt (m : Nat) : ∀ n, cntU (fun k => decide (k < m)) n = min n m
  | 0 => by simp [cntU]
  | n + 1 => by
    rw [cntU, cnt_lt m n]
    by_cases c : n < m
    · rw [decide_eq_true c, if_pos rfl]; omega
    · rw [decide_eq_false c, if_neg (by decide)]; omega
def sumZ (l : List Spt) (D : List Blk) : Nat → Nat
  | 0 => 0
  | k + 1 => sumZ l D k + spZ l D k
theorem cnt_tak (h : Apart l D m) : ∀ k, k ≤ l.length → cntU (takU l D m k) 64 = m + sumZ l D k
  | 0, _ => by
    have := h.le
    show cntU (fun k => decide (k < m)) 64 = m + 0
    rw [cnt_lt]
    omega
  | k + 1, hk => by
    obtain ⟨-, -, -, -, -, hpz, -⟩ := sp_zero (h.ok k (by omega))
    show cntU (setB (takU l D m k) (spP l k) (spZ l D k)) 64 = m + (sumZ l D k + spZ l D k)
    rw [cnt_set _ _ _ (h.no k (by omega)), cnt_tak h k (by omega)]
    omega
/-- How many bytes 0 there are from m on, of c. -/
def zerN (A : Bs) (m : Nat) : Nat → Nat
  | 0 => 0
  | c + 1 => zerN A m c + if A.getD (m + c) 0 = 0 then 1 else 0
theorem zer_le (A : Bs) (m : Nat) : ∀ c, zerN A m c ≤ c
  | 0 => Nat.le_refl 0
  | c + 1 => by
    have := zer_le A m c
    unfold zerN
    split <;> omega
theorem zer_next (A : Bs) (m j : Nat) (h : m ≤ j) : zerN A m (j + 1 - m) = zerN A m (j - m) + if A.getD j 0 = 0 then 1 else 0 := by
  rw [show j + 1 - m = (j - m) + 1 by omega, zerN, show m + (j - m) = j by omega]
theorem zer_cnt (h : Apart l D m) (own : Bs) (hl : l.length ≤ 15) : ∀ c, m + c ≤ 64 → zerN (arA own l D m l.length) m c + cntU (takU l D m l.length) (m + c) = m + c
  | 0, hc => by
    have key : ∀ n, n ≤ m → cntU (takU l D m l.length) n = n := by
      intro n
      induction n with
      | zero => intro _; rfl
      | succ n ih =>
        intro hn
        rw [cntU, ih (by omega), tak_own l D m _ n (by omega), if_pos rfl]
    show 0 + cntU (takU l D m l.length) m = m
    rw [key m (Nat.le_refl _), Nat.zero_add]
  | c + 1, hc => by
    have ih := zer_cnt h own hl c (by omega)
    show zerN (arA own l D m l.length) m c + (if (arA own l D m l.length).getD (m + c) 0 = 0 then 1 else 0) + (cntU (takU l D m l.length) (m + c) + if takU l D m l.length (m + c) then 1 else 0) = m + c + 1
    cases hu : takU l D m l.length (m + c)
    · rw [if_pos (arA_free h own _ _ (Nat.le_refl _) (by omega) hu), if_neg (by decide)]
      omega
    · rw [if_neg (arA_taken h own hl _ _ (Nat.le_refl _) (by omega) (by omega) hu), if_pos rfl]
      omega
theorem zer_all (h : Apart l D m) (own : Bs) (hl : l.length ≤ 15) : zerN (arA own l D m l.length) m (64 - m) + m + sumZ l D l.length = 64 := by
  have hm := h.le
  have h1 := zer_cnt h own hl (64 - m) (by omega)
  have h2 := cnt_tak h l.length (Nat.le_refl _)
  rw [show m + (64 - m) = 64 by omega] at h1
  omega
theorem sum_le (h : Apart l D m) : ∀ k, k ≤ l.length → m + sumZ l D k ≤ 64 := fun k hk => by
  have h1 := cnt_tak h k hk
  have : ∀ n, cntU (takU l D m k) n ≤ n := by
    intro n
    induction n with
    | zero => exact Nat.le_refl 0
    | succ n ih =>
      rw [cntU]
      split <;> omega
  have := this 64
  omega
/-- Each value is read back. -/
theorem arA_val (h : Apart l D m) (own : Bs) {i : Nat} (hi : i < l.length) : valB (arA own l D m l.length) (l.getD i noS).a (spZ l D i : Nat) = valN i (spZ l D i) := by
  obtain ⟨-, ha, hz, hp, hzz, hpz, -⟩ := sp_zero (h.ok i hi)
  have hb : bringN (spZ l D i : Nat) = spZ l D i := by unfold bringN; omega
  unfold valB
  rw [hb]
  refine bs_ext (by rw [put_len, zero_len, valN_len]) fun j hj => ?_
  rw [put_len, zero_len] at hj
  rw [put_get _ _ _ _ (by rw [zero_len]; exact hj), arA_len, if_pos (by omega), valN_get hj, show ((j : Int) - -(l.getD i noS).a).toNat = spP l i + j by omega]
  exact arA_spot h own _ i j (Nat.le_refl _) hi hj
end
end Go.Proofs.Ytncodfogioaddaa.Bl
