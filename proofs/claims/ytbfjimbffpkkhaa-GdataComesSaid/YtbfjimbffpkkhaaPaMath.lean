/-
  Parts of a value, frames, and a glue: plain facts. Conditions: none.
-/
import Derived.Lib.Hide
namespace Go.Proofs.Ytbfjimbffpkkhaa.Pa

abbrev Bs := List UInt8
def partsN (n : Int) : Int := if 1 ≤ n ∧ n ≤ 64 then (n + 15) / 16 else 0
def hasP (n p : Int) : Bool := decide (0 ≤ p ∧ p < partsN n)
def atP (n p : Int) : Int := if hasP n p then p * 16 else 0
def lenP (n p : Int) : Int := if hasP n p then min (n - p * 16) 16 else 0
def cutL (v : Bs) (p : Int) : Bs := (v.drop (atP v.length p).toNat).take (lenP v.length p).toNat
theorem parts_bd (n : Int) : 0 ≤ partsN n ∧ partsN n ≤ 4 := by
  unfold partsN
  split <;> omega
theorem has_iff {n p : Int} : hasP n p = true ↔ 0 ≤ p ∧ p < partsN n := by unfold hasP; rw [decide_eq_true_iff]
theorem has_bd {n p : Int} (h : hasP n p = true) : 0 ≤ p ∧ p ≤ 3 ∧ 1 ≤ n ∧ n ≤ 64 ∧ p * 16 < n := by
  have h1 := has_iff.1 h
  unfold partsN at h1
  split at h1 <;> omega
theorem at_bd (n p : Int) (hn : 0 ≤ n) : 0 ≤ atP n p ∧ 0 ≤ lenP n p ∧ lenP n p ≤ 16 ∧ atP n p + lenP n p ≤ n ∧ atP n p ≤ 48 := by
  unfold atP lenP
  by_cases h : hasP n p = true
  · rw [if_pos h, if_pos h]
    have := has_bd h
    omega
  · rw [if_neg h, if_neg h]
    omega
/-- The parts of a text, cut off one by one. -/
def pcL (v : Bs) (k : Nat) : Bs := (v.drop (16 * k)).take 16
def pcsL (v : Bs) (k : Nat) : List Bs := (List.range k).map (pcL v)
def numN (v : Bs) : Nat := (v.length + 15) / 16
theorem pcs_len (v : Bs) (k : Nat) : (pcsL v k).length = k := by simp [pcsL]
theorem pcs_next (v : Bs) (k : Nat) : pcsL v (k + 1) = pcsL v k ++ [pcL v k] := by simp [pcsL, List.range_succ]
theorem pcs_at (v : Bs) {k m : Nat} (h : k < m) : (pcsL v m)[k]? = some (pcL v k) := by
  unfold pcsL
  rw [List.getElem?_map, List.getElem?_range h]
  rfl
theorem drop_next (v : Bs) (k : Nat) : (v.drop (16 * k)).drop 16 = v.drop (16 * (k + 1)) := by
  rw [List.drop_drop]
  congr 1
theorem pc_all (v : Bs) (k : Nat) : v.take (16 * k) ++ pcL v k = v.take (16 * (k + 1)) := by
  unfold pcL
  rw [show 16 * (k + 1) = 16 * k + 16 from rfl, List.take_add]
theorem num_parts {v : Bs} (h : v.length ≤ 64) : partsN v.length = (numN v : Int) := by
  unfold partsN numN
  split <;> omega
theorem parts_long {v : Bs} (h : 64 < v.length) : partsN v.length = 0 := by unfold partsN; rw [if_neg (by omega)]
theorem cut_pc {v : Bs} {k : Nat} (hv : v.length ≤ 64) (h : k < numN v) : cutL v k = pcL v k ∧ atP v.length k = 16 * k ∧ lenP v.length k = (pcL v k).length ∧ 1 ≤ (pcL v k).length ∧ (pcL v k).length ≤ 16 := by
  have hh : hasP v.length k = true := by rw [has_iff, num_parts hv]; omega
  have hb := has_bd hh
  have hp : (pcL v k).length = min 16 (v.length - 16 * k) := by unfold pcL; rw [List.length_take, List.length_drop]
  refine ⟨?_, ?_, ?_, by omega, by omega⟩
  · unfold cutL atP lenP
    rw [if_pos hh, if_pos hh]
    unfold pcL
    rw [show ((k : Int) * 16).toNat = 16 * k by omega]
    rcases Nat.lt_or_ge (v.length - 16 * k) 16 with h1 | h1
    · rw [show (min ((v.length : Int) - k * 16) 16).toNat = v.length - 16 * k by omega]
      rw [List.take_of_length_le (by simp), List.take_of_length_le (by simp; omega)]
    · rw [show (min ((v.length : Int) - k * 16) 16).toNat = 16 by omega]
  · unfold atP; rw [if_pos hh]; omega
  · unfold lenP; rw [if_pos hh]; omega

/-- A frame. -/
structure Fr where
  kind : Int
  src : Nat
  dst : Nat
  sinc : Nat
  dinc : Nat
  ec : Nat
  ea : Nat
  ei : Nat
  hop : Nat
  hc : Nat
  ha : Nat
  hi : Nat
  wants : Bool
  blk : Nat
  vinc : Nat
  vseq : Nat
  part : Nat
  parts : Nat
  bytes : Bs
/-- Its numbers are such as their kinds hold. -/
structure FitF (f : Fr) : Prop where
  vi : f.vinc ≤ 65535
  vs : f.vseq ≤ 4294967295
  pt : f.part ≤ 255
  ps : f.parts ≤ 255

/-- How many parts a value of n bytes has, and how many bytes one of these. -/
def pN (n : Nat) : Nat := (n + 15) / 16
def pL (n p : Nat) : Nat := min (n - 16 * p) 16
theorem pN_bd {n : Nat} (h1 : 1 ≤ n) (h2 : n ≤ 64) : 1 ≤ pN n ∧ pN n ≤ 4 := by unfold pN; omega
theorem parts_pN {n : Nat} (h1 : 1 ≤ n) (h2 : n ≤ 64) : partsN n = (pN n : Nat) := by unfold partsN pN; rw [if_pos (by omega)]; omega
theorem has_pN {n p : Nat} (h1 : 1 ≤ n) (h2 : n ≤ 64) (h : p < pN n) : hasP n p = true := by rw [has_iff, parts_pN h1 h2]; omega
theorem at_pN {n p : Nat} (h1 : 1 ≤ n) (h2 : n ≤ 64) (h : p < pN n) : atP n p = (16 * p : Nat) ∧ lenP n p = (pL n p : Nat) := by
  have hh := has_pN h1 h2 h
  have := has_bd hh
  unfold atP lenP pL
  rw [if_pos hh, if_pos hh]
  omega
theorem pL_bd {n p : Nat} (h : p < pN n) : 1 ≤ pL n p ∧ pL n p ≤ 16 ∧ 16 * p + pL n p ≤ n := by unfold pN at h; unfold pL; omega
theorem pL_last {n p : Nat} (h2 : p + 1 < pN n) : pL n p = 16 := by unfold pN at h2; unfold pL; omega

/-- A glue: is it at a version, at which, and what came (of length pN, or none). -/
structure Gl where
  is : Bool
  inc : Nat
  seq : Nat
  came : List Bs
def g0 : Gl := ⟨false, 0, 0, []⟩
def numV (i s : Nat) : Nat := i * 4294967296 + s
def fitsB (n : Nat) (f : Fr) : Bool := decide (f.parts = pN n ∧ f.part < pN n ∧ f.bytes.length = pL n f.part)
def olderB (g : Gl) (f : Fr) : Bool := g.is && decide (numV f.vinc f.vseq < numV g.inc g.seq)
def newerB (g : Gl) (f : Fr) : Bool := !g.is || decide (numV g.inc g.seq < numV f.vinc f.vseq)
def freshG (n : Nat) (g : Gl) (f : Fr) : Gl := if newerB g f then ⟨true, f.vinc, f.vseq, List.replicate (pN n) []⟩ else g
def twiceB (n : Nat) (g : Gl) (f : Fr) : Bool := decide ((freshG n g f).came.getD f.part [] ≠ [])
def errB (n : Nat) (g : Gl) (f : Fr) : Nat :=
  if f.kind = 4 then (if fitsB n f then (if olderB g f then 1 else if twiceB n g f then 14 else 0) else 3) else 11
def withB (h : Gl) (f : Fr) : Gl := ⟨h.is, h.inc, h.seq, h.came.set f.part f.bytes⟩
def putG (n : Nat) (g : Gl) (f : Fr) : Gl := if errB n g f = 0 then withB (freshG n g f) f else g
def fullB (l : List Bs) : Bool := l.all (fun x => decide (x ≠ []))
def cntB (l : List Bs) : Nat := (l.filter (fun x => decide (x ≠ []))).length
def joinB (l : List Bs) : Bs := l.flatten
def doneB (n : Nat) (g : Gl) (f : Fr) : Bool := decide (errB n g f = 0) && fullB (putG n g f).came
def outB (n : Nat) (g : Gl) (f : Fr) : Bs := if doneB n g f then joinB (putG n g f).came else []

/-- What holds of a glue of that size. -/
structure WG (n : Nat) (g : Gl) : Prop where
  none : g.is = false → g = g0
  len : g.is = true → g.came.length = pN n
  each : ∀ p, g.came.getD p [] = [] ∨ (p < pN n ∧ (g.came.getD p []).length = pL n p)
  inc : g.inc ≤ 65535
  seq : g.seq ≤ 4294967295
  some : g.is = true → 1 ≤ cntB g.came
theorem wg_0 (n : Nat) : WG n g0 := ⟨fun _ => rfl, fun h => by simp [g0] at h, fun p => .inl (by simp [g0]), by simp [g0], by simp [g0], fun h => by simp [g0] at h⟩

theorem getD_rep (k p : Nat) : (List.replicate k ([] : Bs)).getD p [] = [] := by
  rw [List.getD_eq_getElem?_getD, List.getElem?_replicate]
  split <;> rfl
theorem cnt_le (l : List Bs) : cntB l ≤ l.length := List.length_filter_le _ _
theorem full_cnt (l : List Bs) : fullB l = decide (cntB l = l.length) := by
  unfold fullB cntB
  rw [Bool.eq_iff_iff, List.all_eq_true, decide_eq_true_iff, List.length_filter_eq_length_iff]
theorem cnt_rep (k : Nat) : cntB (List.replicate k ([] : Bs)) = 0 := by
  unfold cntB
  rw [List.length_eq_zero_iff, List.filter_eq_nil_iff]
  intro a ha
  have := List.eq_of_mem_replicate ha
  simp [this]
theorem getD_set (l : List Bs) (p q : Nat) (b : Bs) (hp : p < l.length) : (l.set p b).getD q [] = if q = p then b else l.getD q [] := by
  rw [List.getD_eq_getElem?_getD, List.getElem?_set, List.getD_eq_getElem?_getD]
  by_cases e : p = q
  · subst e; simp [hp]
  · rw [if_neg e, if_neg (fun h => e h.symm)]
theorem cnt_set : ∀ (l : List Bs) (p : Nat) (b : Bs), p < l.length → l.getD p [] = [] → b ≠ [] → cntB (l.set p b) = cntB l + 1
  | [], _, _, h, _, _ => by simp at h
  | x :: l, 0, b, _, h0, hb => by
    have : x = [] := by simpa using h0
    subst this
    simp [cntB, hb]
  | x :: l, p + 1, b, h, h0, hb => by
    have ih := cnt_set l p b (by simpa using h) (by simpa using h0) hb
    unfold cntB at ih ⊢
    rw [List.set_cons_succ, List.filter_cons, List.filter_cons]
    split
    · rw [List.length_cons, List.length_cons, ih]
    · exact ih

theorem fresh_is {n : Nat} {g : Gl} {f : Fr} : (freshG n g f).is = true := by
  unfold freshG newerB
  cases h : g.is
  · rfl
  · by_cases h2 : numV g.inc g.seq < numV f.vinc f.vseq
    · simp [h2]
    · simp [h2, h]
theorem fresh_len {n : Nat} {g : Gl} {f : Fr} (h : WG n g) : (freshG n g f).came.length = pN n := by
  unfold freshG
  split
  · simp
  · rename_i h2
    refine h.len ?_
    unfold newerB at h2
    cases h3 : g.is
    · rw [h3] at h2; simp at h2
    · rfl
theorem err_zero {n : Nat} {g : Gl} {f : Fr} (h : errB n g f = 0) : f.kind = 4 ∧ fitsB n f = true ∧ olderB g f = false ∧ twiceB n g f = false := by
  unfold errB at h
  split at h
  · split at h
    · split at h
      · cases h
      · split at h
        · cases h
        · rename_i a b c d
          exact ⟨a, b, eq_false_of_ne_true c, eq_false_of_ne_true d⟩
    · cases h
  · cases h
theorem fits_iff {n : Nat} {f : Fr} : fitsB n f = true ↔ f.parts = pN n ∧ f.part < pN n ∧ f.bytes.length = pL n f.part := by
  unfold fitsB; rw [decide_eq_true_iff]
theorem ne_of_len {b : Bs} (h : 1 ≤ b.length) : b ≠ [] := by intro e; rw [e] at h; simp at h
theorem put_wg {n : Nat} {g : Gl} {f : Fr} (hg : WG n g) (hf : FitF f) : WG n (putG n g f) := by
  unfold putG
  split
  · rename_i h
    obtain ⟨-, hfit, hold, htw⟩ := err_zero h
    obtain ⟨h1, h2, h3⟩ := fits_iff.1 hfit
    have hl := fresh_len (f := f) hg
    have hb := (pL_bd h2).1
    have htw' : (freshG n g f).came.getD f.part [] = [] := by
      unfold twiceB at htw
      simpa using htw
    refine ⟨fun h => ?_, fun _ => ?_, fun p => ?_, ?_, ?_, fun _ => ?_⟩
    · rw [show (withB (freshG n g f) f).is = (freshG n g f).is from rfl, fresh_is] at h
      cases h
    · show ((freshG n g f).came.set f.part f.bytes).length = _
      rw [List.length_set, hl]
    · show ((freshG n g f).came.set f.part f.bytes).getD p [] = [] ∨ _ ∧ (((freshG n g f).came.set f.part f.bytes).getD p []).length = _
      rw [getD_set _ _ _ _ (by omega)]
      by_cases e : p = f.part
      · rw [if_pos e, e]; exact .inr ⟨h2, h3⟩
      · rw [if_neg e]
        unfold freshG
        split
        · exact .inl (getD_rep _ _)
        · exact hg.each p
    · show (freshG n g f).inc ≤ _
      unfold freshG; split
      · exact hf.vi
      · exact hg.inc
    · show (freshG n g f).seq ≤ _
      unfold freshG; split
      · exact hf.vs
      · exact hg.seq
    · show 1 ≤ cntB ((freshG n g f).came.set f.part f.bytes)
      rw [cnt_set _ _ _ (by omega) htw' (ne_of_len (by omega))]
      omega
  · exact hg

/-! The bits of what came. -/
def maskB : List Bs → Nat
  | [] => 0
  | x :: l => (if x = [] then 0 else 1) + 2 * maskB l
theorem mask_lt : ∀ l : List Bs, maskB l < 2 ^ l.length
  | [] => by simp [maskB]
  | x :: l => by
    have := mask_lt l
    rw [maskB, List.length_cons, Nat.pow_succ]
    split <;> omega
theorem mask_rep : ∀ k : Nat, maskB (List.replicate k ([] : Bs)) = 0
  | 0 => rfl
  | k + 1 => by rw [List.replicate_succ, maskB, if_pos rfl, mask_rep k]
theorem mask_bit : ∀ (l : List Bs) (p : Nat), (maskB l).testBit p = decide (l.getD p [] ≠ [])
  | [], p => by simp [maskB]
  | x :: l, 0 => by
    rw [maskB, Nat.testBit_zero, List.getD_cons_zero]
    by_cases h : x = []
    · simp [h]
    · simp [h]
  | x :: l, p + 1 => by
    rw [maskB, Nat.testBit_succ, List.getD_cons_succ, ← mask_bit l p]
    congr 1
    split <;> omega
theorem mask_set (l : List Bs) (p : Nat) (b : Bs) (hp : p < l.length) (hb : b ≠ []) : maskB (l.set p b) = maskB l ||| 2 ^ p := by
  apply Nat.eq_of_testBit_eq
  intro q
  rw [mask_bit, getD_set _ _ _ _ hp, Nat.testBit_or, mask_bit, Nat.testBit_two_pow]
  by_cases e : q = p
  · rw [if_pos e]; simp [e, hb]
  · rw [if_neg e]; simp [show ¬ p = q from fun h => e h.symm]
theorem mask_and (l : List Bs) (p : Nat) : (maskB l &&& 2 ^ p != 0) = decide (l.getD p [] ≠ []) := by
  have hb := mask_bit l p
  by_cases h : l.getD p [] ≠ []
  · rw [decide_eq_true h] at hb ⊢
    rw [bne_iff_ne]
    intro e
    have h2 := congrArg (fun m : Nat => m.testBit p) e
    simp only [Nat.testBit_and, hb, Nat.testBit_two_pow_self, Nat.zero_testBit] at h2
    cases h2
  · rw [decide_eq_false h] at hb ⊢
    have e : maskB l &&& 2 ^ p = 0 := by
      apply Nat.eq_of_testBit_eq
      intro q
      rw [Nat.testBit_and, Nat.testBit_two_pow, Nat.zero_testBit]
      by_cases e : p = q
      · subst e; simp [hb]
      · simp [e]
    rw [e]; rfl
theorem mask_zero {l : List Bs} : maskB l = 0 ↔ cntB l = 0 := by
  constructor
  · intro h
    unfold cntB
    rw [List.length_eq_zero_iff, List.filter_eq_nil_iff]
    intro a ha
    obtain ⟨p, hp, rfl⟩ := List.mem_iff_getElem.1 ha
    have := mask_bit l p
    rw [h] at this
    simp [hp] at this
    simp [← this]
  · intro h
    apply Nat.eq_of_testBit_eq
    intro p
    rw [mask_bit, Nat.zero_testBit]
    unfold cntB at h
    rw [List.length_eq_zero_iff, List.filter_eq_nil_iff] at h
    by_cases hp : p < l.length
    · have := h l[p] (List.getElem_mem hp)
      simpa [hp] using this
    · simp [Nat.le_of_not_lt hp]
/-- How many of the first eight bits are set. -/
def popN (m : Nat) : Nat := ((List.range 8).filter fun i => m.testBit i).length
theorem filter_range (l : List Bs) : ∀ k, l.length ≤ k → ((List.range k).filter fun i => decide (l.getD i [] ≠ [])).length = cntB l := by
  induction l with
  | nil =>
    intro k _
    show _ = 0
    rw [List.length_eq_zero_iff, List.filter_eq_nil_iff]
    intro a _
    simp
  | cons x l ih =>
    intro k hk
    match k, hk with
    | k + 1, hk =>
      have := ih k (by simpa using hk)
      rw [List.range_succ_eq_map, List.filter_cons, List.filter_map]
      have e : ((List.range k).filter ((fun i => decide ((x :: l).getD i [] ≠ [])) ∘ Nat.succ)) = (List.range k).filter fun i => decide (l.getD i [] ≠ []) := by
        apply List.filter_congr
        intro i _
        simp
      rw [e, List.getD_cons_zero]
      unfold cntB at this ⊢
      rw [List.filter_cons]
      by_cases hx : x = []
      · simp only [hx, ne_eq, not_true_eq_false, decide_false, Bool.false_eq_true, if_false]
        rw [List.length_map, this]
      · simp only [hx, ne_eq, not_false_eq_true, decide_true, if_true]
        rw [List.length_cons, List.length_cons, List.length_map, this]
theorem pop_mask (l : List Bs) (h : l.length ≤ 8) : popN (maskB l) = cntB l := by
  unfold popN
  rw [← filter_range l 8 h]
  congr 1
  apply List.filter_congr
  intro i _
  rw [mask_bit]

/-! The value of parts that all came. -/
theorem full_at {l : List Bs} (h : fullB l = true) {p : Nat} (hp : p < l.length) : l.getD p [] ≠ [] := by
  unfold fullB at h
  rw [List.all_eq_true] at h
  have := h l[p] (List.getElem_mem hp)
  rw [List.getD_eq_getElem?_getD, List.getElem?_eq_getElem hp]
  simpa using this
theorem join_len : ∀ (k n : Nat) (l : List Bs), l.length = k → k = pN n → (∀ p, p < k → (l.getD p []).length = pL n p) → (joinB l).length = n
  | 0, n, l, hl, hk, _ => by
    have : l = [] := List.length_eq_zero_iff.1 hl
    subst this
    unfold pN at hk
    show 0 = n
    omega
  | k + 1, n, [], hl, _, _ => by simp at hl
  | k + 1, n, x :: l, hl, hk, h => by
    have h0 := h 0 (by omega)
    have hx : x.length = pL n 0 := by simpa using h0
    have ih := join_len k (n - 16) l (by simpa using hl) (by unfold pN at hk ⊢; omega) (fun p hp => by
      have := h (p + 1) (by omega)
      rw [List.getD_cons_succ] at this
      rw [this]
      unfold pL; omega)
    show (x ++ joinB l).length = n
    rw [List.length_append, ih, hx]
    unfold pL; unfold pN at hk
    omega
theorem join_at : ∀ (k n : Nat) (l : List Bs), l.length = k → k = pN n → (∀ p, p < k → (l.getD p []).length = pL n p) → ∀ i, i < n → (joinB l)[i]? = (l.getD (i / 16) [])[i % 16]?
  | 0, n, l, hl, hk, _, i, hi => by unfold pN at hk; omega
  | k + 1, n, [], hl, _, _, _, _ => by simp at hl
  | k + 1, n, x :: l, hl, hk, h, i, hi => by
    have h0 := h 0 (by omega)
    have hx : x.length = pL n 0 := by simpa using h0
    have ih := join_at k (n - 16) l (by simpa using hl) (by unfold pN at hk ⊢; omega) (fun p hp => by
      have := h (p + 1) (by omega)
      rw [List.getD_cons_succ] at this
      rw [this]
      unfold pL; omega) (i - 16)
    show (x ++ joinB l)[i]? = _
    unfold pL at hx
    by_cases h16 : i < 16
    · rw [List.getElem?_append_left (by omega), show i / 16 = 0 by omega, show i % 16 = i by omega]
      simp
    · rw [List.getElem?_append_right (by omega), show i - x.length = i - 16 by omega, ih (by omega), show i / 16 = (i - 16) / 16 + 1 by omega, List.getD_cons_succ, show i % 16 = (i - 16) % 16 by omega]
end Go.Proofs.Ytbfjimbffpkkhaa.Pa
