/-
  Parts that come one behind the other: plain facts. Conditions: none.
-/
import Derived.Test.YtbfjimbffpkkhaaGdWhMath
namespace Go.Proofs.Ytbfjimbffpkkhaa.Pa
open Go.RowKit

def stp (n : Nat) (x : Pb × Sb) : Pb × Sb := (nxP 1 x.1, putS n x.2 (nxF 1 x.1))
def allN (n : Nat) : Nat → Pb × Sb → Pb × Sb
  | 0, x => x
  | c + 1, x => stp n (allN n c x)
theorem all_add (n c d : Nat) (x : Pb × Sb) : allN n (c + d) x = allN n d (allN n c x) := by
  induction d with
  | zero => rfl
  | succ d ih => rw [← Nat.add_assoc, allN, allN, ih]
/-- No value is whole that doesn't wait. -/
def Fl (s : Sb) : Prop := s.gl.is = true → fullB s.gl.came = true → s.waits = true ∧ s.bi = s.gl.inc ∧ s.bs = s.gl.seq
structure Cm (n k : Nat) (P : Pb) (s : Sb) : Prop where
  wi : ∃ went m, Wi n k 1 P s went m (0, 0)
  full : Fl s
theorem cm_first {n : Nat} (begin : Bs) (h1 : 1 ≤ n) (h2 : n ≤ 64) : Cm n 0 pb0 (sb0 begin) := ⟨⟨_, _, wi_first h1 h2⟩, fun h => by simp [sb0, g0] at h⟩
theorem cm_com {n k : Nat} {P : Pb} {s : Sb} (h : Cm n k P s) {v : Bs} (hv : v.length = n) (hk : k ≤ 1000) : comE n P v = 0 ∧ Cm n (k + 1) (comP n P v) s := by
  obtain ⟨went, m, hw⟩ := h.wi
  obtain ⟨h1, h2⟩ := wi_com hw hv hk
  exact ⟨h1, ⟨_, _, h2⟩, h.full⟩
theorem fresh_ver {n : Nat} {g : Gl} {f : Fr} (hs : g.seq ≤ 4294967295) (hf : f.vseq ≤ 4294967295) (ho : olderB g f = false) : (freshG n g f).inc = f.vinc ∧ (freshG n g f).seq = f.vseq ∧ (newerB g f = false → g.is = true ∧ g.inc = f.vinc ∧ g.seq = f.vseq) := by
  by_cases hnw : newerB g f = true
  · have hfr : freshG n g f = ⟨true, f.vinc, f.vseq, List.replicate (pN n) []⟩ := by unfold freshG; rw [if_pos hnw]
    rw [hfr]
    exact ⟨rfl, rfl, fun h => by rw [hnw] at h; cases h⟩
  · have hfr : freshG n g f = g := by unfold freshG; rw [if_neg hnw]
    have hi : g.is = true := by
      cases hi : g.is
      · exact absurd (by unfold newerB; rw [hi, Bool.not_false, Bool.true_or]) hnw
      · rfl
    unfold newerB at hnw
    rw [hi, Bool.not_true, Bool.false_or, decide_eq_true_iff] at hnw
    unfold olderB at ho
    rw [hi, Bool.true_and, decide_eq_false_iff_not] at ho
    obtain ⟨e1, e2⟩ := numV_inj (i := g.inc) (j := f.vinc) hs hf (by omega)
    rw [hfr]
    exact ⟨e1, e2, fun _ => ⟨hi, e1, e2⟩⟩
theorem fl_put {n : Nat} {s : Sb} {f : Fr} (h : Fl s) (hs : s.gl.seq ≤ 4294967295) (hf : f.vseq ≤ 4294967295) : Fl (putS n s f) := by
  intro hi hfu
  have hi : (putG n s.gl f).is = true := hi
  have hfu : fullB (putG n s.gl f).came = true := hfu
  by_cases he : errB n s.gl f = 0
  · obtain ⟨-, -, hold, -⟩ := err_zero he
    have hpg : putG n s.gl f = withB (freshG n s.gl f) f := by unfold putG; rw [if_pos he]
    obtain ⟨v1, v2, -⟩ := fresh_ver (n := n) hs hf hold
    have hd : doneB n s.gl f = true := by unfold doneB; rw [he, hfu]; rfl
    show (s.waits || doneB n s.gl f) = true ∧ (if doneB n s.gl f then f.vinc else s.bi) = (putG n s.gl f).inc ∧ (if doneB n s.gl f then f.vseq else s.bs) = (putG n s.gl f).seq
    rw [hd, if_pos rfl, if_pos rfl, hpg]
    exact ⟨Bool.or_true _, v1.symm, v2.symm⟩
  · have hpg : putG n s.gl f = s.gl := by unfold putG; rw [if_neg he]
    have hd : doneB n s.gl f = false := by unfold doneB; simp [he]
    rw [hpg] at hi hfu
    obtain ⟨a, b, c⟩ := h hi hfu
    show (s.waits || doneB n s.gl f) = true ∧ (if doneB n s.gl f then f.vinc else s.bi) = (putG n s.gl f).inc ∧ (if doneB n s.gl f then f.vseq else s.bs) = (putG n s.gl f).seq
    rw [hd, hpg, Bool.or_false]
    exact ⟨a, b, c⟩
theorem cm_stp {n k : Nat} {P : Pb} {s : Sb} (h : Cm n k P s) (hs : 1 ≤ P.seq) : (errB n s.gl (nxF 1 P) = 0 ∨ errB n s.gl (nxF 1 P) = 1 ∨ errB n s.gl (nxF 1 P) = 14) ∧ Cm n (k + 2) (nxP 1 P) (putS n s (nxF 1 P)) := by
  obtain ⟨went, m, hw⟩ := h.wi
  have h1 := wi_nx hw
  rw [if_pos (by omega)] at h1
  have hmem : nxF 1 P ∈ went ++ [nxF 1 P] := by simp
  have h2 := wi_put h1 hmem
  have hfit := (h1.wnt _ hmem).2.fit
  refine ⟨?_, ⟨_, _, h2⟩, fl_put h.full hw.ws.gl.seq hfit.vs⟩
  obtain ⟨i, q, v, p, hl, hvl, hp, e⟩ := (h1.wnt _ hmem).1
  have hn := hw.wp.n64
  rw [e]
  have hfits : fitsB n (spF (frW i q) v p) = true := by
    have := sp_fits (f := frW i q) (v := v) (p := p) (by omega) (by rw [hvl]; exact hp)
    rwa [hvl] at this
  have hE : errB n s.gl (spF (frW i q) v p) = if olderB s.gl (spF (frW i q) v p) then 1 else if twiceB n s.gl (spF (frW i q) v p) then 14 else 0 := by
    unfold errB
    rw [if_pos (show (spF (frW i q) v p).kind = 4 from rfl), if_pos hfits]
  rw [hE]
  split
  · exact .inr (.inl rfl)
  · split
    · exact .inr (.inr rfl)
    · exact .inl rfl
theorem nx_same {P : Pb} : (nxP 1 P).seq = P.seq ∧ (nxP 1 P).last = P.last := by unfold nxP; split <;> exact ⟨rfl, rfl⟩
theorem cm_all {n k : Nat} {P : Pb} {s : Sb} (h : Cm n k P s) (hs : 1 ≤ P.seq) : ∀ c, Cm n (k + 2 * c) (allN n c (P, s)).1 (allN n c (P, s)).2 ∧ (allN n c (P, s)).1.seq = P.seq ∧ (allN n c (P, s)).1.last = P.last
  | 0 => ⟨h, rfl, rfl⟩
  | c + 1 => by
    obtain ⟨h1, h2, h3⟩ := cm_all h hs c
    have h4 := (cm_stp h1 (by omega)).2
    refine ⟨?_, ?_, ?_⟩
    · show Cm n (k + 2 * (c + 1)) (nxP 1 (allN n c (P, s)).1) (putS n (allN n c (P, s)).2 (nxF 1 (allN n c (P, s)).1))
      rw [show k + 2 * (c + 1) = k + 2 * c + 2 by omega]
      exact h4
    · show (nxP 1 (allN n c (P, s)).1).seq = _
      rw [nx_same.1, h2]
    · show (nxP 1 (allN n c (P, s)).1).last = _
      rw [nx_same.2, h3]
/-- Behind as many parts as are left nothing is under way. -/
theorem all_left {n : Nat} : ∀ (c : Nat) (P : Pb) (s : Sb), 1 ≤ P.seq → c ≤ P.way.length → (allN n c (P, s)).1.way = P.way.drop c
  | 0, P, s, _, _ => rfl
  | c + 1, P, s, hs, hc => by
    have ih := all_left (n := n) c P s hs (by omega)
    have h2 : (allN n c (P, s)).1.seq = P.seq := by
      clear ih hc
      induction c with
      | zero => rfl
      | succ c ih =>
        show (nxP 1 (allN n c (P, s)).1).seq = _
        rw [nx_same.1, ih]
    show (nxP 1 (allN n c (P, s)).1).way = _
    have hne : (allN n c (P, s)).1.way ≠ [] := by
      rw [ih]
      intro e
      have := congrArg List.length e
      rw [List.length_drop] at this
      simp at this
      omega
    unfold nxP
    rw [if_neg (by omega)]
    show (wayOf 1 (allN n c (P, s)).1).tail = _
    unfold wayOf
    rw [if_neg hne, ih, List.tail_drop]
/-- The glue, when parts 0 to j - 1 of the newest value have come. -/
structure Fn (n j : Nat) (P : Pb) (P' : Pb) (s : Sb) : Prop where
  seq : P'.seq = P.seq
  last : P'.last = P.last
  way : P'.way = (spL (frW 1 P.seq) P.last (pN n)).drop j
  is : s.gl.is = true
  inc : s.gl.inc = 1
  sq : s.gl.seq = P.seq
  came : ∀ p, p < j → s.gl.came.getD p [] ≠ []
theorem fin_put {n q j : Nat} {v : Bs} {g : Gl} (hg : WG n g) (hn : n ≤ 64) (hv : v.length = n) (hj : j < pN n) (hq : q ≤ 4294967295) (ho : olderB g (spF (frW 1 q) v j) = false) :
    (putG n g (spF (frW 1 q) v j)).is = true ∧ (putG n g (spF (frW 1 q) v j)).inc = 1 ∧ (putG n g (spF (frW 1 q) v j)).seq = q ∧ (putG n g (spF (frW 1 q) v j)).came.getD j [] ≠ [] ∧
    ∀ p, g.is = true → g.inc = 1 → g.seq = q → g.came.getD p [] ≠ [] → (putG n g (spF (frW 1 q) v j)).came.getD p [] ≠ [] := by
  have hfits : fitsB n (spF (frW 1 q) v j) = true := by
    have := sp_fits (f := frW 1 q) (v := v) (p := j) (by omega) (by rw [hv]; exact hj)
    rwa [hv] at this
  obtain ⟨v1, v2, v3⟩ := fresh_ver (n := n) (f := spF (frW 1 q) v j) hg.seq hq ho
  have v1 : (freshG n g (spF (frW 1 q) v j)).inc = 1 := v1
  have v2 : (freshG n g (spF (frW 1 q) v j)).seq = q := v2
  have hlen := fresh_len (f := spF (frW 1 q) v j) hg
  have hE : errB n g (spF (frW 1 q) v j) = if twiceB n g (spF (frW 1 q) v j) then 14 else 0 := by
    unfold errB
    rw [if_pos (show (spF (frW 1 q) v j).kind = 4 from rfl), if_pos hfits, ho]
    rfl
  cases ht : twiceB n g (spF (frW 1 q) v j)
  · rw [ht, if_neg (by decide)] at hE
    have hpg : putG n g (spF (frW 1 q) v j) = withB (freshG n g (spF (frW 1 q) v j)) (spF (frW 1 q) v j) := by unfold putG; rw [if_pos hE]
    have hset : ∀ p, (putG n g (spF (frW 1 q) v j)).came.getD p [] = if p = j then pcL v j else (freshG n g (spF (frW 1 q) v j)).came.getD p [] := fun p => by
      rw [hpg]
      show ((freshG n g (spF (frW 1 q) v j)).came.set j (pcL v j)).getD p [] = _
      rw [getD_set _ _ _ _ (by omega)]
    have hne : pcL v j ≠ [] := pc_ne (by rw [hv]; exact hj)
    refine ⟨by rw [hpg]; exact fresh_is, by rw [hpg]; exact v1, by rw [hpg]; exact v2, by rw [hset, if_pos rfl]; exact hne, fun p hi h1 h2 h3 => ?_⟩
    rw [hset]
    split
    · exact hne
    · have hnw : newerB g (spF (frW 1 q) v j) = false := by
        unfold newerB
        rw [hi, Bool.not_true, Bool.false_or]
        refine decide_eq_false ?_
        show ¬ numV g.inc g.seq < numV 1 q
        rw [h1, h2]
        exact Nat.lt_irrefl _
      have hfr : freshG n g (spF (frW 1 q) v j) = g := by unfold freshG; rw [hnw]; rfl
      rw [hfr]
      exact h3
  · rw [ht, if_pos rfl] at hE
    have hpg : putG n g (spF (frW 1 q) v j) = g := by unfold putG; rw [if_neg (by omega)]
    have hcj : (freshG n g (spF (frW 1 q) v j)).came.getD j [] ≠ [] := by
      unfold twiceB at ht
      exact of_decide_eq_true ht
    have hnw : newerB g (spF (frW 1 q) v j) = false := by
      cases hnw : newerB g (spF (frW 1 q) v j)
      · rfl
      · exfalso
        apply hcj
        unfold freshG
        rw [if_pos hnw]
        exact getD_rep _ _
    have hfr : freshG n g (spF (frW 1 q) v j) = g := by unfold freshG; rw [hnw]; rfl
    obtain ⟨a, b, c⟩ := v3 hnw
    rw [hfr] at hcj
    rw [hpg]
    exact ⟨a, b, c, hcj, fun p _ _ _ h => h⟩
theorem cm_older {n k : Nat} {P : Pb} {s : Sb} (h : Cm n k P s) {v : Bs} {j : Nat} : olderB s.gl (spF (frW 1 P.seq) v j) = false := by
  obtain ⟨went, m, hw⟩ := h.wi
  cases hi : s.gl.is
  · unfold olderB; rw [hi]; rfl
  · obtain ⟨u, h1, -, -⟩ := hw.glue hi
    unfold olderB
    rw [hi, Bool.true_and]
    refine decide_eq_false ?_
    show ¬ numV 1 P.seq < numV s.gl.inc s.gl.seq
    have hb := hw.ws.gl.seq
    have hk := hw.keys _ (look_mem h1)
    rcases hk with e | ⟨e1, e2⟩
    · injection e with e1 e2
      rw [e1, e2]
      unfold numV
      omega
    · have e1 : s.gl.inc ≤ 1 := e1
      have e2 : s.gl.inc = 1 → s.gl.seq ≤ P.seq := e2
      unfold numV
      by_cases e3 : s.gl.inc = 1
      · have := e2 e3
        rw [e3]
        omega
      · have : s.gl.inc = 0 := by omega
        rw [this]
        omega
theorem fn_all {n k : Nat} {P : Pb} {s : Sb} (h : Cm n k P s) (hs : 1 ≤ P.seq) (hw : P.way = []) : ∀ j, j < pN n → Fn n (j + 1) P (allN n (j + 1) (P, s)).1 (allN n (j + 1) (P, s)).2 := by
  obtain ⟨went, m, hwi⟩ := h.wi
  have hn := hwi.wp.n64
  have hn1 := hwi.wp.n1
  have hl : P.last.length = n := hwi.wp.len hs
  have hq := hwi.wp.seq
  have hsp : ∀ i, i < pN n → (spL (frW 1 P.seq) P.last (pN n))[i]? = some (spF (frW 1 P.seq) P.last i) := fun i hi => by
    unfold spL
    rw [List.getElem?_map, List.getElem?_range hi]
    rfl
  have hnp : nP P.last = pN n := by rw [nP_pN (by omega), hl]
  have hlen : (spL (frW 1 P.seq) P.last (pN n)).length = pN n := sp_len _ _ _
  have step : ∀ (j : Nat) (P' : Pb) (s' : Sb), Cm n (k + 2 * j) P' s' → P'.seq = P.seq → P'.last = P.last → j < pN n → wayOf 1 P' = (spL (frW 1 P.seq) P.last (pN n)).drop j → (∀ p, p < j → s'.gl.is = true ∧ s'.gl.inc = 1 ∧ s'.gl.seq = P.seq ∧ s'.gl.came.getD p [] ≠ []) → Fn n (j + 1) P (nxP 1 P') (putS n s' (nxF 1 P')) := by
    intro j P' s' hc e1 e2 hj hwy hca
    have hF : nxF 1 P' = spF (frW 1 P.seq) P.last j := by
      unfold nxF
      rw [if_neg (by omega), hwy, List.headD_eq_head?_getD, List.head?_drop, hsp j hj]
      rfl
    have ho : olderB s'.gl (spF (frW 1 P.seq) P.last j) = false := by
      have := cm_older hc (v := P.last) (j := j)
      rwa [e1] at this
    obtain ⟨w2, m2, hw2⟩ := hc.wi
    obtain ⟨a, b, c, d, e⟩ := fin_put hw2.ws.gl hn hl hj hq ho
    refine ⟨nx_same.1.trans e1, nx_same.2.trans e2, ?_, ?_, ?_, ?_, fun p hp => ?_⟩
    · unfold nxP
      rw [if_neg (by omega)]
      show (wayOf 1 P').tail = _
      rw [hwy, List.tail_drop]
    · rw [hF]; exact a
    · rw [hF]; exact b
    · rw [hF]; exact c
    · rw [hF]
      by_cases hpj : p = j
      · rw [hpj]; exact d
      · obtain ⟨x1, x2, x3, x4⟩ := hca p (by omega)
        exact e p x1 x2 x3 x4
  intro j
  induction j with
  | zero =>
    intro hj
    refine step 0 P s h rfl rfl hj ?_ (fun p hp => absurd hp (by omega))
    unfold wayOf
    rw [if_pos hw, hnp]
    rfl
  | succ j ih =>
    intro hj
    have hf := ih (by omega)
    have hc := (cm_all h hs (j + 1)).1
    refine step (j + 1) _ _ hc hf.seq hf.last hj ?_ (fun p hp => ⟨hf.is, hf.inc, hf.sq, hf.came p hp⟩)
    unfold wayOf
    rw [if_neg ?_, hf.way]
    rw [hf.way]
    intro e
    have := congrArg List.length e
    rw [List.length_drop, hlen] at this
    simp at this
    omega
/-- Behind all parts of the newest value it waits. -/
theorem all_end {n k : Nat} {P : Pb} {s : Sb} (h : Cm n k P s) (hs : 1 ≤ P.seq) (hw : P.way = []) : (allN n (pN n) (P, s)).2.waits = true ∧ (allN n (pN n) (P, s)).2.bi = 1 ∧ (allN n (pN n) (P, s)).2.bs = P.seq ∧ (allN n (pN n) (P, s)).2.beh = P.last := by
  obtain ⟨went, m, hwi⟩ := h.wi
  have hp := (pN_bd hwi.wp.n1 hwi.wp.n64).1
  have hf := fn_all h hs hw (pN n - 1) (by omega)
  rw [show pN n - 1 + 1 = pN n by omega] at hf
  obtain ⟨hc, e1, e2⟩ := cm_all h hs (pN n)
  obtain ⟨w2, m2, hw2⟩ := hc.wi
  have hlen := hw2.ws.gl.len hf.is
  have hfull : fullB (allN n (pN n) (P, s)).2.gl.came = true := by
    unfold fullB
    rw [List.all_eq_true]
    intro x hx
    obtain ⟨i, hi, rfl⟩ := List.mem_iff_getElem.1 hx
    have := hf.came i (by omega)
    rw [List.getD_eq_getElem?_getD, List.getElem?_eq_getElem hi] at this
    exact decide_eq_true this
  obtain ⟨a, b, c⟩ := hc.full hf.is hfull
  rw [hf.inc] at b
  rw [hf.sq] at c
  refine ⟨a, b, c, ?_⟩
  have h1 := (hw2.beh a).1
  rw [b, c] at h1
  have h2 := hw2.lst (by omega)
  rw [e1, e2, h1] at h2
  injection h2
end Go.Proofs.Ytbfjimbffpkkhaa.Pa
