/-
  Plain facts on which programs may run: what is ahead of each instruction, and the first error. No program is named here. Conditions: none.
-/
import Derived.Test.YtmlopacekoghkaaIlP
namespace Go.Proofs.Ytmlopacekoghkaa.Ve
open Go.Proofs.Ytmlopacekoghkaa.Il Go.Proofs.Ytmlopacekoghkaa.Ic

abbrev Br := List (Int × Int)
/-- What is ahead of an instruction: is it reached, the result's kind, the open brackets. -/
structure Ah where
  on : Bool
  kd : Int
  br : Br
def ah0 : Ah := ⟨false, 0, []⟩
def ah1 : Ah := ⟨true, 0, []⟩
def lastB (l : Br) : Int × Int := l.getLastD (0, 0)
def retB (op : Int) : Bool := decide (28 ≤ op ∧ op ≤ 30)
def ordB (op : Int) : Bool := decide (19 ≤ op ∧ op ≤ 24)
def onB (op : Int) : Bool := decide (op ≠ 25 ∧ op ≠ 28)
/-- The kind that an operation makes. -/
def madeI (op kd : Int) : Int := if ordB op then 1 else kd
/-- Are the result and the kind such as an instruction asks for? -/
def fitB (i : In) (a : Ah) : Bool :=
  if i.op = 1 ∨ i.op = 25 ∨ i.op = 28 then true
  else if i.op = 2 then mayI 13 i.kd
  else if i.op = 3 then decide (a.kd = i.kd)
  else if i.op = 4 then decide (a.kd = i.kd) && mayI 13 i.kd
  else if i.op = 5 ∨ i.op = 6 then decide (a.kd = 1) && decide (i.kd = 1)
  else if i.op = 13 then mayI 13 a.kd
  else if i.op = 31 then decide (a.kd ≠ 0)
  else if i.op = 32 then mayI i.pl a.kd
  else if i.op = 33 then decide (a.kd = (lastB a.br).2)
  else if i.op = 26 ∨ i.op = 27 ∨ i.op = 29 ∨ i.op = 30 ∨ i.op = 34 ∨ i.op = 35 ∨ i.op = 36 then decide (a.kd = 1)
  else decide (a.kd = i.kd) && mayI i.op i.kd
def refB (i : In) (a : Ah) : Nat :=
  if i.op = 33 ∧ a.br.length = 0 then 3
  else if fitB i a = false then 6
  else if i.op = 32 ∧ a.br.length = 8 then 8
  else if retB i.op = true ∧ 0 < a.br.length then 3
  else 0
def farB (i : In) (k n : Nat) : Bool := jumpB i.op && (decide (i.pl ≤ k) || decide ((n : Int) < i.pl))
/-- The error of an instruction that is reached; 0: none. -/
def errB (i : In) (k n : Nat) (a : Ah) : Nat := if farB i k n = true then 7 else refB i a
/-- What is behind it. -/
def nextB (i : In) (a : Ah) : Ah :=
  if i.op = 1 ∨ i.op = 2 ∨ i.op = 31 then ⟨a.on, i.kd, a.br⟩
  else if i.op = 32 then ⟨a.on, 0, a.br ++ [(i.pl, a.kd)]⟩
  else if i.op = 33 then ⟨a.on, madeI (lastB a.br).1 (lastB a.br).2, a.br.dropLast⟩
  else ⟨a.on, madeI i.op a.kd, a.br⟩
def joinK (a b : Ah) : Ah := if a.on then ⟨true, if a.kd = b.kd then a.kd else 0, a.br⟩ else b
def joinO (a b : Ah) : Bool := !a.on || decide (a.br = b.br)
def gt (l : List Ah) (k : Nat) : Ah := l.getD k ah0
/-- One more that leads to k. -/
def putB (l : List Ah) (k : Nat) (b : Ah) : List Ah := l.set k (joinK (gt l k) b)
def goOn (i : In) (k : Nat) (l : List Ah) (b : Ah) : List Ah := if onB i.op then putB l (k + 1) b else l
def goTo (i : In) (l : List Ah) (b : Ah) : List Ah := if jumpB i.op then putB l i.pl.toNat b else l
/-- One instruction: the error, and what is ahead of all. -/
def stepB (i : In) (k n : Nat) (l : List Ah) : Nat × List Ah :=
  if rightI i = false then (3, l)
  else if (gt l k).on = false then (0, l)
  else if errB i k n (gt l k) ≠ 0 then (errB i k n (gt l k), l)
  else if (onB i.op && !joinO (gt l (k + 1)) (nextB i (gt l k))) = true then (7, l)
  else if (jumpB i.op && !joinO (gt (goOn i k l (nextB i (gt l k))) i.pl.toNat) (nextB i (gt l k))) = true then (7, l)
  else (0, goTo i (goOn i k l (nextB i (gt l k))) (nextB i (gt l k)))
def firstB (n : Nat) : List Ah := ah1 :: List.replicate n ah0
abbrev Run := Except (Nat × Nat) (List Ah)
def oneB (c : List In) (k : Nat) (r : Run) : Run :=
  match r with
  | .error e => .error e
  | .ok l => match c[k]? with
    | none => .ok l
    | some i => if (stepB i k c.length l).1 = 0 then .ok (stepB i k c.length l).2 else .error ((stepB i k c.length l).1, k)
def runB (c : List In) : Nat → Run
  | 0 => .ok (firstB c.length)
  | k + 1 => oneB c k (runB c k)
/-- What is ahead of all, and of the end; or the first error, and where. -/
def allB (c : List In) : Run :=
  if 200 < c.length then .error (2, 200)
  else match runB c c.length with
    | .error e => .error e
    | .ok l => if (gt l c.length).br.length = 0 then .ok l else .error (3, c.length)

/-! ### What is ahead is well formed -/
structure Wf (a : Ah) : Prop where
  len : a.br.length ≤ 8
  br : ∀ x ∈ a.br, (7 ≤ x.1 ∧ x.1 ≤ 24) ∧ (1 ≤ x.2 ∧ x.2 ≤ 7)
  off : a.on = false → a.kd = 0 ∧ a.br = []
  kd : 0 ≤ a.kd ∧ a.kd ≤ 7
def WfL (l : List Ah) : Prop := ∀ k, Wf (gt l k)
theorem wf0 : Wf ah0 := ⟨by decide, fun x h => by simp [ah0] at h, fun _ => ⟨rfl, rfl⟩, by decide⟩
theorem wf1 : Wf ah1 := ⟨by decide, fun x h => by simp [ah1] at h, fun h => by simp [ah1] at h, by decide⟩
theorem gt_set (l : List Ah) (j k : Nat) (x : Ah) : gt (l.set j x) k = if j = k ∧ k < l.length then x else gt l k := by
  unfold gt
  simp only [List.getD_eq_getElem?_getD, List.getElem?_set]
  by_cases h : j = k
  · subst h
    by_cases h2 : j < l.length
    · simp [h2]
    · simp [h2]
  · simp [h]
theorem gt_over {l : List Ah} {k : Nat} (h : l.length ≤ k) : gt l k = ah0 := by
  unfold gt
  rw [List.getD_eq_getElem?_getD, List.getElem?_eq_none h]; rfl
theorem gt_some {l : List Ah} {k : Nat} (h : k < l.length) : l[k]? = some (gt l k) := by
  unfold gt
  rw [List.getD_eq_getElem?_getD, List.getElem?_eq_getElem h]; rfl
theorem gt_first (n k : Nat) : gt (firstB n) k = if k = 0 then ah1 else ah0 := by
  cases k with
  | zero => rfl
  | succ k =>
    unfold gt firstB
    rw [if_neg (by omega), List.getD_eq_getElem?_getD, List.getElem?_cons_succ, List.getElem?_replicate]
    split <;> rfl
theorem first_len (n : Nat) : (firstB n).length = n + 1 := by unfold firstB; simp
theorem wf_first (n : Nat) : WfL (firstB n) := fun k => by
  rw [gt_first]
  split
  · exact wf1
  · exact wf0
theorem put_len (l : List Ah) (k : Nat) (b : Ah) : (putB l k b).length = l.length := by unfold putB; simp
theorem on_len (i : In) (k : Nat) (l : List Ah) (b : Ah) : (goOn i k l b).length = l.length := by unfold goOn; split; exact put_len _ _ _; rfl
theorem to_len (i : In) (l : List Ah) (b : Ah) : (goTo i l b).length = l.length := by unfold goTo; split; exact put_len _ _ _; rfl
theorem wf_join {a b : Ah} (ha : Wf a) (hb : Wf b) : Wf (joinK a b) := by
  unfold joinK
  split
  · refine ⟨ha.len, ha.br, fun h => by simp at h, ?_⟩
    have := ha.kd
    dsimp only
    split <;> omega
  · exact hb
theorem wf_put {l : List Ah} {b : Ah} (k : Nat) (hl : WfL l) (hb : Wf b) : WfL (putB l k b) := fun j => by
  unfold putB
  rw [gt_set]
  split
  · exact wf_join (hl k) hb
  · exact hl j
theorem wf_on {i : In} {k : Nat} {l : List Ah} {b : Ah} (hl : WfL l) (hb : Wf b) : WfL (goOn i k l b) := by
  unfold goOn; split
  · exact wf_put _ hl hb
  · exact hl
theorem wf_to {i : In} {l : List Ah} {b : Ah} (hl : WfL l) (hb : Wf b) : WfL (goTo i l b) := by
  unfold goTo; split
  · exact wf_put _ hl hb
  · exact hl

theorem right_kd {i : In} (h : rightI i = true) (ho : i.op = 1 ∨ i.op = 2 ∨ i.op = 31) : 1 ≤ i.kd ∧ i.kd ≤ 7 := by
  rw [← sz_iff]
  have hr : ∀ {p : Prop}, writesB i.op = true ∨ jumpB i.op = true ∨ bareB i.op = true ∨ i.op = 33 ∨ i.op = 32 ∨ (i.op = 34 ∨ i.op = 35) ∨ i.op = 36 → p := by
    intro p h
    unfold writesB jumpB bareB at h
    simp only [decide_eq_true_eq] at h
    omega
  cases right_way h with
  | lit h ha hp hn => unfold isI at hn; rw [decide_eq_true_iff] at hn; exact hn.1
  | get h h1 h4 ht hn => unfold thereB at ht; rw [decide_eq_true_iff] at ht; exact ht.1
  | put h => exact hr (.inl h)
  | jump h => exact hr (.inr (.inl h))
  | bare h => exact hr (.inr (.inr (.inl h)))
  | close h => exact hr (.inr (.inr (.inr (.inl h))))
  | conv h hk => exact hk
  | opens h => exact hr (.inr (.inr (.inr (.inr (.inl h)))))
  | timer h => exact hr (.inr (.inr (.inr (.inr (.inr (.inl h))))))
  | trig h => exact hr (.inr (.inr (.inr (.inr (.inr (.inr h))))))
theorem right_op {i : In} (h : rightI i = true) : 1 ≤ i.op ∧ i.op ≤ 36 := by
  cases right_way h with
  | lit h => unfold readsB at h; rw [decide_eq_true_iff] at h; omega
  | get h => unfold readsB at h; rw [decide_eq_true_iff] at h; omega
  | put h => unfold writesB at h; rw [decide_eq_true_iff] at h; omega
  | jump h => unfold jumpB at h; rw [decide_eq_true_iff] at h; omega
  | bare h => unfold bareB at h; rw [decide_eq_true_iff] at h; omega
  | close h => omega
  | conv h => omega
  | opens h => omega
  | timer h => omega
  | trig h => omega
/-- An instruction with an area: its bytes lie within. -/
theorem right_area {i : In} (h : rightI i = true) (ha : i.ar ≠ 0) : 1 ≤ i.ar ∧ i.ar ≤ 4 ∧ 0 ≤ i.pl ∧ ((34 ≤ i.op ∧ i.op ≤ 35 ∧ i.pl ≤ 59) ∨ (i.op = 36 ∧ i.pl ≤ 63) ∨ (i.op < 34 ∧ i.pl + szI i.kd ≤ 64)) := by
  cases right_way h with
  | lit h h2 => exact absurd h2 ha
  | get h h1 h4 ht hn => unfold readsB at h; unfold thereB at ht; rw [decide_eq_true_iff] at h ht; omega
  | put h h1 h4 ht hn => unfold writesB at h; unfold thereB at ht; rw [decide_eq_true_iff] at h ht; omega
  | jump h _ h2 => exact absurd h2 ha
  | bare h _ h2 => exact absurd h2 ha
  | close h _ h2 => exact absurd h2 ha
  | conv h _ h2 => exact absurd h2 ha
  | opens h _ h2 => exact absurd h2 ha
  | timer h _ h3 h4 h0 h1 => omega
  | trig h _ h3 h4 h0 h1 => omega
theorem right_jump {i : In} (h : rightI i = true) (hj : jumpB i.op = true) : 0 ≤ i.pl ∧ i.pl ≤ 200 := by
  unfold jumpB at hj
  rw [decide_eq_true_iff] at hj
  cases right_way h with
  | lit h => unfold readsB at h; rw [decide_eq_true_iff] at h; omega
  | get h => unfold readsB at h; rw [decide_eq_true_iff] at h; omega
  | put h => unfold writesB at h; rw [decide_eq_true_iff] at h; omega
  | jump h _ _ h0 h1 => exact ⟨h0, h1⟩
  | bare h => unfold bareB at h; rw [decide_eq_true_iff] at h; omega
  | close h => omega
  | conv h => omega
  | opens h => omega
  | timer h => omega
  | trig h => omega
theorem may_kd {o k : Int} (h : mayI o k = true) : (7 ≤ o ∧ o ≤ 24) ∧ (1 ≤ k ∧ k ≤ 7) := by
  unfold mayI at h
  rw [decide_eq_true_iff, sz_iff] at h
  omega
theorem ref_zero {i : In} {a : Ah} (h : refB i a = 0) : fitB i a = true ∧ ¬ (i.op = 33 ∧ a.br.length = 0) ∧ ¬ (i.op = 32 ∧ a.br.length = 8) ∧ ¬ (retB i.op = true ∧ 0 < a.br.length) := by
  unfold refB at h
  split at h
  · omega
  · next h1 =>
    split at h
    · omega
    · next h2 =>
      split at h
      · omega
      · next h3 =>
        split at h
        · omega
        · next h4 => exact ⟨by simpa using h2, h1, h3, h4⟩
theorem err_zero {i : In} {k n : Nat} {a : Ah} (h : errB i k n a = 0) : farB i k n = false ∧ refB i a = 0 := by
  unfold errB at h
  split at h
  · omega
  · next h1 => exact ⟨by simpa using h1, h⟩
theorem fit_32 {i : In} {a : Ah} (ho : i.op = 32) : fitB i a = mayI i.pl a.kd := by unfold fitB; simp [ho]
theorem fit_33 {i : In} {a : Ah} (ho : i.op = 33) : fitB i a = decide (a.kd = (lastB a.br).2) := by unfold fitB; simp [ho]
theorem last_split {l : Br} (h : l.length ≠ 0) : l = l.dropLast ++ [lastB l] := by
  unfold lastB
  have hn : l ≠ [] := fun e => h (by rw [e]; rfl)
  rw [List.getLastD_eq_getLast?, List.getLast?_eq_some_getLast hn]
  exact (List.dropLast_concat_getLast hn).symm
theorem last_mem {l : Br} (h : l.length ≠ 0) : lastB l ∈ l := by
  rw [last_split h]
  unfold lastB
  simp
theorem drop_mem {l : Br} {x : Int × Int} (h : x ∈ l.dropLast) : x ∈ l := List.dropLast_subset l h
theorem wf_next {i : In} {a : Ah} (hr : rightI i = true) (ha : Wf a) (hon : a.on = true) (he : refB i a = 0) : Wf (nextB i a) := by
  obtain ⟨hf, h33, h32, _⟩ := ref_zero he
  have hkd := ha.kd
  unfold nextB
  split
  · next h =>
    have := right_kd hr h
    exact ⟨ha.len, ha.br, fun h => absurd (hon.symm.trans h) (by simp), by dsimp only; omega⟩
  split
  · next h =>
    rw [fit_32 h] at hf
    obtain ⟨q1, q2⟩ := may_kd hf
    refine ⟨?_, fun x hx => ?_, fun h => absurd (hon.symm.trans h) (by simp), by dsimp only; omega⟩
    · have := ha.len
      have : a.br.length ≠ 8 := fun e => h32 ⟨h, e⟩
      simp
      omega
    · simp at hx
      rcases hx with hx | rfl
      · exact ha.br x hx
      · exact ⟨q1, q2⟩
  split
  · next h =>
    have hm := ha.br _ (last_mem (fun e => h33 ⟨h, e⟩))
    refine ⟨?_, fun x hx => ha.br x (drop_mem hx), fun h => absurd (hon.symm.trans h) (by simp), ?_⟩
    · have := ha.len
      simp
      omega
    · unfold madeI
      dsimp only
      split <;> omega
  · refine ⟨ha.len, ha.br, fun h => absurd (hon.symm.trans h) (by simp), ?_⟩
    unfold madeI
    dsimp only
    split <;> omega
theorem next_on {i : In} {a : Ah} (h : a.on = true) : (nextB i a).on = true := by
  unfold nextB
  (repeat' split) <;> exact h
/-- How a step can go. -/
theorem step_cases (i : In) (k n : Nat) (l : List Ah) (hl : WfL l) :
    ((stepB i k n l).1 ≠ 0) ∨ ((stepB i k n l).1 = 0 ∧ WfL (stepB i k n l).2 ∧ (stepB i k n l).2.length = l.length) := by
  unfold stepB
  split
  · left; simp
  next hr =>
  split
  · right; exact ⟨rfl, hl, rfl⟩
  next hon =>
  split
  · next he => left; exact he
  next he =>
  split
  · left; simp
  split
  · left; simp
  · right
    have hon : (gt l k).on = true := by simpa using hon
    have hr : rightI i = true := by simpa using hr
    have he : refB i (gt l k) = 0 := (err_zero (by simpa using he)).2
    have hb := wf_next hr (hl k) hon he
    exact ⟨rfl, wf_to (wf_on hl hb) hb, by rw [to_len, on_len]⟩
theorem run_ok {c : List In} : ∀ {k : Nat} {l : List Ah}, runB c k = .ok l → WfL l ∧ l.length = c.length + 1
  | 0, l, h => by
    unfold runB at h
    injection h with h
    subst h
    exact ⟨wf_first _, first_len _⟩
  | k + 1, l, h => by
    unfold runB oneB at h
    split at h
    · cases h
    next l0 h0 =>
    obtain ⟨hw, hlen⟩ := run_ok h0
    split at h
    · injection h with h
      subst h
      exact ⟨hw, hlen⟩
    next i hi =>
    split at h
    · next hz =>
      injection h with h
      subst h
      rcases step_cases i k c.length l0 hw with h1 | ⟨_, h2, h3⟩
      · exact absurd hz h1
      · exact ⟨h2, by rw [h3, hlen]⟩
    · cases h
theorem run_next {c : List In} {k : Nat} {l : List Ah} {i : In} (h : runB c k = .ok l) (hi : c[k]? = some i) (hz : (stepB i k c.length l).1 = 0) : runB c (k + 1) = .ok (stepB i k c.length l).2 := by
  unfold runB oneB
  rw [h]
  dsimp only
  rw [hi]
  dsimp only
  rw [if_pos hz]
theorem run_stop {c : List In} {k : Nat} {l : List Ah} {i : In} (h : runB c k = .ok l) (hi : c[k]? = some i) (hz : (stepB i k c.length l).1 ≠ 0) : runB c (k + 1) = .error ((stepB i k c.length l).1, k) := by
  unfold runB oneB
  rw [h]
  dsimp only
  rw [hi]
  dsimp only
  rw [if_neg hz]
theorem run_error {c : List In} {e : Nat × Nat} : ∀ {k : Nat} (m : Nat), runB c k = .error e → runB c (k + m) = .error e
  | k, 0, h => h
  | k, m + 1, h => by
    have h1 := run_error m h
    show oneB c (k + m) (runB c (k + m)) = _
    rw [h1]
    rfl
/-- A step that stops tells what all is. -/
theorem all_stop {c : List In} {k : Nat} {l : List Ah} {i : In} (hl : c.length ≤ 200) (h : runB c k = .ok l) (hi : c[k]? = some i) (hz : (stepB i k c.length l).1 ≠ 0) : allB c = .error ((stepB i k c.length l).1, k) := by
  have h1 := run_stop h hi hz
  have hk : k < c.length := (List.getElem?_eq_some_iff.1 hi).1
  have h2 := run_error (c.length - (k + 1)) h1
  rw [show k + 1 + (c.length - (k + 1)) = c.length by omega] at h2
  unfold allB
  rw [if_neg (by omega), h2]
theorem all_long {c : List In} (h : 200 < c.length) : allB c = .error (2, 200) := by unfold allB; rw [if_pos h]
theorem all_end {c : List In} {l : List Ah} (hl : c.length ≤ 200) (h : runB c c.length = .ok l) (hb : (gt l c.length).br.length ≠ 0) : allB c = .error (3, c.length) := by
  unfold allB
  rw [if_neg (by omega), h]
  dsimp only
  rw [if_neg hb]
theorem all_done {c : List In} {l : List Ah} (hl : c.length ≤ 200) (h : runB c c.length = .ok l) (hb : (gt l c.length).br.length = 0) : allB c = .ok l := by
  unfold allB
  rw [if_neg (by omega), h]
  dsimp only
  rw [if_pos hb]
theorem err_pos (i : In) (k n : Nat) (l : List Ah) : (stepB i k n l).1 ≤ 8 := by
  unfold stepB errB refB
  (repeat' split) <;> simp <;> omega
theorem all_ok {c : List In} {l : List Ah} (h : allB c = .ok l) : c.length ≤ 200 ∧ runB c c.length = .ok l ∧ (gt l c.length).br.length = 0 := by
  unfold allB at h
  split at h
  · cases h
  next h2 =>
  split at h
  · cases h
  next l0 h0 =>
  split at h
  · next hb =>
    injection h with h
    subst h
    exact ⟨by omega, h0, hb⟩
  · cases h

end Go.Proofs.Ytmlopacekoghkaa.Ve
