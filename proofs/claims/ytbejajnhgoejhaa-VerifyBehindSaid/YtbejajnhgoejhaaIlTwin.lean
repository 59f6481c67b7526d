/-
  Plain facts: remarks, blanks and empty lines play no part; a name that stands for a place is that place. No program is named here. Conditions: none.
-/
import Derived.Test.YtbejajnhgoejhaaIlPrint
namespace Go.Proofs.Ytbejajnhgoejhaa.Il
open Go.Proofs.Ytbejajnhgoejhaa.Ic

/-! ### Twins -/
def dbl (s : Bs) : Bs := s.flatMap fun c => if c = 32 then [32, 32] else [c]
def tailW : Bs := [32, 59, 32, 97, 58, 32, 86, 65, 82]
def twinL (s : Bs) : Bs := 32 :: 32 :: (dbl s ++ tailW)
def twinLines (ls : List Bs) : List Bs := ls.flatMap fun l => [twinL l, []]
def twinB (text : Bs) : Bs := endL (twinLines (splitB 10 text))
theorem dbl_cons (c : UInt8) (s : Bs) : dbl (c :: s) = (if c = 32 then [32, 32] else [c]) ++ dbl s := by unfold dbl; rw [List.flatMap_cons]
theorem dbl_mem {c : UInt8} {s : Bs} : c ∈ dbl s ↔ c ∈ s := by
  induction s with
  | nil => simp [dbl]
  | cons x s ih =>
    rw [dbl_cons, List.mem_append, ih, List.mem_cons]
    split
    · next h => subst h; simp
    · simp
theorem split_parts (c : UInt8) : ∀ (s : Bs), ∀ l ∈ splitB c s, c ∉ l
  | [], l, h => by simp [splitB] at h; subst h; simp
  | x :: s, l, h => by
    have ih := split_parts c s
    unfold splitB at h
    split at h
    · rcases List.mem_cons.1 h with rfl | h
      · simp
      · exact ih l h
    · next hne =>
      split at h
      · simp at h; subst h; simp; exact fun e => hne e.symm
      · next hd tl e =>
        rw [e] at ih
        rcases List.mem_cons.1 h with rfl | h
        · simp only [List.mem_cons, not_or]
          exact ⟨fun e => hne e.symm, ih hd (by simp)⟩
        · exact ih l (by simp [h])
/-- The parts that aren't empty. -/
def fullB (l : List Bs) : List Bs := l.filter fun x => decide (x ≠ [])
theorem words_full (s : Bs) : wordsB s = fullB (splitB 32 (cutB 59 s)) := rfl
/-- Doubling blanks leaves the first part, and the others that aren't empty. -/
theorem split_dbl (e : Bs) (he : splitB 32 e = [e] ∨ ∃ r, splitB 32 e = [] :: r ∧ fullB r = []) : ∀ (s : Bs), ∃ h t t', splitB 32 s = h :: t ∧ splitB 32 (dbl s ++ e) = (h ++ (if t = [] then (splitB 32 e).headD [] else [])) :: t' ∧ (e = [] ∨ (∃ r, splitB 32 e = [] :: r ∧ fullB r = []) → fullB t' = fullB t)
  | [] => by
    cases hs : splitB 32 e with
    | nil => exact absurd hs (split_ne _ _)
    | cons a r =>
      refine ⟨[], [], r, rfl, by simp [dbl, hs], fun h => ?_⟩
      rcases h with h | ⟨r2, h1, h2⟩
      · subst h; simp [splitB] at hs; rw [← hs.2]
      · injection h1 with _ h1
        rw [h1, h2]; rfl
  | x :: s => by
    obtain ⟨h, t, t', h1, h2, h3⟩ := split_dbl e he s
    by_cases hx : x = 32
    · subst hx
      refine ⟨[], h :: t, [] :: (h ++ (if t = [] then (splitB 32 e).headD [] else [])) :: t', by rw [splitB, if_pos rfl, h1], ?_, ?_⟩
      · rw [dbl_cons, if_pos rfl]
        simp only [List.cons_append, List.nil_append]
        rw [splitB, if_pos rfl, splitB, if_pos rfl, h2]
        simp
      · intro hh
        have := h3 hh
        have hhd : (if t = [] then (splitB 32 e).headD [] else []) = ([] : Bs) := by
          split
          · rcases hh with rfl | ⟨r, hr, _⟩
            · rfl
            · rw [hr]; rfl
          · rfl
        rw [hhd, List.append_nil]
        unfold fullB at this ⊢
        rw [List.filter_cons, if_neg (by simp), List.filter_cons, List.filter_cons, this]
    · refine ⟨x :: h, t, t', by rw [splitB, if_neg hx, h1], ?_, h3⟩
      rw [dbl_cons, if_neg hx, List.cons_append, List.nil_append, List.cons_append, splitB, if_neg hx, h2, List.cons_append]
theorem full_dbl (s e : Bs) (he : e = [] ∨ e = [32]) : fullB (splitB 32 (dbl s ++ e)) = fullB (splitB 32 s) := by
  obtain ⟨h, t, t', h1, h2, h3⟩ := split_dbl e (by rcases he with rfl | rfl; exact .inl rfl; exact .inr ⟨[[]], rfl, rfl⟩) s
  have hh : fullB t' = fullB t := h3 (by rcases he with rfl | rfl; exact .inl rfl; exact .inr ⟨[[]], rfl, rfl⟩)
  have hhd : (if t = [] then (splitB 32 e).headD [] else []) = ([] : Bs) := by
    split
    · rcases he with rfl | rfl <;> rfl
    · rfl
  rw [h1, h2, hhd, List.append_nil]
  unfold fullB at hh ⊢
  rw [List.filter_cons, List.filter_cons, hh]
theorem full_blank (s : Bs) : fullB (splitB 32 (32 :: s)) = fullB (splitB 32 s) := by
  rw [splitB, if_pos rfl]
  unfold fullB
  rw [List.filter_cons, if_neg (by simp)]
theorem cut_dbl : ∀ (s : Bs), cutB 59 (dbl s ++ tailW) = dbl (cutB 59 s) ++ (if 59 ∈ s then [] else [32])
  | [] => by simp [dbl, cutB, tailW]
  | x :: s => by
    have ih := cut_dbl s
    unfold cutB at ih ⊢
    by_cases h59 : x = 59
    · subst h59
      rw [dbl_cons, if_neg (by decide)]
      simp [dbl]
    · have e0 : (x :: s).takeWhile (fun x => decide (x ≠ 59)) = x :: s.takeWhile (fun x => decide (x ≠ 59)) := by rw [List.takeWhile_cons, if_pos (by simpa using h59)]
      rw [e0, dbl_cons, dbl_cons]
      have hm : (59 ∈ x :: s) ↔ 59 ∈ s := by simp [Ne.symm h59]
      simp only [hm]
      by_cases hx : x = 32
      · subst hx
        simp only [if_true, List.cons_append, List.nil_append]
        rw [List.takeWhile_cons, if_pos (by decide), List.takeWhile_cons, if_pos (by decide), ih]
      · simp only [if_neg hx, List.cons_append, List.nil_append]
        rw [List.takeWhile_cons, if_pos (by simpa using h59), ih]
theorem words_twin (s : Bs) : wordsB (twinL s) = wordsB s := by
  rw [words_full, words_full]
  have e : cutB 59 (twinL s) = 32 :: 32 :: (dbl (cutB 59 s) ++ (if 59 ∈ s then [] else [32])) := by
    rw [← cut_dbl]
    unfold twinL cutB
    rw [List.takeWhile_cons, if_pos (by decide), List.takeWhile_cons, if_pos (by decide)]
  rw [e, full_blank, full_blank, full_dbl _ _ (by split <;> simp)]

/-- Lines of other numbers. -/
def shiftC (c : In × Bs × Nat) : In × Bs × Nat := (c.1, c.2.1, 2 * c.2.2 - 1)
def shiftS (s : Asm) : Asm := ⟨s.code.map shiftC, s.places, s.labels⟩
def shiftE {β γ : Type} (g : β → γ) : Except (Nat × Nat) β → Except (Nat × Nat) γ
  | .ok s => .ok (g s)
  | .error (e, l) => .error (e, 2 * l - 1)
def mapE (g : Asm → Asm) : Except Nat Asm → Except Nat Asm
  | .ok s => .ok (g s)
  | .error e => .error e
theorem add_shift (st : Asm) (ws : List Bs) (ln : Nat) : addB (shiftS st) ws (2 * ln - 1) = mapE shiftS (addB st ws ln) := by
  unfold addB
  show (match instrB st.places ws with | .error e => _ | .ok (i, lab) => _) = _
  cases instrB st.places ws with
  | error e => rfl
  | ok q =>
    obtain ⟨i, lab⟩ := q
    dsimp only
    by_cases h : rightI i = false
    · rw [if_pos h, if_pos h]; rfl
    · rw [if_neg h, if_neg h]
      have hl : (shiftS st).code.length = st.code.length := by simp [shiftS]
      rw [hl]
      by_cases h2 : 200 ≤ st.code.length
      · rw [if_pos h2, if_pos h2]; rfl
      · rw [if_neg h2, if_neg h2]
        simp [mapE, shiftS, shiftC]
theorem line_shift (st : Asm) (ws : List Bs) (ln : Nat) : lineB (shiftS st) ws (2 * ln - 1) = mapE shiftS (lineB st ws ln) := by
  cases ws with
  | nil => rfl
  | cons a rest =>
    unfold lineB
    dsimp only
    by_cases hv : a = [86, 65, 82]
    · rw [if_pos hv, if_pos hv]
      rcases rest with _ | ⟨nm, _ | ⟨t, _ | ⟨p, _ | ⟨q, r⟩⟩⟩⟩
      · rfl
      · rfl
      · rfl
      · dsimp only
        by_cases h1 : nameB nm = true ∧ t = [65, 84]
        · rw [if_pos h1, if_pos h1]
          cases placeB p with
          | none => rfl
          | some i =>
            dsimp only
            by_cases h2 : thereB i.pl i.kd = true
            · rw [if_pos h2, if_pos h2]
              show (match look st.places nm with | some _ => _ | none => _) = _
              cases look st.places nm <;> rfl
            · rw [if_neg h2, if_neg h2]; rfl
        · rw [if_neg h1, if_neg h1]; rfl
      · rfl
    · rw [if_neg hv, if_neg hv]
      by_cases hl : a.getLast? = some 58
      · rw [if_pos hl, if_pos hl]
        by_cases h1 : nameB a.dropLast = true
        · rw [if_pos h1, if_pos h1]
          show (match look st.labels a.dropLast with | some _ => _ | none => _) = _
          have hlen : (shiftS st).code.length = st.code.length := by simp [shiftS]
          cases look st.labels a.dropLast with
          | some _ => rfl
          | none =>
            dsimp only
            rw [hlen]
            by_cases h2 : rest = []
            · rw [if_pos h2, if_pos h2]; rfl
            · rw [if_neg h2, if_neg h2]
              exact add_shift ⟨st.code, st.places, st.labels ++ [(a.dropLast, st.code.length)]⟩ rest ln
        · rw [if_neg h1, if_neg h1]; rfl
      · rw [if_neg hl, if_neg hl]
        exact add_shift st (a :: rest) ln
theorem lines_twin : ∀ (ls : List Bs) (m : Nat) (st : Asm), 1 ≤ m → linesB (shiftS st) (numbered (2 * m - 1) (twinLines ls)) = shiftE shiftS (linesB st (numbered m ls))
  | [], _, _, _ => rfl
  | l :: ls, m, st, hm => by
    have ih := fun st' => lines_twin ls (m + 1) st' (by omega)
    have e : twinLines (l :: ls) = twinL l :: [] :: twinLines ls := rfl
    rw [e, numbered, numbered, numbered, words_twin, words_nil, linesB, linesB, line_shift]
    cases lineB st (wordsB l) m with
    | error e => rfl
    | ok s =>
      dsimp only [mapE]
      rw [linesB]
      show linesB (shiftS s) _ = _
      rw [show 2 * m - 1 + 1 + 1 = 2 * (m + 1) - 1 by omega, ih]
theorem lines_end (ls : List Bs) (m : Nat) (st : Asm) : linesB st (numbered m (ls ++ [[]])) = linesB st (numbered m ls) := by
  rw [numbered_app, lines_app]
  cases linesB st (numbered m ls) with
  | error e => rfl
  | ok s =>
    dsimp only
    rw [numbered, numbered, words_nil]
    rfl
theorem jumps_shift (labels : List (Bs × Nat)) : ∀ (cs : List (In × Bs × Nat)), jumpsB labels (cs.map shiftC) = shiftE id (jumpsB labels cs)
  | [] => rfl
  | (i, lab, ln) :: cs => by
    have ih := jumps_shift labels cs
    show jumpsB labels ((i, lab, 2 * ln - 1) :: cs.map shiftC) = _
    unfold jumpsB
    rw [ih]
    by_cases h : lab = []
    · rw [if_pos h, if_pos h]
      cases jumpsB labels cs <;> rfl
    · rw [if_neg h, if_neg h]
      cases look labels lab with
      | none => rfl
      | some k =>
        dsimp only
        cases jumpsB labels cs <;> rfl
theorem twin_free (text : Bs) : ∀ l ∈ twinLines (splitB 10 text), 10 ∉ l := by
  intro l hl
  unfold twinLines at hl
  rw [List.mem_flatMap] at hl
  obtain ⟨x, hx, hl⟩ := hl
  have hf := split_parts 10 text x hx
  simp at hl
  rcases hl with rfl | rfl
  · unfold twinL
    simp only [List.mem_cons, List.mem_append, not_or, dbl_mem]
    exact ⟨by decide, by decide, hf, by decide⟩
  · simp
/-- A twin is assembled as the text is, but for the line that an error is told of. -/
theorem asm_twin (text : Bs) (h : text.length ≤ 4000) (h2 : (twinB text).length ≤ 4000) : asmB (twinB text) = shiftE id (asmB text) := by
  unfold asmB
  rw [if_neg (by omega), if_neg (by omega)]
  unfold twinB
  rw [split_end _ (twin_free text)]
  unfold asmL
  rw [lines_end]
  have := lines_twin (splitB 10 text) 1 ⟨[], [], []⟩ (by omega)
  have e : shiftS ⟨[], [], []⟩ = ⟨[], [], []⟩ := rfl
  rw [e] at this
  rw [this]
  cases linesB ⟨[], [], []⟩ (numbered 1 (splitB 10 text)) with
  | error e => rfl
  | ok s => exact jumps_shift s.labels s.code

/-! ### Names -/
def varL (k : Nat) : Bs := 118 :: Lib.decDigits k
def viaB (i : In) : Bool := decide (0 < i.ar) && decide (szI i.kd ≠ 0)
def nameLines (k : Nat) (i : In) : List Bs :=
  if viaB i then [[86, 65, 82, 32] ++ varL k ++ [32, 65, 84, 32] ++ argL i, opName i.op ++ [32] ++ varL k] else [spellL i]
def namesFrom : Nat → List In → List Bs
  | _, [] => []
  | k, i :: r => nameLines k i ++ namesFrom (k + 1) r
def namesB (code : List In) : Bs := endL (namesFrom 0 code)
theorem var_inj {a b : Nat} (h : varL a = varL b) : a = b := by
  unfold varL at h
  exact dec_inj (List.cons.inj h).2
theorem var_name (u : Nat) (h : u < 1000000) : nameB (varL u) = true := by
  unfold varL nameB
  have h1 := dec_length_le 6 u (by omega) (by omega)
  have h2 : (Lib.decDigits u).all (fun x => letterB x || digitB x || decide (x = 95)) = true := by
    rw [List.all_eq_true]
    intro x hx
    simp [dec_mem hx]
  dsimp only
  rw [h2]
  have h3 : decide ((Lib.decDigits u).length < 16) = true := by rw [decide_eq_true_iff]; omega
  rw [h3]
  decide
theorem var_free (u : Nat) {c : UInt8} (h : digitB c = false) (h118 : c ≠ 118) : c ∉ varL u := by
  unfold varL
  simp only [List.mem_cons, not_or]
  exact ⟨h118, dec_free u h⟩
theorem var_plain (u : Nat) : varL u ≠ [] ∧ 32 ∉ varL u ∧ 59 ∉ varL u ∧ 10 ∉ varL u := ⟨by unfold varL; simp, var_free u (by decide) (by decide), var_free u (by decide) (by decide), var_free u (by decide) (by decide)⟩
theorem words_four {a b c d : Bs} (ha : a ≠ [] ∧ 32 ∉ a ∧ 59 ∉ a) (hb : b ≠ [] ∧ 32 ∉ b ∧ 59 ∉ b) (hc : c ≠ [] ∧ 32 ∉ c ∧ 59 ∉ c) (hd : d ≠ [] ∧ 32 ∉ d ∧ 59 ∉ d) : wordsB (a ++ 32 :: (b ++ 32 :: (c ++ 32 :: d))) = [a, b, c, d] := by
  unfold wordsB
  rw [cut_free (by simp only [List.mem_append, List.mem_cons, not_or]; exact ⟨ha.2.2, by decide, hb.2.2, by decide, hc.2.2, by decide, hd.2.2⟩), split_app ha.2.1, split_app hb.2.1, split_app hc.2.1, split_free hd.2.1]
  simp [ha.1, hb.1, hc.1, hd.1]
theorem via_way {i : In} (h : rightI i = true) (hv : viaB i = true) : 1 ≤ i.ar ∧ i.ar ≤ 4 ∧ thereB i.pl i.kd = true ∧ i.n = 0 ∧ (readsB i.op = true ∨ writesB i.op = true) := by
  unfold viaB at hv
  simp at hv
  cases right_way h with
  | lit h ha hp hn => omega
  | get h h1 h4 ht hn => exact ⟨h1, h4, ht, hn, .inl h⟩
  | put h h1 h4 ht hn => exact ⟨by omega, h4, ht, hn, .inr h⟩
  | jump h hk ha h0 h1 hn => omega
  | bare h hk ha hp hn => omega
  | close h hk ha hp hn => omega
  | conv h hk ha hp hn => omega
  | opens h hk ha hr2 hp hn => omega
  | timer h hk h3 h4 h0 h1 hn hm => rw [hk] at hv; exact absurd (show szI 0 = 0 by decide) hv.2
  | trig h hk h3 h4 h0 h1 hn => rw [hk] at hv; exact absurd (show szI 0 = 0 by decide) hv.2
theorem via_arg {i : In} (h : rightI i = true) (hv : viaB i = true) : argL i = areaL i.ar i.pl ++ 58 :: nmI i.kd ∧ spellW i = [opName i.op, argL i] ∧ opName i.op ≠ [] ∧ (opOf (opName i.op) : Int) = i.op ∧ (opName i.op).all capB = true ∧ bareB i.op = false ∧ jumpB i.op = false ∧ 1 ≤ i.op := by
  obtain ⟨h1, h4, ht, hn, ho⟩ := via_way h hv
  obtain ⟨f1, f2, -, -⟩ := op_facts i.op
  have hh : jumpB i.op = false ∧ bareB i.op = false ∧ i.op ≠ 31 ∧ i.op ≠ 32 ∧ i.op ≠ 33 ∧ i.op ≠ 34 ∧ i.op ≠ 35 ∧ i.op ≠ 36 ∧ 1 ≤ i.op ∧ i.op ≤ 36 := by
    rcases ho with ho | ho
    · exact (f1 ho).2
    · exact (f2 ho).2
  obtain ⟨g2, g3, g4, g5, g6, g7, g8, g9, g10, g11⟩ := hh
  obtain ⟨n1, n2, n3⟩ := op_name i.op g10 g11 g5 g6
  refine ⟨?_, ?_, n1, n2, n3, g3, g2, g10⟩
  · unfold argL
    rw [g2, if_neg (by decide), if_neg g4, if_neg (by omega), if_neg g9, if_neg (by omega)]
  · unfold spellW
    rw [if_neg g6, if_neg g5, g3, if_neg (by decide)]
theorem look_none {l : List (Bs × In)} {k : Nat} (h : ∀ p ∈ l, ∃ j, j < k ∧ p.1 = varL j) : look l (varL k) = none := by
  unfold look
  rw [List.find?_eq_none.2]
  · rfl
  · intro p hp
    obtain ⟨j, hj, e⟩ := h p hp
    rw [e]
    simp
    intro e2
    have := var_inj e2
    omega
theorem look_last {l : List (Bs × In)} {k : Nat} {i : In} (h : look l (varL k) = none) : look (l ++ [(varL k, i)]) (varL k) = some i := by
  unfold look at h ⊢
  rw [List.find?_append]
  cases hf : l.find? (fun p => decide (p.1 = varL k)) with
  | none => simp
  | some p => rw [hf] at h; cases h
theorem lines_names : ∀ (l : List In) (k m : Nat) (st : Asm), (∀ i ∈ l, rightI i = true ∧ jumpB i.op = false) → st.code.length + l.length ≤ 200 → k + l.length ≤ 1000 → (∀ p ∈ st.places, ∃ j, j < k ∧ p.1 = varL j) →
    ∃ (cs : List (In × Bs × Nat)) (ps : List (Bs × In)), cs.map (fun c => (c.1, c.2.1)) = l.map (fun i => (i, [])) ∧ linesB st (numbered m (namesFrom k l)) = .ok ⟨st.code ++ cs, ps, st.labels⟩
  | [], k, m, st, _, _, _, _ => ⟨[], st.places, rfl, by rw [List.append_nil]; rfl⟩
  | i :: l, k, m, st, hr, h2, hk, hp => by
    obtain ⟨hri, hji⟩ := hr i (by simp)
    rw [List.length_cons] at h2 hk
    have hbare : bareIn i = i := by unfold bareIn; rw [hji]; rfl
    have hwant : wantB i = [] := by unfold wantB; rw [hji]; rfl
    unfold namesFrom nameLines
    by_cases hv : viaB i = true
    · rw [if_pos hv]
      obtain ⟨a1, a2, a3, a4, a5, a6, a7, a8⟩ := via_arg hri hv
      obtain ⟨h1, h4, ht, hn, ho⟩ := via_way hri hv
      obtain ⟨q1, q2⟩ := arg_plain (.inl (there_bd ht).1)
      obtain ⟨q3, q4, q5⟩ := plain_free q2
      obtain ⟨v1, v2, v3, v4⟩ := var_plain k
      have w1 : wordsB ([86, 65, 82, 32] ++ varL k ++ [32, 65, 84, 32] ++ argL i) = [[86, 65, 82], varL k, [65, 84], argL i] := by
        have := words_four (a := [86, 65, 82]) (b := varL k) (c := [65, 84]) (d := argL i) ⟨by decide, by decide, by decide⟩ ⟨v1, v2, v3⟩ ⟨by decide, by decide, by decide⟩ ⟨q1, q3, q4⟩
        rw [← this]
        simp
      obtain ⟨p1, p2, p3⟩ := plain_free (caps_plain a5)
      have w2 : wordsB (opName i.op ++ [32] ++ varL k) = [opName i.op, varL k] := by
        have := words_two a3 v1 p1 p2 v2 v3
        rw [← this]
        simp
      have hnone := look_none hp
      have e1 : lineB st [[86, 65, 82], varL k, [65, 84], argL i] m = .ok ⟨st.code, st.places ++ [(varL k, ⟨0, i.kd, i.ar, i.pl, 0⟩)], st.labels⟩ := by
        unfold lineB
        dsimp only
        rw [if_pos rfl, if_pos ⟨var_name k (by omega), rfl⟩, a1, place_text _ _ _ h1 h4 ht]
        dsimp only
        rw [ht, if_pos rfl, hnone]
      have hpv : placeB (varL k) = none := by
        unfold placeB
        rw [split_free (var_free k (by decide) (by decide))]
      have hlv : litB (varL k) = none := by
        unfold litB
        rw [split_free (var_free k (by decide) (by decide))]
      have e2 : lineB ⟨st.code, st.places ++ [(varL k, ⟨0, i.kd, i.ar, i.pl, 0⟩)], st.labels⟩ [opName i.op, varL k] (m + 1) = .ok ⟨st.code ++ [(i, [], m + 1)], st.places ++ [(varL k, ⟨0, i.kd, i.ar, i.pl, 0⟩)], st.labels⟩ := by
        have hnv : opName i.op ≠ [86, 65, 82] := fun e => by
          rw [e, show opOf [86, 65, 82] = 0 by decide] at a4; simp at a4; omega
        unfold lineB
        dsimp only
        rw [if_neg hnv, if_neg (last_cap a5 (by decide))]
        unfold addB
        dsimp only
        rw [arg_instr _ _ _ i.op a8 a4 a6]
        unfold askB operandB
        rw [if_pos (by rcases ho with ho | ho <;> simp [ho]), hpv]
        dsimp only
        have hnl : (if readsB i.op = true then litB (varL k) else none) = none := by split; exact hlv; rfl
        rw [hnl]
        dsimp only
        rw [var_name k (by omega), if_pos rfl, look_last hnone]
        dsimp only
        have e3 : (⟨i.op, i.kd, i.ar, i.pl, 0⟩ : In) = i := by
          obtain ⟨op, kd, ar, pl, n⟩ := i
          simp at hn
          subst hn; rfl
        rw [e3, hri, if_neg (by decide), if_neg (by omega)]
      obtain ⟨cs, ps, g1, g2⟩ := lines_names l (k + 1) (m + 1 + 1) ⟨st.code ++ [(i, [], m + 1)], st.places ++ [(varL k, ⟨0, i.kd, i.ar, i.pl, 0⟩)], st.labels⟩ (fun x hx => hr x (by simp [hx])) (by simp; omega) (by omega) (by
        intro p hp2
        rcases List.mem_append.1 hp2 with hp2 | hp2
        · obtain ⟨j, hj, e⟩ := hp p hp2
          exact ⟨j, by omega, e⟩
        · simp at hp2
          exact ⟨k, by omega, by rw [hp2]⟩)
      refine ⟨(i, [], m + 1) :: cs, ps, by simp [g1], ?_⟩
      show linesB st (numbered m (([86, 65, 82, 32] ++ varL k ++ [32, 65, 84, 32] ++ argL i) :: (opName i.op ++ [32] ++ varL k) :: namesFrom (k + 1) l)) = _
      rw [numbered, numbered, w1, w2, linesB, e1]
      dsimp only
      rw [linesB, e2]
      dsimp only
      rw [g2]
      simp
    · rw [if_neg hv]
      have e1 := line_spell (st := st) hri (by omega) m
      rw [hbare, hwant] at e1
      obtain ⟨w1, -, -⟩ := words_spell hri
      obtain ⟨cs, ps, g1, g2⟩ := lines_names l (k + 1) (m + 1) ⟨st.code ++ [(i, [], m)], st.places, st.labels⟩ (fun x hx => hr x (by simp [hx])) (by simp; omega) (by omega) (by
        intro p hp2
        obtain ⟨j, hj, e⟩ := hp p hp2
        exact ⟨j, by omega, e⟩)
      refine ⟨(i, [], m) :: cs, ps, by simp [g1], ?_⟩
      rw [List.cons_append, List.nil_append, numbered, w1, linesB, e1]
      dsimp only
      rw [g2]
      simp
theorem jumps_none (labels : List (Bs × Nat)) : ∀ (l : List In) (cs : List (In × Bs × Nat)), cs.map (fun c => (c.1, c.2.1)) = l.map (fun i => (i, [])) → jumpsB labels cs = .ok l
  | [], cs, h => by
    have : cs = [] := by simpa using h
    rw [this]; rfl
  | i :: l, [], h => by simp at h
  | i :: l, (c, lab, ln) :: cs, h => by
    simp only [List.map_cons, List.cons.injEq, Prod.mk.injEq] at h
    obtain ⟨⟨rfl, rfl⟩, h3⟩ := h
    unfold jumpsB
    rw [jumps_none labels l cs h3, if_pos rfl]
theorem names_free : ∀ (l : List In) (k : Nat), (∀ i ∈ l, rightI i = true) → ∀ x ∈ namesFrom k l, 10 ∉ x
  | [], _, _, x, hx => by simp [namesFrom] at hx
  | i :: l, k, hr, x, hx => by
    have hri := hr i (by simp)
    unfold namesFrom at hx
    rcases List.mem_append.1 hx with hx | hx
    · unfold nameLines at hx
      split at hx
      · next hv =>
        obtain ⟨a1, a2, a3, a4, a5, a6, a7, a8⟩ := via_arg hri hv
        obtain ⟨h1, h4, ht, hn, ho⟩ := via_way hri hv
        obtain ⟨q1, q2⟩ := arg_plain (.inl (there_bd ht).1)
        obtain ⟨v1, v2, v3, v4⟩ := var_plain k
        simp only [List.mem_cons, List.not_mem_nil, or_false] at hx
        rcases hx with rfl | rfl
        · simp only [List.mem_append, not_or]
          exact ⟨⟨⟨by decide, v4⟩, by decide⟩, (plain_free q2).2.2⟩
        · simp only [List.mem_append, not_or]
          exact ⟨⟨(plain_free (caps_plain a5)).2.2, by decide⟩, v4⟩
      · simp at hx; subst hx; exact (words_spell hri).2.1
    · exact names_free l (k + 1) (fun y hy => hr y (by simp [hy])) x hx
/-- A name that stands for a place is that place. -/
theorem asm_names (code : List In) (hr : ∀ i ∈ code, rightI i = true ∧ jumpB i.op = false) (hl : code.length ≤ 200) (hs : (namesB code).length ≤ 4000) : asmB (namesB code) = .ok code := by
  unfold asmB
  rw [if_neg (by omega)]
  unfold namesB
  rw [split_end _ (names_free code 0 (fun i hi => (hr i hi).1))]
  unfold asmL
  rw [lines_end]
  obtain ⟨cs, ps, h1, h2⟩ := lines_names code 0 1 ⟨[], [], []⟩ hr (by simpa using hl) (by omega) (by simp)
  rw [h2]
  exact jumps_none _ code _ (by simpa using h1)

end Go.Proofs.Ytbejajnhgoejhaa.Il
