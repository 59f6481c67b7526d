/-
  Plain facts: what is printed is assembled to the same; a name that stands for a place is that place. No program is named here. Conditions: none.
-/
import Derived.Test.YtbejajnhgoejhaaIlSpell
namespace Go.Proofs.Ytbejajnhgoejhaa.Il
open Go.Proofs.Ytbejajnhgoejhaa.Ic

theorem caps_plain {s : Bs} (h : s.all capB = true) : plainB s = true := plain_of fun _ h1 _ _ _ _ _ _ _ _ _ => caps_free h h1
/-- Has an operation one word more? -/
theorem arg_way {i : In} (h : rightI i = true) (h1 : i.op ≠ 33) (h2 : i.op ≠ 32) (h3 : bareB i.op = false) : szI i.kd ≠ 0 ∨ (i.op ≠ 31 ∧ readsB i.op = false ∧ writesB i.op = false) := by
  cases right_way h with
  | lit h ha hp hn => exact .inl (is_sz hn)
  | get h h1 h4 ht hn => exact .inl (there_bd ht).1
  | put h h1 h4 ht hn => exact .inl (there_bd ht).1
  | jump h hk ha h0 h1 hn => exact .inr (by obtain ⟨g1, g2, g3, g4, g5, g6, g7, g8, g9, g10, g11⟩ := (op_facts i.op).2.2.1 h; exact ⟨g4, g1, g2⟩)
  | bare h hk ha hp hn => rw [h] at h3; cases h3
  | close h hk ha hp hn => exact absurd h h1
  | conv h hk ha hp hn => exact .inl hk
  | opens h hk ha hr2 hp hn => exact absurd h h2
  | timer h hk h3 h4 h0 h1 hn hm => exact .inr (by rcases h with h | h <;> rw [h] <;> decide)
  | trig h hk h3 h4 h0 h1 hn => exact .inr (by rw [h]; decide)
theorem op_range {i : In} (h : rightI i = true) : 1 ≤ i.op ∧ i.op ≤ 36 := by
  obtain ⟨f1, f2, f3, f4⟩ := op_facts i.op
  cases right_way h with
  | lit h ha hp hn => have := f1 h; omega
  | get h h1 h4 ht hn => have := f1 h; omega
  | put h h1 h4 ht hn => have := f2 h; omega
  | jump h hk ha h0 h1 hn => have := f3 h; omega
  | bare h hk ha hp hn => have := f4 h; omega
  | close h hk ha hp hn => omega
  | conv h hk ha hp hn => omega
  | opens h hk ha hr2 hp hn => omega
  | timer h hk h3 h4 h0 h1 hn hm => omega
  | trig h hk h3 h4 h0 h1 hn => omega
theorem opens_name {i : In} (h : rightI i = true) (h32 : i.op = 32) : opName i.pl ≠ [] ∧ (opOf (opName i.pl) : Int) = i.pl ∧ (opName i.pl).all capB = true := by
  cases right_way h with
  | lit h ha hp hn => rw [h32] at h; exact absurd h (by decide)
  | get h h1 h4 ht hn => rw [h32] at h; exact absurd h (by decide)
  | put h h1 h4 ht hn => rw [h32] at h; exact absurd h (by decide)
  | jump h hk ha h0 h1 hn => rw [h32] at h; exact absurd h (by decide)
  | bare h hk ha hp hn => rw [h32] at h; exact absurd h (by decide)
  | close h hk ha hp hn => omega
  | conv h hk ha hp hn => omega
  | opens h hk ha hr2 hp hn =>
    obtain ⟨k1, k2, k3, k4, k5, k6, k7, k8, k9, k10, k11⟩ := (op_facts i.pl).1 hr2
    exact op_name i.pl k10 k11 k5 k6
  | timer h hk h3 h4 h0 h1 hn hm => omega
  | trig h hk h3 h4 h0 h1 hn => omega

/-- An instruction's words: one or two, none of which begins or ends as another line's. -/
theorem spell_form {i : In} (h : rightI i = true) : (∃ a, spellW i = [a] ∧ a ≠ [] ∧ plainB a = true ∧ a ≠ [86, 65, 82] ∧ a.getLast? ≠ some 58) ∨
    (∃ a b, spellW i = [a, b] ∧ a ≠ [] ∧ plainB a = true ∧ b ≠ [] ∧ plainB b = true ∧ a ≠ [86, 65, 82] ∧ a.getLast? ≠ some 58) := by
  have hvar : opOf [86, 65, 82] = 0 := by decide
  unfold spellW
  by_cases h33 : i.op = 33
  · rw [if_pos h33]
    exact .inl ⟨_, rfl, by simp, by decide, by decide, by decide⟩
  rw [if_neg h33]
  by_cases h32 : i.op = 32
  · rw [if_pos h32]
    obtain ⟨n1, n2, n3⟩ := opens_name h h32
    refine .inl ⟨_, rfl, by simp, ?_, ?_, ?_⟩
    · have := caps_plain n3
      unfold plainB at this ⊢
      rw [List.all_append, this]; decide
    · intro e
      have := congrArg List.getLast? e
      simp at this
    · simp
  rw [if_neg h32]
  have hr := op_range h
  obtain ⟨n1, n2, n3⟩ := op_name i.op hr.1 hr.2 h32 h33
  have hv : opName i.op ≠ [86, 65, 82] := fun e => by rw [e, hvar] at n2; simp at n2; omega
  have hl : (opName i.op).getLast? ≠ some 58 := last_cap n3 (by decide)
  by_cases hb : bareB i.op = true
  · rw [if_pos hb]
    exact .inl ⟨_, rfl, n1, caps_plain n3, hv, hl⟩
  · have hb2 : bareB i.op = false := by simpa using hb
    rw [if_neg hb]
    obtain ⟨a1, a2⟩ := arg_plain (arg_way h h33 h32 hb2)
    exact .inr ⟨_, _, rfl, n1, caps_plain n3, a1, a2, hv, hl⟩
theorem words_spell {i : In} (h : rightI i = true) : wordsB (spellL i) = spellW i ∧ 10 ∉ spellL i ∧ spellL i ≠ [] := by
  unfold spellL
  rw [if_pos h]
  rcases spell_form h with ⟨a, e, h1, h2, -, -⟩ | ⟨a, b, e, h1, h2, h3, h4, -, -⟩
  · rw [e]
    obtain ⟨p1, p2, p3⟩ := plain_free h2
    exact ⟨words_one h1 p1 p2, p3, h1⟩
  · rw [e]
    obtain ⟨p1, p2, p3⟩ := plain_free h2
    obtain ⟨q1, q2, q3⟩ := plain_free h4
    exact ⟨words_two h1 h3 p1 p2 q1 q2, by simp only [joinW, List.mem_append, List.mem_cons, not_or]; exact ⟨p3, by decide, q3⟩, by simp [joinW]⟩
theorem bare_right {i : In} (h : rightI i = true) : rightI (bareIn i) = true := by
  unfold bareIn
  split
  · next hj => exact way_right (.jump hj rfl rfl (by simp) (by simp) rfl)
  · exact h
theorem add_spell {st : Asm} {i : In} (h : rightI i = true) (hl : st.code.length < 200) (ln : Nat) : addB st (spellW i) ln = .ok ⟨st.code ++ [(bareIn i, wantB i, ln)], st.places, st.labels⟩ := by
  unfold addB
  rw [instr_spell i h]
  dsimp only
  rw [bare_right h, if_neg (by decide), if_neg (by omega)]
theorem line_spell {st : Asm} {i : In} (h : rightI i = true) (hl : st.code.length < 200) (ln : Nat) : lineB st (spellW i) ln = .ok ⟨st.code ++ [(bareIn i, wantB i, ln)], st.places, st.labels⟩ := by
  rw [← add_spell h hl ln]
  rcases spell_form h with ⟨a, e, -, -, h1, h2⟩ | ⟨a, b, e, -, -, -, -, h1, h2⟩
  · rw [e]
    unfold lineB
    dsimp only
    rw [if_neg h1, if_neg h2]
  · rw [e]
    unfold lineB
    dsimp only
    rw [if_neg h1, if_neg h2]

/-! ### Lines, one behind the other -/
def endL (ls : List Bs) : Bs := ls.flatMap fun l => l ++ [10]
theorem split_end (ls : List Bs) (h : ∀ l ∈ ls, 10 ∉ l) : splitB 10 (endL ls) = ls ++ [[]] := by
  induction ls with
  | nil => rfl
  | cons l ls ih =>
    unfold endL
    rw [List.flatMap_cons, List.append_assoc, List.singleton_append, split_app (h l (by simp))]
    have := ih (fun x hx => h x (by simp [hx]))
    unfold endL at this
    rw [this]; rfl
def printLines (led : List Nat) : Nat → List In → List Bs
  | k, [] => if k ∈ led then [labelL k ++ [58]] else []
  | k, i :: r => (if k ∈ led then [labelL k ++ [58]] else []) ++ spellL i :: printLines led (k + 1) r
theorem print_end (led : List Nat) : ∀ (l : List In) (k : Nat), printFrom led k l = endL (printLines led k l)
  | [], k => by
    unfold printFrom printLines
    split <;> simp [endL]
  | i :: r, k => by
    unfold printFrom printLines
    rw [print_end led r (k + 1)]
    split <;> simp [endL]
theorem label_plain (k : Nat) : plainB (labelL k ++ [58]) = true := by
  refine plain_of fun c h1 h2 h3 h4 h5 h6 h7 h8 h9 h10 => ?_
  unfold labelL
  simp only [List.cons_append, List.mem_cons, List.mem_append, not_or]
  exact ⟨(fun e => by rw [e] at h1; cases h1), dec_free _ h2, h8, by simp⟩
theorem label_ne (k : Nat) : labelL k ≠ [] := by unfold labelL; simp
theorem label_inj {a b : Nat} (h : labelL a = labelL b) : a = b := by
  unfold labelL at h
  exact dec_inj (List.cons.inj h).2
theorem label_line (st : Asm) (k ln : Nat) (hk : k < 1000000) (hn : look st.labels (labelL k) = none) : lineB st [labelL k ++ [58]] ln = .ok ⟨st.code, st.places, st.labels ++ [(labelL k, st.code.length)]⟩ := by
  unfold lineB
  dsimp only
  rw [if_neg (by
    intro e
    have := congrArg List.getLast? e
    simp at this), if_pos (by simp), List.dropLast_concat]
  have hnm : nameB (labelL k) = true := label_name k hk
  rw [hnm, if_pos rfl, hn]
  rfl
theorem look_map {f : Nat → Bs} (hf : ∀ a b, f a = f b → a = b) (l : List Nat) (p : Nat) : look (l.map fun j => (f j, j)) (f p) = if p ∈ l then some p else none := by
  unfold look
  induction l with
  | nil => rfl
  | cons a l ih =>
    rw [List.map_cons, List.find?_cons]
    by_cases h : a = p
    · subst h; simp
    · have hne : ¬ f a = f p := fun e => h (hf _ _ e)
      simp only [hne, decide_false]
      rw [ih]
      have : p ∈ a :: l ↔ p ∈ l := by simp [Ne.symm h]
      simp only [this]
def ledFrom (led : List Nat) (k n : Nat) : List Nat := (List.range' k n).filter fun j => decide (j ∈ led)
theorem led_cons (led : List Nat) (k n : Nat) : ledFrom led k (n + 1) = (if k ∈ led then [k] else []) ++ ledFrom led (k + 1) n := by
  unfold ledFrom
  rw [List.range'_succ, List.filter_cons]
  by_cases h : k ∈ led <;> simp [h]
def labs (l : List Nat) : List (Bs × Nat) := l.map fun j => (labelL j, j)

theorem numbered_app (a b : List Bs) : ∀ k, numbered k (a ++ b) = numbered k a ++ numbered (k + a.length) b := by
  induction a with
  | nil => intro k; rfl
  | cons x a ih =>
    intro k
    rw [List.cons_append, numbered, ih, numbered, List.length_cons, List.cons_append, show k + 1 + a.length = k + (a.length + 1) by omega]
theorem lines_app (a b : List (Nat × List Bs)) : ∀ st, linesB st (a ++ b) = match linesB st a with | .ok s => linesB s b | .error e => .error e := by
  induction a with
  | nil => intro st; rfl
  | cons x a ih =>
    intro st
    obtain ⟨ln, ws⟩ := x
    rw [List.cons_append, linesB, linesB]
    cases lineB st ws ln with
    | error e => rfl
    | ok s => exact ih s
theorem mem_look {done : List Nat} {k : Nat} (h : ∀ j ∈ done, j < k) : look (labs done) (labelL k) = none := by
  unfold labs
  rw [look_map (fun a b => label_inj), if_neg (fun hm => absurd (h k hm) (by omega))]

theorem lines_print (led : List Nat) : ∀ (l : List In) (k m : Nat) (st : Asm) (done : List Nat), (∀ i ∈ l, rightI i = true) → st.code.length = k → k + l.length ≤ 200 → st.labels = labs done → (∀ j ∈ done, j < k) →
    ∃ cs : List (In × Bs × Nat), cs.map (fun c => (c.1, c.2.1)) = l.map (fun i => (bareIn i, wantB i)) ∧ linesB st (numbered m (printLines led k l ++ [[]])) = .ok ⟨st.code ++ cs, st.places, labs (done ++ ledFrom led k (l.length + 1))⟩ := by
  -- the label, if there is one
  have hlab : ∀ (k : Nat) (st : Asm) (done : List Nat) (m : Nat), st.code.length = k → k ≤ 200 → st.labels = labs done → (∀ j ∈ done, j < k) →
      linesB st (numbered m (if k ∈ led then [labelL k ++ [58]] else [])) = .ok ⟨st.code, st.places, labs (done ++ (if k ∈ led then [k] else []))⟩ := by
    intro k st done m hk h2 hl hd
    by_cases h : k ∈ led
    · rw [if_pos h, if_pos h]
      obtain ⟨p1, p2, p3⟩ := plain_free (label_plain k)
      have e := label_line st k m (by omega) (by rw [hl]; exact mem_look hd)
      have e2 : linesB st (numbered m [labelL k ++ [58]]) = linesB st [(m, [labelL k ++ [58]])] := by
        rw [numbered, numbered, words_one (by simp) p1 p2]
      rw [e2, linesB, e]
      dsimp only
      rw [linesB, hl, hk]
      unfold labs
      rw [List.map_append]
      rfl
    · rw [if_neg h, if_neg h, List.append_nil, numbered, linesB, ← hl]
  intro l
  induction l with
  | nil =>
    intro k m st done _ hk h2 hl hd
    refine ⟨[], rfl, ?_⟩
    unfold printLines
    rw [numbered_app, lines_app, hlab k st done m hk (by simpa using h2) hl hd]
    dsimp only
    rw [numbered, numbered, words_nil, linesB]
    unfold lineB
    dsimp only
    rw [linesB, List.append_nil, List.length_nil, led_cons]
    simp [ledFrom]
  | cons i l ih =>
    intro k m st done hr hk h2 hl hd
    rw [List.length_cons] at h2
    obtain ⟨w1, w2, w3⟩ := words_spell (hr i (by simp))
    have hd2 : ∀ j ∈ done ++ (if k ∈ led then [k] else []), j < k + 1 := by
      intro j hj
      rcases List.mem_append.1 hj with hj | hj
      · have := hd j hj; omega
      · split at hj
        · simp at hj; omega
        · simp at hj
    have hst : ∀ ln, lineB ⟨st.code, st.places, labs (done ++ (if k ∈ led then [k] else []))⟩ (spellW i) ln = .ok ⟨st.code ++ [(bareIn i, wantB i, ln)], st.places, labs (done ++ (if k ∈ led then [k] else []))⟩ :=
      fun ln => line_spell (st := ⟨st.code, st.places, _⟩) (hr i (by simp)) (by show st.code.length < 200; omega) ln
    unfold printLines
    rw [List.append_assoc, numbered_app, lines_app, hlab k st done m hk (by omega) hl hd]
    dsimp only
    generalize (m + (if k ∈ led then [labelL k ++ [58]] else []).length) = m2
    obtain ⟨cs, hcs, hlin⟩ := ih (k + 1) (m2 + 1) ⟨st.code ++ [(bareIn i, wantB i, m2)], st.places, labs (done ++ (if k ∈ led then [k] else []))⟩ (done ++ (if k ∈ led then [k] else [])) (fun x hx => hr x (by simp [hx])) (by simp [hk]) (by omega) rfl hd2
    refine ⟨(bareIn i, wantB i, m2) :: cs, by simp [hcs], ?_⟩
    rw [List.cons_append, numbered, linesB, w1, hst]
    dsimp only
    rw [hlin, List.length_cons, led_cons led k (l.length + 1), List.append_assoc, List.append_assoc]
    rfl

theorem jumps_print (labels : List (Bs × Nat)) : ∀ (l : List In) (cs : List (In × Bs × Nat)), cs.map (fun c => (c.1, c.2.1)) = l.map (fun i => (bareIn i, wantB i)) → (∀ i ∈ l, rightI i = true) →
    (∀ i ∈ l, jumpB i.op = true → look labels (labelL i.pl.toNat) = some i.pl.toNat) → jumpsB labels cs = .ok l
  | [], cs, h, _, _ => by
    have : cs = [] := by simpa using h
    rw [this]; rfl
  | i :: l, [], h, _, _ => by simp at h
  | i :: l, (c, lab, ln) :: cs, h, hr, hl => by
    simp only [List.map_cons, List.cons.injEq, Prod.mk.injEq] at h
    obtain ⟨⟨rfl, rfl⟩, h3⟩ := h
    have ih := jumps_print labels l cs h3 (fun x hx => hr x (by simp [hx])) (fun x hx => hl x (by simp [hx]))
    unfold jumpsB
    rw [ih]
    by_cases hj : jumpB i.op = true
    · have hw : wantB i = labelL i.pl.toNat := by unfold wantB; rw [if_pos hj]
      rw [hw, if_neg (label_ne _), hl i (by simp) hj]
      dsimp only
      have hb : bareIn i = ⟨i.op, 0, 0, 0, 0⟩ := by unfold bareIn; rw [if_pos hj]
      rw [hb]
      have hway := right_way (hr i (by simp))
      obtain ⟨g1, g2, g3, g4, g5, g6, g7, g8, g9, g10, g11⟩ := (op_facts i.op).2.2.1 hj
      cases hway with
      | lit h ha hp hn => rw [h] at g1; cases g1
      | get h h1 h4 ht hn => rw [h] at g1; cases g1
      | put h h1 h4 ht hn => rw [h] at g2; cases g2
      | jump h hk ha h0 h1 hn =>
        obtain ⟨op, kd, ar, pl, n⟩ := i
        simp at hk ha hn h0
        subst hk ha hn
        simp [Int.toNat_of_nonneg h0]
      | bare h hk ha hp hn => rw [h] at g3; cases g3
      | close h hk ha hp hn => omega
      | conv h hk ha hp hn => omega
      | opens h hk ha hr2 hp hn => omega
      | timer h hk h3 h4 h0 h1 hn hm => omega
      | trig h hk h3 h4 h0 h1 hn => omega
    · have hw : wantB i = [] := by unfold wantB; rw [if_neg hj]
      have hb : bareIn i = i := by unfold bareIn; rw [if_neg hj]
      rw [hw, if_pos rfl, hb]

/-- What is printed is assembled to the same. -/
theorem asm_print (code : List In) (hp : printsB code = true) (hl : code.length ≤ 200) (hs : (printL code).length ≤ 4000) : asmB (printL code) = .ok code := by
  unfold printsB at hp
  rw [List.all_eq_true] at hp
  have hr : ∀ i ∈ code, rightI i = true := fun i hi => by have := hp i hi; simp at this; exact this.1
  have hj : ∀ i ∈ code, jumpB i.op = true → i.pl ≤ code.length := fun i hi h => by have := hp i hi; simp [h] at this; exact this.2
  have hfree : ∀ (l : List In) (k : Nat), (∀ i ∈ l, rightI i = true) → ∀ x ∈ printLines (ledB code) k l, 10 ∉ x := by
    intro l
    induction l with
    | nil =>
      intro k _ x hx
      unfold printLines at hx
      split at hx
      · simp at hx; subst hx; exact (plain_free (label_plain k)).2.2
      · simp at hx
    | cons i l ih =>
      intro k hr x hx
      unfold printLines at hx
      rw [List.mem_append, List.mem_cons] at hx
      rcases hx with hx | rfl | hx
      · split at hx
        · simp at hx; subst hx; exact (plain_free (label_plain k)).2.2
        · simp at hx
      · exact (words_spell (hr i (by simp))).2.1
      · exact ih (k + 1) (fun y hy => hr y (by simp [hy])) x hx
  unfold asmB
  rw [if_neg (by omega)]
  unfold printL
  rw [print_end, split_end _ (hfree code 0 hr)]
  unfold asmL
  obtain ⟨cs, h1, h2⟩ := lines_print (ledB code) code 0 1 ⟨[], [], []⟩ [] hr rfl (by omega) rfl (by simp)
  rw [h2]
  dsimp only
  rw [List.nil_append, List.nil_append]
  refine jumps_print _ code cs h1 hr (fun i hi hj2 => ?_)
  unfold labs
  rw [look_map (fun a b => label_inj), if_pos]
  have hpl := hj i hi hj2
  unfold ledFrom
  rw [List.mem_filter]
  refine ⟨by rw [List.mem_range'_1]; omega, ?_⟩
  rw [decide_eq_true_iff]
  unfold ledB
  exact List.mem_map.2 ⟨i, List.mem_filter.2 ⟨hi, hj2⟩, rfl⟩

end Go.Proofs.Ytbejajnhgoejhaa.Il
