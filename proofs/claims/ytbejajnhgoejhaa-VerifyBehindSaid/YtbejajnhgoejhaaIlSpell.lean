/-
  Plain facts: what is spelled is read back. No program is named here. Conditions: none.
-/
import Derived.Test.YtbejajnhgoejhaaIlWord
namespace Go.Proofs.Ytbejajnhgoejhaa.Il
open Go.Proofs.Ytbejajnhgoejhaa.Ic

theorem kind_name (k : Int) (h : szI k ≠ 0) : kindOf (nmI k) = k := by
  rcases kinds k with h' | rfl | rfl | rfl | rfl | rfl | rfl | rfl
  · exact absurd (sz_none k h') h
  all_goals decide
def capB (c : UInt8) : Bool := decide (65 ≤ c ∧ c ≤ 90)
theorem name_caps (k : Int) (h : szI k ≠ 0) : nmI k ≠ [] ∧ (nmI k).all capB = true := by
  rcases kinds k with h' | rfl | rfl | rfl | rfl | rfl | rfl | rfl
  · exact absurd (sz_none k h') h
  all_goals decide
theorem op_fin : ∀ k : Fin 37, namesL.getD k.val [] = [] ∨ (opOf (namesL.getD k.val []) = k.val ∧ (namesL.getD k.val []).all capB = true) := by decide
theorem op_some : ∀ k : Fin 37, k.val ≠ 0 → k.val ≠ 32 → k.val ≠ 33 → namesL.getD k.val [] ≠ [] := by decide
theorem op_name (op : Int) (h : 1 ≤ op) (h2 : op ≤ 36) (h3 : op ≠ 32) (h4 : op ≠ 33) : opName op ≠ [] ∧ (opOf (opName op) : Int) = op ∧ (opName op).all capB = true := by
  have hk := op_fin ⟨op.toNat, by omega⟩
  have hs := op_some ⟨op.toNat, by omega⟩ (by simp; omega) (by simp; omega) (by simp; omega)
  rcases hk with hk | hk
  · exact absurd hk hs
  · refine ⟨hs, ?_, hk.2⟩
    unfold opName
    rw [hk.1]
    simp; omega
theorem caps_free {s : Bs} (h : s.all capB = true) {c : UInt8} (hc : capB c = false) : c ∉ s := by
  intro hm
  rw [List.all_eq_true] at h
  rw [h c hm] at hc; cases hc
theorem dec_free (u : Nat) {c : UInt8} (hc : digitB c = false) : c ∉ Lib.decDigits u := fun hm => by rw [dec_mem hm] at hc; cases hc
theorem itoa_free (n : Int) {c : UInt8} (hc : digitB c = false) (h45 : c ≠ 45) : c ∉ Lib.itoa n := fun hm => by
  rcases itoa_mem hm with h | h
  · exact h45 h
  · rw [h] at hc; cases hc
theorem let_free (ar : Int) {c : UInt8} (hc : capB c = false) (h63 : c ≠ 63) : c ≠ letA ar := by
  unfold letA
  split
  · intro e; rw [e] at hc; cases hc
  split
  · intro e; rw [e] at hc; cases hc
  split
  · intro e; rw [e] at hc; cases hc
  split
  · intro e; rw [e] at hc; cases hc
  · exact h63
theorem area_free (ar pl : Int) {c : UInt8} (h37 : c ≠ 37) (hc : capB c = false) (h63 : c ≠ 63) (hd : digitB c = false) : c ∉ areaL ar pl := by
  unfold areaL
  simp only [List.mem_cons, not_or]
  exact ⟨h37, let_free ar hc h63, dec_free _ hd⟩
theorem area_ne (ar pl : Int) : areaL ar pl ≠ [] := by unfold areaL; simp
theorem area_of (ar : Int) (h1 : 1 ≤ ar) (h4 : ar ≤ 4) : areaOf (letA ar) = some ar := by
  rcases (show ar = 1 ∨ ar = 2 ∨ ar = 3 ∨ ar = 4 by omega) with rfl | rfl | rfl | rfl <;> rfl
theorem spot_area (ar pl : Int) (h1 : 1 ≤ ar) (h4 : ar ≤ 4) (h0 : 0 ≤ pl) (h : pl < 100) : spotB (areaL ar pl) = some (ar, pl) := by
  unfold areaL spotB
  dsimp only
  rw [if_pos rfl, area_of ar h1 h4, small_dec pl.toNat (by omega)]
  simp; omega
theorem there_bd {pl k : Int} (h : thereB pl k = true) : szI k ≠ 0 ∧ 0 ≤ pl ∧ pl < 64 := by
  unfold thereB at h
  rw [decide_eq_true_iff] at h
  refine ⟨h.1, h.2.1, ?_⟩
  have := h.1
  omega
theorem place_text (ar pl k : Int) (h1 : 1 ≤ ar) (h4 : ar ≤ 4) (ht : thereB pl k = true) : placeB (areaL ar pl ++ 58 :: nmI k) = some ⟨0, k, ar, pl, 0⟩ := by
  obtain ⟨hk, h0, h64⟩ := there_bd ht
  unfold placeB
  rw [split_two (area_free ar pl (by decide) (by decide) (by decide) (by decide)) (caps_free (name_caps k hk).2 (by decide))]
  dsimp only
  have hk2 : ¬ k = 0 := by have := (sz_iff k).1 hk; omega
  rw [spot_area ar pl h1 h4 h0 (by omega), kind_name k hk]
  simp [hk2]
theorem place_lit (k n : Int) (hk : szI k ≠ 0) : placeB (nmI k ++ 35 :: Lib.itoa n) = none := by
  unfold placeB
  rw [split_free]
  simp only [List.mem_append, List.mem_cons, not_or]
  exact ⟨caps_free (name_caps k hk).2 (by decide), by decide, itoa_free n (by decide) (by decide)⟩
theorem lit_text (k n : Int) (h : isI k n = true) : litB (nmI k ++ 35 :: Lib.itoa n) = some ⟨0, k, 0, 0, n⟩ := by
  have hk := is_sz h
  have hb := is_bd h
  unfold litB
  rw [split_two (caps_free (name_caps k hk).2 (by decide)) (itoa_free n (by decide) (by decide))]
  dsimp only
  have hk2 : ¬ k = 0 := by have := (sz_iff k).1 hk; omega
  rw [sign_itoa n (by omega) (by omega), kind_name k hk]
  simp [hk2]
theorem label_name (u : Nat) (h : u < 1000000) : nameB (76 :: Lib.decDigits u) = true := by
  unfold nameB
  have h1 := dec_length_le 6 u (by omega) (by omega)
  have h2 : (Lib.decDigits u).all (fun x => letterB x || digitB x || decide (x = 95)) = true := by
    rw [List.all_eq_true]
    intro x hx
    simp [dec_mem hx]
  dsimp only
  rw [h2]
  have h3 : decide ((Lib.decDigits u).length < 16) = true := by rw [decide_eq_true_iff]; omega
  rw [h3]
  decide

/-- An instruction as it is read: a jump not led yet. -/
def bareIn (i : In) : In := if jumpB i.op then ⟨i.op, 0, 0, 0, 0⟩ else i
/-- The label that it wants. -/
def wantB (i : In) : Bs := if jumpB i.op then labelL i.pl.toNat else []

theorem last_cap {s : Bs} {c : UInt8} (hs : s.all capB = true) (hc : capB c = false) : s.getLast? ≠ some c := by
  intro h
  have := List.mem_of_getLast? h
  exact caps_free hs hc this

theorem arg_instr (places : List (Bs × In)) (a b : Bs) (op : Int) (h1 : 1 ≤ op) (ho : (opOf a : Int) = op) (hb : bareB op = false) : instrB places [a, b] = askB places op b := by
  unfold instrB
  dsimp only
  rw [if_neg, ho]
  rw [ho, hb]
  intro h
  rcases h with h | h
  · omega
  · cases h

theorem op_facts (op : Int) : (readsB op = true → writesB op = false ∧ jumpB op = false ∧ bareB op = false ∧ op ≠ 31 ∧ op ≠ 32 ∧ op ≠ 33 ∧ op ≠ 34 ∧ op ≠ 35 ∧ op ≠ 36 ∧ 1 ≤ op ∧ op ≤ 36) ∧
    (writesB op = true → readsB op = false ∧ jumpB op = false ∧ bareB op = false ∧ op ≠ 31 ∧ op ≠ 32 ∧ op ≠ 33 ∧ op ≠ 34 ∧ op ≠ 35 ∧ op ≠ 36 ∧ 1 ≤ op ∧ op ≤ 36) ∧
    (jumpB op = true → readsB op = false ∧ writesB op = false ∧ bareB op = false ∧ op ≠ 31 ∧ op ≠ 32 ∧ op ≠ 33 ∧ op ≠ 34 ∧ op ≠ 35 ∧ op ≠ 36 ∧ 1 ≤ op ∧ op ≤ 36) ∧
    (bareB op = true → readsB op = false ∧ writesB op = false ∧ jumpB op = false ∧ op ≠ 31 ∧ op ≠ 32 ∧ op ≠ 33 ∧ op ≠ 34 ∧ op ≠ 35 ∧ op ≠ 36 ∧ 1 ≤ op ∧ op ≤ 36) := by
  unfold readsB writesB jumpB bareB
  simp only [decide_eq_true_iff, decide_eq_false_iff_not]
  refine ⟨?_, ?_, ?_, ?_⟩ <;> intro h <;> omega

theorem instr_spell (i : In) (h : rightI i = true) (places : List (Bs × In)) : instrB places (spellW i) = .ok (bareIn i, wantB i) := by
  obtain ⟨f1, f2, f3, f4⟩ := op_facts i.op
  unfold spellW bareIn wantB
  cases right_way h with
  | lit h ha hp hn =>
    obtain ⟨g1, g2, g3, g4, g5, g6, g7, g8, g9, g10, g11⟩ := f1 h
    obtain ⟨-, n2, -⟩ := op_name i.op g10 g11 g5 g6
    rw [if_neg g6, if_neg g5, g3, g2]
    simp only [Bool.false_eq_true, if_false]
    rw [arg_instr places _ _ i.op g10 n2 g3]
    unfold argL
    rw [g2, if_neg (by decide), if_neg g4, if_neg (by omega), if_neg g9, if_pos ha]
    unfold askB operandB
    rw [h, place_lit _ _ (is_sz hn), lit_text _ _ hn]
    simp only [Bool.true_or, if_true]
    obtain ⟨op, kd, ar, pl, n⟩ := i
    simp at ha hp
    subst ha hp
    rfl
  | get h h1 h4 ht hn =>
    obtain ⟨g1, g2, g3, g4, g5, g6, g7, g8, g9, g10, g11⟩ := f1 h
    obtain ⟨-, n2, -⟩ := op_name i.op g10 g11 g5 g6
    rw [if_neg g6, if_neg g5, g3, g2]
    simp only [Bool.false_eq_true, if_false]
    rw [arg_instr places _ _ i.op g10 n2 g3]
    unfold argL
    rw [g2, if_neg (by decide), if_neg g4, if_neg (by omega), if_neg g9, if_neg (by omega)]
    unfold askB operandB
    rw [h, place_text _ _ _ h1 h4 ht]
    simp only [Bool.true_or, if_true]
    obtain ⟨op, kd, ar, pl, n⟩ := i
    simp at hn
    subst hn
    rfl
  | put h h1 h4 ht hn =>
    obtain ⟨g1, g2, g3, g4, g5, g6, g7, g8, g9, g10, g11⟩ := f2 h
    obtain ⟨-, n2, -⟩ := op_name i.op g10 g11 g5 g6
    rw [if_neg g6, if_neg g5, g3, g2]
    simp only [Bool.false_eq_true, if_false]
    rw [arg_instr places _ _ i.op g10 n2 g3]
    unfold argL
    rw [g2, if_neg (by decide), if_neg g4, if_neg (by omega), if_neg g9, if_neg (by omega)]
    unfold askB operandB
    rw [h, place_text _ _ _ (by omega) h4 ht]
    simp only [Bool.or_true, if_true]
    obtain ⟨op, kd, ar, pl, n⟩ := i
    simp at hn
    subst hn
    rfl
  | jump h hk ha h0 h1 hn =>
    obtain ⟨g1, g2, g3, g4, g5, g6, g7, g8, g9, g10, g11⟩ := f3 h
    obtain ⟨-, n2, -⟩ := op_name i.op g10 g11 g5 g6
    rw [if_neg g6, if_neg g5, g3, h]
    simp only [Bool.false_eq_true, if_false, if_true]
    rw [arg_instr places _ _ i.op g10 n2 g3]
    unfold argL
    rw [h, if_pos rfl]
    unfold askB
    rw [g1, g2, h, label_name _ (by omega)]
    rfl
  | bare h hk ha hp hn =>
    obtain ⟨g1, g2, g3, g4, g5, g6, g7, g8, g9, g10, g11⟩ := f4 h
    obtain ⟨n1, n2, n3⟩ := op_name i.op g10 g11 g5 g6
    rw [if_neg g6, if_neg g5, h, g3]
    simp only [Bool.false_eq_true, if_false, if_true]
    unfold instrB
    dsimp only
    rw [if_neg (by intro e; rw [e] at n3; exact absurd n3 (by decide)), if_neg (fun e => last_cap n3 (by decide) e.1), n2, h, if_pos rfl]
    obtain ⟨op, kd, ar, pl, n⟩ := i
    simp at hk ha hp hn
    subst hk ha hp hn
    rfl
  | close h hk ha hp hn =>
    rw [if_pos h, h]
    obtain ⟨op, kd, ar, pl, n⟩ := i
    simp at h hk ha hp hn
    subst h hk ha hp hn
    rfl
  | conv h hk ha hp hn =>
    have g3 : bareB i.op = false := by rw [h]; decide
    have g2 : jumpB i.op = false := by rw [h]; decide
    have g1 : readsB i.op = false := by rw [h]; decide
    have g0 : writesB i.op = false := by rw [h]; decide
    obtain ⟨-, n2, -⟩ := op_name i.op (by omega) (by omega) (by omega) (by omega)
    rw [if_neg (by omega), if_neg (by omega), g3, g2]
    simp only [Bool.false_eq_true, if_false]
    rw [arg_instr places _ _ i.op (by omega) n2 g3]
    unfold argL
    rw [g2, if_neg (by decide), if_pos h]
    unfold askB
    rw [g1, g0, g2, if_neg (by decide), if_neg (by decide), if_pos h, kind_name _ hk]
    obtain ⟨op, kd, ar, pl, n⟩ := i
    simp at ha hp hn
    subst ha hp hn
    rfl
  | opens h hk ha hr2 hp hn =>
    obtain ⟨k1, k2, k3, k4, k5, k6, k7, k8, k9, k10, k11⟩ := (op_facts i.pl).1 hr2
    obtain ⟨n1, n2, n3⟩ := op_name i.pl k10 k11 k5 k6
    have g2 : jumpB i.op = false := by rw [h]; decide
    rw [if_neg (by omega), if_pos h, g2]
    simp only [Bool.false_eq_true, if_false]
    unfold instrB
    dsimp only
    rw [if_neg (by
        intro e
        have := congrArg List.length e
        simp at this
        exact n1 this), if_pos ⟨by simp, by
        have : 0 < (opName i.pl).length := List.length_pos_iff.2 n1
        simp; omega⟩, List.dropLast_concat, n2]
    obtain ⟨op, kd, ar, pl, n⟩ := i
    simp at h hk ha hn
    subst h hk ha hn
    rfl
  | timer h hk h3 h4 h0 h1 hn hm =>
    have hg : bareB i.op = false ∧ jumpB i.op = false ∧ readsB i.op = false ∧ writesB i.op = false ∧ i.op ≠ 31 ∧ i.op ≠ 32 ∧ i.op ≠ 33 ∧ i.op ≠ 36 ∧ 1 ≤ i.op ∧ i.op ≤ 36 := by rcases h with h | h <;> rw [h] <;> decide
    obtain ⟨g3, g2, g1, g0, g4, g5, g6, g9, g10, g11⟩ := hg
    obtain ⟨-, n2, -⟩ := op_name i.op g10 g11 g5 g6
    rw [if_neg g6, if_neg g5, g3, g2]
    simp only [Bool.false_eq_true, if_false]
    rw [arg_instr places _ _ i.op g10 n2 g3]
    unfold argL
    rw [g2, if_neg (by decide), if_neg g4, if_pos h]
    unfold askB
    rw [g1, g0, g2, if_neg (by decide), if_neg (by decide), if_neg g4, if_neg g9, split_two (area_free _ _ (by decide) (by decide) (by decide) (by decide)) (itoa_free _ (by decide) (by decide))]
    dsimp only
    rw [spot_area _ _ (by omega) h4 h0 (by omega), itoa_pos _ (by omega), num_dec 4 _ (by omega) (by omega)]
    dsimp only
    obtain ⟨op, kd, ar, pl, n⟩ := i
    simp at hk hn
    subst hk
    rw [show ((n.toNat : Nat) : Int) = n by omega]
  | trig h hk h3 h4 h0 h1 hn =>
    have hg : bareB i.op = false ∧ jumpB i.op = false ∧ readsB i.op = false ∧ writesB i.op = false ∧ i.op ≠ 31 ∧ i.op ≠ 32 ∧ i.op ≠ 33 ∧ ¬ (i.op = 34 ∨ i.op = 35) ∧ 1 ≤ i.op ∧ i.op ≤ 36 := by rw [h]; decide
    obtain ⟨g3, g2, g1, g0, g4, g5, g6, g9, g10, g11⟩ := hg
    obtain ⟨-, n2, -⟩ := op_name i.op g10 g11 g5 g6
    rw [if_neg g6, if_neg g5, g3, g2]
    simp only [Bool.false_eq_true, if_false]
    rw [arg_instr places _ _ i.op g10 n2 g3]
    unfold argL
    rw [g2, if_neg (by decide), if_neg g4, if_neg g9, if_pos h]
    unfold askB
    rw [g1, g0, g2, if_neg (by decide), if_neg (by decide), if_neg g4, if_pos h, spot_area _ _ (by omega) h4 h0 (by omega)]
    obtain ⟨op, kd, ar, pl, n⟩ := i
    simp at hk hn
    subst hk hn
    rfl

/-! ### What is spelled has these words -/
/-- No blank, no semicolon, no newline. -/
def plainB (s : Bs) : Bool := s.all (fun c => decide (c ≠ 32 ∧ c ≠ 59 ∧ c ≠ 10))
theorem plain_free {s : Bs} (h : plainB s = true) : 32 ∉ s ∧ 59 ∉ s ∧ 10 ∉ s := by
  unfold plainB at h
  rw [List.all_eq_true] at h
  have hh : ∀ x ∈ s, x ≠ 32 ∧ x ≠ 59 ∧ x ≠ 10 := fun x hx => by simpa using h x hx
  exact ⟨fun e => (hh _ e).1 rfl, fun e => (hh _ e).2.1 rfl, fun e => (hh _ e).2.2 rfl⟩
theorem plain_of {s : Bs} (h : ∀ c, capB c = false → digitB c = false → c ≠ 37 → c ≠ 63 → c ≠ 44 → c ≠ 45 → c ≠ 35 → c ≠ 58 → c ≠ 40 → c ≠ 41 → c ∉ s) : plainB s = true := by
  unfold plainB
  rw [List.all_eq_true]
  intro x hx
  rw [decide_eq_true_iff]
  refine ⟨?_, ?_, ?_⟩ <;> rintro rfl <;> exact h _ (by decide) (by decide) (by decide) (by decide) (by decide) (by decide) (by decide) (by decide) (by decide) (by decide) hx
theorem arg_plain {i : In} (ha : szI i.kd ≠ 0 ∨ (i.op ≠ 31 ∧ readsB i.op = false ∧ writesB i.op = false)) : argL i ≠ [] ∧ plainB (argL i) = true := by
  have hn : nmI i.kd ≠ [] ∨ (i.op ≠ 31 ∧ readsB i.op = false ∧ writesB i.op = false) := ha.imp (fun h => (name_caps _ h).1) id
  constructor
  · unfold argL
    split
    · simp
    split
    · next h31 =>
      rcases hn with hn | hn
      · exact hn
      · exact absurd h31 hn.1
    split
    · simp
    split
    · exact area_ne _ _
    split <;> simp
  · refine plain_of fun c h1 h2 h3 h4 h5 h6 h7 h8 h9 h10 => ?_
    have hk : c ∉ nmI i.kd := by
      by_cases hs : szI i.kd = 0
      · have : nmI i.kd = [] := by
          unfold nmI nameI
          have := (not_congr (sz_iff i.kd)).1 (by simpa using hs)
          (repeat' split) <;> first | rfl | omega
        rw [this]; simp
      · exact caps_free (name_caps _ hs).2 h1
    have hd := fun u => dec_free u h2
    have hi := fun n => itoa_free n h2 h6
    have har := area_free i.ar i.pl h3 h1 h4 h2
    unfold argL
    split
    · simp only [List.mem_cons, not_or]
      exact ⟨(fun e => by rw [e] at h1; cases h1), hd _⟩
    split
    · exact hk
    split
    · simp only [List.mem_append, List.mem_cons, not_or]
      exact ⟨har, h5, hi _⟩
    split
    · exact har
    split
    · simp only [List.mem_append, List.mem_cons, not_or]
      exact ⟨hk, h7, hi _⟩
    · simp only [List.mem_append, List.mem_cons, not_or]
      exact ⟨har, h8, hk⟩

end Go.Proofs.Ytbejajnhgoejhaa.Il
