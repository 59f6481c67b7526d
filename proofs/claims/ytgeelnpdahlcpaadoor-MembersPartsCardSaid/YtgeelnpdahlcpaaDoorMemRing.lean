/-
  Who goes from next to next comes by all; two ways between two addresses are everybody: plain facts. Conditions: none.
-/
import Derived.Test.YtgeelnpdahlcpaaDoorMemRefs
namespace Go.Proofs.YtgeelnpdahlcpaaDoor

/-- Between two addresses, and back, and these two. -/
def endsB (a b : Nat) : St := withB (withB 0#32 a) b
theorem endsB_bit (a b i : Nat) (hi : i < 32) : (endsB a b).getLsbD i = (decide (i = a) || decide (i = b)) := by
  unfold endsB
  rw [withB_bit _ _ _ hi, withB_bit _ _ _ hi, zero_bit]
  rw [Bool.eq_iff_iff]
  simp only [Bool.false_or, Bool.or_eq_true, decide_eq_true_eq]
  omega
theorem passB_nat (s : St) (a b : Nat) (ha : a < 32) (hb : b < 32) : passB s a b = withB (withB (s &&& ~~~ betwN a b) a) b := by
  have h1 : adr (a : Int) = true := (adr_iff _).2 (by omega)
  have h2 : adr (b : Int) = true := (adr_iff _).2 (by omega)
  unfold passB
  rw [h1, h2, betw_nat a b ha hb]
  rfl
theorem passB_bit (s : St) (a b i : Nat) (ha : a < 32) (hb : b < 32) (hi : i < 32) : (passB s a b).getLsbD i = (s.getLsbD i && !decide (off a i < off a b) || decide (i = a) || decide (i = b)) := by
  rw [passB_nat s a b ha hb, withB_bit _ _ _ hi, withB_bit _ _ _ hi, BitVec.getLsbD_and, BitVec.getLsbD_not, betwN_bit a b i ha hi]
  rw [Bool.eq_iff_iff]
  simp only [Bool.or_eq_true, decide_eq_true_eq, hi, decide_true, Bool.true_and]
  have e1 : ((a : Int) = (i : Int)) ↔ i = a := by omega
  have e2 : ((b : Int) = (i : Int)) ↔ i = b := by omega
  rw [e1, e2]

theorem parts_and1 (a b : Nat) (ha : a < 32) (hb : b < 32) (hne : a ≠ b) : betwN a b &&& betwN b a = 0#32 := by
  apply st_ext
  intro i hi
  rw [BitVec.getLsbD_and, betwN_bit a b i ha hi, betwN_bit b a i hb hi, zero_bit]
  rw [← Bool.not_eq_true]
  simp only [Bool.and_eq_true, decide_eq_true_eq]
  unfold off
  omega
theorem parts_and2 (a b : Nat) (ha : a < 32) : betwN a b &&& endsB a b = 0#32 := by
  apply st_ext
  intro i hi
  rw [BitVec.getLsbD_and, betwN_bit a b i ha hi, endsB_bit a b i hi, zero_bit]
  rw [← Bool.not_eq_true]
  simp only [Bool.and_eq_true, Bool.or_eq_true, decide_eq_true_eq]
  unfold off
  omega
theorem parts_and3 (a b : Nat) (hb : b < 32) : betwN b a &&& endsB a b = 0#32 := by
  apply st_ext
  intro i hi
  rw [BitVec.getLsbD_and, betwN_bit b a i hb hi, endsB_bit a b i hi, zero_bit]
  rw [← Bool.not_eq_true]
  simp only [Bool.and_eq_true, Bool.or_eq_true, decide_eq_true_eq]
  unfold off
  omega
theorem parts_all (a b : Nat) (ha : a < 32) (hb : b < 32) : betwN a b ||| betwN b a ||| endsB a b = 4294967295#32 := by
  apply st_ext
  intro i hi
  have e : (4294967295#32).getLsbD i = true := by
    rw [show (4294967295#32) = BitVec.allOnes 32 from rfl, BitVec.getLsbD_allOnes]
    simp [hi]
  rw [BitVec.getLsbD_or, BitVec.getLsbD_or, betwN_bit a b i ha hi, betwN_bit b a i hb hi, endsB_bit a b i hi, e]
  simp only [Bool.or_eq_true, decide_eq_true_eq]
  unfold off
  omega
theorem parts_next (s : St) (a b : Nat) (ha : a < 32) (hb : b < 32) (hne : a ≠ b) : nextI (passB s a b) a = b := by
  unfold nextI
  apply turnI_first _ a b ha hb
  · rw [woB_bit _ _ _ hb, passB_bit s a b b ha hb hb]
    simp
    omega
  · intro j hj h
    rw [woB_bit _ _ _ hj, passB_bit s a b j ha hb hj] at h
    simp only [Bool.and_eq_true, Bool.or_eq_true, decide_eq_true_eq, Bool.not_eq_true', decide_eq_false_iff_not] at h
    obtain ⟨h, h2⟩ := h
    rcases h with (⟨_, h⟩ | h) | h
    · omega
    · omega
    · subst h; omega
theorem parts_down (s : St) (a b : Nat) (ha : a < 32) (hb : b < 32) (hne : a ≠ b) : passB s a b &&& betwN b a = s &&& betwN b a := by
  apply st_ext
  intro i hi
  rw [BitVec.getLsbD_and, BitVec.getLsbD_and, passB_bit s a b i ha hb hi, betwN_bit b a i hb hi]
  rw [Bool.eq_iff_iff]
  simp only [Bool.and_eq_true, Bool.or_eq_true, decide_eq_true_eq, Bool.not_eq_true', decide_eq_false_iff_not]
  unfold off
  constructor
  · rintro ⟨(⟨h1, _⟩ | h) | h, h3⟩
    · exact ⟨h1, h3⟩
    · omega
    · omega
  · rintro ⟨h1, h3⟩
    exact ⟨.inl (.inl ⟨h1, by omega⟩), h3⟩
theorem parts_ends (s : St) (a b : Nat) (ha : a < 32) (hb : b < 32) : passB s a b &&& endsB a b = endsB a b := by
  apply st_ext
  intro i hi
  rw [BitVec.getLsbD_and, passB_bit s a b i ha hb hi, endsB_bit a b i hi]
  rw [Bool.eq_iff_iff]
  simp only [Bool.and_eq_true, Bool.or_eq_true, decide_eq_true_eq, Bool.not_eq_true', decide_eq_false_iff_not]
  constructor
  · exact fun h => h.2
  · rintro (h | h)
    · exact ⟨.inl (.inr h), .inl h⟩
    · exact ⟨.inr h, .inr h⟩
theorem same_up (a : Nat) (ha : a < 32) : betwN a a = ~~~ endsB a a := by
  apply st_ext
  intro i hi
  rw [BitVec.getLsbD_not, betwN_bit a a i ha hi, endsB_bit a a i hi]
  rw [Bool.eq_iff_iff]
  simp only [Bool.and_eq_true, decide_eq_true_eq, Bool.not_eq_true', Bool.or_eq_false_iff, decide_eq_false_iff_not, hi, decide_true, true_and]
  unfold off
  omega
theorem same_pass (s : St) (a : Nat) (ha : a < 32) : passB s a a = endsB a a := by
  apply st_ext
  intro i hi
  rw [passB_bit s a a i ha ha hi, endsB_bit a a i hi]
  rw [Bool.eq_iff_iff]
  simp only [Bool.and_eq_true, Bool.or_eq_true, decide_eq_true_eq, Bool.not_eq_true', decide_eq_false_iff_not]
  unfold off
  omega

/-! ### From next to next -/
theorem list_sorted (s : St) {i j : Nat} (hi : i < (listB s).length) (hj : j < (listB s).length) (h : i < j) : (listB s)[i] < (listB s)[j] := by
  have hp : (listB s).Pairwise (· < ·) := List.Pairwise.filter _ List.pairwise_lt_range
  exact List.pairwise_iff_getElem.1 hp i j hi hj h
theorem list_at (s : St) (x : Nat) (h : s.getLsbD x = true) : ∃ i, ∃ h : i < (listB s).length, (listB s)[i] = x :=
  List.mem_iff_getElem.1 ((listB_mem s x).2 h)
theorem list_bit (s : St) (i : Nat) (h : i < (listB s).length) : s.getLsbD (listB s)[i] = true ∧ (listB s)[i] < 32 :=
  ⟨(listB_mem s _).1 (List.getElem_mem h), listB_lt s _ (List.getElem_mem h)⟩
theorem list_inj (s : St) {i j : Nat} (hi : i < (listB s).length) (hj : j < (listB s).length) (h : (listB s)[i] = (listB s)[j]) : i = j := by
  rcases Nat.lt_trichotomy i j with c | c | c
  · have := list_sorted s hi hj c; omega
  · exact c
  · have := list_sorted s hj hi c; omega

/-- The place behind. -/
def nxt (n i : Nat) : Nat := (i + 1) % n

/-- No other one lies between one and the next. -/
theorem list_gap (s : St) (i : Nat) (h : i < (listB s).length) (h2 : 2 ≤ (listB s).length) (hn : nxt (listB s).length i < (listB s).length) (x : Nat) (hx : s.getLsbD x = true) (hne : x ≠ (listB s)[i]) :
    ((listB s)[i] < (listB s)[nxt (listB s).length i] ∧ (x < (listB s)[i] ∨ (listB s)[nxt (listB s).length i] ≤ x)) ∨ ((listB s)[nxt (listB s).length i] < (listB s)[i] ∧ x < (listB s)[i] ∧ (listB s)[nxt (listB s).length i] ≤ x) := by
  obtain ⟨j, hj, rfl⟩ := list_at s x hx
  have hij : j ≠ i := fun e => hne (by subst e; rfl)
  by_cases c : i + 1 < (listB s).length
  · have e : nxt (listB s).length i = i + 1 := Nat.mod_eq_of_lt c
    left
    have hs1 : (listB s)[i] < (listB s)[nxt (listB s).length i] := list_sorted s h hn (by omega)
    refine ⟨hs1, ?_⟩
    by_cases c2 : j < i
    · exact .inl (list_sorted s hj h c2)
    · right
      by_cases c3 : j = nxt (listB s).length i
      · subst c3; exact Nat.le_refl _
      · exact Nat.le_of_lt (list_sorted s hn hj (by omega))
  · have e : nxt (listB s).length i = 0 := by unfold nxt; rw [show i + 1 = (listB s).length by omega]; exact Nat.mod_self _
    right
    refine ⟨list_sorted s hn h (by omega), list_sorted s hj h (by omega), ?_⟩
    by_cases c3 : j = nxt (listB s).length i
    · subst c3; exact Nat.le_refl _
    · exact Nat.le_of_lt (list_sorted s hn hj (by omega))

theorem ring_ne (s : St) (i : Nat) (h : i < (listB s).length) (h2 : 2 ≤ (listB s).length) (hn : nxt (listB s).length i < (listB s).length) : (listB s)[nxt (listB s).length i] ≠ (listB s)[i] := by
  intro e
  have e := list_inj s hn h e
  unfold nxt at e
  by_cases c : i + 1 < (listB s).length
  · rw [Nat.mod_eq_of_lt c] at e; omega
  · rw [show i + 1 = (listB s).length by omega, Nat.mod_self] at e; omega

theorem ring_next (s : St) (i : Nat) (h : i < (listB s).length) (h2 : 2 ≤ (listB s).length) (hn : nxt (listB s).length i < (listB s).length) : nextI s (listB s)[i] = ((listB s)[nxt (listB s).length i] : Nat) := by
  obtain ⟨hb, hlt⟩ := list_bit s _ hn
  obtain ⟨_, hlt1⟩ := list_bit s _ h
  have hne := ring_ne s i h h2 hn
  have hg := list_gap s i h h2 hn
  unfold nextI
  generalize (listB s)[nxt (listB s).length i] = b at *
  generalize (listB s)[i] = a at *
  refine turnI_first _ a b hlt1 hlt ?_ ?_
  · rw [woB_bit _ _ _ hlt, hb]
    simp
    omega
  · intro x hx hs
    rw [woB_bit _ _ _ hx] at hs
    simp only [Bool.and_eq_true, Bool.not_eq_true', decide_eq_false_iff_not] at hs
    have := hg x hs.1 (by omega)
    unfold off
    omega
theorem ring_prev (s : St) (i : Nat) (h : i < (listB s).length) (h2 : 2 ≤ (listB s).length) (hn : nxt (listB s).length i < (listB s).length) : prevI s (listB s)[nxt (listB s).length i] = ((listB s)[i] : Nat) := by
  obtain ⟨_, hlt⟩ := list_bit s _ hn
  obtain ⟨hb, hlt1⟩ := list_bit s _ h
  have hne := ring_ne s i h h2 hn
  have hg := list_gap s i h h2 hn
  generalize (listB s)[nxt (listB s).length i] = b at *
  generalize (listB s)[i] = a at *
  refine prevI_first _ b a hlt hlt1 (by omega) hb ?_
  intro x hx hnx hs
  by_cases e : x = a
  · subst e; omega
  · have := hg x hs e
    omega
theorem ring_between (s : St) (i : Nat) (h : i < (listB s).length) (h2 : 2 ≤ (listB s).length) (hn : nxt (listB s).length i < (listB s).length) : betw (listB s)[i] ((listB s)[nxt (listB s).length i] : Nat) &&& s = 0#32 := by
  obtain ⟨_, hlt⟩ := list_bit s _ hn
  obtain ⟨_, hlt1⟩ := list_bit s _ h
  have hne := ring_ne s i h h2 hn
  have hg := list_gap s i h h2 hn
  generalize (listB s)[nxt (listB s).length i] = b at *
  generalize (listB s)[i] = a at *
  rw [betw_nat a b hlt1 hlt]
  apply st_ext
  intro x hx
  rw [BitVec.getLsbD_and, betwN_bit a b x hlt1 hx, zero_bit]
  rw [← Bool.not_eq_true]
  simp only [Bool.and_eq_true, decide_eq_true_eq]
  rintro ⟨c1, c2⟩
  by_cases e : x = a
  · subst e; unfold off at c1; omega
  · have := hg x c2 e
    unfold off at c1
    omega

/-- Those met on k steps from place i on. -/
def metB (l : List Nat) (i k : Nat) : St := ofL ((List.range k).map fun j => (l[(i + 1 + j) % l.length]?).getD 0)
theorem metB_zero (l : List Nat) (i : Nat) : metB l i 0 = 0#32 := rfl
theorem metB_step (l : List Nat) (i k : Nat) (b : Nat) (hb : l[(i + 1 + k) % l.length]? = some b) : withB (metB l i k) b = metB l i (k + 1) := by
  unfold metB
  rw [List.range_succ, List.map_append]
  simp only [List.map_cons, List.map_nil, hb, Option.getD_some]
  exact (addL_snoc _ _ _).symm
theorem metB_bit (l : List Nat) (i k x : Nat) (hx : x < 32) (hl : 0 < l.length) : (metB l i k).getLsbD x = true ↔ ∃ j, j < k ∧ l[(i + 1 + j) % l.length]? = some x := by
  unfold metB ofL
  rw [addL_bit x hx, zero_bit]
  simp only [Bool.false_or, decide_eq_true_eq, List.mem_map, List.mem_range]
  constructor
  · rintro ⟨j, hj, he⟩
    have hlt : (i + 1 + j) % l.length < l.length := Nat.mod_lt _ hl
    rw [List.getElem?_eq_getElem hlt, Option.getD_some] at he
    exact ⟨j, hj, by rw [List.getElem?_eq_getElem hlt, he]⟩
  · rintro ⟨j, hj, he⟩
    exact ⟨j, hj, by rw [he]; rfl⟩
theorem mod_ne {n a j k : Nat} (hj : j < k) (hk : k < n) : (a + j) % n ≠ (a + k) % n := by
  intro e
  have h1 := Nat.div_add_mod (a + j) n
  have h2 := Nat.div_add_mod (a + k) n
  rw [e] at h1
  have h3 : n * ((a + k) / n) = n * ((a + j) / n) + (k - j) := by omega
  rcases Nat.lt_or_ge ((a + j) / n) ((a + k) / n) with c | c
  · have := Nat.mul_le_mul_left n c
    rw [Nat.mul_succ] at this
    omega
  · have := Nat.mul_le_mul_left n c
    omega
theorem met_new (s : St) (i k b : Nat) (hk : k < (listB s).length) (hb : (listB s)[(i + 1 + k) % (listB s).length]? = some b) : (metB (listB s) i k).getLsbD b = false := by
  have hl : 0 < (listB s).length := by omega
  have hlt : (i + 1 + k) % (listB s).length < (listB s).length := Nat.mod_lt _ hl
  have hb' : (listB s)[(i + 1 + k) % (listB s).length] = b := by rw [List.getElem?_eq_getElem hlt] at hb; exact Option.some.inj hb
  have hb32 : b < 32 := by rw [← hb']; exact (list_bit s _ hlt).2
  rw [← Bool.not_eq_true, metB_bit _ _ _ _ hb32 hl]
  rintro ⟨j, hj, he⟩
  have hlt2 : (i + 1 + j) % (listB s).length < (listB s).length := Nat.mod_lt _ hl
  rw [List.getElem?_eq_getElem hlt2] at he
  have he := Option.some.inj he
  rw [← hb'] at he
  exact mod_ne hj hk (list_inj s hlt2 hlt he)
theorem met_all (s : St) (i : Nat) (hl : 0 < (listB s).length) : metB (listB s) i (listB s).length = s := by
  apply st_ext
  intro x hx
  rw [Bool.eq_iff_iff, metB_bit _ _ _ _ hx hl]
  constructor
  · rintro ⟨j, hj, he⟩
    have hlt : (i + 1 + j) % (listB s).length < (listB s).length := Nat.mod_lt _ hl
    rw [List.getElem?_eq_getElem hlt] at he
    rw [← Option.some.inj he]
    exact (list_bit s _ hlt).1
  · intro h
    obtain ⟨q, hq, rfl⟩ := list_at s x h
    refine ⟨(q + (listB s).length - (i + 1) % (listB s).length) % (listB s).length, Nat.mod_lt _ hl, ?_⟩
    have hm : (i + 1) % (listB s).length < (listB s).length := Nat.mod_lt _ hl
    have e : (i + 1 + (q + (listB s).length - (i + 1) % (listB s).length) % (listB s).length) % (listB s).length = q := by
      rw [Nat.add_mod_mod, ← Nat.mod_add_mod, show (i + 1) % (listB s).length + (q + (listB s).length - (i + 1) % (listB s).length) = q + (listB s).length by omega, Nat.add_mod_right]
      exact Nat.mod_eq_of_lt hq
    rw [e]
    exact List.getElem?_eq_getElem hq
end Go.Proofs.YtgeelnpdahlcpaaDoor
