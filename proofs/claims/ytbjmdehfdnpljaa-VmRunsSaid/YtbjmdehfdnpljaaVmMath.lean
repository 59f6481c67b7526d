/-
  Plain facts on programs that run: what an instruction does, where it leads, and what holds of all that may run. No program is named here. Conditions: none.
-/
import Derived.Test.YtbjmdehfdnpljaaVeMath
import Derived.Test.YtbjmdehfdnpljaaIcP
namespace Go.Proofs.Ytbjmdehfdnpljaa.Vm
open Go.Proofs.Ytbjmdehfdnpljaa.Il Go.Proofs.Ytbjmdehfdnpljaa.Ic Go.Proofs.Ytbjmdehfdnpljaa.Ve
open Oct

abbrev Bk := Int × Int × Int
/-- How far a run has come: the areas, the result, the open brackets, how often something had 0 to divide by. -/
structure St where
  A : List Bs
  kd : Int
  v : Int
  op : List Bk
  z : Nat
def getL (l : Bs) (at_ : Nat) (k : Int) : Int := wrapI k (num (cutL l at_ (szI k)) : Nat)
def arL (A : List Bs) (a : Int) : Bs := A.getD (a - 1).toNat []
def gtV (s : St) (a pl k : Int) : Int := getL (arL s.A a) pl.toNat k
def ptA (A : List Bs) (a pl k v : Int) : List Bs := A.set (a - 1).toNat (putL (arL A a) pl.toNat k v)
def ptV (s : St) (a pl k v : Int) : St := ⟨ptA s.A a pl k v, s.kd, s.v, s.op, s.z⟩
def askI (i : In) (s : St) : Int := if i.ar = 0 then i.n else gtV s i.ar i.pl i.kd
def joinI (op k a b : Int) (s : St) : St := ⟨s.A, madeI op k, doR op k a b, s.op, if b = 0 ∧ (op = 17 ∨ op = 18) then s.z + 1 else s.z⟩
def lastK (l : List Bk) : Bk := l.getLastD (0, 0, 0)
def tonN (p : Int) (i : In) (s : St) : Int := if s.v = 1 then min (gtV s i.ar i.pl 7 + p) i.n else 0
def tonI (p : Int) (i : In) (s : St) : St := ⟨ptA s.A i.ar i.pl 7 (tonN p i s), s.kd, yesI (decide (tonN p i s = i.n)), s.op, s.z⟩
def upI (i : In) (s : St) (pl : Int) : Bool := decide (s.v = 1 ∧ gtV s i.ar pl 1 = 0)
def ctuN (i : In) (s : St) : Int := if upI i s (i.pl + 4) then min (gtV s i.ar i.pl 7 + 1) i.n else gtV s i.ar i.pl 7
def ctuA (i : In) (s : St) : List Bs := if upI i s (i.pl + 4) then ptA (ptA s.A i.ar (i.pl + 4) 1 s.v) i.ar i.pl 7 (ctuN i s) else ptA s.A i.ar (i.pl + 4) 1 s.v
def ctuI (i : In) (s : St) : St := ⟨ctuA i s, s.kd, yesI (decide (i.n ≤ ctuN i s)), s.op, s.z⟩
def trigI (i : In) (s : St) : St := ⟨ptA s.A i.ar i.pl 1 s.v, s.kd, yesI (upI i s i.pl), s.op, s.z⟩
/-- What an instruction does. -/
def doI (p : Int) (i : In) (s : St) : St :=
  if i.op = 1 then ⟨s.A, i.kd, askI i s, s.op, s.z⟩
  else if i.op = 2 then ⟨s.A, i.kd, notI i.kd (askI i s), s.op, s.z⟩
  else if i.op = 3 then ptV s i.ar i.pl i.kd s.v
  else if i.op = 4 then ptV s i.ar i.pl i.kd (notI i.kd s.v)
  else if i.op = 5 ∨ i.op = 6 then (if s.v = 1 then ptV s i.ar i.pl i.kd (6 - i.op) else s)
  else if i.op = 13 then ⟨s.A, s.kd, notI s.kd s.v, s.op, s.z⟩
  else if 25 ≤ i.op ∧ i.op ≤ 30 then s
  else if i.op = 31 then ⟨s.A, i.kd, wrapI i.kd s.v, s.op, s.z⟩
  else if i.op = 32 then ⟨s.A, 0, 0, s.op ++ [(i.pl, s.kd, s.v)], s.z⟩
  else if i.op = 33 then joinI (lastK s.op).1 (lastK s.op).2.1 (lastK s.op).2.2 s.v ⟨s.A, s.kd, s.v, s.op.dropLast, s.z⟩
  else if i.op = 34 then tonI p i s
  else if i.op = 35 then ctuI i s
  else if i.op = 36 then trigI i s
  else joinI i.op i.kd s.v (askI i s) s
/-- Where it leads. -/
def nxI (i : In) (k n : Nat) (s : St) : Nat :=
  if i.op = 25 ∨ (i.op = 26 ∧ s.v = 1) ∨ (i.op = 27 ∧ s.v = 0) then i.pl.toNat
  else if i.op = 28 ∨ (i.op = 29 ∧ s.v = 1) ∨ (i.op = 30 ∧ s.v = 0) then n
  else k + 1
structure Mc where
  k : Nat
  t : Nat
  s : St
def stepM (c : List In) (p : Int) (m : Mc) : Mc := match c[m.k]? with
  | none => m
  | some i => ⟨nxI i m.k c.length m.s, m.t + 1, doI p i m.s⟩
def itM (c : List In) (p : Int) : Nat → Mc → Mc
  | 0, m => m
  | j + 1, m => itM c p j (stepM c p m)
def st0 (A : List Bs) : St := ⟨A, 0, 0, [], 0⟩
def mc0 (A : List Bs) : Mc := ⟨0, 0, st0 A⟩
/-- The run's end. -/
def finM (c : List In) (p : Int) (A : List Bs) : Mc := itM c p c.length (mc0 A)

/-! ### Values -/
theorem yes_is (b : Bool) : isI 1 (yesI b) = true := by cases b <;> decide
theorem is_bool {v : Int} (h : isI 1 v = true) : v = 0 ∨ v = 1 := by
  unfold isI at h
  rw [decide_eq_true_iff, show leastI 1 = 0 from rfl, show manyI 1 = 2 from rfl] at h
  omega
theorem bool_is {v : Int} (h : v = 0 ∨ v = 1) : isI 1 v = true := by rcases h with rfl | rfl <;> decide
theorem not_is {k v : Int} (hk : k = 1 ∨ k = 6 ∨ k = 7) (h : isI k v = true) : isI k (notI k v) = true := by
  have h0 := h
  unfold notI
  rw [if_pos ⟨hk, h⟩]
  unfold isI at h ⊢
  rw [decide_eq_true_iff] at h ⊢
  refine ⟨h.1, ?_⟩
  rcases hk with rfl | rfl | rfl
  · rw [show leastI 1 = 0 from rfl, show manyI 1 = 2 from rfl] at *; omega
  · rw [show leastI 6 = 0 from rfl, show manyI 6 = 65536 from rfl] at *; omega
  · rw [show leastI 7 = 0 from rfl, show manyI 7 = 4294967296 from rfl] at *; omega
theorem log_is {op k a b : Int} (hk : k = 1 ∨ k = 6 ∨ k = 7) (ha : isI k a = true) (hb : isI k b = true) : isI k (logI op a b) = true := by
  have key : ∀ e : Nat, ∀ x y : Nat, x < 2 ^ e → y < 2 ^ e → logN op x y < 2 ^ e := fun e x y hx hy => by
    unfold logN
    split
    · exact Nat.and_lt_two_pow _ hy
    · split
      · exact Nat.or_lt_two_pow hx hy
      · exact Nat.xor_lt_two_pow hx hy
  have hs := is_sz ha
  unfold isI at ha hb ⊢
  rw [decide_eq_true_iff] at ha hb ⊢
  refine ⟨hs, ?_⟩
  unfold logI
  rcases hk with rfl | rfl | rfl
  · rw [show leastI 1 = 0 from rfl, show manyI 1 = 2 from rfl] at *
    have := key 1 a.toNat b.toNat (by omega) (by omega)
    omega
  · rw [show leastI 6 = 0 from rfl, show manyI 6 = 65536 from rfl] at *
    have := key 16 a.toNat b.toNat (by omega) (by omega)
    omega
  · rw [show leastI 7 = 0 from rfl, show manyI 7 = 4294967296 from rfl] at *
    have := key 32 a.toNat b.toNat (by omega) (by omega)
    omega
theorem zero_is {k : Int} (h : szI k ≠ 0) : isI k 0 = true := by
  have hk := (sz_iff k).1 h
  obtain rfl | rfl | rfl | rfl | rfl | rfl | rfl : k = 1 ∨ k = 2 ∨ k = 3 ∨ k = 4 ∨ k = 5 ∨ k = 6 ∨ k = 7 := by omega
  all_goals decide
theorem doE_ok {op k a b : Int} (hm : mayI op k = true) (h13 : op ≠ 13) (ha : isI k a = true) (hb : isI k b = true) : doE op k a b = 0 := by
  unfold doE
  rw [if_neg (by simp [hm, h13]), if_neg (by simp [ha, hb])]
theorem do_is {op k a b : Int} (hm : mayI op k = true) (h13 : op ≠ 13) (ha : isI k a = true) (hb : isI k b = true) : isI (madeI op k) (doR op k a b) = true := by
  have hs := may_kind hm
  have hc := may_ops hm h13
  unfold doR
  rw [if_pos (doE_ok hm h13 ha hb)]
  by_cases ho : 19 ≤ op
  · have hmd : madeI op k = 1 := by unfold madeI ordB; rw [if_pos (decide_eq_true (by omega))]
    rw [hmd]
    unfold doV
    rw [if_neg (by omega), if_neg (by omega), if_neg (by omega), if_neg (by omega), if_neg (by omega)]
    obtain rfl | rfl | rfl | rfl | rfl | rfl : op = 19 ∨ op = 20 ∨ op = 21 ∨ op = 22 ∨ op = 23 ∨ op = 24 := by omega
    all_goals simp
    all_goals exact yes_is _
  · have hmd : madeI op k = k := by unfold madeI ordB; rw [if_neg (by simp; omega)]
    rw [hmd]
    by_cases hl : op ≤ 12
    · have hk : k = 1 ∨ k = 6 ∨ k = 7 := by omega
      unfold doV
      rw [if_neg (by omega), if_neg (by omega), if_neg (by omega), if_neg (by omega), if_neg (by omega), if_neg (by omega), if_neg (by omega), if_neg (by omega), if_neg (by omega), if_neg (by omega), if_neg (by omega)]
      split
      · exact log_is hk ha (not_is hk hb)
      · exact log_is hk ha hb
    · obtain rfl | rfl | rfl | rfl | rfl : op = 14 ∨ op = 15 ∨ op = 16 ∨ op = 17 ∨ op = 18 := by omega
      · exact wrap_is _ _ hs
      · exact wrap_is _ _ hs
      · exact wrap_is _ _ hs
      · show isI k (if b = 0 then 0 else _) = true
        split
        · exact zero_is hs
        · exact wrap_is _ _ hs
      · show isI k (if b = 0 then 0 else _) = true
        split
        · exact zero_is hs
        · exact wrap_is _ _ hs
theorem get_is (l : Bs) (pl : Nat) {k : Int} (h : szI k ≠ 0) : isI k (getL l pl k) = true := wrap_is _ _ h

/-! ### What is ahead of each that is reached -/
/-- What leads there fits what is ahead there. -/
structure Sub (b a : Ah) : Prop where
  on : a.on = true
  br : a.br = b.br
  kd : a.kd = b.kd ∨ a.kd = 0
theorem sub_join {a b : Ah} (hb : b.on = true) (h : joinO a b = true) : Sub b (joinK a b) := by
  unfold joinO at h
  unfold joinK
  split
  · next ho =>
    rw [ho] at h
    have h : a.br = b.br := by simpa using h
    refine ⟨rfl, h, ?_⟩
    dsimp only
    split
    · next e => exact .inl e
    · exact .inr rfl
  · exact ⟨hb, rfl, .inl rfl⟩
theorem sub_keep {x a b : Ah} (h : Sub x a) : Sub x (joinK a b) := by
  unfold joinK
  rw [if_pos h.on]
  refine ⟨rfl, h.br, ?_⟩
  dsimp only
  split
  · exact h.kd
  · exact .inr rfl
theorem sub_put {l : List Ah} {k j : Nat} {x b : Ah} (h : Sub x (gt l j)) : Sub x (gt (putB l k b) j) := by
  unfold putB
  rw [gt_set]
  split
  · next e => rw [e.1]; exact sub_keep h
  · exact h
theorem put_sub {l : List Ah} {k : Nat} {b : Ah} (hk : k < l.length) (hb : b.on = true) (h : joinO (gt l k) b = true) : Sub b (gt (putB l k b) k) := by
  unfold putB
  rw [gt_set, if_pos ⟨rfl, hk⟩]
  exact sub_join hb h
theorem put_other {l : List Ah} {k j : Nat} {b : Ah} (h : k ≠ j) : gt (putB l k b) j = gt l j := by
  unfold putB
  rw [gt_set, if_neg (fun e => h e.1)]
def Fl (c : List In) (l : List Ah) (j : Nat) : Prop := ∀ i, c[j]? = some i → rightI i = true ∧ ((gt l j).on = true → errB i j c.length (gt l j) = 0 ∧
  (onB i.op = true → Sub (nextB i (gt l j)) (gt l (j + 1))) ∧ (jumpB i.op = true → Sub (nextB i (gt l j)) (gt l i.pl.toNat)))
theorem far_no {i : In} {k n : Nat} (hj : jumpB i.op = true) (h : farB i k n = false) : (k : Int) < i.pl ∧ i.pl ≤ n := by
  unfold farB at h
  rw [hj, Bool.true_and, Bool.or_eq_false_iff, decide_eq_false_iff_not, decide_eq_false_iff_not] at h
  omega
/-- A step that goes on: what it leaves alone, and where it leads. -/
theorem step_flow {c : List In} {i : In} {k : Nat} {l : List Ah} (hl : l.length = c.length + 1) (hi : c[k]? = some i) (hz : (stepB i k c.length l).1 = 0) :
    (∀ j, j ≤ k → gt (stepB i k c.length l).2 j = gt l j) ∧ (∀ j x, Sub x (gt l j) → Sub x (gt (stepB i k c.length l).2 j)) ∧ Fl c (stepB i k c.length l).2 k := by
  have hk : k < c.length := (List.getElem?_eq_some_iff.1 hi).1
  unfold stepB at hz ⊢
  by_cases hr : rightI i = false
  · rw [if_pos hr] at hz; cases hz
  rw [if_neg hr] at hz ⊢
  have hr' : rightI i = true := by simpa using hr
  by_cases ho : (gt l k).on = false
  · rw [if_pos ho] at hz ⊢
    exact ⟨fun _ _ => rfl, fun _ _ h => h, fun x hx => ⟨by rw [hi] at hx; injection hx with hx; rw [← hx]; exact hr', fun h => absurd (ho.symm.trans h) (by simp)⟩⟩
  rw [if_neg ho] at hz ⊢
  have ho' : (gt l k).on = true := by simpa using ho
  by_cases he : errB i k c.length (gt l k) ≠ 0
  · rw [if_pos he] at hz; exact absurd hz he
  rw [if_neg he] at hz ⊢
  have he' : errB i k c.length (gt l k) = 0 := by simpa using he
  by_cases h1 : (onB i.op && !joinO (gt l (k + 1)) (nextB i (gt l k))) = true
  · rw [if_pos h1] at hz; cases hz
  rw [if_neg h1] at hz ⊢
  by_cases h2 : (jumpB i.op && !joinO (gt (goOn i k l (nextB i (gt l k))) i.pl.toNat) (nextB i (gt l k))) = true
  · rw [if_pos h2] at hz; cases hz
  rw [if_neg h2]
  have hon := next_on (i := i) ho'
  have hj1 : onB i.op = true → joinO (gt l (k + 1)) (nextB i (gt l k)) = true := fun h => by simpa [h] using h1
  have hj2 : jumpB i.op = true → joinO (gt (goOn i k l (nextB i (gt l k))) i.pl.toNat) (nextB i (gt l k)) = true := fun h => by simpa [h] using h2
  have hf : jumpB i.op = true → k < i.pl.toNat ∧ i.pl.toNat < l.length := fun h => by
    have := far_no h (err_zero he').1
    omega
  clear h1 h2 hz he ho hr
  obtain ⟨b, hb⟩ : ∃ b, nextB i (gt l k) = b := ⟨_, rfl⟩
  rw [hb] at hon hj1 hj2 ⊢
  have k1 : ∀ j, j ≤ k → gt (goOn i k l b) j = gt l j := fun j hj => by
    unfold goOn
    split
    · exact put_other (by omega)
    · rfl
  have k2 : ∀ j, j ≤ k → gt (goTo i (goOn i k l b) b) j = gt l j := fun j hj => by
    rw [← k1 j hj]
    unfold goTo
    split
    · next h => exact put_other (by have := hf h; omega)
    · rfl
  have s1 : ∀ j x, Sub x (gt l j) → Sub x (gt (goOn i k l b) j) := fun j x h => by
    unfold goOn
    split
    · exact sub_put h
    · exact h
  have s2 : ∀ j x, Sub x (gt (goOn i k l b) j) → Sub x (gt (goTo i (goOn i k l b) b) j) := fun j x h => by
    unfold goTo
    split
    · exact sub_put h
    · exact h
  refine ⟨k2, fun j x h => s2 j x (s1 j x h), fun x hx => ?_⟩
  rw [hi] at hx
  injection hx with hx
  subst hx
  refine ⟨hr', fun _ => ?_⟩
  rw [k2 k (Nat.le_refl _), hb]
  refine ⟨he', fun h => ?_, fun h => ?_⟩
  · refine s2 _ _ ?_
    unfold goOn
    rw [if_pos h]
    exact put_sub (by omega) hon (hj1 h)
  · unfold goTo
    rw [if_pos h]
    exact put_sub (by rw [on_len]; exact (hf h).2) hon (hj2 h)
theorem fl_next {c : List In} {l l' : List Ah} {j : Nat} (h : Fl c l j) (e : gt l' j = gt l j) (hs : ∀ j x, Sub x (gt l j) → Sub x (gt l' j)) : Fl c l' j := fun i hi => by
  obtain ⟨h1, h2⟩ := h i hi
  refine ⟨h1, fun ho => ?_⟩
  rw [e] at ho ⊢
  obtain ⟨h3, h4, h5⟩ := h2 ho
  exact ⟨h3, fun h => hs _ _ (h4 h), fun h => hs _ _ (h5 h)⟩
theorem run_flow {c : List In} : ∀ (k : Nat) (l : List Ah), k ≤ c.length → runB c k = .ok l → gt l 0 = ah1 ∧ ∀ j, j < k → Fl c l j
  | 0, l, _, h => by
    unfold runB at h
    injection h with h
    subst h
    exact ⟨by rw [gt_first, if_pos rfl], fun j hj => absurd hj (by omega)⟩
  | k + 1, l, hk, h => by
    have hkc : k < c.length := by omega
    obtain ⟨i, hi⟩ : ∃ i, c[k]? = some i := ⟨_, List.getElem?_eq_getElem hkc⟩
    cases h0 : runB c k with
    | error e0 => rw [run_error 1 h0] at h; cases h
    | ok l0 =>
      obtain ⟨z0, f0⟩ := run_flow k l0 (by omega) h0
      by_cases hz : (stepB i k c.length l0).1 = 0
      · have e := run_next h0 hi hz
        rw [e] at h
        injection h with h
        subst h
        obtain ⟨q1, q2, q3⟩ := step_flow (run_ok h0).2 hi hz
        refine ⟨by rw [q1 0 (Nat.zero_le _), z0], fun j hj => ?_⟩
        by_cases hjk : j = k
        · subst hjk; exact q3
        · exact fl_next (f0 j (by omega)) (q1 j (by omega)) q2
      · rw [run_stop h0 hi hz] at h; cases h
theorem all_flow {c : List In} {l : List Ah} (h : allB c = .ok l) : gt l 0 = ah1 ∧ ∀ j, j < c.length → Fl c l j := run_flow _ _ (Nat.le_refl _) (all_ok h).2.1

/-! ### What holds of a run -/
structure AOk (A : List Bs) : Prop where
  four : A.length = 4
  len : ∀ j, j < 4 → (A.getD j []).length = 64
structure Ok (s : St) : Prop where
  ar : AOk s.A
  val : (s.kd = 0 ∧ s.v = 0) ∨ isI s.kd s.v = true
  br : ∀ b ∈ s.op, isI b.2.1 b.2.2 = true ∧ mayI b.1 b.2.1 = true ∧ b.1 ≠ 13
def kbs (l : List Bk) : Br := l.map fun b => (b.1, b.2.1)
structure Conf (a : Ah) (s : St) : Prop where
  on : a.on = true
  kd : a.kd ≠ 0 → s.kd = a.kd
  br : kbs s.op = a.br
theorem conf_sub {b a : Ah} {s : St} (h : Conf b s) (hs : Sub b a) : Conf a s := by
  refine ⟨hs.on, fun hk => ?_, h.br.trans hs.br.symm⟩
  rcases hs.kd with e | e
  · rw [e]; exact h.kd (by rw [← e]; exact hk)
  · exact absurd e hk
theorem ok_at {A : List Bs} (h : AOk A) {a : Int} (h1 : 1 ≤ a) (h4 : a ≤ 4) : (arL A a).length = 64 := h.len _ (by omega)
theorem ok_put {A : List Bs} (h : AOk A) {a pl k v : Int} (h1 : 1 ≤ a) (h4 : a ≤ 4) (hp : pl.toNat + szI k ≤ 64) : AOk (ptA A a pl k v) := by
  refine ⟨by unfold ptA; rw [List.length_set]; exact h.four, fun j hj => ?_⟩
  unfold ptA
  rw [List.getD_eq_getElem?_getD, List.getElem?_set]
  have hl := ok_at h h1 h4
  split
  · rw [if_pos (by rw [h.four]; omega)]
    show (putL _ _ _ _).length = 64
    rw [put_length _ _ _ _ (by rw [hl]; exact hp), hl]
  · rw [← List.getD_eq_getElem?_getD]; exact h.len j hj
theorem ok_val {s : St} (h : Ok s) {k : Int} (hk : s.kd = k) (h0 : k ≠ 0) : isI k s.v = true := by
  rcases h.val with ⟨e, _⟩ | e
  · exact absurd (hk.symm.trans e) h0
  · rw [← hk]; exact e
theorem ok_bd {s : St} (h : Ok s) : -2147483648 ≤ s.v ∧ s.v ≤ 4294967295 ∧ 0 ≤ s.kd ∧ s.kd ≤ 7 := by
  rcases h.val with ⟨e, e2⟩ | e
  · omega
  · have h1 := is_bd e
    have h2 := (sz_iff _).1 (is_sz e)
    omega
/-- What an instruction asks for is a value of its kind. -/
theorem ask_is {i : In} {s : St} (hr : rightI i = true) (ho : readsB i.op = true) : isI i.kd (askI i s) = true := by
  unfold askI
  have ho' := ho
  unfold readsB at ho'
  rw [decide_eq_true_iff] at ho'
  cases right_way hr with
  | lit h ha hp hn => rw [if_pos ha]; exact hn
  | get h h1 h4 ht hn =>
    unfold thereB at ht
    rw [decide_eq_true_iff] at ht
    rw [if_neg (by omega)]
    exact get_is _ _ ht.1
  | put h => unfold writesB at h; rw [decide_eq_true_iff] at h; omega
  | jump h => unfold jumpB at h; rw [decide_eq_true_iff] at h; omega
  | bare h => unfold bareB at h; rw [decide_eq_true_iff] at h; omega
  | close h => omega
  | conv h => omega
  | opens h => omega
  | timer h => omega
  | trig h => omega
/-- An instruction that writes: its place. -/
theorem put_at {i : In} (hr : rightI i = true) (ho : 3 ≤ i.op ∧ i.op ≤ 6) : 2 ≤ i.ar ∧ i.ar ≤ 4 ∧ 0 ≤ i.pl ∧ i.pl.toNat + szI i.kd ≤ 64 ∧ szI i.kd ≠ 0 := by
  cases right_way hr with
  | lit h => unfold readsB at h; rw [decide_eq_true_iff] at h; omega
  | get h => unfold readsB at h; rw [decide_eq_true_iff] at h; omega
  | put h h1 h4 ht hn => unfold thereB at ht; rw [decide_eq_true_iff] at ht; omega
  | jump h => unfold jumpB at h; rw [decide_eq_true_iff] at h; omega
  | bare h => unfold bareB at h; rw [decide_eq_true_iff] at h; omega
  | close h => omega
  | conv h => omega
  | opens h => omega
  | timer h => omega
  | trig h => omega
theorem blk_at {i : In} (hr : rightI i = true) (ho : 34 ≤ i.op) : 3 ≤ i.ar ∧ i.ar ≤ 4 ∧ 0 ≤ i.pl ∧ (i.op ≤ 35 → i.pl ≤ 59 ∧ 1 ≤ i.n ∧ i.n ≤ 9999) ∧ i.pl ≤ 63 := by
  cases right_way hr with
  | lit h => unfold readsB at h; rw [decide_eq_true_iff] at h; omega
  | get h => unfold readsB at h; rw [decide_eq_true_iff] at h; omega
  | put h => unfold writesB at h; rw [decide_eq_true_iff] at h; omega
  | jump h => unfold jumpB at h; rw [decide_eq_true_iff] at h; omega
  | bare h => unfold bareB at h; rw [decide_eq_true_iff] at h; omega
  | close h => omega
  | conv h => omega
  | opens h => omega
  | timer h h1 h2 h3 h4 h5 h6 h7 => omega
  | trig h h1 h2 h3 h4 h5 h6 => omega
theorem kbs_last {l : List Bk} (h : l.length ≠ 0) : lastB (kbs l) = ((lastK l).1, (lastK l).2.1) ∧ lastK l ∈ l ∧ kbs l.dropLast = (kbs l).dropLast := by
  have hn : l ≠ [] := fun e => h (by rw [e]; rfl)
  refine ⟨?_, ?_, ?_⟩
  · unfold lastB lastK kbs
    rw [List.getLastD_eq_getLast?, List.getLastD_eq_getLast?, List.getLast?_map, List.getLast?_eq_some_getLast hn]
    rfl
  · unfold lastK
    rw [List.getLastD_eq_getLast?, List.getLast?_eq_some_getLast hn]
    exact List.getLast_mem hn
  · unfold kbs
    rw [List.map_dropLast]
theorem may_13 {k : Int} (h : mayI 13 k = true) : k = 1 ∨ k = 6 ∨ k = 7 := by
  have hs := (sz_iff k).1 (may_kind h)
  unfold mayI at h
  rw [decide_eq_true_iff] at h
  omega
/-- What the checks tell of an instruction and what is ahead of it. -/
structure Ty (i : In) (s : St) : Prop where
  t2 : i.op = 2 → i.kd = 1 ∨ i.kd = 6 ∨ i.kd = 7
  t3 : 3 ≤ i.op → i.op ≤ 6 → s.kd = i.kd ∧ isI i.kd s.v = true
  t4 : i.op = 4 → i.kd = 1 ∨ i.kd = 6 ∨ i.kd = 7
  t5 : i.op = 5 ∨ i.op = 6 → i.kd = 1
  t13 : i.op = 13 → (s.kd = 1 ∨ s.kd = 6 ∨ s.kd = 7) ∧ isI s.kd s.v = true
  t7 : (7 ≤ i.op ∧ i.op ≤ 12) ∨ (14 ≤ i.op ∧ i.op ≤ 24) → s.kd = i.kd ∧ mayI i.op i.kd = true ∧ isI i.kd s.v = true
  t1 : i.op = 26 ∨ i.op = 27 ∨ i.op = 29 ∨ i.op = 30 ∨ i.op = 34 ∨ i.op = 35 ∨ i.op = 36 → s.kd = 1 ∧ isI 1 s.v = true
  t31 : i.op = 31 → isI s.kd s.v = true
  t32 : i.op = 32 → isI s.kd s.v = true ∧ mayI i.pl s.kd = true ∧ i.pl ≠ 13 ∧ s.op.length < 8
  t33 : i.op = 33 → s.op.length ≠ 0 ∧ s.kd = (lastK s.op).2.1 ∧ isI s.kd s.v = true
theorem ty_of {i : In} {a : Ah} {s : St} (hr : rightI i = true) (hc : Conf a s) (ho : Ok s) (h8 : a.br.length ≤ 8) (he : refB i a = 0) : Ty i s := by
  obtain ⟨hf, h33, h32, _⟩ := ref_zero he
  have hop := right_op hr
  have hlen : s.op.length = a.br.length := by rw [← hc.br]; unfold kbs; simp
  have hkd : ∀ {k : Int}, a.kd = k → k ≠ 0 → s.kd = k ∧ isI k s.v = true := fun e h0 => by
    have h1 := hc.kd (by rw [e]; exact h0)
    rw [e] at h1
    exact ⟨h1, ok_val ho h1 h0⟩
  unfold fitB at hf
  refine ⟨fun h => ?_, fun h h' => ?_, fun h => ?_, fun h => ?_, fun h => ?_, fun h => ?_, fun h => ?_, fun h => ?_, fun h => ?_, fun h => ?_⟩
  · simp [h] at hf
    exact may_13 hf
  · have hp := put_at hr ⟨h, h'⟩
    have hk0 : i.kd ≠ 0 := fun e => hp.2.2.2.2 (by rw [e]; rfl)
    rcases (by omega : i.op = 3 ∨ i.op = 4 ∨ (i.op = 5 ∨ i.op = 6)) with h | h | h
    · simp [h] at hf; exact hkd hf hk0
    · simp [h] at hf; exact hkd hf.1 hk0
    · rw [if_neg (by omega), if_neg (by omega), if_neg (by omega), if_neg (by omega), if_pos h] at hf
      simp at hf
      exact hkd (hf.1.trans hf.2.symm) hk0
  · simp [h] at hf
    exact may_13 hf.2
  · rw [if_neg (by omega), if_neg (by omega), if_neg (by omega), if_neg (by omega), if_pos h] at hf
    simp at hf
    exact hf.2
  · simp [h] at hf
    have hk := may_13 hf
    obtain ⟨h1, h2⟩ := hkd rfl (show a.kd ≠ 0 by omega)
    rw [h1]
    exact ⟨hk, h2⟩
  · rw [if_neg (by omega), if_neg (by omega), if_neg (by omega), if_neg (by omega), if_neg (by omega), if_neg (by omega), if_neg (by omega), if_neg (by omega), if_neg (by omega), if_neg (by omega)] at hf
    rw [Bool.and_eq_true, decide_eq_true_iff] at hf
    have hk := may_kind hf.2
    obtain ⟨h1, h2⟩ := hkd hf.1 (fun e => hk (by rw [e]; rfl))
    exact ⟨h1, hf.2, h2⟩
  · rw [if_neg (by omega), if_neg (by omega), if_neg (by omega), if_neg (by omega), if_neg (by omega), if_neg (by omega), if_neg (by omega), if_neg (by omega), if_neg (by omega), if_pos (by omega)] at hf
    rw [decide_eq_true_iff] at hf
    exact hkd hf (by decide)
  · simp [h] at hf
    obtain ⟨h1, h2⟩ := hkd rfl hf
    rw [h1]; exact h2
  · simp [h] at hf
    have hk := may_kind hf
    obtain ⟨h1, h2⟩ := hkd rfl (show a.kd ≠ 0 from fun e => hk (by rw [e]; rfl))
    rw [h1]
    refine ⟨h2, hf, ?_, ?_⟩
    · cases right_way hr with
      | lit h => unfold readsB at h; rw [decide_eq_true_iff] at h; omega
      | get h => unfold readsB at h; rw [decide_eq_true_iff] at h; omega
      | put h => unfold writesB at h; rw [decide_eq_true_iff] at h; omega
      | jump h => unfold jumpB at h; rw [decide_eq_true_iff] at h; omega
      | bare h => unfold bareB at h; rw [decide_eq_true_iff] at h; omega
      | close h => omega
      | conv h => omega
      | opens h h1 h2 h3 => unfold readsB at h3; rw [decide_eq_true_iff] at h3; omega
      | timer h => omega
      | trig h => omega
    · have hb : a.br.length ≠ 8 := fun e => h32 ⟨h, e⟩
      have := h8
      omega
  · have hb : s.op.length ≠ 0 := fun e => h33 ⟨h, by rw [← hlen]; exact e⟩
    obtain ⟨q1, q2, _⟩ := kbs_last hb
    simp [h] at hf
    rw [← hc.br, q1] at hf
    obtain ⟨h1, h2⟩ := hkd hf (fun e => by have := is_sz (ho.br _ q2).1; rw [show (lastK s.op).2.1 = 0 from e] at this; exact this rfl)
    rw [h1]
    exact ⟨hb, rfl, h2⟩
theorem do_ok {p : Int} {i : In} {a : Ah} {s : St} (hr : rightI i = true) (hc : Conf a s) (ho : Ok s) (h8 : a.br.length ≤ 8) (he : refB i a = 0) : Ok (doI p i s) ∧ Conf (nextB i a) (doI p i s) := by
  have ht := ty_of hr hc ho h8 he
  have hop := right_op hr
  have hmd : i.op < 19 ∨ 24 < i.op → madeI i.op a.kd = a.kd := fun h => by unfold madeI ordB; rw [if_neg (by simp; omega)]
  have hna : ¬ (i.op = 1 ∨ i.op = 2 ∨ i.op = 31) → i.op ≠ 32 → i.op ≠ 33 → nextB i a = ⟨a.on, madeI i.op a.kd, a.br⟩ := fun h1 h2 h3 => by
    unfold nextB
    rw [if_neg h1, if_neg h2, if_neg h3]
  have hsame : ∀ A' v', (AOk s.A → AOk A') → ((s.kd = 0 ∧ s.v = 0) ∨ isI s.kd s.v = true → (s.kd = 0 ∧ v' = 0) ∨ isI s.kd v' = true) → (i.op < 19 ∨ 24 < i.op) → ¬ (i.op = 1 ∨ i.op = 2 ∨ i.op = 31) → i.op ≠ 32 → i.op ≠ 33 →
      Ok ⟨A', s.kd, v', s.op, s.z⟩ ∧ Conf (nextB i a) ⟨A', s.kd, v', s.op, s.z⟩ := fun A' v' h1 h2 h3 h4 h5 h6 => by
    rw [hna h4 h5 h6, hmd h3]
    exact ⟨⟨h1 ho.ar, h2 ho.val, ho.br⟩, ⟨hc.on, hc.kd, hc.br⟩⟩
  unfold doI
  by_cases h1 : i.op = 1
  · rw [if_pos h1]
    have hk := ask_is (i := i) (s := s) hr (by unfold readsB; rw [decide_eq_true_iff]; omega)
    refine ⟨⟨ho.ar, .inr hk, ho.br⟩, ?_⟩
    unfold nextB
    rw [if_pos (.inl h1)]
    exact ⟨hc.on, fun _ => rfl, hc.br⟩
  rw [if_neg h1]
  by_cases h2 : i.op = 2
  · rw [if_pos h2]
    have hk := ask_is (i := i) (s := s) hr (by unfold readsB; rw [decide_eq_true_iff]; omega)
    refine ⟨⟨ho.ar, .inr (not_is (ht.t2 h2) hk), ho.br⟩, ?_⟩
    unfold nextB
    rw [if_pos (.inr (.inl h2))]
    exact ⟨hc.on, fun _ => rfl, hc.br⟩
  rw [if_neg h2]
  by_cases h3 : i.op = 3
  · rw [if_pos h3]
    obtain ⟨q1, q2, q3, q4, _⟩ := put_at hr (by omega)
    exact hsame _ _ (fun h => ok_put h (by omega) q2 q4) (fun h => h) (by omega) (by omega) (by omega) (by omega)
  rw [if_neg h3]
  by_cases h4 : i.op = 4
  · rw [if_pos h4]
    obtain ⟨q1, q2, q3, q4, _⟩ := put_at hr (by omega)
    exact hsame _ _ (fun h => ok_put h (by omega) q2 q4) (fun h => h) (by omega) (by omega) (by omega) (by omega)
  rw [if_neg h4]
  by_cases h5 : i.op = 5 ∨ i.op = 6
  · rw [if_pos h5]
    obtain ⟨q1, q2, q3, q4, _⟩ := put_at hr (by omega)
    split
    · exact hsame _ _ (fun h => ok_put h (by omega) q2 q4) (fun h => h) (by omega) (by omega) (by omega) (by omega)
    · exact hsame _ _ (fun h => h) (fun h => h) (by omega) (by omega) (by omega) (by omega)
  rw [if_neg h5]
  by_cases h13 : i.op = 13
  · rw [if_pos h13]
    obtain ⟨q1, q2⟩ := ht.t13 h13
    exact hsame _ _ (fun h => h) (fun _ => .inr (not_is q1 q2)) (by omega) (by omega) (by omega) (by omega)
  rw [if_neg h13]
  by_cases hj : 25 ≤ i.op ∧ i.op ≤ 30
  · rw [if_pos hj]
    exact hsame _ _ (fun h => h) (fun h => h) (by omega) (by omega) (by omega) (by omega)
  rw [if_neg hj]
  by_cases h31 : i.op = 31
  · rw [if_pos h31]
    refine ⟨⟨ho.ar, .inr (wrap_is _ _ ?_), ho.br⟩, ?_⟩
    · exact (sz_iff _).2 (right_kd hr (.inr (.inr h31)))
    · unfold nextB
      rw [if_pos (.inr (.inr h31))]
      exact ⟨hc.on, fun _ => rfl, hc.br⟩
  rw [if_neg h31]
  by_cases h32 : i.op = 32
  · rw [if_pos h32]
    obtain ⟨q1, q2, q3, _⟩ := ht.t32 h32
    refine ⟨⟨ho.ar, .inl ⟨rfl, rfl⟩, fun b hb => ?_⟩, ?_⟩
    · simp at hb
      rcases hb with hb | rfl
      · exact ho.br b hb
      · exact ⟨q1, q2, q3⟩
    · unfold nextB
      rw [if_neg (by omega), if_pos h32]
      refine ⟨hc.on, fun h => absurd rfl h, ?_⟩
      have hk : a.kd = s.kd := by
        have hf := (ref_zero he).1
        rw [fit_32 h32] at hf
        have := may_kind hf
        exact (hc.kd (fun e => this (by rw [e]; rfl))).symm
      dsimp only
      rw [← hc.br, hk]
      unfold kbs
      simp
  rw [if_neg h32]
  by_cases h33 : i.op = 33
  · rw [if_pos h33]
    obtain ⟨q1, q2, q3⟩ := ht.t33 h33
    obtain ⟨k1, k2, k3⟩ := kbs_last q1
    obtain ⟨b1, b2, b3⟩ := ho.br _ k2
    have hv := do_is (a := (lastK s.op).2.2) (b := s.v) b2 b3 b1 (by rw [← q2]; exact q3)
    refine ⟨⟨ho.ar, .inr hv, fun b hb => ho.br b (List.dropLast_subset _ hb)⟩, ?_⟩
    unfold nextB
    rw [if_neg (by omega), if_neg h32, if_pos h33, ← hc.br, k1]
    exact ⟨hc.on, fun _ => rfl, k3⟩
  rw [if_neg h33]
  by_cases h34 : i.op = 34
  · rw [if_pos h34]
    obtain ⟨q1, q2⟩ := ht.t1 (by omega)
    obtain ⟨b1, b2, b3, b4, b5⟩ := blk_at hr (by omega)
    have b4 := b4 (by omega)
    exact hsame _ _ (fun h => ok_put h (by omega) b2 (by rw [show szI 7 = 4 from rfl]; omega)) (fun _ => .inr (by rw [q1]; exact yes_is _)) (by omega) (by omega) (by omega) (by omega)
  rw [if_neg h34]
  by_cases h35 : i.op = 35
  · rw [if_pos h35]
    obtain ⟨q1, q2⟩ := ht.t1 (by omega)
    obtain ⟨b1, b2, b3, b4, b5⟩ := blk_at hr (by omega)
    have b4 := b4 (by omega)
    refine hsame _ _ (fun h => ?_) (fun _ => .inr (by rw [q1]; exact yes_is _)) (by omega) (by omega) (by omega) (by omega)
    have hp1 := ok_put (pl := i.pl + 4) (k := 1) (v := s.v) h (show 1 ≤ i.ar by omega) b2 (by rw [show szI 1 = 1 from rfl]; omega)
    unfold ctuA
    split
    · exact ok_put hp1 (by omega) b2 (by rw [show szI 7 = 4 from rfl]; omega)
    · exact hp1
  rw [if_neg h35]
  by_cases h36 : i.op = 36
  · rw [if_pos h36]
    obtain ⟨q1, q2⟩ := ht.t1 (by omega)
    obtain ⟨b1, b2, b3, b4, b5⟩ := blk_at hr (by omega)
    exact hsame _ _ (fun h => ok_put h (by omega) b2 (by rw [show szI 1 = 1 from rfl]; omega)) (fun _ => .inr (by rw [q1]; exact yes_is _)) (by omega) (by omega) (by omega) (by omega)
  rw [if_neg h36]
  have h7 : (7 ≤ i.op ∧ i.op ≤ 12) ∨ (14 ≤ i.op ∧ i.op ≤ 24) := by omega
  obtain ⟨q1, q2, q3⟩ := ht.t7 h7
  have hk := ask_is (i := i) (s := s) hr (by unfold readsB; rw [decide_eq_true_iff]; omega)
  have hv := do_is q2 (by omega) q3 hk
  refine ⟨⟨ho.ar, .inr hv, ho.br⟩, ?_⟩
  rw [hna (by omega) h32 h33]
  refine ⟨hc.on, fun h => ?_, hc.br⟩
  dsimp only at h ⊢
  unfold joinI
  dsimp only
  have hka : a.kd = i.kd := by
    rw [← q1]
    by_cases e : a.kd = 0
    · exfalso
      have hf := (ref_zero he).1
      unfold fitB at hf
      rw [if_neg (by omega), if_neg (by omega), if_neg (by omega), if_neg (by omega), if_neg (by omega), if_neg (by omega), if_neg (by omega), if_neg (by omega), if_neg (by omega), if_neg (by omega)] at hf
      rw [Bool.and_eq_true, decide_eq_true_iff] at hf
      exact may_kind hf.2 (by rw [← hf.1, e]; rfl)
    · exact (hc.kd e).symm
  rw [hka]
theorem fit_of {i : In} {a : Ah} (h : refB i a = 0) : fitB i a = true := (ref_zero h).1

/-! ### Runs -/
structure Good (c : List In) (l : List Ah) (m : Mc) : Prop where
  le : m.k ≤ c.length
  t1 : m.t ≤ m.k
  t2 : m.k = 0 ∨ 1 ≤ m.t
  z : m.s.z ≤ m.t
  ok : Ok m.s
  conf : m.k < c.length → Conf (gt l m.k) m.s
theorem join_z (op k a b : Int) (s : St) : s.z ≤ (joinI op k a b s).z ∧ (joinI op k a b s).z ≤ s.z + 1 := by
  unfold joinI
  dsimp only
  split <;> omega
theorem do_z (p : Int) (i : In) (s : St) : s.z ≤ (doI p i s).z ∧ (doI p i s).z ≤ s.z + 1 := by
  have hz : s.z ≤ s.z ∧ s.z ≤ s.z + 1 := by omega
  unfold doI
  by_cases h0 : i.op = 1
  · rw [if_pos h0]; exact hz
  rw [if_neg h0]
  by_cases h1 : i.op = 2
  · rw [if_pos h1]; exact hz
  rw [if_neg h1]
  by_cases h2 : i.op = 3
  · rw [if_pos h2]; exact hz
  rw [if_neg h2]
  by_cases h3 : i.op = 4
  · rw [if_pos h3]; exact hz
  rw [if_neg h3]
  by_cases h4 : i.op = 5 ∨ i.op = 6
  · rw [if_pos h4]; split <;> exact hz
  rw [if_neg h4]
  by_cases h5 : i.op = 13
  · rw [if_pos h5]; exact hz
  rw [if_neg h5]
  by_cases h6 : 25 ≤ i.op ∧ i.op ≤ 30
  · rw [if_pos h6]; exact hz
  rw [if_neg h6]
  by_cases h7 : i.op = 31
  · rw [if_pos h7]; exact hz
  rw [if_neg h7]
  by_cases h8 : i.op = 32
  · rw [if_pos h8]; exact hz
  rw [if_neg h8]
  by_cases h9 : i.op = 33
  · rw [if_pos h9]; exact join_z (lastK s.op).1 (lastK s.op).2.1 (lastK s.op).2.2 s.v ⟨s.A, s.kd, s.v, s.op.dropLast, s.z⟩
  rw [if_neg h9]
  by_cases h10 : i.op = 34
  · rw [if_pos h10]; exact hz
  rw [if_neg h10]
  by_cases h11 : i.op = 35
  · rw [if_pos h11]; exact hz
  rw [if_neg h11]
  by_cases h12 : i.op = 36
  · rw [if_pos h12]; exact hz
  rw [if_neg h12]
  exact join_z i.op i.kd s.v (askI i s) s
section
variable {c : List In} {l : List Ah} {p : Int}
/-- What is known at an instruction that is done. -/
structure Here (c : List In) (l : List Ah) (m : Mc) (i : In) : Prop where
  at_ : c[m.k]? = some i
  right : rightI i = true
  ty : Ty i m.s
  err : refB i (gt l m.k) = 0
  far : jumpB i.op = true → (m.k : Int) < i.pl ∧ i.pl ≤ c.length
theorem good_here (h : allB c = .ok l) {m : Mc} (hg : Good c l m) (hk : m.k < c.length) : ∃ i, Here c l m i := by
  obtain ⟨i, hi⟩ : ∃ i, c[m.k]? = some i := ⟨_, List.getElem?_eq_getElem hk⟩
  have hc := hg.conf hk
  obtain ⟨h1, h2⟩ := (all_flow h).2 m.k hk i hi
  obtain ⟨h3, _⟩ := h2 hc.on
  obtain ⟨e1, e2⟩ := err_zero h3
  exact ⟨i, hi, h1, ty_of h1 hc hg.ok ((run_ok (all_ok h).2.1).1 m.k).len e2, e2, fun hj => far_no hj e1⟩
theorem step_at {m : Mc} {i : In} (hi : c[m.k]? = some i) : stepM c p m = ⟨nxI i m.k c.length m.s, m.t + 1, doI p i m.s⟩ := by
  unfold stepM
  rw [hi]
theorem nx_lt {m : Mc} {i : In} (hh : Here c l m i) (hk : m.k < c.length) : m.k < nxI i m.k c.length m.s ∧ nxI i m.k c.length m.s ≤ c.length := by
  unfold nxI
  split
  · next h =>
    have := hh.far (by unfold jumpB; rw [decide_eq_true_iff]; omega)
    omega
  · split <;> omega
theorem step_good (h : allB c = .ok l) {m : Mc} (hg : Good c l m) (hk : m.k < c.length) : Good c l (stepM c p m) ∧ m.k < (stepM c p m).k := by
  obtain ⟨i, hh⟩ := good_here h hg hk
  rw [step_at hh.at_]
  obtain ⟨n1, n2⟩ := nx_lt hh hk
  have hc := hg.conf hk
  obtain ⟨o1, o2⟩ := do_ok (p := p) hh.right hc hg.ok ((run_ok (all_ok h).2.1).1 m.k).len hh.err
  obtain ⟨h1, h2⟩ := (all_flow h).2 m.k hk i hh.at_
  obtain ⟨h3, h4, h5⟩ := h2 hc.on
  have hz := do_z p i m.s
  have ht1 := hg.t1
  have hgz := hg.z
  refine ⟨⟨n2, ?_, ?_, ?_, o1, fun hlt => ?_⟩, n1⟩
  · dsimp only; omega
  · dsimp only; omega
  · dsimp only; omega
  · dsimp only at hlt ⊢
    unfold nxI at hlt n1 n2 ⊢
    split at hlt
    · next hj =>
      rw [if_pos hj]
      exact conf_sub o2 (h5 (by unfold jumpB; rw [decide_eq_true_iff]; omega))
    · next hj =>
      rw [if_neg hj]
      split at hlt
      · omega
      · next hr =>
        rw [if_neg hr]
        exact conf_sub o2 (h4 (by unfold onB; rw [decide_eq_true_iff]; omega))
theorem step_end {m : Mc} (hk : ¬ m.k < c.length) : stepM c p m = m := by
  unfold stepM
  rw [List.getElem?_eq_none (by omega)]
theorem it_end {m : Mc} (hk : ¬ m.k < c.length) : ∀ j, itM c p j m = m
  | 0 => rfl
  | j + 1 => by
    show itM c p j (stepM c p m) = m
    rw [step_end hk, it_end hk j]
/-- More steps than are left change nothing. -/
theorem it_more (h : allB c = .ok l) : ∀ (j : Nat) {m : Mc}, Good c l m → c.length - m.k ≤ j → itM c p j m = itM c p (c.length - m.k) m
  | 0, m, hg, hj => by rw [show c.length - m.k = 0 by omega]
  | j + 1, m, hg, hj => by
    by_cases hk : m.k < c.length
    · obtain ⟨g2, lt⟩ := step_good (p := p) h hg hk
      obtain ⟨x, hx⟩ : ∃ x, c.length - m.k = x + 1 := ⟨c.length - m.k - 1, by omega⟩
      rw [hx]
      show itM c p j (stepM c p m) = itM c p x (stepM c p m)
      rw [it_more h j g2 (by omega), it_more h x g2 (by omega)]
    · rw [it_end hk, it_end hk]
theorem it_step (h : allB c = .ok l) {m : Mc} (hg : Good c l m) (hk : m.k < c.length) : itM c p (c.length - (stepM c p m).k) (stepM c p m) = itM c p (c.length - m.k) m := by
  obtain ⟨g2, lt⟩ := step_good (p := p) h hg hk
  obtain ⟨x, hx⟩ : ∃ x, c.length - m.k = x + 1 := ⟨c.length - m.k - 1, by omega⟩
  rw [hx]
  show _ = itM c p x (stepM c p m)
  rw [it_more h x g2 (by omega)]
theorem good_first (h : allB c = .ok l) {A : List Bs} (hA : AOk A) : Good c l (mc0 A) := by
  refine ⟨Nat.zero_le _, Nat.le_refl _, .inl rfl, Nat.le_refl _, ⟨hA, .inl ⟨rfl, rfl⟩, fun b hb => by simp [mc0, st0] at hb⟩, fun _ => ?_⟩
  have e : gt l (mc0 A).k = ah1 := (all_flow h).1
  rw [e]
  exact ⟨rfl, fun hk => absurd rfl hk, rfl⟩
/-- What holds of all places of a run holds at its end. -/
theorem it_all (h : allB c = .ok l) (P : Mc → Prop) (hP : ∀ m i, Good c l m → m.k < c.length → Here c l m i → P m → P (stepM c p m)) :
    ∀ (j : Nat) {m : Mc}, Good c l m → P m → Good c l (itM c p j m) ∧ P (itM c p j m)
  | 0, m, hg, hp => ⟨hg, hp⟩
  | j + 1, m, hg, hp => by
    by_cases hk : m.k < c.length
    · obtain ⟨i, hh⟩ := good_here h hg hk
      exact it_all h P hP j (step_good (p := p) h hg hk).1 (hP m i hg hk hh hp)
    · rw [it_end hk]; exact ⟨hg, hp⟩
theorem it_done (h : allB c = .ok l) : ∀ (j : Nat) {m : Mc}, Good c l m → c.length ≤ m.k + j → (itM c p j m).k = c.length
  | 0, m, hg, hj => by have := hg.le; show m.k = _; omega
  | j + 1, m, hg, hj => by
    by_cases hk : m.k < c.length
    · obtain ⟨g2, lt⟩ := step_good (p := p) h hg hk
      exact it_done h j g2 (by omega)
    · rw [it_end hk]; have := hg.le; omega
theorem fin_good (h : allB c = .ok l) {A : List Bs} (hA : AOk A) : Good c l (finM c p A) ∧ (finM c p A).k = c.length :=
  ⟨(it_all h (fun _ => True) (fun _ _ _ _ _ _ => trivial) _ (good_first h hA) trivial).1, it_done h _ (good_first h hA) (by show c.length ≤ 0 + c.length; omega)⟩
end

end Go.Proofs.Ytbjmdehfdnpljaa.Vm
