/-
  Plain facts on which programs may run: what stands behind the first error plays no part; behind a RET anything may stand. No program is named here. Conditions: none.
-/
import Derived.Test.YtbejajnhgoejhaaVeMath
namespace Go.Proofs.Ytbejajnhgoejhaa.Ve
open Go.Proofs.Ytbejajnhgoejhaa.Il Go.Proofs.Ytbejajnhgoejhaa.Ic

theorem gt_take {l : List Ah} {m k : Nat} (h : k < m) : gt (l.take m) k = gt l k := by
  unfold gt
  rw [List.getD_eq_getElem?_getD, List.getD_eq_getElem?_getD, List.getElem?_take, if_pos h]
theorem put_take {l : List Ah} {m k : Nat} {b : Ah} (h : k < m) : putB (l.take m) k b = (putB l k b).take m := by
  unfold putB
  rw [gt_take h, List.take_set]
theorem put_beyond {l : List Ah} {k j : Nat} {b : Ah} (h : k ≠ j) : gt (putB l k b) j = gt l j := by
  unfold putB
  rw [gt_set, if_neg (fun e => h e.1)]
theorem on_take {i : In} {k m : Nat} {l : List Ah} {b : Ah} (h : k + 1 < m) : goOn i k (l.take m) b = (goOn i k l b).take m := by
  unfold goOn
  split
  · exact put_take h
  · rfl
theorem to_take {i : In} {m : Nat} {l : List Ah} {b : Ah} (h : jumpB i.op = true → i.pl.toNat < m) : goTo i (l.take m) b = (goTo i l b).take m := by
  unfold goTo
  split
  · next hj => exact put_take (h hj)
  · rfl
theorem on_beyond {i : In} {k j : Nat} {l : List Ah} {b : Ah} (h : k + 1 ≠ j) : gt (goOn i k l b) j = gt l j := by
  unfold goOn
  split
  · exact put_beyond h
  · rfl
theorem to_beyond {i : In} {j : Nat} {l : List Ah} {b : Ah} (h : jumpB i.op = true → i.pl.toNat ≠ j) : gt (goTo i l b) j = gt l j := by
  unfold goTo
  split
  · next hj => exact put_beyond (h hj)
  · rfl
/-- A step over a beginning of the list: the same, if no jump leads out of it. -/
theorem step_take {i : In} {k n n2 : Nat} {l : List Ah} (hk : k + 1 < n + 1) (hn : n ≤ n2)
    (hj : jumpB i.op = true → (gt l k).on = true → i.pl ≤ n) :
    stepB i k n (l.take (n + 1)) = ((stepB i k n2 l).1, (stepB i k n2 l).2.take (n + 1)) := by
  have e0 : gt (l.take (n + 1)) k = gt l k := gt_take (by omega)
  have e1 : gt (l.take (n + 1)) (k + 1) = gt l (k + 1) := gt_take (by omega)
  unfold stepB
  rw [e0, e1]
  by_cases hr : rightI i = false
  · rw [if_pos hr, if_pos hr]
  rw [if_neg hr, if_neg hr]
  have hr : rightI i = true := by simpa using hr
  by_cases ho : (gt l k).on = false
  · rw [if_pos ho, if_pos ho]
  rw [if_neg ho, if_neg ho]
  have ho : (gt l k).on = true := by simpa using ho
  have he : errB i k n (gt l k) = errB i k n2 (gt l k) := by
    have hf : farB i k n = farB i k n2 := by
      unfold farB
      cases hjb : jumpB i.op with
      | false => rfl
      | true =>
        have := hj hjb ho
        rw [decide_eq_false (show ¬ (n : Int) < i.pl by omega), decide_eq_false (show ¬ (n2 : Int) < i.pl by omega)]
    unfold errB
    rw [hf]
  rw [he]
  have hpl : jumpB i.op = true → i.pl.toNat < n + 1 := fun h => by have := hj h ho; omega
  by_cases hz : errB i k n2 (gt l k) ≠ 0
  · rw [if_pos hz, if_pos hz]
  rw [if_neg hz, if_neg hz]
  split
  · rfl
  rw [on_take hk]
  have e2 : (jumpB i.op && !joinO (gt ((goOn i k l (nextB i (gt l k))).take (n + 1)) i.pl.toNat) (nextB i (gt l k))) = (jumpB i.op && !joinO (gt (goOn i k l (nextB i (gt l k))) i.pl.toNat) (nextB i (gt l k))) := by
    cases hjb : jumpB i.op with
    | false => rfl
    | true => rw [gt_take (hpl hjb)]
  rw [e2]
  split
  · rfl
  rw [to_take hpl]
theorem step_beyond {i : In} {k n n2 j : Nat} {l : List Ah} (hk : k + 1 < n + 1) (hjn : n < j)
    (hj : jumpB i.op = true → (gt l k).on = true → i.pl ≤ n) : gt (stepB i k n2 l).2 j = gt l j := by
  unfold stepB
  split
  · rfl
  split
  · rfl
  next ho =>
  have ho : (gt l k).on = true := by simpa using ho
  split
  · rfl
  split
  · rfl
  split
  · rfl
  show gt (goTo i _ _) j = _
  rw [to_beyond (fun h => by have := hj h ho; omega), on_beyond (by omega)]
/-- The first ones of a longer program: the same, if no jump of theirs leads out of them. -/
theorem run_take {c d : List In} (hd : d.length ≤ c.length) : ∀ (k : Nat), k ≤ d.length → (∀ (j : Nat) (x : In), j < k → c[j]? = some x → d[j]? = some x) →
    (∀ (j : Nat) (x : In) (l : List Ah), j < k → c[j]? = some x → runB c j = .ok l → jumpB x.op = true → (gt l j).on = true → x.pl ≤ d.length) →
    (∀ l, runB c k = .ok l → runB d k = .ok (l.take (d.length + 1))) ∧ (∀ e, runB c k = .error e → runB d k = .error e)
  | 0, _, _, _ => by
    refine ⟨fun l h => ?_, fun e h => by cases h⟩
    unfold runB at h ⊢
    injection h with h
    rw [← h]
    unfold firstB
    rw [List.take_succ_cons, List.take_replicate, Nat.min_eq_left hd]
  | k + 1, hk, hs, hj => by
    obtain ⟨ih1, ih2⟩ := run_take hd k (by omega) (fun j x h => hs j x (by omega)) (fun j x l h => hj j x l (by omega))
    have hkc : k < c.length := by omega
    obtain ⟨x, hx⟩ : ∃ x, c[k]? = some x := ⟨_, List.getElem?_eq_getElem hkc⟩
    have hxd := hs k x (by omega) hx
    cases h0 : runB c k with
    | error e0 =>
      have h1 := ih2 e0 h0
      have q1 := run_error 1 h0
      have q2 := run_error 1 h1
      exact ⟨fun l h => (by rw [q1] at h; cases h), fun e h => (by rw [q1] at h; injection h with h; rw [← h]; exact q2)⟩
    | ok l0 =>
      have h1 := ih1 l0 h0
      have hst := step_take (i := x) (k := k) (n := d.length) (n2 := c.length) (l := l0) (by omega) hd (fun a b => hj k x l0 (by omega) hx h0 a b)
      by_cases hz : (stepB x k c.length l0).1 = 0
      · have q1 := run_next h0 hx hz
        have q2 := run_next h1 hxd (by rw [hst]; exact hz)
        rw [hst] at q2
        exact ⟨fun l h => (by rw [q1] at h; injection h with h; rw [← h]; exact q2), fun e h => (by rw [q1] at h; cases h)⟩
      · have q1 := run_stop h0 hx hz
        have q2 := run_stop h1 hxd (by rw [hst]; exact hz)
        rw [hst] at q2
        exact ⟨fun l h => (by rw [q1] at h; cases h), fun e h => (by rw [q1] at h; injection h with h; rw [← h]; exact q2)⟩
/-- What stands behind the first error plays no part. -/
theorem all_cut {c : List In} {e k : Nat} (h : allB c = .error (e, k)) (hk : k < c.length) (hl : c.length ≤ 200) (hx : ∀ x, c[k]? = some x → jumpB x.op = false)
    (hj : ∀ (j : Nat) (x : In), j < k → c[j]? = some x → jumpB x.op = true → x.pl ≤ k + 1) : allB (c.take (k + 1)) = .error (e, k) := by
  have hdl : (c.take (k + 1)).length = k + 1 := by rw [List.length_take]; omega
  -- the run stops at k
  have hrun : runB c (k + 1) = .error (e, k) := by
    unfold allB at h
    rw [if_neg (by omega)] at h
    have hgo : ∀ m, m ≤ c.length → runB c m = .error (e, k) → runB c (k + 1) = .error (e, k) := by
      intro m
      induction m with
      | zero => intro _ h; cases h
      | succ m ih =>
        intro hm hr
        cases h0 : runB c m with
        | error e0 =>
          have := run_error 1 h0
          rw [hr] at this
          injection this with this
          rw [← this] at h0
          exact ih (by omega) h0
        | ok l0 =>
          obtain ⟨x, hx⟩ : ∃ x, c[m]? = some x := ⟨_, List.getElem?_eq_getElem (by omega)⟩
          by_cases hz : (stepB x m c.length l0).1 = 0
          · rw [run_next h0 hx hz] at hr; cases hr
          · have h2 := run_stop h0 hx hz
            rw [hr] at h2
            injection h2 with h2
            injection h2 with _ h2
            subst h2
            exact hr
    split at h
    · next e1 h1 =>
      injection h with h
      rw [h] at h1
      exact hgo _ (Nat.le_refl _) h1
    · split at h
      · cases h
      · injection h with h
        injection h with _ h
        omega
  have h1 := (run_take (c := c) (d := c.take (k + 1)) (by rw [hdl]; omega) (k + 1) (by rw [hdl]; omega) (fun j x hj hx => by rw [List.getElem?_take, if_pos (by omega)]; exact hx)
    (fun j x l hjk hxj _ hjb _ => by
      rw [hdl]
      by_cases e : j = k
      · subst e
        rw [hx x hxj] at hjb
        cases hjb
      · have := hj j x (by omega) hxj hjb
        omega)).2 _ hrun
  unfold allB
  rw [if_neg (by rw [hdl]; omega), hdl, h1]
/-- A program that may run, a RET, and whatever may be. -/
theorem all_more {c m : List In} {l : List Ah} {r : In} (h : allB c = .ok l) (hl : c.length + 1 + m.length ≤ 200) (hr : r.op = 28) (hrr : rightI r = true) (hm : ∀ x ∈ m, rightI x = true) :
    ∃ l2, allB (c ++ [r] ++ m) = .ok l2 := by
  obtain ⟨_, h1, h2⟩ := all_ok h
  have hlen : (c ++ [r] ++ m).length = c.length + 1 + m.length := by simp; omega
  have hat : ∀ (j : Nat) (x : In), j < c.length → (c ++ [r] ++ m)[j]? = some x → c[j]? = some x := fun j x hj hx => by
    rw [List.append_assoc, List.getElem?_append_left hj] at hx
    exact hx
  have hati : ∀ (j : Nat) (x : In), c[j]? = some x → (c ++ [r] ++ m)[j]? = some x := fun j x hx => by
    have hj : j < c.length := (List.getElem?_eq_some_iff.1 hx).1
    rw [List.append_assoc, List.getElem?_append_left hj]
    exact hx
  -- up to the RET
  have hgo : ∀ k, k ≤ c.length → ∃ l0 l3, runB c k = .ok l0 ∧ runB (c ++ [r] ++ m) k = .ok l3 ∧ l3.take (c.length + 1) = l0 ∧ ∀ j, c.length < j → gt l3 j = ah0 := by
    intro k
    induction k with
    | zero =>
      intro _
      refine ⟨_, _, rfl, rfl, ?_, fun j hj => by rw [gt_first, if_neg (by omega)]⟩
      unfold firstB
      rw [List.take_succ_cons, List.take_replicate, Nat.min_eq_left (by rw [hlen]; omega)]
    | succ k ih =>
      intro hk
      obtain ⟨l0, l3, q1, q2, q3, q4⟩ := ih (by omega)
      obtain ⟨x, hx⟩ : ∃ x, c[k]? = some x := ⟨_, List.getElem?_eq_getElem (by omega)⟩
      have hx2 := hati k x hx
      by_cases hz : (stepB x k c.length l0).1 = 0
      · have hfar : jumpB x.op = true → (gt l3 k).on = true → x.pl ≤ c.length := by
          intro hj ho
          have ho0 : (gt l0 k).on = true := by rw [← q3, gt_take (by omega)]; exact ho
          unfold stepB at hz
          split at hz
          · cases hz
          rw [if_neg (by rw [ho0]; simp)] at hz
          split at hz
          · next he => exact absurd hz he
          next he =>
          have he : errB x k c.length (gt l0 k) = 0 := by simpa using he
          have := (err_zero he).1
          unfold farB at this
          rw [hj, Bool.true_and, Bool.or_eq_false_iff] at this
          have := of_decide_eq_false this.2
          omega
        have hst := step_take (i := x) (k := k) (n := c.length) (n2 := (c ++ [r] ++ m).length) (l := l3) (by omega) (by rw [hlen]; omega) hfar
        rw [q3] at hst
        have hz3 : (stepB x k (c ++ [r] ++ m).length l3).1 = 0 := by rw [hst] at hz; exact hz
        refine ⟨_, _, run_next q1 hx hz, run_next q2 hx2 hz3, by rw [hst], fun j hj => ?_⟩
        rw [step_beyond (n := c.length) (by omega) hj hfar]
        exact q4 j hj
      · have := run_error (c.length - (k + 1)) (run_stop q1 hx hz)
        rw [show k + 1 + (c.length - (k + 1)) = c.length by omega, h1] at this
        cases this
  obtain ⟨l0, l3, q1, q2, q3, q4⟩ := hgo c.length (Nat.le_refl _)
  rw [h1] at q1
  injection q1 with q1
  subst q1
  have hwf := run_ok q2
  -- the RET
  have hxr : (c ++ [r] ++ m)[c.length]? = some r := by rw [List.append_assoc, List.getElem?_append_right (Nat.le_refl _)]; simp
  have hb3 : (gt l3 c.length).br.length = 0 := by rw [← h2, ← q3, gt_take (by omega)]
  have hjr : jumpB r.op = false := by unfold jumpB; rw [hr]; decide
  have honr : onB r.op = false := by unfold onB; rw [hr]; decide
  have hsr : stepB r c.length (c ++ [r] ++ m).length l3 = (0, l3) := by
    unfold stepB
    rw [if_neg (by rw [hrr]; simp)]
    split
    · rfl
    have he : errB r c.length (c ++ [r] ++ m).length (gt l3 c.length) = 0 := by
      unfold errB farB refB fitB
      rw [hjr, hb3, hr]
      simp
    rw [if_neg (by rw [he]; simp), if_neg (by rw [honr]; simp), if_neg (by rw [hjr]; simp)]
    unfold goTo goOn
    rw [if_neg (by rw [hjr]; simp), if_neg (by rw [honr]; simp)]
  have hrun : ∀ k, k ≤ m.length → runB (c ++ [r] ++ m) (c.length + 1 + k) = .ok l3 := by
    intro k
    induction k with
    | zero =>
      intro _
      have := run_next q2 hxr (by rw [hsr])
      rw [hsr] at this
      exact this
    | succ k ih =>
      intro hk
      have hi := ih (by omega)
      obtain ⟨x, hx⟩ : ∃ x, m[k]? = some x := ⟨_, List.getElem?_eq_getElem (by omega)⟩
      have hx2 : (c ++ [r] ++ m)[c.length + 1 + k]? = some x := by
        rw [List.getElem?_append_right (by simp), show c.length + 1 + k - (c ++ [r]).length = k by simp]
        exact hx
      have hst : stepB x (c.length + 1 + k) (c ++ [r] ++ m).length l3 = (0, l3) := by
        unfold stepB
        rw [if_neg (by rw [hm x (List.mem_of_getElem? hx)]; simp), if_pos (by rw [q4 _ (by omega)]; rfl)]
      have := run_next hi hx2 (by rw [hst])
      rw [hst] at this
      exact this
  have hend := hrun m.length (Nat.le_refl _)
  refine ⟨l3, all_done (by rw [hlen]; omega) (by rw [hlen]; exact hend) (by rw [hlen, q4 _ (by omega)]; rfl)⟩

end Go.Proofs.Ytbejajnhgoejhaa.Ve
