/-
  The landed code's Right, walked. Conditions: numbers that an int holds.
-/
import Derived.Test.YtmlopacekoghkaaIkAR
namespace Go.Proofs.Ytmlopacekoghkaa.Il
open Go.RowKit
open Go.Proofs.Ytmlopacekoghkaa.Ic

def rightC (i : In) : Bool :=
  if formI i.op = 1 then decide (i.kd = 0) && decide (i.ar = 0) && decide (i.pl = 0) && decide (i.n = 0)
  else if formI i.op = 2 then hasP i 1 || hasL i
  else if formI i.op = 3 then hasP i 2
  else if formI i.op = 4 then (decide (i.kd = 0) && decide (i.ar = 0) && decide (i.n = 0)) && decide (0 ≤ i.pl) && decide (i.pl ≤ 200)
  else if formI i.op = 5 then (decide (i.ar = 0) && decide (i.pl = 0) && decide (i.n = 0)) && decide (szI i.kd ≠ 0)
  else if formI i.op = 6 then (decide (i.kd = 0) && decide (i.ar = 0) && decide (i.n = 0)) && joinI i.pl
  else if formI i.op = 7 then decide (i.kd = 0) && decide (1 ≤ i.n) && decide (i.n ≤ 9999) && hasB i 3 5
  else if formI i.op = 8 then decide (i.kd = 0) && decide (i.n = 0) && hasB i 3 1
  else false
theorem read_write {op : Int} (h : readsB op = true) : writesB op = false ∧ jumpB op = false ∧ bareB op = false ∧ op ≠ 33 ∧ op ≠ 31 ∧ op ≠ 32 ∧ op ≠ 34 ∧ op ≠ 35 ∧ op ≠ 36 := by
  unfold readsB at h
  rw [decide_eq_true_iff] at h
  unfold writesB jumpB bareB
  refine ⟨?_, ?_, ?_, ?_, ?_, ?_, ?_, ?_, ?_⟩ <;> first | (rw [decide_eq_false_iff_not]; omega) | omega
theorem rightC_eq (i : In) : rightC i = rightI i := by
  obtain ⟨op, kd, ar, pl, n⟩ := i
  unfold rightC rightI formI
  dsimp only
  cases hr : readsB op with
  | true =>
    simp only [if_true, Bool.true_and, Bool.true_or, show ¬ (2 : Int) = 1 by decide, if_false, decide_eq_true_eq]
    by_cases ha : ar = 0
    · subst ha
      simp [hasP, hasB, hasL]
    · rw [if_neg ha]
      rw [(read_write hr).1]
      simp [hasP, hasB, hasL, thereB, ha]
      by_cases h1 : 1 ≤ ar <;> by_cases h4 : ar ≤ 4 <;> by_cases hn : n = 0 <;> by_cases hz : szI kd = 0 <;> by_cases h0 : 0 ≤ pl <;> simp [h1, h4, hn, hz, h0]
      · omega
  | false =>
    simp only [Bool.false_eq_true, if_false, Bool.false_and, Bool.false_or]
    cases hw : writesB op with
    | true =>
      simp only [if_true, Bool.true_and, show ¬ (3 : Int) = 1 by decide, show ¬ (3 : Int) = 2 by decide, if_false]
      simp [hasP, hasB, thereB]
      by_cases h1 : 2 ≤ ar <;> by_cases h4 : ar ≤ 4 <;> by_cases hn : n = 0 <;> by_cases hz : szI kd = 0 <;> by_cases h0 : 0 ≤ pl <;> by_cases hp : pl ≤ 64 - (szI kd : Nat) <;> simp [h1, h4, hn, hz, h0, hp] <;> omega
    | false =>
      simp only [Bool.false_eq_true, if_false]
      cases hj : jumpB op with
      | true =>
        simp only [if_true, show ¬ (4 : Int) = 1 by decide, show ¬ (4 : Int) = 2 by decide, show ¬ (4 : Int) = 3 by decide, if_false]
        by_cases h1 : kd = 0 <;> by_cases h2 : ar = 0 <;> by_cases h3 : n = 0 <;> by_cases h4 : 0 ≤ pl <;> by_cases h5 : pl ≤ 200 <;> simp [h1, h2, h3, h4, h5]
      | false =>
        simp only [Bool.false_eq_true, if_false]
        by_cases hb : (bareB op || decide (op = 33)) = true
        · rw [if_pos hb, if_pos rfl, if_pos hb]
          by_cases h1 : kd = 0 <;> by_cases h2 : ar = 0 <;> by_cases h3 : n = 0 <;> by_cases h4 : pl = 0 <;> simp [h1, h2, h3, h4]
        · rw [if_neg hb, if_neg hb]
          by_cases h31 : op = 31
          · subst h31
            simp only [if_true, show ¬ (5 : Int) = 1 by decide, show ¬ (5 : Int) = 2 by decide, show ¬ (5 : Int) = 3 by decide, show ¬ (5 : Int) = 4 by decide, if_false]
            by_cases h1 : szI kd = 0 <;> by_cases h2 : ar = 0 <;> by_cases h3 : n = 0 <;> by_cases h4 : pl = 0 <;> simp [h1, h2, h3, h4]
          · simp only [if_neg h31]
            by_cases h32 : op = 32
            · subst h32
              simp only [if_true, show ¬ (6 : Int) = 1 by decide, show ¬ (6 : Int) = 2 by decide, show ¬ (6 : Int) = 3 by decide, show ¬ (6 : Int) = 4 by decide, show ¬ (6 : Int) = 5 by decide, if_false]
              have hjo : joinI pl = (readsB pl && decide (2 < pl)) := by
                unfold joinI readsB
                by_cases h : 7 ≤ pl ∧ pl ≤ 24 ∧ pl ≠ 13
                · rw [decide_eq_true h, decide_eq_true (by omega), decide_eq_true (by omega)]; rfl
                · rw [decide_eq_false h]
                  by_cases h2 : 2 < pl
                  · rw [decide_eq_false (by omega)]; rfl
                  · rw [decide_eq_false h2, Bool.and_false]
              rw [hjo]
              by_cases h1 : kd = 0 <;> by_cases h2 : ar = 0 <;> by_cases h3 : n = 0 <;> simp [h1, h2, h3]
            · simp only [if_neg h32]
              by_cases h34 : op = 34 ∨ op = 35
              · simp only [if_pos h34, if_true, show ¬ (7 : Int) = 1 by decide, show ¬ (7 : Int) = 2 by decide, show ¬ (7 : Int) = 3 by decide, show ¬ (7 : Int) = 4 by decide, show ¬ (7 : Int) = 5 by decide, show ¬ (7 : Int) = 6 by decide, if_false]
                unfold hasB
                dsimp only
                by_cases h1 : kd = 0 <;> by_cases h2 : 1 ≤ n <;> by_cases h3 : n ≤ 9999 <;> simp [h1, h2, h3]
              · simp only [if_neg h34]
                by_cases h36 : op = 36
                · simp only [if_pos h36, if_true, show ¬ (8 : Int) = 1 by decide, show ¬ (8 : Int) = 2 by decide, show ¬ (8 : Int) = 3 by decide, show ¬ (8 : Int) = 4 by decide, show ¬ (8 : Int) = 5 by decide, show ¬ (8 : Int) = 6 by decide, show ¬ (8 : Int) = 7 by decide, if_false]
                  unfold hasB
                  dsimp only
                  by_cases h1 : kd = 0 <;> by_cases h2 : n = 0 <;> simp [h1, h2]
                · simp [if_neg h36]

theorem form_range (op : Int) : formI op = 0 ∨ formI op = 1 ∨ formI op = 2 ∨ formI op = 3 ∨ formI op = 4 ∨ formI op = 5 ∨ formI op = 6 ∨ formI op = 7 ∨ formI op = 8 := by
  unfold formI
  (repeat' split) <;> omega

set_option maxHeartbeats 4000000 in
set_option maxRecDepth 100000 in
theorem cRight_0 (i : In) (hf : formI i.op = 0) (w : World) : Calls Try.prog 57 #[insV i] w (Tells (.bool (rightI i)) w) := by
  have HF := Lib.hid (fun (W : World) => cForm_any i.op W)
  rw [hf] at HF
  rw [← rightC_eq]
  obtain ⟨op, kd, ar, pl, n⟩ := i
  dsimp only at hf HF ⊢
  rw [show rightC ⟨op, kd, ar, pl, n⟩ = false by unfold rightC; rw [hf]; simp]
  have hX := Lib.hid (box5 w ⟨op, kd, ar, pl, n⟩ 55)
  obtain ⟨⟨c0, c1, c2, c3, c4⟩, hN⟩ := hX.out
  dsimp only at c0 c1 c2 c3 c4
  clear hf
  show Calls Try.prog 57 #[.agg #[.int .i64 op, .int .i64 kd, .int .i64 ar, .int .i64 pl, .int .i64 n]] w _
  go_enter Try.func57, Try.ntmps57
  go_wp2_with fail
  refine (HF.out _).mono ?_
  rintro e w1 ⟨rfl, rfl⟩
  go_wp2
  go_ret
  first | exact ⟨rfl, hN.1⟩ | (refine ⟨?_, hN.1⟩; simp; omega)

set_option maxHeartbeats 4000000 in
set_option maxRecDepth 100000 in
theorem cRight_1 (i : In) (hf : formI i.op = 1) (w : World) : Calls Try.prog 57 #[insV i] w (Tells (.bool (rightI i)) w) := by
  have HF := Lib.hid (fun (W : World) => cForm_any i.op W)
  rw [hf] at HF
  rw [← rightC_eq]
  obtain ⟨op, kd, ar, pl, n⟩ := i
  dsimp only at hf HF ⊢
  by_cases ekd : kd = 0
  · subst ekd
    by_cases ear : ar = 0
    · subst ear
      by_cases epl : pl = 0
      · subst epl
        by_cases en : n = 0
        · subst en
          rw [show rightC ⟨op, 0, 0, 0, 0⟩ = true by unfold rightC; rw [hf]; simp]
          have hX := Lib.hid (box5 w ⟨op, 0, 0, 0, 0⟩ 55)
          obtain ⟨⟨c0, c1, c2, c3, c4⟩, hN⟩ := hX.out
          dsimp only at c0 c1 c2 c3 c4
          clear hf
          show Calls Try.prog 57 #[.agg #[.int .i64 op, .int .i64 0, .int .i64 0, .int .i64 0, .int .i64 0]] w _
          go_enter Try.func57, Try.ntmps57
          go_wp2_with fail
          refine (HF.out _).mono ?_
          rintro e w1 ⟨rfl, rfl⟩
          go_wp2
          go_ret
          first | exact ⟨rfl, hN.1⟩ | (refine ⟨?_, hN.1⟩; simp; omega)
        · have qn : (n == 0) = false := by simpa using en
          rw [show rightC ⟨op, 0, 0, 0, n⟩ = false by unfold rightC; rw [hf]; simp [en]]
          have hX := Lib.hid (box5 w ⟨op, 0, 0, 0, n⟩ 55)
          obtain ⟨⟨c0, c1, c2, c3, c4⟩, hN⟩ := hX.out
          dsimp only at c0 c1 c2 c3 c4
          clear hf
          show Calls Try.prog 57 #[.agg #[.int .i64 op, .int .i64 0, .int .i64 0, .int .i64 0, .int .i64 n]] w _
          go_enter Try.func57, Try.ntmps57
          go_wp2_with fail
          refine (HF.out _).mono ?_
          rintro e w1 ⟨rfl, rfl⟩
          go_wp2
          go_ret
          first | exact ⟨rfl, hN.1⟩ | (refine ⟨?_, hN.1⟩; simp; omega)
      · have qpl : (pl == 0) = false := by simpa using epl
        rw [show rightC ⟨op, 0, 0, pl, n⟩ = false by unfold rightC; rw [hf]; simp [epl]]
        have hX := Lib.hid (box5 w ⟨op, 0, 0, pl, n⟩ 55)
        obtain ⟨⟨c0, c1, c2, c3, c4⟩, hN⟩ := hX.out
        dsimp only at c0 c1 c2 c3 c4
        clear hf
        show Calls Try.prog 57 #[.agg #[.int .i64 op, .int .i64 0, .int .i64 0, .int .i64 pl, .int .i64 n]] w _
        go_enter Try.func57, Try.ntmps57
        go_wp2_with fail
        refine (HF.out _).mono ?_
        rintro e w1 ⟨rfl, rfl⟩
        go_wp2
        go_ret
        first | exact ⟨rfl, hN.1⟩ | (refine ⟨?_, hN.1⟩; simp; omega)
    · have qar : (ar == 0) = false := by simpa using ear
      rw [show rightC ⟨op, 0, ar, pl, n⟩ = false by unfold rightC; rw [hf]; simp [ear]]
      have hX := Lib.hid (box5 w ⟨op, 0, ar, pl, n⟩ 55)
      obtain ⟨⟨c0, c1, c2, c3, c4⟩, hN⟩ := hX.out
      dsimp only at c0 c1 c2 c3 c4
      clear hf
      show Calls Try.prog 57 #[.agg #[.int .i64 op, .int .i64 0, .int .i64 ar, .int .i64 pl, .int .i64 n]] w _
      go_enter Try.func57, Try.ntmps57
      go_wp2_with fail
      refine (HF.out _).mono ?_
      rintro e w1 ⟨rfl, rfl⟩
      go_wp2
      go_ret
      first | exact ⟨rfl, hN.1⟩ | (refine ⟨?_, hN.1⟩; simp; omega)
  · have qkd : (kd == 0) = false := by simpa using ekd
    rw [show rightC ⟨op, kd, ar, pl, n⟩ = false by unfold rightC; rw [hf]; simp [ekd]]
    have hX := Lib.hid (box5 w ⟨op, kd, ar, pl, n⟩ 55)
    obtain ⟨⟨c0, c1, c2, c3, c4⟩, hN⟩ := hX.out
    dsimp only at c0 c1 c2 c3 c4
    clear hf
    show Calls Try.prog 57 #[.agg #[.int .i64 op, .int .i64 kd, .int .i64 ar, .int .i64 pl, .int .i64 n]] w _
    go_enter Try.func57, Try.ntmps57
    go_wp2_with fail
    refine (HF.out _).mono ?_
    rintro e w1 ⟨rfl, rfl⟩
    go_wp2
    go_ret
    first | exact ⟨rfl, hN.1⟩ | (refine ⟨?_, hN.1⟩; simp; omega)

set_option maxHeartbeats 4000000 in
set_option maxRecDepth 100000 in
theorem cRight_2 (i : In) (hf : formI i.op = 2) (hn : I64 i.n) (w : World) : Calls Try.prog 57 #[insV i] w (Tells (.bool (rightI i)) w) := by
  have HF := Lib.hid (fun (W : World) => cForm_any i.op W)
  rw [hf] at HF
  rw [← rightC_eq]
  have HP := Lib.hid (fun (W : World) => cPlace_any i 1 W)
  have HL := Lib.hid (fun (W : World) => cLit_any i hn W)
  have hv : rightC i = (hasP i 1 || hasL i) := by unfold rightC; rw [hf]; rfl
  rw [hv]
  clear hv hn
  generalize hasP i 1 = a at *
  generalize hasL i = b at *
  obtain ⟨op, kd, ar, pl, n⟩ := i
  dsimp only at hf HF HP HL ⊢
  clear hf
  have HP2 : Hid (∀ W, Calls Try.prog 65 #[.agg #[.int .i64 op, .int .i64 kd, .int .i64 ar, .int .i64 pl, .int .i64 n], .int .i64 1] W (Tells (.bool a) W)) := HP
  have HL2 : Hid (∀ W, Calls Try.prog 66 #[.agg #[.int .i64 op, .int .i64 kd, .int .i64 ar, .int .i64 pl, .int .i64 n]] W (Tells (.bool b) W)) := HL
  clear HP HL
  have hX := Lib.hid (box5 w ⟨op, kd, ar, pl, n⟩ 55)
  obtain ⟨⟨c0, c1, c2, c3, c4⟩, hN⟩ := hX.out
  dsimp only at c0 c1 c2 c3 c4
  show Calls Try.prog 57 #[.agg #[.int .i64 op, .int .i64 kd, .int .i64 ar, .int .i64 pl, .int .i64 n]] w _
  cases a
  · go_enter Try.func57, Try.ntmps57
    go_wp2_with fail
    refine (HF.out _).mono ?_
    rintro e w1 ⟨rfl, rfl⟩
    go_wp2_with fail
    refine (HP2.out _).mono ?_
    rintro e w2 ⟨rfl, hb2⟩
    have hX2 := Lib.hid (hX.out.next hb2)
    obtain ⟨⟨d0, d1, d2, d3, d4⟩, -⟩ := hX2.out
    dsimp only at d0 d1 d2 d3 d4
    clear hb2 hX c0 c1 c2 c3 c4
    go_wp2_with fail
    refine (HL2.out _).mono ?_
    rintro e w3 ⟨rfl, hb3⟩
    have hN3 := (hX2.out.next hb3).2
    go_wp2
    go_ret
    exact ⟨rfl, hN3.1⟩
  · go_enter Try.func57, Try.ntmps57
    go_wp2_with fail
    refine (HF.out _).mono ?_
    rintro e w1 ⟨rfl, rfl⟩
    go_wp2_with fail
    refine (HP2.out _).mono ?_
    rintro e w2 ⟨rfl, hb2⟩
    have hN2 := (hX.out.next hb2).2
    go_wp2
    go_ret
    exact ⟨rfl, hN2.1⟩

set_option maxHeartbeats 4000000 in
set_option maxRecDepth 100000 in
theorem cRight_3 (i : In) (hf : formI i.op = 3) (w : World) : Calls Try.prog 57 #[insV i] w (Tells (.bool (rightI i)) w) := by
  have HF := Lib.hid (fun (W : World) => cForm_any i.op W)
  rw [hf] at HF
  rw [← rightC_eq]
  have HP := Lib.hid (fun (W : World) => cPlace_any i 2 W)
  have hv : rightC i = hasP i 2 := by unfold rightC; rw [hf]; rfl
  rw [hv]
  clear hv
  generalize hasP i 2 = a at *
  obtain ⟨op, kd, ar, pl, n⟩ := i
  dsimp only at hf HF HP ⊢
  clear hf
  have HP2 : Hid (∀ W, Calls Try.prog 65 #[.agg #[.int .i64 op, .int .i64 kd, .int .i64 ar, .int .i64 pl, .int .i64 n], .int .i64 2] W (Tells (.bool a) W)) := HP
  clear HP
  have hX := Lib.hid (box5 w ⟨op, kd, ar, pl, n⟩ 55)
  obtain ⟨⟨c0, c1, c2, c3, c4⟩, hN⟩ := hX.out
  dsimp only at c0 c1 c2 c3 c4
  show Calls Try.prog 57 #[.agg #[.int .i64 op, .int .i64 kd, .int .i64 ar, .int .i64 pl, .int .i64 n]] w _
  go_enter Try.func57, Try.ntmps57
  go_wp2_with fail
  refine (HF.out _).mono ?_
  rintro e w1 ⟨rfl, rfl⟩
  go_wp2_with fail
  refine (HP2.out _).mono ?_
  rintro e w2 ⟨rfl, hb2⟩
  have hN2 := (hX.out.next hb2).2
  go_wp2
  go_ret
  exact ⟨rfl, hN2.1⟩

set_option maxHeartbeats 4000000 in
set_option maxRecDepth 100000 in
theorem cRight_4 (i : In) (hf : formI i.op = 4) (w : World) : Calls Try.prog 57 #[insV i] w (Tells (.bool (rightI i)) w) := by
  have HF := Lib.hid (fun (W : World) => cForm_any i.op W)
  rw [hf] at HF
  rw [← rightC_eq]
  obtain ⟨op, kd, ar, pl, n⟩ := i
  dsimp only at hf HF ⊢
  by_cases ekd : kd = 0
  · subst ekd
    by_cases ear : ar = 0
    · subst ear
      by_cases en : n = 0
      · subst en
        by_cases h0 : 0 ≤ pl
        · by_cases h1 : pl ≤ 200
          · rw [show rightC ⟨op, 0, 0, pl, 0⟩ = true by unfold rightC; rw [hf]; simp [h0, h1]]
            have hX := Lib.hid (box5 w ⟨op, 0, 0, pl, 0⟩ 55)
            obtain ⟨⟨c0, c1, c2, c3, c4⟩, hN⟩ := hX.out
            dsimp only at c0 c1 c2 c3 c4
            clear hf
            show Calls Try.prog 57 #[.agg #[.int .i64 op, .int .i64 0, .int .i64 0, .int .i64 pl, .int .i64 0]] w _
            go_enter Try.func57, Try.ntmps57
            go_wp2_with fail
            refine (HF.out _).mono ?_
            rintro e w1 ⟨rfl, rfl⟩
            go_wp2
            go_ret
            first | exact ⟨rfl, hN.1⟩ | (refine ⟨?_, hN.1⟩; simp; omega)
          · rw [show rightC ⟨op, 0, 0, pl, 0⟩ = false by unfold rightC; rw [hf]; simp [h1]]
            have hX := Lib.hid (box5 w ⟨op, 0, 0, pl, 0⟩ 55)
            obtain ⟨⟨c0, c1, c2, c3, c4⟩, hN⟩ := hX.out
            dsimp only at c0 c1 c2 c3 c4
            clear hf
            show Calls Try.prog 57 #[.agg #[.int .i64 op, .int .i64 0, .int .i64 0, .int .i64 pl, .int .i64 0]] w _
            go_enter Try.func57, Try.ntmps57
            go_wp2_with fail
            refine (HF.out _).mono ?_
            rintro e w1 ⟨rfl, rfl⟩
            go_wp2
            go_ret
            first | exact ⟨rfl, hN.1⟩ | (refine ⟨?_, hN.1⟩; simp; omega)
        · rw [show rightC ⟨op, 0, 0, pl, 0⟩ = false by unfold rightC; rw [hf]; simp [h0]]
          have hX := Lib.hid (box5 w ⟨op, 0, 0, pl, 0⟩ 55)
          obtain ⟨⟨c0, c1, c2, c3, c4⟩, hN⟩ := hX.out
          dsimp only at c0 c1 c2 c3 c4
          clear hf
          show Calls Try.prog 57 #[.agg #[.int .i64 op, .int .i64 0, .int .i64 0, .int .i64 pl, .int .i64 0]] w _
          go_enter Try.func57, Try.ntmps57
          go_wp2_with fail
          refine (HF.out _).mono ?_
          rintro e w1 ⟨rfl, rfl⟩
          go_wp2
          go_ret
          first | exact ⟨rfl, hN.1⟩ | (refine ⟨?_, hN.1⟩; simp; omega)
      · have qn : (n == 0) = false := by simpa using en
        rw [show rightC ⟨op, 0, 0, pl, n⟩ = false by unfold rightC; rw [hf]; simp [en]]
        have hX := Lib.hid (box5 w ⟨op, 0, 0, pl, n⟩ 55)
        obtain ⟨⟨c0, c1, c2, c3, c4⟩, hN⟩ := hX.out
        dsimp only at c0 c1 c2 c3 c4
        clear hf
        show Calls Try.prog 57 #[.agg #[.int .i64 op, .int .i64 0, .int .i64 0, .int .i64 pl, .int .i64 n]] w _
        go_enter Try.func57, Try.ntmps57
        go_wp2_with fail
        refine (HF.out _).mono ?_
        rintro e w1 ⟨rfl, rfl⟩
        go_wp2
        go_ret
        first | exact ⟨rfl, hN.1⟩ | (refine ⟨?_, hN.1⟩; simp; omega)
    · have qar : (ar == 0) = false := by simpa using ear
      rw [show rightC ⟨op, 0, ar, pl, n⟩ = false by unfold rightC; rw [hf]; simp [ear]]
      have hX := Lib.hid (box5 w ⟨op, 0, ar, pl, n⟩ 55)
      obtain ⟨⟨c0, c1, c2, c3, c4⟩, hN⟩ := hX.out
      dsimp only at c0 c1 c2 c3 c4
      clear hf
      show Calls Try.prog 57 #[.agg #[.int .i64 op, .int .i64 0, .int .i64 ar, .int .i64 pl, .int .i64 n]] w _
      go_enter Try.func57, Try.ntmps57
      go_wp2_with fail
      refine (HF.out _).mono ?_
      rintro e w1 ⟨rfl, rfl⟩
      go_wp2
      go_ret
      first | exact ⟨rfl, hN.1⟩ | (refine ⟨?_, hN.1⟩; simp; omega)
  · have qkd : (kd == 0) = false := by simpa using ekd
    rw [show rightC ⟨op, kd, ar, pl, n⟩ = false by unfold rightC; rw [hf]; simp [ekd]]
    have hX := Lib.hid (box5 w ⟨op, kd, ar, pl, n⟩ 55)
    obtain ⟨⟨c0, c1, c2, c3, c4⟩, hN⟩ := hX.out
    dsimp only at c0 c1 c2 c3 c4
    clear hf
    show Calls Try.prog 57 #[.agg #[.int .i64 op, .int .i64 kd, .int .i64 ar, .int .i64 pl, .int .i64 n]] w _
    go_enter Try.func57, Try.ntmps57
    go_wp2_with fail
    refine (HF.out _).mono ?_
    rintro e w1 ⟨rfl, rfl⟩
    go_wp2
    go_ret
    first | exact ⟨rfl, hN.1⟩ | (refine ⟨?_, hN.1⟩; simp; omega)

set_option maxHeartbeats 4000000 in
set_option maxRecDepth 100000 in
theorem cRight_5 (i : In) (hf : formI i.op = 5) (w : World) : Calls Try.prog 57 #[insV i] w (Tells (.bool (rightI i)) w) := by
  have HF := Lib.hid (fun (W : World) => cForm_any i.op W)
  rw [hf] at HF
  rw [← rightC_eq]
  have HS := Lib.hid (fun (W : World) => cSize_any i.kd W)
  obtain ⟨op, kd, ar, pl, n⟩ := i
  dsimp only at hf HF HS ⊢
  by_cases ear : ar = 0
  · subst ear
    by_cases epl : pl = 0
    · subst epl
      by_cases en : n = 0
      · subst en
        by_cases hz : szI kd = 0
        · rw [hz] at HS
          rw [show rightC ⟨op, kd, 0, 0, 0⟩ = false by unfold rightC; rw [hf]; simp [hz]]
          have hX := Lib.hid (box5 w ⟨op, kd, 0, 0, 0⟩ 55)
          obtain ⟨⟨c0, c1, c2, c3, c4⟩, hN⟩ := hX.out
          dsimp only at c0 c1 c2 c3 c4
          clear hf
          show Calls Try.prog 57 #[.agg #[.int .i64 op, .int .i64 kd, .int .i64 0, .int .i64 0, .int .i64 0]] w _
          go_enter Try.func57, Try.ntmps57
          go_wp2_with fail
          refine (HF.out _).mono ?_
          rintro e w1 ⟨rfl, rfl⟩
          go_wp2_with fail
          refine (HS.out _).mono ?_
          rintro e w2 ⟨rfl, hb2⟩
          have hN2 := (hX.out.next hb2).2
          go_wp2
          go_ret
          first | exact ⟨rfl, hN2.1⟩ | (refine ⟨?_, hN2.1⟩; simp; omega)
        · have hzp : (0 : Int) < (szI kd : Nat) := by omega
          rw [show rightC ⟨op, kd, 0, 0, 0⟩ = true by unfold rightC; rw [hf]; simp [hz]]
          have hX := Lib.hid (box5 w ⟨op, kd, 0, 0, 0⟩ 55)
          obtain ⟨⟨c0, c1, c2, c3, c4⟩, hN⟩ := hX.out
          dsimp only at c0 c1 c2 c3 c4
          clear hf
          show Calls Try.prog 57 #[.agg #[.int .i64 op, .int .i64 kd, .int .i64 0, .int .i64 0, .int .i64 0]] w _
          go_enter Try.func57, Try.ntmps57
          go_wp2_with fail
          refine (HF.out _).mono ?_
          rintro e w1 ⟨rfl, rfl⟩
          go_wp2_with fail
          refine (HS.out _).mono ?_
          rintro e w2 ⟨rfl, hb2⟩
          have hN2 := (hX.out.next hb2).2
          go_wp2
          go_ret
          first | exact ⟨rfl, hN2.1⟩ | (refine ⟨?_, hN2.1⟩; simp; omega)
      · have qn : (n == 0) = false := by simpa using en
        rw [show rightC ⟨op, kd, 0, 0, n⟩ = false by unfold rightC; rw [hf]; simp [en]]
        have hX := Lib.hid (box5 w ⟨op, kd, 0, 0, n⟩ 55)
        obtain ⟨⟨c0, c1, c2, c3, c4⟩, hN⟩ := hX.out
        dsimp only at c0 c1 c2 c3 c4
        clear hf
        show Calls Try.prog 57 #[.agg #[.int .i64 op, .int .i64 kd, .int .i64 0, .int .i64 0, .int .i64 n]] w _
        go_enter Try.func57, Try.ntmps57
        go_wp2_with fail
        refine (HF.out _).mono ?_
        rintro e w1 ⟨rfl, rfl⟩
        go_wp2
        go_ret
        first | exact ⟨rfl, hN.1⟩ | (refine ⟨?_, hN.1⟩; simp; omega)
    · have qpl : (pl == 0) = false := by simpa using epl
      rw [show rightC ⟨op, kd, 0, pl, n⟩ = false by unfold rightC; rw [hf]; simp [epl]]
      have hX := Lib.hid (box5 w ⟨op, kd, 0, pl, n⟩ 55)
      obtain ⟨⟨c0, c1, c2, c3, c4⟩, hN⟩ := hX.out
      dsimp only at c0 c1 c2 c3 c4
      clear hf
      show Calls Try.prog 57 #[.agg #[.int .i64 op, .int .i64 kd, .int .i64 0, .int .i64 pl, .int .i64 n]] w _
      go_enter Try.func57, Try.ntmps57
      go_wp2_with fail
      refine (HF.out _).mono ?_
      rintro e w1 ⟨rfl, rfl⟩
      go_wp2
      go_ret
      first | exact ⟨rfl, hN.1⟩ | (refine ⟨?_, hN.1⟩; simp; omega)
  · have qar : (ar == 0) = false := by simpa using ear
    rw [show rightC ⟨op, kd, ar, pl, n⟩ = false by unfold rightC; rw [hf]; simp [ear]]
    have hX := Lib.hid (box5 w ⟨op, kd, ar, pl, n⟩ 55)
    obtain ⟨⟨c0, c1, c2, c3, c4⟩, hN⟩ := hX.out
    dsimp only at c0 c1 c2 c3 c4
    clear hf
    show Calls Try.prog 57 #[.agg #[.int .i64 op, .int .i64 kd, .int .i64 ar, .int .i64 pl, .int .i64 n]] w _
    go_enter Try.func57, Try.ntmps57
    go_wp2_with fail
    refine (HF.out _).mono ?_
    rintro e w1 ⟨rfl, rfl⟩
    go_wp2
    go_ret
    first | exact ⟨rfl, hN.1⟩ | (refine ⟨?_, hN.1⟩; simp; omega)

set_option maxHeartbeats 4000000 in
set_option maxRecDepth 100000 in
theorem cRight_6 (i : In) (hf : formI i.op = 6) (w : World) : Calls Try.prog 57 #[insV i] w (Tells (.bool (rightI i)) w) := by
  have HF := Lib.hid (fun (W : World) => cForm_any i.op W)
  rw [hf] at HF
  rw [← rightC_eq]
  have HJ := Lib.hid (fun (W : World) => cJoins_any i.pl W)
  obtain ⟨op, kd, ar, pl, n⟩ := i
  dsimp only at hf HF HJ ⊢
  by_cases ekd : kd = 0
  · subst ekd
    by_cases ear : ar = 0
    · subst ear
      by_cases en : n = 0
      · subst en
        rw [show rightC ⟨op, 0, 0, pl, 0⟩ = joinI pl by unfold rightC; rw [hf]; simp]
        have hX := Lib.hid (box5 w ⟨op, 0, 0, pl, 0⟩ 55)
        obtain ⟨⟨c0, c1, c2, c3, c4⟩, hN⟩ := hX.out
        dsimp only at c0 c1 c2 c3 c4
        clear hf
        show Calls Try.prog 57 #[.agg #[.int .i64 op, .int .i64 0, .int .i64 0, .int .i64 pl, .int .i64 0]] w _
        go_enter Try.func57, Try.ntmps57
        go_wp2_with fail
        refine (HF.out _).mono ?_
        rintro e w1 ⟨rfl, rfl⟩
        go_wp2_with fail
        refine (HJ.out _).mono ?_
        rintro e w2 ⟨rfl, rfl⟩
        go_wp2
        go_ret
        first | exact ⟨rfl, hN.1⟩ | (refine ⟨?_, hN.1⟩; simp; omega)
      · have qn : (n == 0) = false := by simpa using en
        rw [show rightC ⟨op, 0, 0, pl, n⟩ = false by unfold rightC; rw [hf]; simp [en]]
        have hX := Lib.hid (box5 w ⟨op, 0, 0, pl, n⟩ 55)
        obtain ⟨⟨c0, c1, c2, c3, c4⟩, hN⟩ := hX.out
        dsimp only at c0 c1 c2 c3 c4
        clear hf
        show Calls Try.prog 57 #[.agg #[.int .i64 op, .int .i64 0, .int .i64 0, .int .i64 pl, .int .i64 n]] w _
        go_enter Try.func57, Try.ntmps57
        go_wp2_with fail
        refine (HF.out _).mono ?_
        rintro e w1 ⟨rfl, rfl⟩
        go_wp2
        go_ret
        first | exact ⟨rfl, hN.1⟩ | (refine ⟨?_, hN.1⟩; simp; omega)
    · have qar : (ar == 0) = false := by simpa using ear
      rw [show rightC ⟨op, 0, ar, pl, n⟩ = false by unfold rightC; rw [hf]; simp [ear]]
      have hX := Lib.hid (box5 w ⟨op, 0, ar, pl, n⟩ 55)
      obtain ⟨⟨c0, c1, c2, c3, c4⟩, hN⟩ := hX.out
      dsimp only at c0 c1 c2 c3 c4
      clear hf
      show Calls Try.prog 57 #[.agg #[.int .i64 op, .int .i64 0, .int .i64 ar, .int .i64 pl, .int .i64 n]] w _
      go_enter Try.func57, Try.ntmps57
      go_wp2_with fail
      refine (HF.out _).mono ?_
      rintro e w1 ⟨rfl, rfl⟩
      go_wp2
      go_ret
      first | exact ⟨rfl, hN.1⟩ | (refine ⟨?_, hN.1⟩; simp; omega)
  · have qkd : (kd == 0) = false := by simpa using ekd
    rw [show rightC ⟨op, kd, ar, pl, n⟩ = false by unfold rightC; rw [hf]; simp [ekd]]
    have hX := Lib.hid (box5 w ⟨op, kd, ar, pl, n⟩ 55)
    obtain ⟨⟨c0, c1, c2, c3, c4⟩, hN⟩ := hX.out
    dsimp only at c0 c1 c2 c3 c4
    clear hf
    show Calls Try.prog 57 #[.agg #[.int .i64 op, .int .i64 kd, .int .i64 ar, .int .i64 pl, .int .i64 n]] w _
    go_enter Try.func57, Try.ntmps57
    go_wp2_with fail
    refine (HF.out _).mono ?_
    rintro e w1 ⟨rfl, rfl⟩
    go_wp2
    go_ret
    first | exact ⟨rfl, hN.1⟩ | (refine ⟨?_, hN.1⟩; simp; omega)

set_option maxHeartbeats 4000000 in
set_option maxRecDepth 100000 in
theorem cRight_7 (i : In) (hf : formI i.op = 7) (w : World) : Calls Try.prog 57 #[insV i] w (Tells (.bool (rightI i)) w) := by
  have HF := Lib.hid (fun (W : World) => cForm_any i.op W)
  rw [hf] at HF
  rw [← rightC_eq]
  have HB := Lib.hid (fun (W : World) => cBytes_any i 3 5 ⟨by omega, by omega⟩ W)
  obtain ⟨op, kd, ar, pl, n⟩ := i
  dsimp only at hf HF HB ⊢
  by_cases ekd : kd = 0
  · subst ekd
    by_cases h1 : 1 ≤ n
    · by_cases h2 : n ≤ 9999
      · have HB2 : Hid (∀ W, Calls Try.prog 69 #[.agg #[.int .i64 op, .int .i64 0, .int .i64 ar, .int .i64 pl, .int .i64 n], .int .i64 3, .int .i64 5] W (Tells (.bool (hasB ⟨op, 0, ar, pl, n⟩ 3 5)) W)) := HB
        clear HB
        rw [show rightC ⟨op, 0, ar, pl, n⟩ = hasB ⟨op, 0, ar, pl, n⟩ 3 5 by unfold rightC; rw [hf]; simp [h1, h2]]
        generalize hasB ⟨op, 0, ar, pl, n⟩ 3 5 = hb at *
        have hX := Lib.hid (box5 w ⟨op, 0, ar, pl, n⟩ 55)
        obtain ⟨⟨c0, c1, c2, c3, c4⟩, hN⟩ := hX.out
        dsimp only at c0 c1 c2 c3 c4
        clear hf
        show Calls Try.prog 57 #[.agg #[.int .i64 op, .int .i64 0, .int .i64 ar, .int .i64 pl, .int .i64 n]] w _
        go_enter Try.func57, Try.ntmps57
        go_wp2_with fail
        refine (HF.out _).mono ?_
        rintro e w1 ⟨rfl, rfl⟩
        go_wp2_with fail
        refine (HB2.out _).mono ?_
        rintro e w2 ⟨rfl, hb2⟩
        have hN2 := (hX.out.next hb2).2
        go_wp2
        go_ret
        first | exact ⟨rfl, hN2.1⟩ | (refine ⟨?_, hN2.1⟩; simp; omega)
      · rw [show rightC ⟨op, 0, ar, pl, n⟩ = false by unfold rightC; rw [hf]; simp [h2]]
        have hX := Lib.hid (box5 w ⟨op, 0, ar, pl, n⟩ 55)
        obtain ⟨⟨c0, c1, c2, c3, c4⟩, hN⟩ := hX.out
        dsimp only at c0 c1 c2 c3 c4
        clear hf
        show Calls Try.prog 57 #[.agg #[.int .i64 op, .int .i64 0, .int .i64 ar, .int .i64 pl, .int .i64 n]] w _
        go_enter Try.func57, Try.ntmps57
        go_wp2_with fail
        refine (HF.out _).mono ?_
        rintro e w1 ⟨rfl, rfl⟩
        go_wp2
        go_ret
        first | exact ⟨rfl, hN.1⟩ | (refine ⟨?_, hN.1⟩; simp; omega)
    · rw [show rightC ⟨op, 0, ar, pl, n⟩ = false by unfold rightC; rw [hf]; simp [h1]]
      have hX := Lib.hid (box5 w ⟨op, 0, ar, pl, n⟩ 55)
      obtain ⟨⟨c0, c1, c2, c3, c4⟩, hN⟩ := hX.out
      dsimp only at c0 c1 c2 c3 c4
      clear hf
      show Calls Try.prog 57 #[.agg #[.int .i64 op, .int .i64 0, .int .i64 ar, .int .i64 pl, .int .i64 n]] w _
      go_enter Try.func57, Try.ntmps57
      go_wp2_with fail
      refine (HF.out _).mono ?_
      rintro e w1 ⟨rfl, rfl⟩
      go_wp2
      go_ret
      first | exact ⟨rfl, hN.1⟩ | (refine ⟨?_, hN.1⟩; simp; omega)
  · have qkd : (kd == 0) = false := by simpa using ekd
    rw [show rightC ⟨op, kd, ar, pl, n⟩ = false by unfold rightC; rw [hf]; simp [ekd]]
    have hX := Lib.hid (box5 w ⟨op, kd, ar, pl, n⟩ 55)
    obtain ⟨⟨c0, c1, c2, c3, c4⟩, hN⟩ := hX.out
    dsimp only at c0 c1 c2 c3 c4
    clear hf
    show Calls Try.prog 57 #[.agg #[.int .i64 op, .int .i64 kd, .int .i64 ar, .int .i64 pl, .int .i64 n]] w _
    go_enter Try.func57, Try.ntmps57
    go_wp2_with fail
    refine (HF.out _).mono ?_
    rintro e w1 ⟨rfl, rfl⟩
    go_wp2
    go_ret
    first | exact ⟨rfl, hN.1⟩ | (refine ⟨?_, hN.1⟩; simp; omega)

set_option maxHeartbeats 4000000 in
set_option maxRecDepth 100000 in
theorem cRight_8 (i : In) (hf : formI i.op = 8) (w : World) : Calls Try.prog 57 #[insV i] w (Tells (.bool (rightI i)) w) := by
  have HF := Lib.hid (fun (W : World) => cForm_any i.op W)
  rw [hf] at HF
  rw [← rightC_eq]
  have HB := Lib.hid (fun (W : World) => cBytes_any i 3 1 ⟨by omega, by omega⟩ W)
  obtain ⟨op, kd, ar, pl, n⟩ := i
  dsimp only at hf HF HB ⊢
  by_cases ekd : kd = 0
  · subst ekd
    by_cases en : n = 0
    · subst en
      have HB2 : Hid (∀ W, Calls Try.prog 69 #[.agg #[.int .i64 op, .int .i64 0, .int .i64 ar, .int .i64 pl, .int .i64 0], .int .i64 3, .int .i64 1] W (Tells (.bool (hasB ⟨op, 0, ar, pl, 0⟩ 3 1)) W)) := HB
      clear HB
      rw [show rightC ⟨op, 0, ar, pl, 0⟩ = hasB ⟨op, 0, ar, pl, 0⟩ 3 1 by unfold rightC; rw [hf]; simp]
      generalize hasB ⟨op, 0, ar, pl, 0⟩ 3 1 = hb at *
      have hX := Lib.hid (box5 w ⟨op, 0, ar, pl, 0⟩ 55)
      obtain ⟨⟨c0, c1, c2, c3, c4⟩, hN⟩ := hX.out
      dsimp only at c0 c1 c2 c3 c4
      clear hf
      show Calls Try.prog 57 #[.agg #[.int .i64 op, .int .i64 0, .int .i64 ar, .int .i64 pl, .int .i64 0]] w _
      go_enter Try.func57, Try.ntmps57
      go_wp2_with fail
      refine (HF.out _).mono ?_
      rintro e w1 ⟨rfl, rfl⟩
      go_wp2_with fail
      refine (HB2.out _).mono ?_
      rintro e w2 ⟨rfl, hb2⟩
      have hN2 := (hX.out.next hb2).2
      go_wp2
      go_ret
      first | exact ⟨rfl, hN2.1⟩ | (refine ⟨?_, hN2.1⟩; simp; omega)
    · have qn : (n == 0) = false := by simpa using en
      rw [show rightC ⟨op, 0, ar, pl, n⟩ = false by unfold rightC; rw [hf]; simp [en]]
      have hX := Lib.hid (box5 w ⟨op, 0, ar, pl, n⟩ 55)
      obtain ⟨⟨c0, c1, c2, c3, c4⟩, hN⟩ := hX.out
      dsimp only at c0 c1 c2 c3 c4
      clear hf
      show Calls Try.prog 57 #[.agg #[.int .i64 op, .int .i64 0, .int .i64 ar, .int .i64 pl, .int .i64 n]] w _
      go_enter Try.func57, Try.ntmps57
      go_wp2_with fail
      refine (HF.out _).mono ?_
      rintro e w1 ⟨rfl, rfl⟩
      go_wp2
      go_ret
      first | exact ⟨rfl, hN.1⟩ | (refine ⟨?_, hN.1⟩; simp; omega)
  · have qkd : (kd == 0) = false := by simpa using ekd
    rw [show rightC ⟨op, kd, ar, pl, n⟩ = false by unfold rightC; rw [hf]; simp [ekd]]
    have hX := Lib.hid (box5 w ⟨op, kd, ar, pl, n⟩ 55)
    obtain ⟨⟨c0, c1, c2, c3, c4⟩, hN⟩ := hX.out
    dsimp only at c0 c1 c2 c3 c4
    clear hf
    show Calls Try.prog 57 #[.agg #[.int .i64 op, .int .i64 kd, .int .i64 ar, .int .i64 pl, .int .i64 n]] w _
    go_enter Try.func57, Try.ntmps57
    go_wp2_with fail
    refine (HF.out _).mono ?_
    rintro e w1 ⟨rfl, rfl⟩
    go_wp2
    go_ret
    first | exact ⟨rfl, hN.1⟩ | (refine ⟨?_, hN.1⟩; simp; omega)

theorem cRight_any (i : In) (hn : I64 i.n) (w : World) : Calls Try.prog 57 #[insV i] w (Tells (.bool (rightI i)) w) := by
  rcases form_range i.op with h | h | h | h | h | h | h | h | h
  · exact cRight_0 i h w
  · exact cRight_1 i h w
  · exact cRight_2 i h hn w
  · exact cRight_3 i h w
  · exact cRight_4 i h w
  · exact cRight_5 i h w
  · exact cRight_6 i h w
  · exact cRight_7 i h w
  · exact cRight_8 i h w

end Go.Proofs.Ytmlopacekoghkaa.Il
