/-
  The reference's Spell, walked: some of its operations. Conditions: numbers that may be.
-/
import Derived.Test.YtpnjhodpbjhmcaaGreatDoorIlSpg
namespace Go.Proofs.YtpnjhodpbjhmcaaGreatDoor.Il
open Go.RowKit
open Go.Proofs.YtpnjhodpbjhmcaaGreatDoor.Ic

set_option maxRecDepth 100000 in
set_option maxHeartbeats 8000000 in
theorem rspell_lit (o : Nat) (ho : o < 37) (kd n : Int) (hrd : readsB o = true) (hi : isI kd n = true) (w : World) : Calls Tryz.prog 18 #[insV ⟨(o : Int), kd, 0, 0, n⟩] w (Tells (.string (S (spellL ⟨(o : Int), kd, 0, 0, n⟩))) w) := by
  have h : rightI ⟨(o : Int), kd, 0, 0, n⟩ = true := way_right (.lit hrd rfl rfl hi)
  have hbd := is_bd hi
  obtain ⟨g1, g2, g3, g4, g5, g6, g7, g8, g9, g10, g11⟩ := (op_facts o).1 hrd
  have HRd := Lib.hid (fun W => rreads_any o W)
  rw [hrd] at HRd
  have hnb := itoa_len n (by omega) (by omega)
  have hkl := kind_len kd
  have HD := Lib.hid (fun W => rdigits_any n (by omega) (by omega) W)
  have HK := Lib.hid (fun W => rName_any kd W)
  have hlt : (o : Int) ≤ 24 := by unfold readsB at hrd; rw [decide_eq_true_iff] at hrd; omega
  have hnl : (namesL.getD o []).length ≤ 5 := name_len ⟨o, ho⟩
  obtain ⟨nmv, enm⟩ : ∃ nmv, nmv = S (namesL.getD o []) := ⟨_, rfl⟩
  have HN : Hid (∀ W : World, Calls Tryz.prog 41 #[] W fun e w' => ∃ g, e = .returned (.slice (some ⟨g, 0, none⟩) 37 37) ∧ w'.cell? ⟨g, o, none⟩ = some (.string nmv) ∧ Below W.heap.size W w') := fun W => (rNames_any W).mono fun _ _ ⟨g, h1, h2, h3⟩ => ⟨g, h1, by rw [enm]; exact h2 o ho, h3⟩
  obtain ⟨t1, e1, l1, m1⟩ := glue (q := (⟨#[32]⟩ : ByteArray)) (b := [32]) 5 1 enm rfl hnl (by decide) (by decide)
  obtain ⟨t2, e2, l2, m2⟩ := glue (q := nameI kd) (b := nmI kd) (5 + 1) 5 e1 (kind_S kd) l1 hkl (by decide)
  obtain ⟨t3, e3, l3, m3⟩ := glue (q := (⟨#[35]⟩ : ByteArray)) (b := [35]) ((5 + 1) + 5) 1 e2 rfl l2 (by decide) (by decide)
  obtain ⟨t4, e4, l4, m4⟩ := glue (q := S (Lib.itoa n)) (b := Lib.itoa n) (((5 + 1) + 5) + 1) 20 e3 rfl l3 hnb (by decide)
  have HR := Lib.hid (fun W => rright_any ⟨(o : Int), kd, 0, 0, n⟩ (by constructor <;> dsimp only <;> omega) W)
  rw [h] at HR
  have hsp : S (spellL ⟨(o : Int), kd, 0, 0, n⟩) = t4 := by
    rw [e4]
    congr 1
    unfold spellL
    rw [h, if_pos rfl]
    unfold spellW argL
    rw [if_neg g6, if_neg g5, g3, g2]
    simp only [if_neg g4, if_neg (show ¬ ((o : Int) = 34 ∨ (o : Int) = 35) by omega), if_neg g9, Bool.false_eq_true, if_false]
    simp [joinW, opName]
  rw [hsp]
  have q0 : ((o : Int) == 33) = false := by rw [beq_eq_false_iff_ne]; omega
  have q1 : ((o : Int) == 32) = false := by rw [beq_eq_false_iff_ne]; omega
  have q2 : ¬ (25 : Int) ≤ (o : Int) := by omega
  have q3 : ((o : Int) == 31) = false := by rw [beq_eq_false_iff_ne]; omega
  have q4 : ((o : Int) == 34) = false := by rw [beq_eq_false_iff_ne]; omega
  have q5 : ((o : Int) == 35) = false := by rw [beq_eq_false_iff_ne]; omega
  have q6 : ((o : Int) == 36) = false := by rw [beq_eq_false_iff_ne]; omega
  clear hsp h hnl enm e1 l1 e2 l2 e3 l3 e4 l4
  have hoI : (o : Int) < 37 := by omega
  unfold insV at HR ⊢
  go_enter Tryz.func18, Tryz.ntmps18
  go_wp2_with fail
  obtain ⟨hc, hr⟩ := one_box w #[.int .i64 o, .int .i64 kd, .int .i64 0, .int .i64 0, .int .i64 n] 34
  have x0 := hc 0 (.int .i64 o) rfl
  have x1 := hc 1 (.int .i64 kd) rfl
  have x2 := hc 2 (.int .i64 0) rfl
  have x3 := hc 3 (.int .i64 0) rfl
  have x4 := hc 4 (.int .i64 n) rfl
  clear hc
  generalize w.alloc (.cells #[.int .i64 o, .int .i64 kd, .int .i64 0, .int .i64 0, .int .i64 n] 34) = W at *
  generalize hN : w.heap.size = N at *
  go_wp2_with fail
  refine (HR.out _).mono ?_
  rintro e w1 ⟨rfl, hb1⟩
  have y0 := kept_cell hb1 x0
  have y1 := kept_cell hb1 x1
  have y2 := kept_cell hb1 x2
  have y3 := kept_cell hb1 x3
  have y4 := kept_cell hb1 x4
  have hr1 := hr.next hb1
  clear hb1 hr x0 x1 x2 x3 x4
  have x0 := y0
  have x1 := y1
  have x2 := y2
  have x3 := y3
  have x4 := y4
  have hr := hr1
  clear y0 y1 y2 y3 y4 hr1
  go_wp2_with fail
  go_region_with (go_at_call 41; (with_reducible refine (HN.out _).mono ?_); rintro e w1 ⟨g, rfl, c7, hb1⟩; have y0 := kept_cell hb1 x0; have y1 := kept_cell hb1 x1; have y2 := kept_cell hb1 x2; have y3 := kept_cell hb1 x3; have y4 := kept_cell hb1 x4; have hr1 := Next.next (by simpa using hr) hb1)
  all_goals
    clear x0 x1 x2 x3 x4 hr hb1 c7
    have x0 := y0
    have x1 := y1
    have x2 := y2
    have x3 := y3
    have x4 := y4
    have hr := hr1
    clear y0 y1 y2 y3 y4 hr1
    go_wp2_with fail
    refine (HRd.out _).mono ?_
    rintro e w2 ⟨rfl, rfl⟩
    go_wp2_with fail
    go_region_held3 (fun W' => W'.cell? ⟨N, 0, none⟩ = some (.int .i64 o) ∧ W'.cell? ⟨N, 1, none⟩ = some (.int .i64 kd) ∧ W'.cell? ⟨N, 2, none⟩ = some (.int .i64 0) ∧ W'.cell? ⟨N, 3, none⟩ = some (.int .i64 0) ∧ W'.cell? ⟨N, 4, none⟩ = some (.int .i64 n) ∧ Next N w W') (go_keep)
      (first
        | (go_at_call 42; have hS := ‹_ ∧ _ ∧ _ ∧ _ ∧ _ ∧ Next _ _ _›; (with_reducible refine (HK.out _).mono ?_); rintro e w1 ⟨rfl, hb1⟩; have y0 := kept_cell hb1 hS.1; have y1 := kept_cell hb1 hS.2.1; have y2 := kept_cell hb1 hS.2.2.1; have y3 := kept_cell hb1 hS.2.2.2.1; have y4 := kept_cell hb1 hS.2.2.2.2.1; have hr1 := hS.2.2.2.2.2.next hb1)
        | (go_at_call 44; have hS := ‹_ ∧ _ ∧ _ ∧ _ ∧ _ ∧ Next _ _ _›; (with_reducible refine (HD.out _).mono ?_); rintro e w1 ⟨rfl, hb1⟩; have y0 := kept_cell hb1 hS.1; have y1 := kept_cell hb1 hS.2.1; have y2 := kept_cell hb1 hS.2.2.1; have y3 := kept_cell hb1 hS.2.2.2.1; have y4 := kept_cell hb1 hS.2.2.2.2.1; have hr1 := hS.2.2.2.2.2.next hb1))
    all_goals
      clear x0 x1 x2 x3 x4 y0 y1 y2 y3 y4 hr hS
      go_wp2
      go_ret
      exact ⟨rfl, by rw [hN]; exact hr1.1⟩

set_option maxRecDepth 100000 in
set_option maxHeartbeats 8000000 in
theorem rspell_timer (o : Nat) (ho : o < 37) (ar pl n : Int) (h34 : (o : Int) = 34 ∨ (o : Int) = 35) (h3 : 3 ≤ ar) (h4 : ar ≤ 4) (h0 : 0 ≤ pl) (h59 : pl ≤ 59) (hn1 : 1 ≤ n) (hn2 : n ≤ 9999) (w : World) : Calls Tryz.prog 18 #[insV ⟨(o : Int), 0, ar, pl, n⟩] w (Tells (.string (S (spellL ⟨(o : Int), 0, ar, pl, n⟩))) w) := by
  have h : rightI ⟨(o : Int), 0, ar, pl, n⟩ = true := way_right (.timer h34 rfl h3 h4 h0 h59 hn1 hn2)
  have hnb := itoa_len n (by omega) (by omega)
  have HD := Lib.hid (fun W => rdigits_any n (by omega) (by omega) W)
  have HA : Hid (∀ W, Calls Tryz.prog 43 #[insV ⟨(o : Int), 0, ar, pl, n⟩] W (Tells (.string (S (areaL ar pl))) W)) := fun W => rarea_any ⟨(o : Int), 0, ar, pl, n⟩ (by dsimp only; omega) (by dsimp only; omega) (by dsimp only; omega) (by dsimp only; omega) W
  have har := area_len ar pl (by omega)
  unfold insV at HA
  have g2 : jumpB o = false := by unfold jumpB; rw [decide_eq_false_iff_not]; omega
  have g3 : bareB o = false := by unfold bareB; rw [decide_eq_false_iff_not]; omega
  have hnl : (namesL.getD o []).length ≤ 5 := name_len ⟨o, ho⟩
  obtain ⟨nmv, enm⟩ : ∃ nmv, nmv = S (namesL.getD o []) := ⟨_, rfl⟩
  have HN : Hid (∀ W : World, Calls Tryz.prog 41 #[] W fun e w' => ∃ g, e = .returned (.slice (some ⟨g, 0, none⟩) 37 37) ∧ w'.cell? ⟨g, o, none⟩ = some (.string nmv) ∧ Below W.heap.size W w') := fun W => (rNames_any W).mono fun _ _ ⟨g, h1, h2, h3⟩ => ⟨g, h1, by rw [enm]; exact h2 o ho, h3⟩
  obtain ⟨t1, e1, l1, m1⟩ := glue (q := (⟨#[32]⟩ : ByteArray)) (b := [32]) 5 1 enm rfl hnl (by decide) (by decide)
  obtain ⟨t2, e2, l2, m2⟩ := glue (q := S (areaL ar pl)) (b := areaL ar pl) (5 + 1) 21 e1 rfl l1 har (by decide)
  obtain ⟨t3, e3, l3, m3⟩ := glue (q := (⟨#[44]⟩ : ByteArray)) (b := [44]) ((5 + 1) + 21) 1 e2 rfl l2 (by decide) (by decide)
  obtain ⟨t4, e4, l4, m4⟩ := glue (q := S (Lib.itoa n)) (b := Lib.itoa n) (((5 + 1) + 21) + 1) 20 e3 rfl l3 hnb (by decide)
  have HR := Lib.hid (fun W => rright_any ⟨(o : Int), 0, ar, pl, n⟩ (by constructor <;> dsimp only <;> omega) W)
  rw [h] at HR
  have hsp : S (spellL ⟨(o : Int), 0, ar, pl, n⟩) = t4 := by
    rw [e4]
    congr 1
    unfold spellL
    rw [h, if_pos rfl]
    unfold spellW argL
    rw [if_neg (show ¬ (o : Int) = 33 by omega), if_neg (show ¬ (o : Int) = 32 by omega), g3, g2]
    simp only [if_neg (show ¬ (o : Int) = 31 by omega), if_pos h34, Bool.false_eq_true, if_false]
    simp [joinW, opName]
  rw [hsp]
  have q0 : ((o : Int) == 33) = false := by rw [beq_eq_false_iff_ne]; omega
  have q1 : ((o : Int) == 32) = false := by rw [beq_eq_false_iff_ne]; omega
  have q2 : (25 : Int) ≤ (o : Int) := by omega
  have q3 : ¬ (o : Int) ≤ 27 := by omega
  have q4 : ((o : Int) == 31) = false := by rw [beq_eq_false_iff_ne]; omega
  clear hsp h hnl enm e1 l1 e2 l2 e3 l3 e4 l4
  have hoI : (o : Int) < 37 := by omega
  unfold insV at HR ⊢
  go_enter Tryz.func18, Tryz.ntmps18
  go_wp2_with fail
  obtain ⟨hc, hr⟩ := one_box w #[.int .i64 o, .int .i64 0, .int .i64 ar, .int .i64 pl, .int .i64 n] 34
  have x0 := hc 0 (.int .i64 o) rfl
  have x1 := hc 1 (.int .i64 0) rfl
  have x2 := hc 2 (.int .i64 ar) rfl
  have x3 := hc 3 (.int .i64 pl) rfl
  have x4 := hc 4 (.int .i64 n) rfl
  clear hc
  generalize w.alloc (.cells #[.int .i64 o, .int .i64 0, .int .i64 ar, .int .i64 pl, .int .i64 n] 34) = W at *
  generalize hN : w.heap.size = N at *
  go_wp2_with fail
  refine (HR.out _).mono ?_
  rintro e w1 ⟨rfl, hb1⟩
  have y0 := kept_cell hb1 x0
  have y1 := kept_cell hb1 x1
  have y2 := kept_cell hb1 x2
  have y3 := kept_cell hb1 x3
  have y4 := kept_cell hb1 x4
  have hr1 := hr.next hb1
  clear hb1 hr x0 x1 x2 x3 x4
  have x0 := y0
  have x1 := y1
  have x2 := y2
  have x3 := y3
  have x4 := y4
  have hr := hr1
  clear y0 y1 y2 y3 y4 hr1
  go_wp2_with fail
  go_region_with (go_at_call 41; (with_reducible refine (HN.out _).mono ?_); rintro e w1 ⟨g, rfl, c7, hb1⟩; have y0 := kept_cell hb1 x0; have y1 := kept_cell hb1 x1; have y2 := kept_cell hb1 x2; have y3 := kept_cell hb1 x3; have y4 := kept_cell hb1 x4; have hr1 := Next.next (by simpa using hr) hb1)
  all_goals
    clear x0 x1 x2 x3 x4 hr hb1 c7
    have x0 := y0
    have x1 := y1
    have x2 := y2
    have x3 := y3
    have x4 := y4
    have hr := hr1
    clear y0 y1 y2 y3 y4 hr1
    rcases h34 with h34 | h34
    · have q9 : ((o : Int) == 34) = true := by rw [beq_iff_eq]; exact h34
      clear h34
      go_wp2_with fail
      go_region_held3 (fun W' => W'.cell? ⟨N, 0, none⟩ = some (.int .i64 o) ∧ W'.cell? ⟨N, 1, none⟩ = some (.int .i64 0) ∧ W'.cell? ⟨N, 2, none⟩ = some (.int .i64 ar) ∧ W'.cell? ⟨N, 3, none⟩ = some (.int .i64 pl) ∧ W'.cell? ⟨N, 4, none⟩ = some (.int .i64 n) ∧ Next N w W') (go_keep)
        (first
          | (go_at_call 43; have hS := ‹_ ∧ _ ∧ _ ∧ _ ∧ _ ∧ Next _ _ _›; (with_reducible refine (HA.out _).mono ?_); rintro e w1 ⟨rfl, hb1⟩; have y0 := kept_cell hb1 hS.1; have y1 := kept_cell hb1 hS.2.1; have y2 := kept_cell hb1 hS.2.2.1; have y3 := kept_cell hb1 hS.2.2.2.1; have y4 := kept_cell hb1 hS.2.2.2.2.1; have hr1 := hS.2.2.2.2.2.next hb1)
          | (go_at_call 44; have hS := ‹_ ∧ _ ∧ _ ∧ _ ∧ _ ∧ Next _ _ _›; (with_reducible refine (HD.out _).mono ?_); rintro e w1 ⟨rfl, hb1⟩; have y0 := kept_cell hb1 hS.1; have y1 := kept_cell hb1 hS.2.1; have y2 := kept_cell hb1 hS.2.2.1; have y3 := kept_cell hb1 hS.2.2.2.1; have y4 := kept_cell hb1 hS.2.2.2.2.1; have hr1 := hS.2.2.2.2.2.next hb1))
      all_goals
        clear x0 x1 x2 x3 x4 y0 y1 y2 y3 y4 hr hS
        go_wp2
        go_ret
        exact ⟨rfl, by rw [hN]; exact hr1.1⟩
    · have q9 : ((o : Int) == 34) = false := by rw [beq_eq_false_iff_ne]; omega
      have q10 : ((o : Int) == 35) = true := by rw [beq_iff_eq]; exact h34
      clear h34
      go_wp2_with fail
      go_region_held3 (fun W' => W'.cell? ⟨N, 0, none⟩ = some (.int .i64 o) ∧ W'.cell? ⟨N, 1, none⟩ = some (.int .i64 0) ∧ W'.cell? ⟨N, 2, none⟩ = some (.int .i64 ar) ∧ W'.cell? ⟨N, 3, none⟩ = some (.int .i64 pl) ∧ W'.cell? ⟨N, 4, none⟩ = some (.int .i64 n) ∧ Next N w W') (go_keep)
        (first
          | (go_at_call 43; have hS := ‹_ ∧ _ ∧ _ ∧ _ ∧ _ ∧ Next _ _ _›; (with_reducible refine (HA.out _).mono ?_); rintro e w1 ⟨rfl, hb1⟩; have y0 := kept_cell hb1 hS.1; have y1 := kept_cell hb1 hS.2.1; have y2 := kept_cell hb1 hS.2.2.1; have y3 := kept_cell hb1 hS.2.2.2.1; have y4 := kept_cell hb1 hS.2.2.2.2.1; have hr1 := hS.2.2.2.2.2.next hb1)
          | (go_at_call 44; have hS := ‹_ ∧ _ ∧ _ ∧ _ ∧ _ ∧ Next _ _ _›; (with_reducible refine (HD.out _).mono ?_); rintro e w1 ⟨rfl, hb1⟩; have y0 := kept_cell hb1 hS.1; have y1 := kept_cell hb1 hS.2.1; have y2 := kept_cell hb1 hS.2.2.1; have y3 := kept_cell hb1 hS.2.2.2.1; have y4 := kept_cell hb1 hS.2.2.2.2.1; have hr1 := hS.2.2.2.2.2.next hb1))
      all_goals
        clear x0 x1 x2 x3 x4 y0 y1 y2 y3 y4 hr hS
        go_wp2
        go_ret
        exact ⟨rfl, by rw [hN]; exact hr1.1⟩

set_option maxRecDepth 100000 in
set_option maxHeartbeats 8000000 in
theorem rspell_trig (ar pl : Int) (h3 : 3 ≤ ar) (h4 : ar ≤ 4) (h0 : 0 ≤ pl) (h63 : pl ≤ 63) (w : World) : Calls Tryz.prog 18 #[insV ⟨36, 0, ar, pl, 0⟩] w (Tells (.string (S (spellL ⟨36, 0, ar, pl, 0⟩))) w) := by
  have h : rightI ⟨36, 0, ar, pl, 0⟩ = true := way_right (.trig rfl rfl h3 h4 h0 h63 rfl)
  have HA : Hid (∀ W, Calls Tryz.prog 43 #[insV ⟨36, 0, ar, pl, 0⟩] W (Tells (.string (S (areaL ar pl))) W)) := fun W => rarea_any ⟨36, 0, ar, pl, 0⟩ (by dsimp only; omega) (by dsimp only; omega) (by dsimp only; omega) (by dsimp only; omega) W
  have har := area_len ar pl (by omega)
  unfold insV at HA
  have g2 : jumpB 36 = false := by decide
  have g3 : bareB 36 = false := by decide
  have hnl : (namesL.getD 36 []).length ≤ 5 := name_len ⟨36, by decide⟩
  obtain ⟨nmv, enm⟩ : ∃ nmv, nmv = S (namesL.getD 36 []) := ⟨_, rfl⟩
  have HN : Hid (∀ W : World, Calls Tryz.prog 41 #[] W fun e w' => ∃ g, e = .returned (.slice (some ⟨g, 0, none⟩) 37 37) ∧ w'.cell? ⟨g, 36, none⟩ = some (.string nmv) ∧ Below W.heap.size W w') := fun W => (rNames_any W).mono fun _ _ ⟨g, h1, h2, h3⟩ => ⟨g, h1, by rw [enm]; exact h2 36 (by decide), h3⟩
  obtain ⟨t1, e1, l1, m1⟩ := glue (q := (⟨#[32]⟩ : ByteArray)) (b := [32]) 5 1 enm rfl hnl (by decide) (by decide)
  obtain ⟨t2, e2, l2, m2⟩ := glue (q := S (areaL ar pl)) (b := areaL ar pl) (5 + 1) 21 e1 rfl l1 har (by decide)
  have HR := Lib.hid (fun W => rright_any ⟨36, 0, ar, pl, 0⟩ (by constructor <;> dsimp only <;> omega) W)
  rw [h] at HR
  have hsp : S (spellL ⟨36, 0, ar, pl, 0⟩) = t2 := by
    rw [e2]
    congr 1
    unfold spellL
    rw [h, if_pos rfl]
    unfold spellW argL
    rw [g3, g2]
    simp [joinW, opName]
  rw [hsp]
  clear hsp h hnl enm e1 l1 e2 l2
  unfold insV at HR ⊢
  go_enter Tryz.func18, Tryz.ntmps18
  go_wp2_with fail
  obtain ⟨hc, hr⟩ := one_box w #[.int .i64 36, .int .i64 0, .int .i64 ar, .int .i64 pl, .int .i64 0] 34
  have x0 := hc 0 (.int .i64 36) rfl
  have x1 := hc 1 (.int .i64 0) rfl
  have x2 := hc 2 (.int .i64 ar) rfl
  have x3 := hc 3 (.int .i64 pl) rfl
  have x4 := hc 4 (.int .i64 0) rfl
  clear hc
  generalize w.alloc (.cells #[.int .i64 36, .int .i64 0, .int .i64 ar, .int .i64 pl, .int .i64 0] 34) = W at *
  generalize hN : w.heap.size = N at *
  go_wp2_with fail
  refine (HR.out _).mono ?_
  rintro e w1 ⟨rfl, hb1⟩
  have y0 := kept_cell hb1 x0
  have y1 := kept_cell hb1 x1
  have y2 := kept_cell hb1 x2
  have y3 := kept_cell hb1 x3
  have y4 := kept_cell hb1 x4
  have hr1 := hr.next hb1
  clear hb1 hr x0 x1 x2 x3 x4
  have x0 := y0
  have x1 := y1
  have x2 := y2
  have x3 := y3
  have x4 := y4
  have hr := hr1
  clear y0 y1 y2 y3 y4 hr1
  go_wp2_with fail
  go_region_with (go_at_call 41; (with_reducible refine (HN.out _).mono ?_); rintro e w1 ⟨g, rfl, c7, hb1⟩; have y0 := kept_cell hb1 x0; have y1 := kept_cell hb1 x1; have y2 := kept_cell hb1 x2; have y3 := kept_cell hb1 x3; have y4 := kept_cell hb1 x4; have hr1 := Next.next (by simpa using hr) hb1)
  all_goals
    clear x0 x1 x2 x3 x4 hr hb1 c7
    have x0 := y0
    have x1 := y1
    have x2 := y2
    have x3 := y3
    have x4 := y4
    have hr := hr1
    clear y0 y1 y2 y3 y4 hr1
    go_wp2_with fail
    refine (HA.out _).mono ?_
    rintro e w1 ⟨rfl, hb1⟩
    have y0 := kept_cell hb1 x0
    have y1 := kept_cell hb1 x1
    have y2 := kept_cell hb1 x2
    have y3 := kept_cell hb1 x3
    have y4 := kept_cell hb1 x4
    have hr1 := hr.next hb1
    clear hb1 hr x0 x1 x2 x3 x4
    clear y0 y1 y2 y3 y4
    go_wp2
    go_ret
    exact ⟨rfl, by rw [hN]; exact hr1.1⟩

set_option maxRecDepth 100000 in
set_option maxHeartbeats 8000000 in
theorem rspell_conv (kd : Int) (hk : szI kd ≠ 0) (w : World) : Calls Tryz.prog 18 #[insV ⟨31, kd, 0, 0, 0⟩] w (Tells (.string (S (spellL ⟨31, kd, 0, 0, 0⟩))) w) := by
  have h : rightI ⟨31, kd, 0, 0, 0⟩ = true := way_right (.conv rfl hk rfl rfl rfl)
  have hkl := kind_len kd
  have HK := Lib.hid (fun W => rName_any kd W)
  have g2 : jumpB 31 = false := by decide
  have g3 : bareB 31 = false := by decide
  have hnl : (namesL.getD 31 []).length ≤ 5 := name_len ⟨31, by decide⟩
  obtain ⟨nmv, enm⟩ : ∃ nmv, nmv = S (namesL.getD 31 []) := ⟨_, rfl⟩
  have HN : Hid (∀ W : World, Calls Tryz.prog 41 #[] W fun e w' => ∃ g, e = .returned (.slice (some ⟨g, 0, none⟩) 37 37) ∧ w'.cell? ⟨g, 31, none⟩ = some (.string nmv) ∧ Below W.heap.size W w') := fun W => (rNames_any W).mono fun _ _ ⟨g, h1, h2, h3⟩ => ⟨g, h1, by rw [enm]; exact h2 31 (by decide), h3⟩
  obtain ⟨t1, e1, l1, m1⟩ := glue (q := (⟨#[32]⟩ : ByteArray)) (b := [32]) 5 1 enm rfl hnl (by decide) (by decide)
  obtain ⟨t2, e2, l2, m2⟩ := glue (q := nameI kd) (b := nmI kd) (5 + 1) 5 e1 (kind_S kd) l1 hkl (by decide)
  have HR := Lib.hid (fun W => rright_any ⟨31, kd, 0, 0, 0⟩ (by constructor <;> dsimp only <;> omega) W)
  rw [h] at HR
  have hsp : S (spellL ⟨31, kd, 0, 0, 0⟩) = t2 := by
    rw [e2]
    congr 1
    unfold spellL
    rw [h, if_pos rfl]
    unfold spellW argL
    rw [g3, g2]
    simp [joinW, opName]
  rw [hsp]
  clear hsp h hnl enm e1 l1 e2 l2
  unfold insV at HR ⊢
  go_enter Tryz.func18, Tryz.ntmps18
  go_wp2_with fail
  obtain ⟨hc, hr⟩ := one_box w #[.int .i64 31, .int .i64 kd, .int .i64 0, .int .i64 0, .int .i64 0] 34
  have x0 := hc 0 (.int .i64 31) rfl
  have x1 := hc 1 (.int .i64 kd) rfl
  have x2 := hc 2 (.int .i64 0) rfl
  have x3 := hc 3 (.int .i64 0) rfl
  have x4 := hc 4 (.int .i64 0) rfl
  clear hc
  generalize w.alloc (.cells #[.int .i64 31, .int .i64 kd, .int .i64 0, .int .i64 0, .int .i64 0] 34) = W at *
  generalize hN : w.heap.size = N at *
  go_wp2_with fail
  refine (HR.out _).mono ?_
  rintro e w1 ⟨rfl, hb1⟩
  have y0 := kept_cell hb1 x0
  have y1 := kept_cell hb1 x1
  have y2 := kept_cell hb1 x2
  have y3 := kept_cell hb1 x3
  have y4 := kept_cell hb1 x4
  have hr1 := hr.next hb1
  clear hb1 hr x0 x1 x2 x3 x4
  have x0 := y0
  have x1 := y1
  have x2 := y2
  have x3 := y3
  have x4 := y4
  have hr := hr1
  clear y0 y1 y2 y3 y4 hr1
  go_wp2_with fail
  go_region_with (go_at_call 41; (with_reducible refine (HN.out _).mono ?_); rintro e w1 ⟨g, rfl, c7, hb1⟩; have y0 := kept_cell hb1 x0; have y1 := kept_cell hb1 x1; have y2 := kept_cell hb1 x2; have y3 := kept_cell hb1 x3; have y4 := kept_cell hb1 x4; have hr1 := Next.next (by simpa using hr) hb1)
  all_goals
    clear x0 x1 x2 x3 x4 hr hb1 c7
    have x0 := y0
    have x1 := y1
    have x2 := y2
    have x3 := y3
    have x4 := y4
    have hr := hr1
    clear y0 y1 y2 y3 y4 hr1
    go_wp2_with fail
    refine (HK.out _).mono ?_
    rintro e w1 ⟨rfl, hb1⟩
    have y0 := kept_cell hb1 x0
    have y1 := kept_cell hb1 x1
    have y2 := kept_cell hb1 x2
    have y3 := kept_cell hb1 x3
    have y4 := kept_cell hb1 x4
    have hr1 := hr.next hb1
    clear hb1 hr x0 x1 x2 x3 x4
    clear y0 y1 y2 y3 y4
    go_wp2
    go_ret
    exact ⟨rfl, by rw [hN]; exact hr1.1⟩

end Go.Proofs.YtpnjhodpbjhmcaaGreatDoor.Il
