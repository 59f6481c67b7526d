/-
  The reference's Spell, walked: some of its operations. Conditions: numbers that may be.
-/
import Derived.Test.YtpnjhodpbjhmcaaGreatDoorIlSpg
namespace Go.Proofs.YtpnjhodpbjhmcaaGreatDoor.Il
open Go.RowKit
open Go.Proofs.YtpnjhodpbjhmcaaGreatDoor.Ic

set_option maxRecDepth 100000 in
set_option maxHeartbeats 8000000 in
theorem rspell_get (o : Nat) (ho : o < 37) (kd ar pl : Int) (hrd : readsB o = true) (h1 : 1 ≤ ar) (h4 : ar ≤ 4) (ht : thereB pl kd = true) (w : World) : Calls Tryz.prog 18 #[insV ⟨(o : Int), kd, ar, pl, 0⟩] w (Tells (.string (S (spellL ⟨(o : Int), kd, ar, pl, 0⟩))) w) := by
  have h : rightI ⟨(o : Int), kd, ar, pl, 0⟩ = true := way_right (.get hrd h1 h4 ht rfl)
  obtain ⟨hk0, hp0, hp1⟩ := there_bd ht
  obtain ⟨g1, g2, g3, g4, g5, g6, g7, g8, g9, g10, g11⟩ := (op_facts o).1 hrd
  have HRd := Lib.hid (fun W => rreads_any o W)
  rw [hrd] at HRd
  have hkl := kind_len kd
  have HK := Lib.hid (fun W => rName_any kd W)
  have HA : Hid (∀ W, Calls Tryz.prog 43 #[insV ⟨(o : Int), kd, ar, pl, 0⟩] W (Tells (.string (S (areaL ar pl))) W)) := fun W => rarea_any ⟨(o : Int), kd, ar, pl, 0⟩ (by dsimp only; omega) (by dsimp only; omega) (by dsimp only; omega) (by dsimp only; omega) W
  have har := area_len ar pl (by omega)
  unfold insV at HA
  have hlt : (o : Int) ≤ 24 := by unfold readsB at hrd; rw [decide_eq_true_iff] at hrd; omega
  have ha0 : ¬ ar = 0 := by omega
  have ha : (ar == 0) = false := by simpa using ha0
  have hnl : (namesL.getD o []).length ≤ 5 := name_len ⟨o, ho⟩
  obtain ⟨nmv, enm⟩ : ∃ nmv, nmv = S (namesL.getD o []) := ⟨_, rfl⟩
  have HN : Hid (∀ W : World, Calls Tryz.prog 41 #[] W fun e w' => ∃ g, e = .returned (.slice (some ⟨g, 0, none⟩) 37 37) ∧ w'.cell? ⟨g, o, none⟩ = some (.string nmv) ∧ Below W.heap.size W w') := fun W => (rNames_any W).mono fun _ _ ⟨g, h1, h2, h3⟩ => ⟨g, h1, by rw [enm]; exact h2 o ho, h3⟩
  obtain ⟨t1, e1, l1, m1⟩ := glue (q := (⟨#[32]⟩ : ByteArray)) (b := [32]) 5 1 enm rfl hnl (by decide) (by decide)
  obtain ⟨t2, e2, l2, m2⟩ := glue (q := S (areaL ar pl)) (b := areaL ar pl) (5 + 1) 21 e1 rfl l1 har (by decide)
  obtain ⟨t3, e3, l3, m3⟩ := glue (q := (⟨#[58]⟩ : ByteArray)) (b := [58]) ((5 + 1) + 21) 1 e2 rfl l2 (by decide) (by decide)
  obtain ⟨t4, e4, l4, m4⟩ := glue (q := nameI kd) (b := nmI kd) (((5 + 1) + 21) + 1) 5 e3 (kind_S kd) l3 hkl (by decide)
  have HR := Lib.hid (fun W => rright_any ⟨(o : Int), kd, ar, pl, 0⟩ (by constructor <;> dsimp only <;> omega) W)
  rw [h] at HR
  have hsp : S (spellL ⟨(o : Int), kd, ar, pl, 0⟩) = t4 := by
    rw [e4]
    congr 1
    unfold spellL
    rw [h, if_pos rfl]
    unfold spellW argL
    rw [if_neg g6, if_neg g5, g3, g2]
    simp only [if_neg g4, if_neg (show ¬ ((o : Int) = 34 ∨ (o : Int) = 35) by omega), if_neg g9, if_neg ha0, Bool.false_eq_true, if_false]
    simp [joinW, opName]
  rw [hsp]
  have q0 : ((o : Int) == 33) = false := by rw [beq_eq_false_iff_ne]; omega
  have q1 : ((o : Int) == 32) = false := by rw [beq_eq_false_iff_ne]; omega
  have q2 : ¬ (25 : Int) ≤ (o : Int) := by omega
  have q3 : ((o : Int) == 31) = false := by rw [beq_eq_false_iff_ne]; omega
  have q4 : ((o : Int) == 34) = false := by rw [beq_eq_false_iff_ne]; omega
  have q5 : ((o : Int) == 35) = false := by rw [beq_eq_false_iff_ne]; omega
  have q6 : ((o : Int) == 36) = false := by rw [beq_eq_false_iff_ne]; omega
  clear hsp h hnl enm e1 l1 e2 l2 e3 l3 e4 l4
  have hoI : (o : Int) < 37 := by omega
  unfold insV at HR ⊢
  go_enter Tryz.func18, Tryz.ntmps18
  go_wp2_with fail
  obtain ⟨hc, hr⟩ := one_box w #[.int .i64 o, .int .i64 kd, .int .i64 ar, .int .i64 pl, .int .i64 0] 34
  have x0 := hc 0 (.int .i64 o) rfl
  have x1 := hc 1 (.int .i64 kd) rfl
  have x2 := hc 2 (.int .i64 ar) rfl
  have x3 := hc 3 (.int .i64 pl) rfl
  have x4 := hc 4 (.int .i64 0) rfl
  clear hc
  generalize w.alloc (.cells #[.int .i64 o, .int .i64 kd, .int .i64 ar, .int .i64 pl, .int .i64 0] 34) = W at *
  generalize hN : w.heap.size = N at *
  go_wp2_with fail
  refine (HR.out _).mono ?_
  rintro e w1 ⟨rfl, hb1⟩
  have y0 := kept_cell hb1 x0
  have y1 := kept_cell hb1 x1
  have y2 := kept_cell hb1 x2
  have y3 := kept_cell hb1 x3
  have y4 := kept_cell hb1 x4
  have hr1 := hr.next hb1
  clear hb1 hr x0 x1 x2 x3 x4
  have x0 := y0
  have x1 := y1
  have x2 := y2
  have x3 := y3
  have x4 := y4
  have hr := hr1
  clear y0 y1 y2 y3 y4 hr1
  go_wp2_with fail
  go_region_with (go_at_call 41; (with_reducible refine (HN.out _).mono ?_); rintro e w1 ⟨g, rfl, c7, hb1⟩; have y0 := kept_cell hb1 x0; have y1 := kept_cell hb1 x1; have y2 := kept_cell hb1 x2; have y3 := kept_cell hb1 x3; have y4 := kept_cell hb1 x4; have hr1 := Next.next (by simpa using hr) hb1)
  all_goals
    clear x0 x1 x2 x3 x4 hr hb1 c7
    have x0 := y0
    have x1 := y1
    have x2 := y2
    have x3 := y3
    have x4 := y4
    have hr := hr1
    clear y0 y1 y2 y3 y4 hr1
    clear ha0
    go_wp2_with fail
    refine (HRd.out _).mono ?_
    rintro e w2 ⟨rfl, rfl⟩
    go_wp2_with fail
    refine (HRd.out _).mono ?_
    rintro e w2 ⟨rfl, rfl⟩
    go_wp2_with fail
    go_region_held3 (fun W' => W'.cell? ⟨N, 0, none⟩ = some (.int .i64 o) ∧ W'.cell? ⟨N, 1, none⟩ = some (.int .i64 kd) ∧ W'.cell? ⟨N, 2, none⟩ = some (.int .i64 ar) ∧ W'.cell? ⟨N, 3, none⟩ = some (.int .i64 pl) ∧ W'.cell? ⟨N, 4, none⟩ = some (.int .i64 0) ∧ Next N w W') (go_keep)
      (first
        | (go_at_call 43; have hS := ‹_ ∧ _ ∧ _ ∧ _ ∧ _ ∧ Next _ _ _›; (with_reducible refine (HA.out _).mono ?_); rintro e w1 ⟨rfl, hb1⟩; have y0 := kept_cell hb1 hS.1; have y1 := kept_cell hb1 hS.2.1; have y2 := kept_cell hb1 hS.2.2.1; have y3 := kept_cell hb1 hS.2.2.2.1; have y4 := kept_cell hb1 hS.2.2.2.2.1; have hr1 := hS.2.2.2.2.2.next hb1)
        | (go_at_call 42; have hS := ‹_ ∧ _ ∧ _ ∧ _ ∧ _ ∧ Next _ _ _›; (with_reducible refine (HK.out _).mono ?_); rintro e w1 ⟨rfl, hb1⟩; have y0 := kept_cell hb1 hS.1; have y1 := kept_cell hb1 hS.2.1; have y2 := kept_cell hb1 hS.2.2.1; have y3 := kept_cell hb1 hS.2.2.2.1; have y4 := kept_cell hb1 hS.2.2.2.2.1; have hr1 := hS.2.2.2.2.2.next hb1))
    all_goals
      clear x0 x1 x2 x3 x4 y0 y1 y2 y3 y4 hr hS
      go_wp2
      go_ret
      exact ⟨rfl, by rw [hN]; exact hr1.1⟩

set_option maxRecDepth 100000 in
set_option maxHeartbeats 8000000 in
theorem rspell_put (o : Nat) (ho : o < 37) (kd ar pl : Int) (hrd : writesB o = true) (h1 : 2 ≤ ar) (h4 : ar ≤ 4) (ht : thereB pl kd = true) (w : World) : Calls Tryz.prog 18 #[insV ⟨(o : Int), kd, ar, pl, 0⟩] w (Tells (.string (S (spellL ⟨(o : Int), kd, ar, pl, 0⟩))) w) := by
  have h : rightI ⟨(o : Int), kd, ar, pl, 0⟩ = true := way_right (.put hrd h1 h4 ht rfl)
  obtain ⟨hk0, hp0, hp1⟩ := there_bd ht
  obtain ⟨g1, g2, g3, g4, g5, g6, g7, g8, g9, g10, g11⟩ := (op_facts o).2.1 hrd
  have HRf := Lib.hid (fun W => rreads_any o W)
  rw [g1] at HRf
  have HWd := Lib.hid (fun W => rwrites_any o W)
  rw [hrd] at HWd
  have hkl := kind_len kd
  have HK := Lib.hid (fun W => rName_any kd W)
  have HA : Hid (∀ W, Calls Tryz.prog 43 #[insV ⟨(o : Int), kd, ar, pl, 0⟩] W (Tells (.string (S (areaL ar pl))) W)) := fun W => rarea_any ⟨(o : Int), kd, ar, pl, 0⟩ (by dsimp only; omega) (by dsimp only; omega) (by dsimp only; omega) (by dsimp only; omega) W
  have har := area_len ar pl (by omega)
  unfold insV at HA
  have hlt : (o : Int) ≤ 24 := by unfold writesB at hrd; rw [decide_eq_true_iff] at hrd; omega
  have ha0 : ¬ ar = 0 := by omega
  have ha : (ar == 0) = false := by simpa using ha0
  have hnl : (namesL.getD o []).length ≤ 5 := name_len ⟨o, ho⟩
  obtain ⟨nmv, enm⟩ : ∃ nmv, nmv = S (namesL.getD o []) := ⟨_, rfl⟩
  have HN : Hid (∀ W : World, Calls Tryz.prog 41 #[] W fun e w' => ∃ g, e = .returned (.slice (some ⟨g, 0, none⟩) 37 37) ∧ w'.cell? ⟨g, o, none⟩ = some (.string nmv) ∧ Below W.heap.size W w') := fun W => (rNames_any W).mono fun _ _ ⟨g, h1, h2, h3⟩ => ⟨g, h1, by rw [enm]; exact h2 o ho, h3⟩
  obtain ⟨t1, e1, l1, m1⟩ := glue (q := (⟨#[32]⟩ : ByteArray)) (b := [32]) 5 1 enm rfl hnl (by decide) (by decide)
  obtain ⟨t2, e2, l2, m2⟩ := glue (q := S (areaL ar pl)) (b := areaL ar pl) (5 + 1) 21 e1 rfl l1 har (by decide)
  obtain ⟨t3, e3, l3, m3⟩ := glue (q := (⟨#[58]⟩ : ByteArray)) (b := [58]) ((5 + 1) + 21) 1 e2 rfl l2 (by decide) (by decide)
  obtain ⟨t4, e4, l4, m4⟩ := glue (q := nameI kd) (b := nmI kd) (((5 + 1) + 21) + 1) 5 e3 (kind_S kd) l3 hkl (by decide)
  have HR := Lib.hid (fun W => rright_any ⟨(o : Int), kd, ar, pl, 0⟩ (by constructor <;> dsimp only <;> omega) W)
  rw [h] at HR
  have hsp : S (spellL ⟨(o : Int), kd, ar, pl, 0⟩) = t4 := by
    rw [e4]
    congr 1
    unfold spellL
    rw [h, if_pos rfl]
    unfold spellW argL
    rw [if_neg g6, if_neg g5, g3, g2]
    simp only [if_neg g4, if_neg (show ¬ ((o : Int) = 34 ∨ (o : Int) = 35) by omega), if_neg g9, if_neg ha0, Bool.false_eq_true, if_false]
    simp [joinW, opName]
  rw [hsp]
  have q0 : ((o : Int) == 33) = false := by rw [beq_eq_false_iff_ne]; omega
  have q1 : ((o : Int) == 32) = false := by rw [beq_eq_false_iff_ne]; omega
  have q2 : ¬ (25 : Int) ≤ (o : Int) := by omega
  have q3 : ((o : Int) == 31) = false := by rw [beq_eq_false_iff_ne]; omega
  have q4 : ((o : Int) == 34) = false := by rw [beq_eq_false_iff_ne]; omega
  have q5 : ((o : Int) == 35) = false := by rw [beq_eq_false_iff_ne]; omega
  have q6 : ((o : Int) == 36) = false := by rw [beq_eq_false_iff_ne]; omega
  clear hsp h hnl enm e1 l1 e2 l2 e3 l3 e4 l4
  have hoI : (o : Int) < 37 := by omega
  unfold insV at HR ⊢
  go_enter Tryz.func18, Tryz.ntmps18
  go_wp2_with fail
  obtain ⟨hc, hr⟩ := one_box w #[.int .i64 o, .int .i64 kd, .int .i64 ar, .int .i64 pl, .int .i64 0] 34
  have x0 := hc 0 (.int .i64 o) rfl
  have x1 := hc 1 (.int .i64 kd) rfl
  have x2 := hc 2 (.int .i64 ar) rfl
  have x3 := hc 3 (.int .i64 pl) rfl
  have x4 := hc 4 (.int .i64 0) rfl
  clear hc
  generalize w.alloc (.cells #[.int .i64 o, .int .i64 kd, .int .i64 ar, .int .i64 pl, .int .i64 0] 34) = W at *
  generalize hN : w.heap.size = N at *
  go_wp2_with fail
  refine (HR.out _).mono ?_
  rintro e w1 ⟨rfl, hb1⟩
  have y0 := kept_cell hb1 x0
  have y1 := kept_cell hb1 x1
  have y2 := kept_cell hb1 x2
  have y3 := kept_cell hb1 x3
  have y4 := kept_cell hb1 x4
  have hr1 := hr.next hb1
  clear hb1 hr x0 x1 x2 x3 x4
  have x0 := y0
  have x1 := y1
  have x2 := y2
  have x3 := y3
  have x4 := y4
  have hr := hr1
  clear y0 y1 y2 y3 y4 hr1
  go_wp2_with fail
  go_region_with (go_at_call 41; (with_reducible refine (HN.out _).mono ?_); rintro e w1 ⟨g, rfl, c7, hb1⟩; have y0 := kept_cell hb1 x0; have y1 := kept_cell hb1 x1; have y2 := kept_cell hb1 x2; have y3 := kept_cell hb1 x3; have y4 := kept_cell hb1 x4; have hr1 := Next.next (by simpa using hr) hb1)
  all_goals
    clear x0 x1 x2 x3 x4 hr hb1 c7
    have x0 := y0
    have x1 := y1
    have x2 := y2
    have x3 := y3
    have x4 := y4
    have hr := hr1
    clear y0 y1 y2 y3 y4 hr1
    clear ha0
    go_wp2_with fail
    refine (HRf.out _).mono ?_
    rintro e w2 ⟨rfl, rfl⟩
    go_wp2_with fail
    refine (HRf.out _).mono ?_
    rintro e w2 ⟨rfl, rfl⟩
    go_wp2_with fail
    refine (HWd.out _).mono ?_
    rintro e w2 ⟨rfl, rfl⟩
    go_wp2_with fail
    go_region_held3 (fun W' => W'.cell? ⟨N, 0, none⟩ = some (.int .i64 o) ∧ W'.cell? ⟨N, 1, none⟩ = some (.int .i64 kd) ∧ W'.cell? ⟨N, 2, none⟩ = some (.int .i64 ar) ∧ W'.cell? ⟨N, 3, none⟩ = some (.int .i64 pl) ∧ W'.cell? ⟨N, 4, none⟩ = some (.int .i64 0) ∧ Next N w W') (go_keep)
      (first
        | (go_at_call 43; have hS := ‹_ ∧ _ ∧ _ ∧ _ ∧ _ ∧ Next _ _ _›; (with_reducible refine (HA.out _).mono ?_); rintro e w1 ⟨rfl, hb1⟩; have y0 := kept_cell hb1 hS.1; have y1 := kept_cell hb1 hS.2.1; have y2 := kept_cell hb1 hS.2.2.1; have y3 := kept_cell hb1 hS.2.2.2.1; have y4 := kept_cell hb1 hS.2.2.2.2.1; have hr1 := hS.2.2.2.2.2.next hb1)
        | (go_at_call 42; have hS := ‹_ ∧ _ ∧ _ ∧ _ ∧ _ ∧ Next _ _ _›; (with_reducible refine (HK.out _).mono ?_); rintro e w1 ⟨rfl, hb1⟩; have y0 := kept_cell hb1 hS.1; have y1 := kept_cell hb1 hS.2.1; have y2 := kept_cell hb1 hS.2.2.1; have y3 := kept_cell hb1 hS.2.2.2.1; have y4 := kept_cell hb1 hS.2.2.2.2.1; have hr1 := hS.2.2.2.2.2.next hb1))
    all_goals
      clear x0 x1 x2 x3 x4 y0 y1 y2 y3 y4 hr hS
      go_wp2
      go_ret
      exact ⟨rfl, by rw [hN]; exact hr1.1⟩

end Go.Proofs.YtpnjhodpbjhmcaaGreatDoor.Il
