/-
  The reference's Spell, walked: some of its operations. Conditions: numbers that may be.
-/
import Derived.Test.YtpnjhodpbjhmcaaGreatDoorIlSpg
namespace Go.Proofs.YtpnjhodpbjhmcaaGreatDoor.Il
open Go.RowKit
open Go.Proofs.YtpnjhodpbjhmcaaGreatDoor.Ic

set_option maxRecDepth 100000 in
set_option maxHeartbeats 8000000 in
theorem rspell_wrong (i : In) (h : rightI i = false) (hp : I64 i.pl) (w : World) : Calls Tryz.prog 18 #[insV i] w (Tells (.string (S (spellL i))) w) := by
  have HR := Lib.hid (fun W => rright_any i hp W)
  rw [h] at HR
  have hv : spellL i = [] := by unfold spellL; rw [h]; rfl
  rw [hv]
  clear hv hp h
  unfold insV at HR ⊢
  go_enter Tryz.func18, Tryz.ntmps18
  go_wp2_with fail
  refine (HR.out _).mono ?_
  rintro e w1 ⟨rfl, hb1⟩
  go_wp2
  go_ret
  exact ⟨rfl, (((Below.refl w.heap.size w).alloc (Nat.le_refl _) _).trans (hb1.mono (by simp)))⟩

set_option maxRecDepth 100000 in
set_option maxHeartbeats 8000000 in
theorem rspell_jump (o : Nat) (ho : o < 37) (pl : Int) (hj : jumpB o = true) (h0 : 0 ≤ pl) (h200 : pl ≤ 200) (w : World) : Calls Tryz.prog 18 #[insV ⟨(o : Int), 0, 0, pl, 0⟩] w (Tells (.string (S (spellL ⟨(o : Int), 0, 0, pl, 0⟩))) w) := by
  have h : rightI ⟨(o : Int), 0, 0, pl, 0⟩ = true := way_right (.jump hj rfl rfl h0 h200 rfl)
  obtain ⟨g1, g2, g3, g4, g5, g6, g7, g8, g9, g10, g11⟩ := (op_facts o).2.2.1 hj
  have HDd := Lib.hid (fun W => rdig_any pl.toNat (by omega) W)
  have e0 : ((pl.toNat : Nat) : Int) = pl := by omega
  rw [e0] at HDd
  clear e0
  have hdl := dec_len19 (u := pl.toNat) (by omega)
  have hj2 : 25 ≤ (o : Int) ∧ (o : Int) ≤ 27 := by unfold jumpB at hj; rw [decide_eq_true_iff] at hj; exact hj
  have hnl : (namesL.getD o []).length ≤ 5 := name_len ⟨o, ho⟩
  obtain ⟨nmv, enm⟩ : ∃ nmv, nmv = S (namesL.getD o []) := ⟨_, rfl⟩
  have HN : Hid (∀ W : World, Calls Tryz.prog 41 #[] W fun e w' => ∃ g, e = .returned (.slice (some ⟨g, 0, none⟩) 37 37) ∧ w'.cell? ⟨g, o, none⟩ = some (.string nmv) ∧ Below W.heap.size W w') := fun W => (rNames_any W).mono fun _ _ ⟨g, h1, h2, h3⟩ => ⟨g, h1, by rw [enm]; exact h2 o ho, h3⟩
  obtain ⟨t1, e1, l1, m1⟩ := glue (q := (⟨#[32, 76]⟩ : ByteArray)) (b := [32, 76]) 5 2 enm rfl hnl (by decide) (by decide)
  obtain ⟨t2, e2, l2, m2⟩ := glue (q := S (Lib.decDigits pl.toNat)) (b := Lib.decDigits pl.toNat) (5 + 2) 19 e1 rfl l1 hdl (by decide)
  have HR := Lib.hid (fun W => rright_any ⟨(o : Int), 0, 0, pl, 0⟩ (by constructor <;> dsimp only <;> omega) W)
  rw [h] at HR
  have hsp : S (spellL ⟨(o : Int), 0, 0, pl, 0⟩) = t2 := by
    rw [e2]
    congr 1
    unfold spellL
    rw [h, if_pos rfl]
    unfold spellW argL
    rw [if_neg g6, if_neg g5, g3, hj]
    simp [joinW, opName]
  rw [hsp]
  have q0 : ((o : Int) == 33) = false := by rw [beq_eq_false_iff_ne]; omega
  have q1 : ((o : Int) == 32) = false := by rw [beq_eq_false_iff_ne]; omega
  have q2 : (25 : Int) ≤ (o : Int) := by omega
  have q3 : (o : Int) ≤ 27 := by omega
  clear hsp h hnl enm e1 l1 e2 l2
  have hoI : (o : Int) < 37 := by omega
  unfold insV at HR ⊢
  go_enter Tryz.func18, Tryz.ntmps18
  go_wp2_with fail
  obtain ⟨hc, hr⟩ := one_box w #[.int .i64 o, .int .i64 0, .int .i64 0, .int .i64 pl, .int .i64 0] 34
  have x0 := hc 0 (.int .i64 o) rfl
  have x1 := hc 1 (.int .i64 0) rfl
  have x2 := hc 2 (.int .i64 0) rfl
  have x3 := hc 3 (.int .i64 pl) rfl
  have x4 := hc 4 (.int .i64 0) rfl
  clear hc
  generalize w.alloc (.cells #[.int .i64 o, .int .i64 0, .int .i64 0, .int .i64 pl, .int .i64 0] 34) = W at *
  generalize hN : w.heap.size = N at *
  go_wp2_with fail
  refine (HR.out _).mono ?_
  rintro e w1 ⟨rfl, hb1⟩
  have y0 := kept_cell hb1 x0
  have y1 := kept_cell hb1 x1
  have y2 := kept_cell hb1 x2
  have y3 := kept_cell hb1 x3
  have y4 := kept_cell hb1 x4
  have hr1 := hr.next hb1
  clear hb1 hr x0 x1 x2 x3 x4
  have x0 := y0
  have x1 := y1
  have x2 := y2
  have x3 := y3
  have x4 := y4
  have hr := hr1
  clear y0 y1 y2 y3 y4 hr1
  go_wp2_with fail
  go_region_with (go_at_call 41; (with_reducible refine (HN.out _).mono ?_); rintro e w1 ⟨g, rfl, c7, hb1⟩; have y0 := kept_cell hb1 x0; have y1 := kept_cell hb1 x1; have y2 := kept_cell hb1 x2; have y3 := kept_cell hb1 x3; have y4 := kept_cell hb1 x4; have hr1 := Next.next (by simpa using hr) hb1)
  all_goals
    clear x0 x1 x2 x3 x4 hr hb1 c7
    have x0 := y0
    have x1 := y1
    have x2 := y2
    have x3 := y3
    have x4 := y4
    have hr := hr1
    clear y0 y1 y2 y3 y4 hr1
    clear hj2
    go_wp2_with fail
    refine (HDd.out _).mono ?_
    rintro e w1 ⟨rfl, hb1⟩
    have y0 := kept_cell hb1 x0
    have y1 := kept_cell hb1 x1
    have y2 := kept_cell hb1 x2
    have y3 := kept_cell hb1 x3
    have y4 := kept_cell hb1 x4
    have hr1 := hr.next hb1
    clear hb1 hr x0 x1 x2 x3 x4
    clear y0 y1 y2 y3 y4
    go_wp2
    go_ret
    exact ⟨rfl, by rw [hN]; exact hr1.1⟩

set_option maxRecDepth 100000 in
set_option maxHeartbeats 8000000 in
theorem rspell_bare (o : Nat) (ho : o < 37) (hb : bareB o = true) (w : World) : Calls Tryz.prog 18 #[insV ⟨(o : Int), 0, 0, 0, 0⟩] w (Tells (.string (S (spellL ⟨(o : Int), 0, 0, 0, 0⟩))) w) := by
  have h : rightI ⟨(o : Int), 0, 0, 0, 0⟩ = true := way_right (.bare hb rfl rfl rfl rfl)
  obtain ⟨g1, g2, g3, g4, g5, g6, g7, g8, g9, g10, g11⟩ := (op_facts o).2.2.2 hb
  have HRf := Lib.hid (fun W => rreads_any o W)
  rw [g1] at HRf
  have HWf := Lib.hid (fun W => rwrites_any o W)
  rw [g2] at HWf
  have hb2 : (o : Int) = 13 ∨ (28 ≤ (o : Int) ∧ (o : Int) ≤ 30) := by unfold bareB at hb; rw [decide_eq_true_iff] at hb; exact hb
  have hnl : (namesL.getD o []).length ≤ 5 := name_len ⟨o, ho⟩
  obtain ⟨nmv, enm⟩ : ∃ nmv, nmv = S (namesL.getD o []) := ⟨_, rfl⟩
  have HN : Hid (∀ W : World, Calls Tryz.prog 41 #[] W fun e w' => ∃ g, e = .returned (.slice (some ⟨g, 0, none⟩) 37 37) ∧ w'.cell? ⟨g, o, none⟩ = some (.string nmv) ∧ Below W.heap.size W w') := fun W => (rNames_any W).mono fun _ _ ⟨g, h1, h2, h3⟩ => ⟨g, h1, by rw [enm]; exact h2 o ho, h3⟩
  have HR := Lib.hid (fun W => rright_any ⟨(o : Int), 0, 0, 0, 0⟩ (by constructor <;> dsimp only <;> omega) W)
  rw [h] at HR
  have hsp : S (spellL ⟨(o : Int), 0, 0, 0, 0⟩) = nmv := by
    rw [enm]
    congr 1
    unfold spellL
    rw [h, if_pos rfl]
    unfold spellW
    rw [if_neg g6, if_neg g5, hb, if_pos rfl]
    simp [joinW, opName]
  rw [hsp]
  have q0 : ((o : Int) == 33) = false := by rw [beq_eq_false_iff_ne]; omega
  have q1 : ((o : Int) == 32) = false := by rw [beq_eq_false_iff_ne]; omega
  have q2 : ((o : Int) == 31) = false := by rw [beq_eq_false_iff_ne]; omega
  have q3 : ((o : Int) == 34) = false := by rw [beq_eq_false_iff_ne]; omega
  have q4 : ((o : Int) == 35) = false := by rw [beq_eq_false_iff_ne]; omega
  have q5 : ((o : Int) == 36) = false := by rw [beq_eq_false_iff_ne]; omega
  clear hsp h hnl enm
  have hoI : (o : Int) < 37 := by omega
  unfold insV at HR ⊢
  go_enter Tryz.func18, Tryz.ntmps18
  go_wp2_with fail
  obtain ⟨hc, hr⟩ := one_box w #[.int .i64 o, .int .i64 0, .int .i64 0, .int .i64 0, .int .i64 0] 34
  have x0 := hc 0 (.int .i64 o) rfl
  have x1 := hc 1 (.int .i64 0) rfl
  have x2 := hc 2 (.int .i64 0) rfl
  have x3 := hc 3 (.int .i64 0) rfl
  have x4 := hc 4 (.int .i64 0) rfl
  clear hc
  generalize w.alloc (.cells #[.int .i64 o, .int .i64 0, .int .i64 0, .int .i64 0, .int .i64 0] 34) = W at *
  generalize hN : w.heap.size = N at *
  go_wp2_with fail
  refine (HR.out _).mono ?_
  rintro e w1 ⟨rfl, hb1⟩
  have y0 := kept_cell hb1 x0
  have y1 := kept_cell hb1 x1
  have y2 := kept_cell hb1 x2
  have y3 := kept_cell hb1 x3
  have y4 := kept_cell hb1 x4
  have hr1 := hr.next hb1
  clear hb1 hr x0 x1 x2 x3 x4
  have x0 := y0
  have x1 := y1
  have x2 := y2
  have x3 := y3
  have x4 := y4
  have hr := hr1
  clear y0 y1 y2 y3 y4 hr1
  go_wp2_with fail
  go_region_with (go_at_call 41; (with_reducible refine (HN.out _).mono ?_); rintro e w1 ⟨g, rfl, c7, hb1⟩; have y0 := kept_cell hb1 x0; have y1 := kept_cell hb1 x1; have y2 := kept_cell hb1 x2; have y3 := kept_cell hb1 x3; have y4 := kept_cell hb1 x4; have hr1 := Next.next (by simpa using hr) hb1)
  all_goals
    clear x0 x1 x2 x3 x4 hr hb1 c7
    have x0 := y0
    have x1 := y1
    have x2 := y2
    have x3 := y3
    have x4 := y4
    have hr := hr1
    clear y0 y1 y2 y3 y4 hr1
    rcases hb2 with hb2 | hb2
    · have q9 : ¬ (25 : Int) ≤ (o : Int) := by omega
      clear hb2
      go_wp2_with fail
      refine (HRf.out _).mono ?_
      rintro e w2 ⟨rfl, rfl⟩
      go_wp2_with fail
      refine (HRf.out _).mono ?_
      rintro e w2 ⟨rfl, rfl⟩
      go_wp2_with fail
      refine (HWf.out _).mono ?_
      rintro e w2 ⟨rfl, rfl⟩
      clear x0 x1 x2 x3 x4
      go_wp2
      go_ret
      exact ⟨rfl, by rw [hN]; exact hr.1⟩
    · have q9 : (25 : Int) ≤ (o : Int) := by omega
      have q10 : ¬ (o : Int) ≤ 27 := by omega
      clear hb2
      go_wp2_with fail
      refine (HRf.out _).mono ?_
      rintro e w2 ⟨rfl, rfl⟩
      go_wp2_with fail
      refine (HRf.out _).mono ?_
      rintro e w2 ⟨rfl, rfl⟩
      go_wp2_with fail
      refine (HWf.out _).mono ?_
      rintro e w2 ⟨rfl, rfl⟩
      clear x0 x1 x2 x3 x4
      go_wp2
      go_ret
      exact ⟨rfl, by rw [hN]; exact hr.1⟩

set_option maxRecDepth 100000 in
set_option maxHeartbeats 8000000 in
theorem rspell_close (w : World) : Calls Tryz.prog 18 #[insV ⟨33, 0, 0, 0, 0⟩] w (Tells (.string (S (spellL ⟨33, 0, 0, 0, 0⟩))) w) := by
  have h : rightI ⟨33, 0, 0, 0, 0⟩ = true := by decide
  have HR := Lib.hid (fun W => rright_any ⟨33, 0, 0, 0, 0⟩ (by constructor <;> decide) W)
  rw [h] at HR
  have hsp : S (spellL ⟨33, 0, 0, 0, 0⟩) = ⟨#[41]⟩ := by
    unfold spellL
    rw [h]
    rfl
  rw [hsp]
  clear hsp h
  unfold insV at HR ⊢
  go_enter Tryz.func18, Tryz.ntmps18
  go_wp2_with fail
  obtain ⟨hc, hr⟩ := one_box w #[.int .i64 33, .int .i64 0, .int .i64 0, .int .i64 0, .int .i64 0] 34
  have x0 := hc 0 (.int .i64 33) rfl
  have x1 := hc 1 (.int .i64 0) rfl
  have x2 := hc 2 (.int .i64 0) rfl
  have x3 := hc 3 (.int .i64 0) rfl
  have x4 := hc 4 (.int .i64 0) rfl
  clear hc
  generalize w.alloc (.cells #[.int .i64 33, .int .i64 0, .int .i64 0, .int .i64 0, .int .i64 0] 34) = W at *
  generalize hN : w.heap.size = N at *
  go_wp2_with fail
  refine (HR.out _).mono ?_
  rintro e w1 ⟨rfl, hb1⟩
  have y0 := kept_cell hb1 x0
  have y1 := kept_cell hb1 x1
  have y2 := kept_cell hb1 x2
  have y3 := kept_cell hb1 x3
  have y4 := kept_cell hb1 x4
  have hr1 := hr.next hb1
  clear hb1 hr x0 x1 x2 x3 x4
  have x0 := y0
  have x1 := y1
  have x2 := y2
  have x3 := y3
  have x4 := y4
  have hr := hr1
  clear y0 y1 y2 y3 y4 hr1
  go_wp2
  go_ret
  exact ⟨rfl, by rw [hN]; exact hr.1⟩

set_option maxRecDepth 100000 in
set_option maxHeartbeats 8000000 in
theorem rspell_opens (o : Nat) (ho : o < 37) (hrd : readsB o = true) (h2 : 2 < (o : Int)) (w : World) : Calls Tryz.prog 18 #[insV ⟨32, 0, 0, (o : Int), 0⟩] w (Tells (.string (S (spellL ⟨32, 0, 0, (o : Int), 0⟩))) w) := by
  have h : rightI ⟨32, 0, 0, (o : Int), 0⟩ = true := way_right (.opens rfl rfl rfl hrd h2 rfl)
  have hnl : (namesL.getD o []).length ≤ 5 := name_len ⟨o, ho⟩
  obtain ⟨nmv, enm⟩ : ∃ nmv, nmv = S (namesL.getD o []) := ⟨_, rfl⟩
  have HN : Hid (∀ W : World, Calls Tryz.prog 41 #[] W fun e w' => ∃ g, e = .returned (.slice (some ⟨g, 0, none⟩) 37 37) ∧ w'.cell? ⟨g, o, none⟩ = some (.string nmv) ∧ Below W.heap.size W w') := fun W => (rNames_any W).mono fun _ _ ⟨g, h1, h2, h3⟩ => ⟨g, h1, by rw [enm]; exact h2 o ho, h3⟩
  obtain ⟨t1, e1, l1, m1⟩ := glue (q := (⟨#[40]⟩ : ByteArray)) (b := [40]) 5 1 enm rfl hnl (by decide) (by decide)
  have HR := Lib.hid (fun W => rright_any ⟨32, 0, 0, (o : Int), 0⟩ (by constructor <;> dsimp only <;> omega) W)
  rw [h] at HR
  have hsp : S (spellL ⟨32, 0, 0, (o : Int), 0⟩) = t1 := by
    rw [e1]
    congr 1
    unfold spellL
    rw [h, if_pos rfl]
    rfl
  rw [hsp]
  clear hsp h hnl enm e1 l1 hrd h2
  have hoI : (o : Int) < 37 := by omega
  unfold insV at HR ⊢
  go_enter Tryz.func18, Tryz.ntmps18
  go_wp2_with fail
  obtain ⟨hc, hr⟩ := one_box w #[.int .i64 32, .int .i64 0, .int .i64 0, .int .i64 o, .int .i64 0] 34
  have x0 := hc 0 (.int .i64 32) rfl
  have x1 := hc 1 (.int .i64 0) rfl
  have x2 := hc 2 (.int .i64 0) rfl
  have x3 := hc 3 (.int .i64 o) rfl
  have x4 := hc 4 (.int .i64 0) rfl
  clear hc
  generalize w.alloc (.cells #[.int .i64 32, .int .i64 0, .int .i64 0, .int .i64 o, .int .i64 0] 34) = W at *
  generalize hN : w.heap.size = N at *
  go_wp2_with fail
  refine (HR.out _).mono ?_
  rintro e w1 ⟨rfl, hb1⟩
  have y0 := kept_cell hb1 x0
  have y1 := kept_cell hb1 x1
  have y2 := kept_cell hb1 x2
  have y3 := kept_cell hb1 x3
  have y4 := kept_cell hb1 x4
  have hr1 := hr.next hb1
  clear hb1 hr x0 x1 x2 x3 x4
  have x0 := y0
  have x1 := y1
  have x2 := y2
  have x3 := y3
  have x4 := y4
  have hr := hr1
  clear y0 y1 y2 y3 y4 hr1
  go_wp2_with fail
  go_region_with (go_at_call 41; (with_reducible refine (HN.out _).mono ?_); rintro e w1 ⟨g, rfl, c7, hb1⟩; have y0 := kept_cell hb1 x0; have y1 := kept_cell hb1 x1; have y2 := kept_cell hb1 x2; have y3 := kept_cell hb1 x3; have y4 := kept_cell hb1 x4; have hr1 := Next.next (by simpa using hr) hb1)
  all_goals
    clear x0 x1 x2 x3 x4 hr hb1 c7
    have x0 := y0
    have x1 := y1
    have x2 := y2
    have x3 := y3
    have x4 := y4
    have hr := hr1
    clear y0 y1 y2 y3 y4 hr1
    clear x0 x1 x2 x3 x4
    go_wp2
    go_ret
    exact ⟨rfl, by rw [hN]; exact hr.1⟩

end Go.Proofs.YtpnjhodpbjhmcaaGreatDoor.Il
