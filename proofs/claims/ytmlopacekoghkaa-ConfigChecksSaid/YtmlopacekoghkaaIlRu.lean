/-
  The reference's Right at operations that read or write, at none, and at all, walked. Conditions: numbers that an int holds.
-/
import Derived.Test.YtmlopacekoghkaaIlRta
import Derived.Test.YtmlopacekoghkaaIlRtb
import Derived.Test.YtmlopacekoghkaaIlRtc
namespace Go.Proofs.Ytmlopacekoghkaa.Il
open Go.RowKit
open Go.Proofs.Ytmlopacekoghkaa.Ic

set_option maxRecDepth 100000 in
set_option maxHeartbeats 8000000 in
theorem rright_lit (op kd pl n : Int) (w : World) (h : readsB op = true) : Calls Try.prog 45 #[insV ⟨op, kd, 0, pl, n⟩] w (Tells (.bool (rightI ⟨op, kd, 0, pl, n⟩)) w) := by
  have HR := Lib.hid (fun W => rreads_any op W)
  rw [h] at HR
  have HI := Lib.hid (fun W => rIs_any kd n W)
  have hv : rightI ⟨op, kd, 0, pl, n⟩ = (decide (pl = 0) && isI kd n) := by
    unfold rightI
    rw [h]
    simp
  rw [hv]
  clear hv h
  generalize isI kd n = q at *
  cases q
  · unfold insV
    go_enter Try.func45, Try.ntmps45
    go_wp2_with fail
    refine (HR.out _).mono ?_
    rintro e w1 ⟨rfl, rfl⟩
    go_wp2_with fail
    refine (HI.out _).mono ?_
    rintro e w1 ⟨rfl, hb⟩
    obtain ⟨hA, hB, hb1⟩ := two_boxes hb
    have a0 := hA 0 _ rfl
    have b0 := hB 0 _ rfl
    have a1 := hA 1 _ rfl
    have b1 := hB 1 _ rfl
    have a2 := hA 2 _ rfl
    have b2 := hB 2 _ rfl
    have a3 := hA 3 _ rfl
    have b3 := hB 3 _ rfl
    have a4 := hA 4 _ rfl
    have b4 := hB 4 _ rfl
    replace hb1 := Lib.hid hb1
    clear hb hA hB
    go_wp2
    all_goals
      go_ret
      exact ⟨by first | (simp [*]; done) | (simp [*]; intros; omega), hb1.out⟩
  · unfold insV
    go_enter Try.func45, Try.ntmps45
    go_wp2_with fail
    refine (HR.out _).mono ?_
    rintro e w1 ⟨rfl, rfl⟩
    go_wp2_with fail
    refine (HI.out _).mono ?_
    rintro e w1 ⟨rfl, hb⟩
    obtain ⟨hA, hB, hb1⟩ := two_boxes hb
    have a0 := hA 0 _ rfl
    have b0 := hB 0 _ rfl
    have a1 := hA 1 _ rfl
    have b1 := hB 1 _ rfl
    have a2 := hA 2 _ rfl
    have b2 := hB 2 _ rfl
    have a3 := hA 3 _ rfl
    have b3 := hB 3 _ rfl
    have a4 := hA 4 _ rfl
    have b4 := hB 4 _ rfl
    replace hb1 := Lib.hid hb1
    clear hb hA hB
    go_wp2
    all_goals
      go_ret
      exact ⟨by first | (simp [*]; done) | (simp [*]; intros; omega), hb1.out⟩

set_option maxRecDepth 100000 in
set_option maxHeartbeats 8000000 in
theorem rright_get (op kd ar pl n : Int) (w : World) (h : readsB op = true) (ha : ¬ ar = 0) (hp : I64 pl) : Calls Try.prog 45 #[insV ⟨op, kd, ar, pl, n⟩] w (Tells (.bool (rightI ⟨op, kd, ar, pl, n⟩)) w) := by
  have HR := Lib.hid (fun W => rreads_any op W)
  have HW := Lib.hid (fun W => rwrites_any op W)
  have hw : writesB op = false := ((op_facts op).1 h).1
  rw [h] at HR
  rw [hw] at HW
  have HT := Lib.hid (fun W => rThere_any 64 pl kd W (by omega) hp.1 hp.2)
  rw [there_eq] at HT
  replace HT : Hid (∀ W, Calls Try.prog 53 #[.int .i64 64, .int .i64 pl, .int .i64 kd] W (Tells (.bool (thereB pl kd)) W)) := HT
  clear hp
  have hv : rightI ⟨op, kd, ar, pl, n⟩ = (decide (1 ≤ ar) && (decide (ar ≤ 4) && (thereB pl kd && decide (n = 0)))) := by
    unfold rightI
    rw [h, hw]
    simp [ha]
    by_cases c1 : 1 ≤ ar <;> by_cases c2 : ar ≤ 4 <;> simp [c1, c2]
  rw [hv]
  clear hv h hw
  generalize thereB pl kd = q at *
  have ha2 : (ar == 0) = false := by simpa using ha
  cases q
  · unfold insV
    go_enter Try.func45, Try.ntmps45
    go_wp2_with fail
    refine (HR.out _).mono ?_
    rintro e w1 ⟨rfl, rfl⟩
    go_wp2_with fail
    refine (HR.out _).mono ?_
    rintro e w1 ⟨rfl, rfl⟩
    go_wp2_with fail
    refine (HT.out _).mono ?_
    rintro e w1 ⟨rfl, hb⟩
    obtain ⟨hA, hB, hb1⟩ := two_boxes hb
    have a0 := hA 0 _ rfl
    have b0 := hB 0 _ rfl
    have a1 := hA 1 _ rfl
    have b1 := hB 1 _ rfl
    have a2 := hA 2 _ rfl
    have b2 := hB 2 _ rfl
    have a3 := hA 3 _ rfl
    have b3 := hB 3 _ rfl
    have a4 := hA 4 _ rfl
    have b4 := hB 4 _ rfl
    replace hb1 := Lib.hid hb1
    clear hb hA hB
    go_wp2
    all_goals
      go_ret
      exact ⟨by first | (simp [*]; done) | (simp [*]; intros; omega), hb1.out⟩
  · by_cases c1 : 1 ≤ ar
    · by_cases c2 : ar ≤ 4
      · unfold insV
        go_enter Try.func45, Try.ntmps45
        go_wp2_with fail
        refine (HR.out _).mono ?_
        rintro e w1 ⟨rfl, rfl⟩
        go_wp2_with fail
        refine (HR.out _).mono ?_
        rintro e w1 ⟨rfl, rfl⟩
        go_wp2_with fail
        refine (HT.out _).mono ?_
        rintro e w1 ⟨rfl, hb⟩
        obtain ⟨hA, hB, hb1⟩ := two_boxes hb
        have a0 := hA 0 _ rfl
        have b0 := hB 0 _ rfl
        have a1 := hA 1 _ rfl
        have b1 := hB 1 _ rfl
        have a2 := hA 2 _ rfl
        have b2 := hB 2 _ rfl
        have a3 := hA 3 _ rfl
        have b3 := hB 3 _ rfl
        have a4 := hA 4 _ rfl
        have b4 := hB 4 _ rfl
        replace hb1 := Lib.hid hb1
        clear hb hA hB
        go_wp2_with fail
        refine (HW.out _).mono ?_
        rintro e w2 ⟨rfl, rfl⟩
        go_wp2
        all_goals
          go_ret
          exact ⟨by first | (simp [*]; done) | (simp [*]; intros; omega), hb1.out⟩
      · unfold insV
        go_enter Try.func45, Try.ntmps45
        go_wp2_with fail
        refine (HR.out _).mono ?_
        rintro e w1 ⟨rfl, rfl⟩
        go_wp2_with fail
        refine (HR.out _).mono ?_
        rintro e w1 ⟨rfl, rfl⟩
        go_wp2_with fail
        refine (HT.out _).mono ?_
        rintro e w1 ⟨rfl, hb⟩
        obtain ⟨hA, hB, hb1⟩ := two_boxes hb
        have a0 := hA 0 _ rfl
        have b0 := hB 0 _ rfl
        have a1 := hA 1 _ rfl
        have b1 := hB 1 _ rfl
        have a2 := hA 2 _ rfl
        have b2 := hB 2 _ rfl
        have a3 := hA 3 _ rfl
        have b3 := hB 3 _ rfl
        have a4 := hA 4 _ rfl
        have b4 := hB 4 _ rfl
        replace hb1 := Lib.hid hb1
        clear hb hA hB
        go_wp2
        all_goals
          go_ret
          exact ⟨by first | (simp [*]; done) | (simp [*]; intros; omega), hb1.out⟩
    · unfold insV
      go_enter Try.func45, Try.ntmps45
      go_wp2_with fail
      refine (HR.out _).mono ?_
      rintro e w1 ⟨rfl, rfl⟩
      go_wp2_with fail
      refine (HR.out _).mono ?_
      rintro e w1 ⟨rfl, rfl⟩
      go_wp2_with fail
      refine (HT.out _).mono ?_
      rintro e w1 ⟨rfl, hb⟩
      obtain ⟨hA, hB, hb1⟩ := two_boxes hb
      have a0 := hA 0 _ rfl
      have b0 := hB 0 _ rfl
      have a1 := hA 1 _ rfl
      have b1 := hB 1 _ rfl
      have a2 := hA 2 _ rfl
      have b2 := hB 2 _ rfl
      have a3 := hA 3 _ rfl
      have b3 := hB 3 _ rfl
      have a4 := hA 4 _ rfl
      have b4 := hB 4 _ rfl
      replace hb1 := Lib.hid hb1
      clear hb hA hB
      go_wp2
      all_goals
        go_ret
        exact ⟨by first | (simp [*]; done) | (simp [*]; intros; omega), hb1.out⟩

set_option maxRecDepth 100000 in
set_option maxHeartbeats 8000000 in
theorem rright_put (op kd ar pl n : Int) (w : World) (h : writesB op = true) (hp : I64 pl) : Calls Try.prog 45 #[insV ⟨op, kd, ar, pl, n⟩] w (Tells (.bool (rightI ⟨op, kd, ar, pl, n⟩)) w) := by
  have HR := Lib.hid (fun W => rreads_any op W)
  have HW := Lib.hid (fun W => rwrites_any op W)
  have hr : readsB op = false := ((op_facts op).2.1 h).1
  rw [hr] at HR
  rw [h] at HW
  have HT := Lib.hid (fun W => rThere_any 64 pl kd W (by omega) hp.1 hp.2)
  rw [there_eq] at HT
  replace HT : Hid (∀ W, Calls Try.prog 53 #[.int .i64 64, .int .i64 pl, .int .i64 kd] W (Tells (.bool (thereB pl kd)) W)) := HT
  clear hp
  have hv : rightI ⟨op, kd, ar, pl, n⟩ = (decide (1 ≤ ar) && (decide (ar ≤ 4) && (!decide (ar = 1) && (thereB pl kd && decide (n = 0))))) := by
    unfold rightI
    rw [h, hr]
    by_cases c1 : 1 ≤ ar <;> by_cases c2 : ar ≤ 4 <;> by_cases c3 : ar = 1 <;> simp [c1, c2, c3]
  rw [hv]
  clear hv h hr
  generalize thereB pl kd = q at *
  cases q
  · unfold insV
    go_enter Try.func45, Try.ntmps45
    go_wp2_with fail
    refine (HR.out _).mono ?_
    rintro e w1 ⟨rfl, rfl⟩
    go_wp2_with fail
    refine (HR.out _).mono ?_
    rintro e w1 ⟨rfl, rfl⟩
    go_wp2_with fail
    refine (HW.out _).mono ?_
    rintro e w1 ⟨rfl, rfl⟩
    go_wp2_with fail
    refine (HT.out _).mono ?_
    rintro e w1 ⟨rfl, hb⟩
    obtain ⟨hA, hB, hb1⟩ := two_boxes hb
    have a0 := hA 0 _ rfl
    have b0 := hB 0 _ rfl
    have a1 := hA 1 _ rfl
    have b1 := hB 1 _ rfl
    have a2 := hA 2 _ rfl
    have b2 := hB 2 _ rfl
    have a3 := hA 3 _ rfl
    have b3 := hB 3 _ rfl
    have a4 := hA 4 _ rfl
    have b4 := hB 4 _ rfl
    replace hb1 := Lib.hid hb1
    clear hb hA hB
    go_wp2
    all_goals
      go_ret
      exact ⟨by first | (simp [*]; done) | (simp [*]; intros; omega), hb1.out⟩
  · by_cases c1 : 1 ≤ ar
    · by_cases c2 : ar ≤ 4
      · unfold insV
        go_enter Try.func45, Try.ntmps45
        go_wp2_with fail
        refine (HR.out _).mono ?_
        rintro e w1 ⟨rfl, rfl⟩
        go_wp2_with fail
        refine (HR.out _).mono ?_
        rintro e w1 ⟨rfl, rfl⟩
        go_wp2_with fail
        refine (HW.out _).mono ?_
        rintro e w1 ⟨rfl, rfl⟩
        go_wp2_with fail
        refine (HT.out _).mono ?_
        rintro e w1 ⟨rfl, hb⟩
        obtain ⟨hA, hB, hb1⟩ := two_boxes hb
        have a0 := hA 0 _ rfl
        have b0 := hB 0 _ rfl
        have a1 := hA 1 _ rfl
        have b1 := hB 1 _ rfl
        have a2 := hA 2 _ rfl
        have b2 := hB 2 _ rfl
        have a3 := hA 3 _ rfl
        have b3 := hB 3 _ rfl
        have a4 := hA 4 _ rfl
        have b4 := hB 4 _ rfl
        replace hb1 := Lib.hid hb1
        clear hb hA hB
        go_wp2_with fail
        refine (HW.out _).mono ?_
        rintro e w2 ⟨rfl, rfl⟩
        go_wp2
        all_goals
          go_ret
          exact ⟨by first | (simp [*]; done) | (simp [*]; intros; omega), hb1.out⟩
      · unfold insV
        go_enter Try.func45, Try.ntmps45
        go_wp2_with fail
        refine (HR.out _).mono ?_
        rintro e w1 ⟨rfl, rfl⟩
        go_wp2_with fail
        refine (HR.out _).mono ?_
        rintro e w1 ⟨rfl, rfl⟩
        go_wp2_with fail
        refine (HW.out _).mono ?_
        rintro e w1 ⟨rfl, rfl⟩
        go_wp2_with fail
        refine (HT.out _).mono ?_
        rintro e w1 ⟨rfl, hb⟩
        obtain ⟨hA, hB, hb1⟩ := two_boxes hb
        have a0 := hA 0 _ rfl
        have b0 := hB 0 _ rfl
        have a1 := hA 1 _ rfl
        have b1 := hB 1 _ rfl
        have a2 := hA 2 _ rfl
        have b2 := hB 2 _ rfl
        have a3 := hA 3 _ rfl
        have b3 := hB 3 _ rfl
        have a4 := hA 4 _ rfl
        have b4 := hB 4 _ rfl
        replace hb1 := Lib.hid hb1
        clear hb hA hB
        go_wp2
        all_goals
          go_ret
          exact ⟨by first | (simp [*]; done) | (simp [*]; intros; omega), hb1.out⟩
    · unfold insV
      go_enter Try.func45, Try.ntmps45
      go_wp2_with fail
      refine (HR.out _).mono ?_
      rintro e w1 ⟨rfl, rfl⟩
      go_wp2_with fail
      refine (HR.out _).mono ?_
      rintro e w1 ⟨rfl, rfl⟩
      go_wp2_with fail
      refine (HW.out _).mono ?_
      rintro e w1 ⟨rfl, rfl⟩
      go_wp2_with fail
      refine (HT.out _).mono ?_
      rintro e w1 ⟨rfl, hb⟩
      obtain ⟨hA, hB, hb1⟩ := two_boxes hb
      have a0 := hA 0 _ rfl
      have b0 := hB 0 _ rfl
      have a1 := hA 1 _ rfl
      have b1 := hB 1 _ rfl
      have a2 := hA 2 _ rfl
      have b2 := hB 2 _ rfl
      have a3 := hA 3 _ rfl
      have b3 := hB 3 _ rfl
      have a4 := hA 4 _ rfl
      have b4 := hB 4 _ rfl
      replace hb1 := Lib.hid hb1
      clear hb hA hB
      go_wp2
      all_goals
        go_ret
        exact ⟨by first | (simp [*]; done) | (simp [*]; intros; omega), hb1.out⟩

set_option maxRecDepth 100000 in
set_option maxHeartbeats 8000000 in
theorem rright_none (op kd ar pl n : Int) (w : World) (h : op ≤ 0 ∨ 37 ≤ op) : Calls Try.prog 45 #[insV ⟨op, kd, ar, pl, n⟩] w (Tells (.bool (rightI ⟨op, kd, ar, pl, n⟩)) w) := by
  have HR := Lib.hid (fun W => rreads_any op W)
  have HW := Lib.hid (fun W => rwrites_any op W)
  have hr : readsB op = false := by unfold readsB; rw [decide_eq_false_iff_not]; omega
  have hw : writesB op = false := by unfold writesB; rw [decide_eq_false_iff_not]; omega
  have hj : jumpB op = false := by unfold jumpB; rw [decide_eq_false_iff_not]; omega
  have hb : bareB op = false := by unfold bareB; rw [decide_eq_false_iff_not]; omega
  have hv : rightI ⟨op, kd, ar, pl, n⟩ = false := by
    unfold rightI
    rw [hr, hw, hj, hb]
    have h1 : ¬ op = 33 := by omega
    have h2 : ¬ op = 31 := by omega
    have h3 : ¬ op = 32 := by omega
    have h4 : ¬ op = 34 := by omega
    have h5 : ¬ op = 35 := by omega
    have h6 : ¬ op = 36 := by omega
    simp [h1, h2, h3, h4, h5, h6]
  rw [hv]
  rw [hr] at HR
  rw [hw] at HW
  have t13 : (op == 13) = false := by rw [beq_eq_false_iff_ne]; omega
  have t31 : (op == 31) = false := by rw [beq_eq_false_iff_ne]; omega
  have t32 : (op == 32) = false := by rw [beq_eq_false_iff_ne]; omega
  have t33 : (op == 33) = false := by rw [beq_eq_false_iff_ne]; omega
  have t34 : (op == 34) = false := by rw [beq_eq_false_iff_ne]; omega
  have t35 : (op == 35) = false := by rw [beq_eq_false_iff_ne]; omega
  have t36 : (op == 36) = false := by rw [beq_eq_false_iff_ne]; omega
  clear hv hr hw hj hb
  rcases h with h | h
  · have q1 : ¬ (25 : Int) ≤ op := by omega
    have q2 : ¬ (28 : Int) ≤ op := by omega
    clear h
    unfold insV
    go_enter Try.func45, Try.ntmps45
    go_wp2_with fail
    refine (HR.out _).mono ?_
    rintro e w1 ⟨rfl, rfl⟩
    go_wp2_with fail
    refine (HR.out _).mono ?_
    rintro e w1 ⟨rfl, rfl⟩
    go_wp2_with fail
    refine (HW.out _).mono ?_
    rintro e w1 ⟨rfl, rfl⟩
    go_wp2
    all_goals
      go_ret
      exact ⟨by first | (simp [*]; done) | (simp [*]; intros; omega), ((Below.refl _ _).alloc (Nat.le_refl _) _).alloc (by simp) _⟩
  · have q1 : (25 : Int) ≤ op := by omega
    have q2 : (28 : Int) ≤ op := by omega
    have q3 : ¬ op ≤ 27 := by omega
    have q4 : ¬ op ≤ 30 := by omega
    clear h
    unfold insV
    go_enter Try.func45, Try.ntmps45
    go_wp2_with fail
    refine (HR.out _).mono ?_
    rintro e w1 ⟨rfl, rfl⟩
    go_wp2_with fail
    refine (HR.out _).mono ?_
    rintro e w1 ⟨rfl, rfl⟩
    go_wp2_with fail
    refine (HW.out _).mono ?_
    rintro e w1 ⟨rfl, rfl⟩
    go_wp2
    all_goals
      go_ret
      exact ⟨by first | (simp [*]; done) | (simp [*]; intros; omega), ((Below.refl _ _).alloc (Nat.le_refl _) _).alloc (by simp) _⟩

theorem rright_any (i : In) (hp : I64 i.pl) (w : World) : Calls Try.prog 45 #[insV i] w (Tells (.bool (rightI i)) w) := by
  obtain ⟨op, kd, ar, pl, n⟩ := i
  by_cases h : op ≤ 0 ∨ 37 ≤ op
  · exact rright_none op kd ar pl n w h
  by_cases hr : readsB op = true
  · by_cases ha : ar = 0
    · subst ha
      exact rright_lit op kd pl n w hr
    · exact rright_get op kd ar pl n w hr ha hp
  by_cases hw : writesB op = true
  · exact rright_put op kd ar pl n w hw hp
  have hq : op = 13 ∨ op = 25 ∨ op = 26 ∨ op = 27 ∨ op = 28 ∨ op = 29 ∨ op = 30 ∨ op = 31 ∨ op = 32 ∨ op = 33 ∨ op = 34 ∨ op = 35 ∨ op = 36 := by
    unfold readsB at hr
    unfold writesB at hw
    simp only [decide_eq_true_iff] at hr hw
    omega
  rcases hq with rfl | rfl | rfl | rfl | rfl | rfl | rfl | rfl | rfl | rfl | rfl | rfl | rfl
  · exact rright_13 kd ar pl n w
  · exact rright_25 kd ar pl n w
  · exact rright_26 kd ar pl n w
  · exact rright_27 kd ar pl n w
  · exact rright_28 kd ar pl n w
  · exact rright_29 kd ar pl n w
  · exact rright_30 kd ar pl n w
  · exact rright_31 kd ar pl n w
  · exact rright_32 kd ar pl n w
  · exact rright_33 kd ar pl n w
  · exact rright_34 kd ar pl n w
  · exact rright_35 kd ar pl n w
  · exact rright_36 kd ar pl n w

end Go.Proofs.Ytmlopacekoghkaa.Il
