/-
  The landed code's operand and Spell, walked. Conditions: numbers that an int holds; the library's variables are as the program lays them.
-/
import Derived.Test.YtpnjhodpbjhmcaaGreatDoorIkP
import Derived.Test.YtpnjhodpbjhmcaaGreatDoorIlSpl
namespace Go.Proofs.YtpnjhodpbjhmcaaGreatDoor.Il
open Go.RowKit
open Go.Proofs.YtpnjhodpbjhmcaaGreatDoor.Ic

theorem Keep.env {N : Nat} {w W : World} (h : Keep N w W) : Env W := h.2
/-- A place or a literal. -/
def operL (i : In) : Bs := if i.ar = 0 then nmI i.kd ++ 35 :: Lib.itoa i.n else areaL i.ar i.pl ++ 58 :: nmI i.kd

set_option maxRecDepth 100000 in
set_option maxHeartbeats 8000000 in
theorem cOper_lit (op kd pl n : Int) (h1 : -1000000000000000000 ≤ n) (h2 : n ≤ 1000000000000000000) (w : World) (hE : Env w) : Calls Tryz.prog 25 #[insV ⟨op, kd, 0, pl, n⟩] w (Tells (.string (S (nmI kd ++ 35 :: Lib.itoa n))) w) := by
  have HN := Lib.hid (fun W => cName_any kd W)
  have HF := Lib.hid (fun W hE => cFormat n ⟨by omega, by omega⟩ W hE)
  have HE := Lib.hid hE
  obtain ⟨t1, e1, l1, m1⟩ := glue (q := ⟨#[35]⟩) (b := [35]) 5 1 (kind_S kd) rfl (kind_len kd) (by decide) (by decide)
  obtain ⟨t2, e2, l2, m2⟩ := glue (q := S (Lib.itoa n)) (b := Lib.itoa n) 6 20 e1 rfl l1 (itoa_len n h1 h2) (by decide)
  have hv : S (nmI kd ++ 35 :: Lib.itoa n) = t2 := by rw [e2]; congr 1; simp
  rw [hv]
  clear hv e1 e2 l1 l2 hE h1 h2
  generalize nameI kd = nm at *
  generalize S (Lib.itoa n) = a at *
  obtain ⟨x0, x1, x2, x3, x4⟩ := (box5 w ⟨op, kd, 0, pl, n⟩ 34).1
  dsimp only at x0 x1 x2 x3 x4
  have hr := keep_box w HE.out #[.int .i64 op, .int .i64 kd, .int .i64 0, .int .i64 pl, .int .i64 n] 34
  unfold insV
  go_enter Tryz.func25, Tryz.ntmps25
  go_wp2_with fail
  generalize w.alloc (.cells #[.int .i64 op, .int .i64 kd, .int .i64 0, .int .i64 pl, .int .i64 n] 34) = W at *
  generalize hN : w.heap.size = N at *
  go_region_held3 (fun W' => W'.cell? ⟨N, 0, none⟩ = some (.int .i64 op) ∧ W'.cell? ⟨N, 1, none⟩ = some (.int .i64 kd) ∧ W'.cell? ⟨N, 2, none⟩ = some (.int .i64 0) ∧ W'.cell? ⟨N, 3, none⟩ = some (.int .i64 pl) ∧ W'.cell? ⟨N, 4, none⟩ = some (.int .i64 n) ∧ Keep N w W') (go_keep)
    (first
      | (go_at_call 26; have hS := ‹_ ∧ _ ∧ _ ∧ _ ∧ _ ∧ Keep _ _ _›; (with_reducible refine (HN.out _).mono ?_); rintro e w1 ⟨rfl, hb1⟩; have y0 := kept_cell hb1 hS.1; have y1 := kept_cell hb1 hS.2.1; have y2 := kept_cell hb1 hS.2.2.1; have y3 := kept_cell hb1 hS.2.2.2.1; have y4 := kept_cell hb1 hS.2.2.2.2.1; have hr1 := hS.2.2.2.2.2.next hb1)
      | (go_at_call 28; have hS := ‹_ ∧ _ ∧ _ ∧ _ ∧ _ ∧ Keep _ _ _›; (with_reducible refine (HF.out _ (Keep.env hS.2.2.2.2.2)).mono ?_); rintro e w1 ⟨rfl, hb1⟩; have y0 := kept_cell hb1 hS.1; have y1 := kept_cell hb1 hS.2.1; have y2 := kept_cell hb1 hS.2.2.1; have y3 := kept_cell hb1 hS.2.2.2.1; have y4 := kept_cell hb1 hS.2.2.2.2.1; have hr1 := hS.2.2.2.2.2.next hb1)
    )
  all_goals
    go_wp2
    go_ret
    exact ⟨rfl, by rw [hN]; exact hr1.1.1⟩

set_option maxRecDepth 100000 in
set_option maxHeartbeats 8000000 in
theorem cOper_get (op kd ar pl n : Int) (h1 : 1 ≤ ar) (h4 : ar ≤ 4) (h0 : 0 ≤ pl) (h99 : pl ≤ 99) (w : World) (hE : Env w) : Calls Tryz.prog 25 #[insV ⟨op, kd, ar, pl, n⟩] w (Tells (.string (S (areaL ar pl ++ 58 :: nmI kd))) w) := by
  have HN := Lib.hid (fun W => cName_any kd W)
  have HP : Hid (∀ W, Env W → Calls Tryz.prog 27 #[.agg #[.int .i64 op, .int .i64 kd, .int .i64 ar, .int .i64 pl, .int .i64 n]] W (Tells (.string (S (areaL ar pl))) W)) := fun W hE => cSpot_any ⟨op, kd, ar, pl, n⟩ h1 h4 h0 h99 W hE
  have HE := Lib.hid hE
  obtain ⟨t1, e1, l1, m1⟩ := glue (p := S (areaL ar pl)) (q := ⟨#[58]⟩) (b := [58]) 21 1 rfl rfl (area_len ar pl (by omega)) (by decide) (by decide)
  obtain ⟨t2, e2, l2, m2⟩ := glue (q := nameI kd) (b := nmI kd) 22 5 e1 (kind_S kd) l1 (kind_len kd) (by decide)
  have hv : S (areaL ar pl ++ 58 :: nmI kd) = t2 := by rw [e2]; congr 1; simp
  have hq : (ar == 0) = false := by rw [beq_eq_false_iff_ne]; omega
  have hz : ¬ ar = 0 := by omega
  rw [hv]
  clear hv e1 e2 l1 l2 hE h1 h4 h0 h99
  generalize nameI kd = nm at *
  generalize S (areaL ar pl) = a at *
  obtain ⟨x0, x1, x2, x3, x4⟩ := (box5 w ⟨op, kd, ar, pl, n⟩ 34).1
  dsimp only at x0 x1 x2 x3 x4
  have hr := keep_box w HE.out #[.int .i64 op, .int .i64 kd, .int .i64 ar, .int .i64 pl, .int .i64 n] 34
  unfold insV
  go_enter Tryz.func25, Tryz.ntmps25
  go_wp2_with fail
  generalize w.alloc (.cells #[.int .i64 op, .int .i64 kd, .int .i64 ar, .int .i64 pl, .int .i64 n] 34) = W at *
  generalize hN : w.heap.size = N at *
  go_region_held3 (fun W' => W'.cell? ⟨N, 0, none⟩ = some (.int .i64 op) ∧ W'.cell? ⟨N, 1, none⟩ = some (.int .i64 kd) ∧ W'.cell? ⟨N, 2, none⟩ = some (.int .i64 ar) ∧ W'.cell? ⟨N, 3, none⟩ = some (.int .i64 pl) ∧ W'.cell? ⟨N, 4, none⟩ = some (.int .i64 n) ∧ Keep N w W') (go_keep)
    (first
      | (go_at_call 26; have hS := ‹_ ∧ _ ∧ _ ∧ _ ∧ _ ∧ Keep _ _ _›; (with_reducible refine (HN.out _).mono ?_); rintro e w1 ⟨rfl, hb1⟩; have y0 := kept_cell hb1 hS.1; have y1 := kept_cell hb1 hS.2.1; have y2 := kept_cell hb1 hS.2.2.1; have y3 := kept_cell hb1 hS.2.2.2.1; have y4 := kept_cell hb1 hS.2.2.2.2.1; have hr1 := hS.2.2.2.2.2.next hb1)
      | (go_at_call 27; have hS := ‹_ ∧ _ ∧ _ ∧ _ ∧ _ ∧ Keep _ _ _›; (with_reducible refine (HP.out _ (Keep.env hS.2.2.2.2.2)).mono ?_); rintro e w1 ⟨rfl, hb1⟩; have y0 := kept_cell hb1 hS.1; have y1 := kept_cell hb1 hS.2.1; have y2 := kept_cell hb1 hS.2.2.1; have y3 := kept_cell hb1 hS.2.2.2.1; have y4 := kept_cell hb1 hS.2.2.2.2.1; have hr1 := hS.2.2.2.2.2.next hb1)
    )
  all_goals
    go_wp2
    go_ret
    exact ⟨rfl, by rw [hN]; exact hr1.1.1⟩

set_option maxRecDepth 100000 in
set_option maxHeartbeats 8000000 in
theorem cSpell_op2 (o : Nat) (ho : o < 37) (kd ar pl n : Int) (hn64 : I64 n) (HA : ∃ a : Bs, a.length ≤ 30 ∧ spellW ⟨(o : Int), kd, ar, pl, n⟩ = [opName (o : Int), a] ∧ ∀ W, Env W → Calls Tryz.prog 25 #[.agg #[.int .i64 (o : Int), .int .i64 kd, .int .i64 ar, .int .i64 pl, .int .i64 n]] W (Tells (.string (S a)) W)) (h : rightI ⟨(o : Int), kd, ar, pl, n⟩ = true) (hf : formI (o : Int) = 2) (w : World) (hE : Env w) : Calls Tryz.prog 10 #[insV ⟨(o : Int), kd, ar, pl, n⟩] w (Tells (.string (S (spellL ⟨(o : Int), kd, ar, pl, n⟩))) w) := by
  have HR := Lib.hid (fun W => cRight_any ⟨(o : Int), kd, ar, pl, n⟩ hn64 W)
  have HF := Lib.hid (fun W => cForm_any (o : Int) W)
  have HN := Lib.hid (fun W => cNameOf_any o ho W)
  have HE := Lib.hid hE
  rw [h] at HR
  rw [hf] at HF
  have hnl : (opName (o : Int)).length ≤ 5 := by unfold opName; rw [Int.toNat_natCast]; exact name_len ⟨o, ho⟩
  obtain ⟨a, hal, hao, HO⟩ := HA
  obtain ⟨t1, e1, l1, m1⟩ := glue (p := S (opName (o : Int))) (q := ⟨#[32]⟩) (b := [32]) 5 1 rfl rfl hnl (by decide) (by decide)
  obtain ⟨t2, e2, l2, m2⟩ := glue (q := S a) (b := a) 6 30 e1 rfl l1 hal (by decide)
  have hv : S (spellL ⟨(o : Int), kd, ar, pl, n⟩) = t2 := by
    rw [e2]
    congr 1
    unfold spellL
    rw [h, if_pos rfl]
    rw [hao]
    simp [joinW]
  rw [hv]
  clear hv h hf hE hnl e1 l1 e2 l2
  generalize S (opName (o : Int)) = nm at *
  replace HO := Lib.hid HO
  clear hal hao
  generalize hsa : S a = sa at *
  unfold insV at HR
  obtain ⟨x0, x1, x2, x3, x4⟩ := (box5 w ⟨(o : Int), kd, ar, pl, n⟩ 34).1
  dsimp only at x0 x1 x2 x3 x4
  have hr := keep_box w HE.out #[.int .i64 (o : Int), .int .i64 kd, .int .i64 ar, .int .i64 pl, .int .i64 n] 34
  unfold insV
  go_enter Tryz.func10, Tryz.ntmps10
  go_wp2_with fail
  generalize w.alloc (.cells #[.int .i64 (o : Int), .int .i64 kd, .int .i64 ar, .int .i64 pl, .int .i64 n] 34) = W at *
  generalize hN : w.heap.size = N at *
  refine (HR.out _).mono ?_
  rintro e w0 ⟨rfl, hb0⟩
  replace x0 := kept_cell hb0 x0
  replace x1 := kept_cell hb0 x1
  replace x2 := kept_cell hb0 x2
  replace x3 := kept_cell hb0 x3
  replace x4 := kept_cell hb0 x4
  replace hr := hr.next hb0
  clear hb0
  go_wp2_with fail
  refine (HF.out _).mono ?_
  rintro e w00 ⟨rfl, rfl⟩
  go_wp2_with fail
  go_region_held3 (fun W' => W'.cell? ⟨N, 0, none⟩ = some (.int .i64 (o : Int)) ∧ W'.cell? ⟨N, 1, none⟩ = some (.int .i64 kd) ∧ W'.cell? ⟨N, 2, none⟩ = some (.int .i64 ar) ∧ W'.cell? ⟨N, 3, none⟩ = some (.int .i64 pl) ∧ W'.cell? ⟨N, 4, none⟩ = some (.int .i64 n) ∧ Keep N w W') (go_keep)
    (first
      | (go_at_call 24; have hS := ‹_ ∧ _ ∧ _ ∧ _ ∧ _ ∧ Keep _ _ _›; (with_reducible refine (HN.out _).mono ?_); rintro e w1 ⟨rfl, hb1⟩; have y0 := kept_cell hb1 hS.1; have y1 := kept_cell hb1 hS.2.1; have y2 := kept_cell hb1 hS.2.2.1; have y3 := kept_cell hb1 hS.2.2.2.1; have y4 := kept_cell hb1 hS.2.2.2.2.1; have hr1 := hS.2.2.2.2.2.next hb1)
      | (go_at_call 25; have hS := ‹_ ∧ _ ∧ _ ∧ _ ∧ _ ∧ Keep _ _ _›; (with_reducible refine (HO.out _ (Keep.env hS.2.2.2.2.2)).mono ?_); rintro e w1 ⟨rfl, hb1⟩; have y0 := kept_cell hb1 hS.1; have y1 := kept_cell hb1 hS.2.1; have y2 := kept_cell hb1 hS.2.2.1; have y3 := kept_cell hb1 hS.2.2.2.1; have y4 := kept_cell hb1 hS.2.2.2.2.1; have hr1 := hS.2.2.2.2.2.next hb1)
    )
  all_goals
    go_wp2
    go_ret
    exact ⟨rfl, by rw [hN]; exact hr1.1.1⟩

set_option maxRecDepth 100000 in
set_option maxHeartbeats 8000000 in
theorem cSpell_op3 (o : Nat) (ho : o < 37) (kd ar pl n : Int) (hn64 : I64 n) (HA : ∃ a : Bs, a.length ≤ 30 ∧ spellW ⟨(o : Int), kd, ar, pl, n⟩ = [opName (o : Int), a] ∧ ∀ W, Env W → Calls Tryz.prog 25 #[.agg #[.int .i64 (o : Int), .int .i64 kd, .int .i64 ar, .int .i64 pl, .int .i64 n]] W (Tells (.string (S a)) W)) (h : rightI ⟨(o : Int), kd, ar, pl, n⟩ = true) (hf : formI (o : Int) = 3) (w : World) (hE : Env w) : Calls Tryz.prog 10 #[insV ⟨(o : Int), kd, ar, pl, n⟩] w (Tells (.string (S (spellL ⟨(o : Int), kd, ar, pl, n⟩))) w) := by
  have HR := Lib.hid (fun W => cRight_any ⟨(o : Int), kd, ar, pl, n⟩ hn64 W)
  have HF := Lib.hid (fun W => cForm_any (o : Int) W)
  have HN := Lib.hid (fun W => cNameOf_any o ho W)
  have HE := Lib.hid hE
  rw [h] at HR
  rw [hf] at HF
  have hnl : (opName (o : Int)).length ≤ 5 := by unfold opName; rw [Int.toNat_natCast]; exact name_len ⟨o, ho⟩
  obtain ⟨a, hal, hao, HO⟩ := HA
  obtain ⟨t1, e1, l1, m1⟩ := glue (p := S (opName (o : Int))) (q := ⟨#[32]⟩) (b := [32]) 5 1 rfl rfl hnl (by decide) (by decide)
  obtain ⟨t2, e2, l2, m2⟩ := glue (q := S a) (b := a) 6 30 e1 rfl l1 hal (by decide)
  have hv : S (spellL ⟨(o : Int), kd, ar, pl, n⟩) = t2 := by
    rw [e2]
    congr 1
    unfold spellL
    rw [h, if_pos rfl]
    rw [hao]
    simp [joinW]
  rw [hv]
  clear hv h hf hE hnl e1 l1 e2 l2
  generalize S (opName (o : Int)) = nm at *
  replace HO := Lib.hid HO
  clear hal hao
  generalize hsa : S a = sa at *
  unfold insV at HR
  obtain ⟨x0, x1, x2, x3, x4⟩ := (box5 w ⟨(o : Int), kd, ar, pl, n⟩ 34).1
  dsimp only at x0 x1 x2 x3 x4
  have hr := keep_box w HE.out #[.int .i64 (o : Int), .int .i64 kd, .int .i64 ar, .int .i64 pl, .int .i64 n] 34
  unfold insV
  go_enter Tryz.func10, Tryz.ntmps10
  go_wp2_with fail
  generalize w.alloc (.cells #[.int .i64 (o : Int), .int .i64 kd, .int .i64 ar, .int .i64 pl, .int .i64 n] 34) = W at *
  generalize hN : w.heap.size = N at *
  refine (HR.out _).mono ?_
  rintro e w0 ⟨rfl, hb0⟩
  replace x0 := kept_cell hb0 x0
  replace x1 := kept_cell hb0 x1
  replace x2 := kept_cell hb0 x2
  replace x3 := kept_cell hb0 x3
  replace x4 := kept_cell hb0 x4
  replace hr := hr.next hb0
  clear hb0
  go_wp2_with fail
  refine (HF.out _).mono ?_
  rintro e w00 ⟨rfl, rfl⟩
  go_wp2_with fail
  go_region_held3 (fun W' => W'.cell? ⟨N, 0, none⟩ = some (.int .i64 (o : Int)) ∧ W'.cell? ⟨N, 1, none⟩ = some (.int .i64 kd) ∧ W'.cell? ⟨N, 2, none⟩ = some (.int .i64 ar) ∧ W'.cell? ⟨N, 3, none⟩ = some (.int .i64 pl) ∧ W'.cell? ⟨N, 4, none⟩ = some (.int .i64 n) ∧ Keep N w W') (go_keep)
    (first
      | (go_at_call 24; have hS := ‹_ ∧ _ ∧ _ ∧ _ ∧ _ ∧ Keep _ _ _›; (with_reducible refine (HN.out _).mono ?_); rintro e w1 ⟨rfl, hb1⟩; have y0 := kept_cell hb1 hS.1; have y1 := kept_cell hb1 hS.2.1; have y2 := kept_cell hb1 hS.2.2.1; have y3 := kept_cell hb1 hS.2.2.2.1; have y4 := kept_cell hb1 hS.2.2.2.2.1; have hr1 := hS.2.2.2.2.2.next hb1)
      | (go_at_call 25; have hS := ‹_ ∧ _ ∧ _ ∧ _ ∧ _ ∧ Keep _ _ _›; (with_reducible refine (HO.out _ (Keep.env hS.2.2.2.2.2)).mono ?_); rintro e w1 ⟨rfl, hb1⟩; have y0 := kept_cell hb1 hS.1; have y1 := kept_cell hb1 hS.2.1; have y2 := kept_cell hb1 hS.2.2.1; have y3 := kept_cell hb1 hS.2.2.2.1; have y4 := kept_cell hb1 hS.2.2.2.2.1; have hr1 := hS.2.2.2.2.2.next hb1)
    )
  all_goals
    go_wp2
    go_ret
    exact ⟨rfl, by rw [hN]; exact hr1.1.1⟩

set_option maxRecDepth 100000 in
set_option maxHeartbeats 8000000 in
theorem cSpell_jump (o : Nat) (ho : o < 37) (pl : Int) (h0 : 0 ≤ pl) (h1 : pl ≤ 200) (hw : spellW ⟨(o : Int), 0, 0, pl, 0⟩ = [opName (o : Int), 76 :: Lib.decDigits pl.toNat]) (h : rightI ⟨(o : Int), 0, 0, pl, 0⟩ = true) (hf : formI (o : Int) = 4) (w : World) (hE : Env w) : Calls Tryz.prog 10 #[insV ⟨(o : Int), 0, 0, pl, 0⟩] w (Tells (.string (S (spellL ⟨(o : Int), 0, 0, pl, 0⟩))) w) := by
  have HR := Lib.hid (fun W => cRight_any ⟨(o : Int), 0, 0, pl, 0⟩ (by constructor <;> dsimp only <;> omega) W)
  have HF := Lib.hid (fun W => cForm_any (o : Int) W)
  have HN := Lib.hid (fun W => cNameOf_any o ho W)
  have HE := Lib.hid hE
  rw [h] at HR
  rw [hf] at HF
  have hnl : (opName (o : Int)).length ≤ 5 := by unfold opName; rw [Int.toNat_natCast]; exact name_len ⟨o, ho⟩
  have HL := Lib.hid (fun W hE => cLabel_any pl h0 (by omega) W hE)
  obtain ⟨t1, e1, l1, m1⟩ := glue (p := S (opName (o : Int))) (q := ⟨#[32]⟩) (b := [32]) 5 1 rfl rfl hnl (by decide) (by decide)
  obtain ⟨t2, e2, l2, m2⟩ := glue (q := S (76 :: Lib.decDigits pl.toNat)) (b := 76 :: Lib.decDigits pl.toNat) 6 20 e1 rfl l1 (by have := dec_len19 (u := pl.toNat) (by omega); simp; omega) (by decide)
  have hv : S (spellL ⟨(o : Int), 0, 0, pl, 0⟩) = t2 := by
    rw [e2]
    congr 1
    unfold spellL
    rw [h, if_pos rfl]
    rw [hw]
    simp [joinW]
  rw [hv]
  clear hv h hf hE hnl e1 l1 e2 l2
  generalize S (opName (o : Int)) = nm at *
  clear h0 h1 hw
  generalize S (76 :: Lib.decDigits pl.toNat) = sa at *
  unfold insV at HR
  obtain ⟨x0, x1, x2, x3, x4⟩ := (box5 w ⟨(o : Int), 0, 0, pl, 0⟩ 34).1
  dsimp only at x0 x1 x2 x3 x4
  have hr := keep_box w HE.out #[.int .i64 (o : Int), .int .i64 0, .int .i64 0, .int .i64 pl, .int .i64 0] 34
  unfold insV
  go_enter Tryz.func10, Tryz.ntmps10
  go_wp2_with fail
  generalize w.alloc (.cells #[.int .i64 (o : Int), .int .i64 0, .int .i64 0, .int .i64 pl, .int .i64 0] 34) = W at *
  generalize hN : w.heap.size = N at *
  refine (HR.out _).mono ?_
  rintro e w0 ⟨rfl, hb0⟩
  replace x0 := kept_cell hb0 x0
  replace x1 := kept_cell hb0 x1
  replace x2 := kept_cell hb0 x2
  replace x3 := kept_cell hb0 x3
  replace x4 := kept_cell hb0 x4
  replace hr := hr.next hb0
  clear hb0
  go_wp2_with fail
  refine (HF.out _).mono ?_
  rintro e w00 ⟨rfl, rfl⟩
  go_wp2_with fail
  go_region_held3 (fun W' => W'.cell? ⟨N, 0, none⟩ = some (.int .i64 (o : Int)) ∧ W'.cell? ⟨N, 1, none⟩ = some (.int .i64 0) ∧ W'.cell? ⟨N, 2, none⟩ = some (.int .i64 0) ∧ W'.cell? ⟨N, 3, none⟩ = some (.int .i64 pl) ∧ W'.cell? ⟨N, 4, none⟩ = some (.int .i64 0) ∧ Keep N w W') (go_keep)
    (first
      | (go_at_call 24; have hS := ‹_ ∧ _ ∧ _ ∧ _ ∧ _ ∧ Keep _ _ _›; (with_reducible refine (HN.out _).mono ?_); rintro e w1 ⟨rfl, hb1⟩; have y0 := kept_cell hb1 hS.1; have y1 := kept_cell hb1 hS.2.1; have y2 := kept_cell hb1 hS.2.2.1; have y3 := kept_cell hb1 hS.2.2.2.1; have y4 := kept_cell hb1 hS.2.2.2.2.1; have hr1 := hS.2.2.2.2.2.next hb1)
      | (go_at_call 14; have hS := ‹_ ∧ _ ∧ _ ∧ _ ∧ _ ∧ Keep _ _ _›; (with_reducible refine (HL.out _ (Keep.env hS.2.2.2.2.2)).mono ?_); rintro e w1 ⟨rfl, hb1⟩; have y0 := kept_cell hb1 hS.1; have y1 := kept_cell hb1 hS.2.1; have y2 := kept_cell hb1 hS.2.2.1; have y3 := kept_cell hb1 hS.2.2.2.1; have y4 := kept_cell hb1 hS.2.2.2.2.1; have hr1 := hS.2.2.2.2.2.next hb1)
    )
  all_goals
    go_wp2
    go_ret
    exact ⟨rfl, by rw [hN]; exact hr1.1.1⟩

set_option maxRecDepth 100000 in
set_option maxHeartbeats 8000000 in
theorem cSpell_conv (o : Nat) (ho : o < 37) (kd : Int) (hw : spellW ⟨(o : Int), kd, 0, 0, 0⟩ = [opName (o : Int), nmI kd]) (h : rightI ⟨(o : Int), kd, 0, 0, 0⟩ = true) (hf : formI (o : Int) = 5) (w : World) (hE : Env w) : Calls Tryz.prog 10 #[insV ⟨(o : Int), kd, 0, 0, 0⟩] w (Tells (.string (S (spellL ⟨(o : Int), kd, 0, 0, 0⟩))) w) := by
  have HR := Lib.hid (fun W => cRight_any ⟨(o : Int), kd, 0, 0, 0⟩ (by constructor <;> dsimp only <;> omega) W)
  have HF := Lib.hid (fun W => cForm_any (o : Int) W)
  have HN := Lib.hid (fun W => cNameOf_any o ho W)
  have HE := Lib.hid hE
  rw [h] at HR
  rw [hf] at HF
  have hnl : (opName (o : Int)).length ≤ 5 := by unfold opName; rw [Int.toNat_natCast]; exact name_len ⟨o, ho⟩
  have HK := Lib.hid (fun W => cName_any kd W)
  obtain ⟨t1, e1, l1, m1⟩ := glue (p := S (opName (o : Int))) (q := ⟨#[32]⟩) (b := [32]) 5 1 rfl rfl hnl (by decide) (by decide)
  obtain ⟨t2, e2, l2, m2⟩ := glue (q := nameI kd) (b := nmI kd) 6 5 e1 (kind_S kd) l1 (kind_len kd) (by decide)
  have hv : S (spellL ⟨(o : Int), kd, 0, 0, 0⟩) = t2 := by
    rw [e2]
    congr 1
    unfold spellL
    rw [h, if_pos rfl]
    rw [hw]
    simp [joinW]
  rw [hv]
  clear hv h hf hE hnl e1 l1 e2 l2
  generalize S (opName (o : Int)) = nm at *
  clear hw
  generalize nameI kd = sa at *
  unfold insV at HR
  obtain ⟨x0, x1, x2, x3, x4⟩ := (box5 w ⟨(o : Int), kd, 0, 0, 0⟩ 34).1
  dsimp only at x0 x1 x2 x3 x4
  have hr := keep_box w HE.out #[.int .i64 (o : Int), .int .i64 kd, .int .i64 0, .int .i64 0, .int .i64 0] 34
  unfold insV
  go_enter Tryz.func10, Tryz.ntmps10
  go_wp2_with fail
  generalize w.alloc (.cells #[.int .i64 (o : Int), .int .i64 kd, .int .i64 0, .int .i64 0, .int .i64 0] 34) = W at *
  generalize hN : w.heap.size = N at *
  refine (HR.out _).mono ?_
  rintro e w0 ⟨rfl, hb0⟩
  replace x0 := kept_cell hb0 x0
  replace x1 := kept_cell hb0 x1
  replace x2 := kept_cell hb0 x2
  replace x3 := kept_cell hb0 x3
  replace x4 := kept_cell hb0 x4
  replace hr := hr.next hb0
  clear hb0
  go_wp2_with fail
  refine (HF.out _).mono ?_
  rintro e w00 ⟨rfl, rfl⟩
  go_wp2_with fail
  go_region_held3 (fun W' => W'.cell? ⟨N, 0, none⟩ = some (.int .i64 (o : Int)) ∧ W'.cell? ⟨N, 1, none⟩ = some (.int .i64 kd) ∧ W'.cell? ⟨N, 2, none⟩ = some (.int .i64 0) ∧ W'.cell? ⟨N, 3, none⟩ = some (.int .i64 0) ∧ W'.cell? ⟨N, 4, none⟩ = some (.int .i64 0) ∧ Keep N w W') (go_keep)
    (first
      | (go_at_call 24; have hS := ‹_ ∧ _ ∧ _ ∧ _ ∧ _ ∧ Keep _ _ _›; (with_reducible refine (HN.out _).mono ?_); rintro e w1 ⟨rfl, hb1⟩; have y0 := kept_cell hb1 hS.1; have y1 := kept_cell hb1 hS.2.1; have y2 := kept_cell hb1 hS.2.2.1; have y3 := kept_cell hb1 hS.2.2.2.1; have y4 := kept_cell hb1 hS.2.2.2.2.1; have hr1 := hS.2.2.2.2.2.next hb1)
      | (go_at_call 26; have hS := ‹_ ∧ _ ∧ _ ∧ _ ∧ _ ∧ Keep _ _ _›; (with_reducible refine (HK.out _).mono ?_); rintro e w1 ⟨rfl, hb1⟩; have y0 := kept_cell hb1 hS.1; have y1 := kept_cell hb1 hS.2.1; have y2 := kept_cell hb1 hS.2.2.1; have y3 := kept_cell hb1 hS.2.2.2.1; have y4 := kept_cell hb1 hS.2.2.2.2.1; have hr1 := hS.2.2.2.2.2.next hb1)
    )
  all_goals
    go_wp2
    go_ret
    exact ⟨rfl, by rw [hN]; exact hr1.1.1⟩

set_option maxRecDepth 100000 in
set_option maxHeartbeats 8000000 in
theorem cSpell_timer (o : Nat) (ho : o < 37) (ar pl n : Int) (h3 : 3 ≤ ar) (h4 : ar ≤ 4) (h0 : 0 ≤ pl) (h1 : pl ≤ 63) (hn : 1 ≤ n) (hm : n ≤ 9999) (hw : spellW ⟨(o : Int), 0, ar, pl, n⟩ = [opName (o : Int), areaL ar pl ++ 44 :: Lib.itoa n]) (h : rightI ⟨(o : Int), 0, ar, pl, n⟩ = true) (hf : formI (o : Int) = 7) (w : World) (hE : Env w) : Calls Tryz.prog 10 #[insV ⟨(o : Int), 0, ar, pl, n⟩] w (Tells (.string (S (spellL ⟨(o : Int), 0, ar, pl, n⟩))) w) := by
  have HR := Lib.hid (fun W => cRight_any ⟨(o : Int), 0, ar, pl, n⟩ (by constructor <;> dsimp only <;> omega) W)
  have HF := Lib.hid (fun W => cForm_any (o : Int) W)
  have HN := Lib.hid (fun W => cNameOf_any o ho W)
  have HE := Lib.hid hE
  rw [h] at HR
  rw [hf] at HF
  have hnl : (opName (o : Int)).length ≤ 5 := by unfold opName; rw [Int.toNat_natCast]; exact name_len ⟨o, ho⟩
  have HP : Hid (∀ W, Env W → Calls Tryz.prog 27 #[.agg #[.int .i64 (o : Int), .int .i64 0, .int .i64 ar, .int .i64 pl, .int .i64 n]] W (Tells (.string (S (areaL ar pl))) W)) := fun W hE => cSpot_any ⟨(o : Int), 0, ar, pl, n⟩ (by dsimp only; omega) h4 h0 (by dsimp only; omega) W hE
  have HI := Lib.hid (fun W hE => cFormat n ⟨by omega, by omega⟩ W hE)
  obtain ⟨t1, e1, l1, m1⟩ := glue (p := S (opName (o : Int))) (q := ⟨#[32]⟩) (b := [32]) 5 1 rfl rfl hnl (by decide) (by decide)
  obtain ⟨t2, e2, l2, m2⟩ := glue (q := S (areaL ar pl)) (b := areaL ar pl) 6 21 e1 rfl l1 (area_len ar pl (by omega)) (by decide)
  obtain ⟨t3, e3, l3, m3⟩ := glue (q := ⟨#[44]⟩) (b := [44]) 27 1 e2 rfl l2 (by decide) (by decide)
  obtain ⟨t4, e4, l4, m4⟩ := glue (q := S (Lib.itoa n)) (b := Lib.itoa n) 28 20 e3 rfl l3 (itoa_len n (by omega) (by omega)) (by decide)
  have hv : S (spellL ⟨(o : Int), 0, ar, pl, n⟩) = t4 := by
    rw [e4]
    congr 1
    unfold spellL
    rw [h, if_pos rfl]
    rw [hw]
    simp [joinW]
  rw [hv]
  clear hv h hf hE hnl e1 l1 e2 l2 e3 l3 e4 l4
  generalize S (opName (o : Int)) = nm at *
  clear h3 h4 h0 h1 hn hm hw
  generalize S (areaL ar pl) = sa at *
  generalize S (Lib.itoa n) = sb at *
  unfold insV at HR
  obtain ⟨x0, x1, x2, x3, x4⟩ := (box5 w ⟨(o : Int), 0, ar, pl, n⟩ 34).1
  dsimp only at x0 x1 x2 x3 x4
  have hr := keep_box w HE.out #[.int .i64 (o : Int), .int .i64 0, .int .i64 ar, .int .i64 pl, .int .i64 n] 34
  unfold insV
  go_enter Tryz.func10, Tryz.ntmps10
  go_wp2_with fail
  generalize w.alloc (.cells #[.int .i64 (o : Int), .int .i64 0, .int .i64 ar, .int .i64 pl, .int .i64 n] 34) = W at *
  generalize hN : w.heap.size = N at *
  refine (HR.out _).mono ?_
  rintro e w0 ⟨rfl, hb0⟩
  replace x0 := kept_cell hb0 x0
  replace x1 := kept_cell hb0 x1
  replace x2 := kept_cell hb0 x2
  replace x3 := kept_cell hb0 x3
  replace x4 := kept_cell hb0 x4
  replace hr := hr.next hb0
  clear hb0
  go_wp2_with fail
  refine (HF.out _).mono ?_
  rintro e w00 ⟨rfl, rfl⟩
  go_wp2_with fail
  go_region_held3 (fun W' => W'.cell? ⟨N, 0, none⟩ = some (.int .i64 (o : Int)) ∧ W'.cell? ⟨N, 1, none⟩ = some (.int .i64 0) ∧ W'.cell? ⟨N, 2, none⟩ = some (.int .i64 ar) ∧ W'.cell? ⟨N, 3, none⟩ = some (.int .i64 pl) ∧ W'.cell? ⟨N, 4, none⟩ = some (.int .i64 n) ∧ Keep N w W') (go_keep)
    (first
      | (go_at_call 24; have hS := ‹_ ∧ _ ∧ _ ∧ _ ∧ _ ∧ Keep _ _ _›; (with_reducible refine (HN.out _).mono ?_); rintro e w1 ⟨rfl, hb1⟩; have y0 := kept_cell hb1 hS.1; have y1 := kept_cell hb1 hS.2.1; have y2 := kept_cell hb1 hS.2.2.1; have y3 := kept_cell hb1 hS.2.2.2.1; have y4 := kept_cell hb1 hS.2.2.2.2.1; have hr1 := hS.2.2.2.2.2.next hb1)
      | (go_at_call 27; have hS := ‹_ ∧ _ ∧ _ ∧ _ ∧ _ ∧ Keep _ _ _›; (with_reducible refine (HP.out _ (Keep.env hS.2.2.2.2.2)).mono ?_); rintro e w1 ⟨rfl, hb1⟩; have y0 := kept_cell hb1 hS.1; have y1 := kept_cell hb1 hS.2.1; have y2 := kept_cell hb1 hS.2.2.1; have y3 := kept_cell hb1 hS.2.2.2.1; have y4 := kept_cell hb1 hS.2.2.2.2.1; have hr1 := hS.2.2.2.2.2.next hb1)
      | (go_at_call 28; have hS := ‹_ ∧ _ ∧ _ ∧ _ ∧ _ ∧ Keep _ _ _›; (with_reducible refine (HI.out _ (Keep.env hS.2.2.2.2.2)).mono ?_); rintro e w1 ⟨rfl, hb1⟩; have y0 := kept_cell hb1 hS.1; have y1 := kept_cell hb1 hS.2.1; have y2 := kept_cell hb1 hS.2.2.1; have y3 := kept_cell hb1 hS.2.2.2.1; have y4 := kept_cell hb1 hS.2.2.2.2.1; have hr1 := hS.2.2.2.2.2.next hb1)
    )
  all_goals
    go_wp2
    go_ret
    exact ⟨rfl, by rw [hN]; exact hr1.1.1⟩

set_option maxRecDepth 100000 in
set_option maxHeartbeats 8000000 in
theorem cSpell_trig (o : Nat) (ho : o < 37) (ar pl : Int) (h3 : 3 ≤ ar) (h4 : ar ≤ 4) (h0 : 0 ≤ pl) (h1 : pl ≤ 63) (hw : spellW ⟨(o : Int), 0, ar, pl, 0⟩ = [opName (o : Int), areaL ar pl]) (h : rightI ⟨(o : Int), 0, ar, pl, 0⟩ = true) (hf : formI (o : Int) = 8) (w : World) (hE : Env w) : Calls Tryz.prog 10 #[insV ⟨(o : Int), 0, ar, pl, 0⟩] w (Tells (.string (S (spellL ⟨(o : Int), 0, ar, pl, 0⟩))) w) := by
  have HR := Lib.hid (fun W => cRight_any ⟨(o : Int), 0, ar, pl, 0⟩ (by constructor <;> dsimp only <;> omega) W)
  have HF := Lib.hid (fun W => cForm_any (o : Int) W)
  have HN := Lib.hid (fun W => cNameOf_any o ho W)
  have HE := Lib.hid hE
  rw [h] at HR
  rw [hf] at HF
  have hnl : (opName (o : Int)).length ≤ 5 := by unfold opName; rw [Int.toNat_natCast]; exact name_len ⟨o, ho⟩
  have HP : Hid (∀ W, Env W → Calls Tryz.prog 27 #[.agg #[.int .i64 (o : Int), .int .i64 0, .int .i64 ar, .int .i64 pl, .int .i64 0]] W (Tells (.string (S (areaL ar pl))) W)) := fun W hE => cSpot_any ⟨(o : Int), 0, ar, pl, 0⟩ (by dsimp only; omega) h4 h0 (by dsimp only; omega) W hE
  obtain ⟨t1, e1, l1, m1⟩ := glue (p := S (opName (o : Int))) (q := ⟨#[32]⟩) (b := [32]) 5 1 rfl rfl hnl (by decide) (by decide)
  obtain ⟨t2, e2, l2, m2⟩ := glue (q := S (areaL ar pl)) (b := areaL ar pl) 6 21 e1 rfl l1 (area_len ar pl (by omega)) (by decide)
  have hv : S (spellL ⟨(o : Int), 0, ar, pl, 0⟩) = t2 := by
    rw [e2]
    congr 1
    unfold spellL
    rw [h, if_pos rfl]
    rw [hw]
    simp [joinW]
  rw [hv]
  clear hv h hf hE hnl e1 l1 e2 l2
  generalize S (opName (o : Int)) = nm at *
  clear h3 h4 h0 h1 hw
  generalize S (areaL ar pl) = sa at *
  unfold insV at HR
  obtain ⟨x0, x1, x2, x3, x4⟩ := (box5 w ⟨(o : Int), 0, ar, pl, 0⟩ 34).1
  dsimp only at x0 x1 x2 x3 x4
  have hr := keep_box w HE.out #[.int .i64 (o : Int), .int .i64 0, .int .i64 ar, .int .i64 pl, .int .i64 0] 34
  unfold insV
  go_enter Tryz.func10, Tryz.ntmps10
  go_wp2_with fail
  generalize w.alloc (.cells #[.int .i64 (o : Int), .int .i64 0, .int .i64 ar, .int .i64 pl, .int .i64 0] 34) = W at *
  generalize hN : w.heap.size = N at *
  refine (HR.out _).mono ?_
  rintro e w0 ⟨rfl, hb0⟩
  replace x0 := kept_cell hb0 x0
  replace x1 := kept_cell hb0 x1
  replace x2 := kept_cell hb0 x2
  replace x3 := kept_cell hb0 x3
  replace x4 := kept_cell hb0 x4
  replace hr := hr.next hb0
  clear hb0
  go_wp2_with fail
  refine (HF.out _).mono ?_
  rintro e w00 ⟨rfl, rfl⟩
  go_wp2_with fail
  go_region_held3 (fun W' => W'.cell? ⟨N, 0, none⟩ = some (.int .i64 (o : Int)) ∧ W'.cell? ⟨N, 1, none⟩ = some (.int .i64 0) ∧ W'.cell? ⟨N, 2, none⟩ = some (.int .i64 ar) ∧ W'.cell? ⟨N, 3, none⟩ = some (.int .i64 pl) ∧ W'.cell? ⟨N, 4, none⟩ = some (.int .i64 0) ∧ Keep N w W') (go_keep)
    (first
      | (go_at_call 24; have hS := ‹_ ∧ _ ∧ _ ∧ _ ∧ _ ∧ Keep _ _ _›; (with_reducible refine (HN.out _).mono ?_); rintro e w1 ⟨rfl, hb1⟩; have y0 := kept_cell hb1 hS.1; have y1 := kept_cell hb1 hS.2.1; have y2 := kept_cell hb1 hS.2.2.1; have y3 := kept_cell hb1 hS.2.2.2.1; have y4 := kept_cell hb1 hS.2.2.2.2.1; have hr1 := hS.2.2.2.2.2.next hb1)
      | (go_at_call 27; have hS := ‹_ ∧ _ ∧ _ ∧ _ ∧ _ ∧ Keep _ _ _›; (with_reducible refine (HP.out _ (Keep.env hS.2.2.2.2.2)).mono ?_); rintro e w1 ⟨rfl, hb1⟩; have y0 := kept_cell hb1 hS.1; have y1 := kept_cell hb1 hS.2.1; have y2 := kept_cell hb1 hS.2.2.1; have y3 := kept_cell hb1 hS.2.2.2.1; have y4 := kept_cell hb1 hS.2.2.2.2.1; have hr1 := hS.2.2.2.2.2.next hb1)
    )
  all_goals
    go_wp2
    go_ret
    exact ⟨rfl, by rw [hN]; exact hr1.1.1⟩

end Go.Proofs.YtpnjhodpbjhmcaaGreatDoor.Il
