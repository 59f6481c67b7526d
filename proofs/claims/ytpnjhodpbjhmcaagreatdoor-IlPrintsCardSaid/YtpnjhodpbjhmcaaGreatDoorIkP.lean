/-
  The landed code's spot, label, operand, walked. Conditions: numbers that may be; the library's variables are as the program lays them.
-/
import Derived.Test.YtpnjhodpbjhmcaaGreatDoorIkE
import Derived.Test.YtpnjhodpbjhmcaaGreatDoorIkS
import Derived.Test.YtpnjhodpbjhmcaaGreatDoorIlSpg
import Derived.Deep.RegionHeldLaw
import Derived.Deep.RegionHeld3
namespace Go.Proofs.YtpnjhodpbjhmcaaGreatDoor.Il
open Go.RowKit
open Go.Proofs.YtpnjhodpbjhmcaaGreatDoor.Ic

theorem dec_itoa (pl : Int) (h0 : 0 ≤ pl) : Lib.itoa pl = Lib.decDigits pl.toNat := itoa_pos pl h0
theorem keep_box (w : World) (hE : Env w) (A : Array Value) (t : TypeId) : Keep w.heap.size w (w.alloc (.cells A t)) := ⟨(one_box w A t).2, hE.below ((Below.refl _ _).alloc (Nat.le_refl _) _)⟩

set_option maxRecDepth 100000 in
theorem cLabel_any (pl : Int) (h0 : 0 ≤ pl) (h1 : pl ≤ 1000000) (w : World) (hE : Env w) : Calls Tryz.prog 14 #[.int .i64 pl] w (Tells (.string (S (76 :: Lib.decDigits pl.toNat))) w) := by
  have HD := Lib.hid (fun W hE => cItoa pl ⟨by omega, by omega⟩ W hE)
  rw [dec_itoa pl h0] at HD
  have hadd := fun W => sadd [76] (Lib.decDigits pl.toNat) (by have := dec_len19 (u := pl.toNat) (by omega); simp; omega) W
  have HE := Lib.hid hE
  have HX := Lib.hid (show ([76] ++ Lib.decDigits pl.toNat : Bs) = 76 :: Lib.decDigits pl.toNat from rfl)
  rw [HX.out] at hadd
  clear hE h0 h1 HX
  generalize (76 :: Lib.decDigits pl.toNat) = s at *
  generalize Lib.decDigits pl.toNat = t at *
  replace hadd : ∀ W, (Op.stringOp .add (⟨#[76]⟩ : ByteArray) (S t)).run Tryz.prog W = .ok (.string (S s)) W := hadd
  go_enter Tryz.func14, Tryz.ntmps14
  go_wp2_with fail
  refine (HD.out _ HE.out).mono ?_
  rintro e w1 ⟨rfl, hb⟩
  go_wp2
  go_ret
  exact ⟨rfl, hb⟩

set_option maxRecDepth 100000 in
set_option maxHeartbeats 8000000 in
theorem cSpot_any (i : In) (h1 : 1 ≤ i.ar) (h4 : i.ar ≤ 4) (h0 : 0 ≤ i.pl) (h99 : i.pl ≤ 99) (w : World) (hE : Env w) : Calls Tryz.prog 27 #[insV i] w (Tells (.string (S (areaL i.ar i.pl))) w) := by
  obtain ⟨op, kd, ar, pl, n⟩ := i
  dsimp only at h1 h4 h0 h99 ⊢
  have HD := Lib.hid (fun W hE => cItoa pl ⟨by omega, by omega⟩ W hE)
  rw [dec_itoa pl h0] at HD
  have hl := dec_len19 (u := pl.toNat) (by omega)
  have hb := one_box w #[.int .i64 op, .int .i64 kd, .int .i64 ar, .int .i64 pl, .int .i64 n] 34
  have hk := keep_box w hE #[.int .i64 op, .int .i64 kd, .int .i64 ar, .int .i64 pl, .int .i64 n] 34
  have h3 : ∀ (c : UInt8), letA ar = c → ∀ W, (Op.stringOp .add (S [37, c]) (S (Lib.decDigits pl.toNat))).run Tryz.prog W = .ok (.string (S (areaL ar pl))) W := fun c hc W => by
    have := sadd [37, c] (Lib.decDigits pl.toNat) (by simp; omega) W
    unfold areaL
    rw [hc]
    exact this
  have h2 : ∀ (c : UInt8) W, (Op.stringOp .add (⟨#[37]⟩ : ByteArray) (S [c])).run Tryz.prog W = .ok (.string (S [37, c])) W := fun c W => sadd [37] [c] (by simp) W
  generalize S (areaL ar pl) = r at *
  generalize Lib.decDigits pl.toNat = t at *
  unfold insV
  clear hE
  rcases (show ar = 1 ∨ ar = 2 ∨ ar = 3 ∨ ar = 4 by omega) with rfl | rfl | rfl | rfl
  · have e5 : IntKind.i64.wrap 0 = 0 := by rw [IntKind.wrap_i64]; omega
    have g0 : ∀ h, (⟨#[73, 81, 77, 82]⟩ : ByteArray)[0]'h = 73 := fun _ => rfl
    have g1 : Utf8.encode 73 = (⟨#[73]⟩ : ByteArray) := by rfl
    have g2 : ∀ W, (Op.stringOp .add (⟨#[37]⟩ : ByteArray) (⟨#[73]⟩ : ByteArray)).run Tryz.prog W = .ok (.string (S [37, 73])) W := h2 73
    have g3 := h3 73 (by decide)
    clear h2 h3 hl
    generalize S [37, 73] = s1 at *
    go_enter Tryz.func27, Tryz.ntmps27
    go_wp2_with fail
    have x2 := hb.1 2 (.int .i64 1) rfl
    have x3 := hb.1 3 (.int .i64 pl) rfl
    have hr := hk
    clear hb hk
    generalize w.alloc (.cells #[.int .i64 op, .int .i64 kd, .int .i64 1, .int .i64 pl, .int .i64 n] 34) = W at *
    generalize hN : w.heap.size = N at *
    go_region_held3 (fun W' => W'.cell? ⟨N, 2, none⟩ = some (.int .i64 1) ∧ W'.cell? ⟨N, 3, none⟩ = some (.int .i64 pl) ∧ Keep N w W') (go_keep)
      (first | (go_at_call 35; have hS := ‹_ ∧ _ ∧ Keep _ _ _›; refine (HD.out _ hS.2.2.2).mono ?_; rintro e w1 ⟨rfl, hb1⟩; have y2 := kept_cell hb1 hS.1; have y3 := kept_cell hb1 hS.2.1; have hr1 := hS.2.2.next hb1))
    all_goals
      clear x2 x3 y2 y3 hS hr
      go_wp2
      go_ret
      exact ⟨rfl, by rw [hN]; exact hr1.1.1⟩
  · have e5 : IntKind.i64.wrap 1 = 1 := by rw [IntKind.wrap_i64]; omega
    have g0 : ∀ h, (⟨#[73, 81, 77, 82]⟩ : ByteArray)[1]'h = 81 := fun _ => rfl
    have g1 : Utf8.encode 81 = (⟨#[81]⟩ : ByteArray) := by rfl
    have g2 : ∀ W, (Op.stringOp .add (⟨#[37]⟩ : ByteArray) (⟨#[81]⟩ : ByteArray)).run Tryz.prog W = .ok (.string (S [37, 81])) W := h2 81
    have g3 := h3 81 (by decide)
    clear h2 h3 hl
    generalize S [37, 81] = s1 at *
    go_enter Tryz.func27, Tryz.ntmps27
    go_wp2_with fail
    have x2 := hb.1 2 (.int .i64 2) rfl
    have x3 := hb.1 3 (.int .i64 pl) rfl
    have hr := hk
    clear hb hk
    generalize w.alloc (.cells #[.int .i64 op, .int .i64 kd, .int .i64 2, .int .i64 pl, .int .i64 n] 34) = W at *
    generalize hN : w.heap.size = N at *
    go_region_held3 (fun W' => W'.cell? ⟨N, 2, none⟩ = some (.int .i64 2) ∧ W'.cell? ⟨N, 3, none⟩ = some (.int .i64 pl) ∧ Keep N w W') (go_keep)
      (first | (go_at_call 35; have hS := ‹_ ∧ _ ∧ Keep _ _ _›; refine (HD.out _ hS.2.2.2).mono ?_; rintro e w1 ⟨rfl, hb1⟩; have y2 := kept_cell hb1 hS.1; have y3 := kept_cell hb1 hS.2.1; have hr1 := hS.2.2.next hb1))
    all_goals
      clear x2 x3 y2 y3 hS hr
      go_wp2
      go_ret
      exact ⟨rfl, by rw [hN]; exact hr1.1.1⟩
  · have e5 : IntKind.i64.wrap 2 = 2 := by rw [IntKind.wrap_i64]; omega
    have g0 : ∀ h, (⟨#[73, 81, 77, 82]⟩ : ByteArray)[2]'h = 77 := fun _ => rfl
    have g1 : Utf8.encode 77 = (⟨#[77]⟩ : ByteArray) := by rfl
    have g2 : ∀ W, (Op.stringOp .add (⟨#[37]⟩ : ByteArray) (⟨#[77]⟩ : ByteArray)).run Tryz.prog W = .ok (.string (S [37, 77])) W := h2 77
    have g3 := h3 77 (by decide)
    clear h2 h3 hl
    generalize S [37, 77] = s1 at *
    go_enter Tryz.func27, Tryz.ntmps27
    go_wp2_with fail
    have x2 := hb.1 2 (.int .i64 3) rfl
    have x3 := hb.1 3 (.int .i64 pl) rfl
    have hr := hk
    clear hb hk
    generalize w.alloc (.cells #[.int .i64 op, .int .i64 kd, .int .i64 3, .int .i64 pl, .int .i64 n] 34) = W at *
    generalize hN : w.heap.size = N at *
    go_region_held3 (fun W' => W'.cell? ⟨N, 2, none⟩ = some (.int .i64 3) ∧ W'.cell? ⟨N, 3, none⟩ = some (.int .i64 pl) ∧ Keep N w W') (go_keep)
      (first | (go_at_call 35; have hS := ‹_ ∧ _ ∧ Keep _ _ _›; refine (HD.out _ hS.2.2.2).mono ?_; rintro e w1 ⟨rfl, hb1⟩; have y2 := kept_cell hb1 hS.1; have y3 := kept_cell hb1 hS.2.1; have hr1 := hS.2.2.next hb1))
    all_goals
      clear x2 x3 y2 y3 hS hr
      go_wp2
      go_ret
      exact ⟨rfl, by rw [hN]; exact hr1.1.1⟩
  · have e5 : IntKind.i64.wrap 3 = 3 := by rw [IntKind.wrap_i64]; omega
    have g0 : ∀ h, (⟨#[73, 81, 77, 82]⟩ : ByteArray)[3]'h = 82 := fun _ => rfl
    have g1 : Utf8.encode 82 = (⟨#[82]⟩ : ByteArray) := by rfl
    have g2 : ∀ W, (Op.stringOp .add (⟨#[37]⟩ : ByteArray) (⟨#[82]⟩ : ByteArray)).run Tryz.prog W = .ok (.string (S [37, 82])) W := h2 82
    have g3 := h3 82 (by decide)
    clear h2 h3 hl
    generalize S [37, 82] = s1 at *
    go_enter Tryz.func27, Tryz.ntmps27
    go_wp2_with fail
    have x2 := hb.1 2 (.int .i64 4) rfl
    have x3 := hb.1 3 (.int .i64 pl) rfl
    have hr := hk
    clear hb hk
    generalize w.alloc (.cells #[.int .i64 op, .int .i64 kd, .int .i64 4, .int .i64 pl, .int .i64 n] 34) = W at *
    generalize hN : w.heap.size = N at *
    go_region_held3 (fun W' => W'.cell? ⟨N, 2, none⟩ = some (.int .i64 4) ∧ W'.cell? ⟨N, 3, none⟩ = some (.int .i64 pl) ∧ Keep N w W') (go_keep)
      (first | (go_at_call 35; have hS := ‹_ ∧ _ ∧ Keep _ _ _›; refine (HD.out _ hS.2.2.2).mono ?_; rintro e w1 ⟨rfl, hb1⟩; have y2 := kept_cell hb1 hS.1; have y3 := kept_cell hb1 hS.2.1; have hr1 := hS.2.2.next hb1))
    all_goals
      clear x2 x3 y2 y3 hS hr
      go_wp2
      go_ret
      exact ⟨rfl, by rw [hN]; exact hr1.1.1⟩

end Go.Proofs.YtpnjhodpbjhmcaaGreatDoor.Il
