/-
  The reference's place of an area, walked. Conditions: numbers that may be.
-/
import Derived.Test.YtpnjhodpbjhmcaaGreatDoorIlRu
import Derived.Test.YtpnjhodpbjhmcaaGreatDoorIlDig
import Derived.Deep.RegionHeldLaw
import Derived.Deep.RegionHeld3
namespace Go.Proofs.YtpnjhodpbjhmcaaGreatDoor.Il
open Go.RowKit
open Go.Proofs.YtpnjhodpbjhmcaaGreatDoor.Ic

set_option maxRecDepth 100000 in
set_option maxHeartbeats 4000000 in
theorem rarea_any (i : In) (h1 : 1 ≤ i.ar) (h4 : i.ar ≤ 4) (h0 : 0 ≤ i.pl) (h99 : i.pl ≤ 99) (w : World) : Calls Tryz.prog 43 #[insV i] w (Tells (.string (S (areaL i.ar i.pl))) w) := by
  obtain ⟨op, kd, ar, pl, n⟩ := i
  dsimp only at h1 h4 h0 h99 ⊢
  have HD := Lib.hid (fun W => rdig_any pl.toNat (by omega) W)
  have e0 : ((pl.toNat : Nat) : Int) = pl := by omega
  rw [e0] at HD
  have hl := dec_len19 (u := pl.toNat) (by omega)
  have hb := one_box w #[.int .i64 op, .int .i64 kd, .int .i64 ar, .int .i64 pl, .int .i64 n] 34
  clear e0
  have h3 : ∀ (c : UInt8), letA ar = c → ∀ W, (Op.stringOp .add (S [37, c]) (S (Lib.decDigits pl.toNat))).run Tryz.prog W = .ok (.string (S (areaL ar pl))) W := fun c hc W => by
    have := sadd [37, c] (Lib.decDigits pl.toNat) (by simp; omega) W
    unfold areaL
    rw [hc]
    exact this
  have h2 : ∀ (k j : Nat) (c : UInt8), (⟨#[63, 73, 81, 77, 82]⟩ : ByteArray).extract k j = S [c] → ∀ W, (Op.stringOp .add (⟨#[37]⟩ : ByteArray) ((⟨#[63, 73, 81, 77, 82]⟩ : ByteArray).extract k j)).run Tryz.prog W = .ok (.string (S [37, c])) W := fun k j c hc W => by
    rw [hc]
    exact sadd [37] [c] (by simp) W
  generalize S (areaL ar pl) = r at *
  generalize Lib.decDigits pl.toNat = t at *
  unfold insV
  rcases (show ar = 1 ∨ ar = 2 ∨ ar = 3 ∨ ar = 4 by omega) with rfl | rfl | rfl | rfl
  · have e5 : IntKind.i64.wrap 2 = 2 := by rw [IntKind.wrap_i64]; omega
    have g2 := h2 1 2 73 (by decide)
    have g3 := h3 73 (by decide)
    clear h2 h3 hl
    generalize S [37, 73] = s1 at *
    go_enter Tryz.func43, Tryz.ntmps43
    go_wp2_with fail
    have x2 := hb.1 2 (.int .i64 1) rfl
    have x3 := hb.1 3 (.int .i64 pl) rfl
    have hr := hb.2
    clear hb
    generalize w.alloc (.cells #[.int .i64 op, .int .i64 kd, .int .i64 1, .int .i64 pl, .int .i64 n] 34) = W at *
    generalize hN : w.heap.size = N at *
    go_region_held3 (fun W' => W'.cell? ⟨N, 2, none⟩ = some (.int .i64 1) ∧ W'.cell? ⟨N, 3, none⟩ = some (.int .i64 pl) ∧ Next N w W') (go_keep)
      (first | (go_at_call 17; have hS := ‹_ ∧ _ ∧ Next _ _ _›; refine (HD.out _).mono ?_; rintro e w1 ⟨rfl, hb1⟩; have y2 := kept_cell hb1 hS.1; have y3 := kept_cell hb1 hS.2.1; have hr1 := hS.2.2.next hb1))
    clear x2 x3 y2 y3 hS hr
    go_wp2
    go_ret
    exact ⟨rfl, by rw [hN]; exact hr1.1⟩
  · have e5 : IntKind.i64.wrap 3 = 3 := by rw [IntKind.wrap_i64]; omega
    have g2 := h2 2 3 81 (by decide)
    have g3 := h3 81 (by decide)
    clear h2 h3 hl
    generalize S [37, 81] = s1 at *
    go_enter Tryz.func43, Tryz.ntmps43
    go_wp2_with fail
    have x2 := hb.1 2 (.int .i64 2) rfl
    have x3 := hb.1 3 (.int .i64 pl) rfl
    have hr := hb.2
    clear hb
    generalize w.alloc (.cells #[.int .i64 op, .int .i64 kd, .int .i64 2, .int .i64 pl, .int .i64 n] 34) = W at *
    generalize hN : w.heap.size = N at *
    go_region_held3 (fun W' => W'.cell? ⟨N, 2, none⟩ = some (.int .i64 2) ∧ W'.cell? ⟨N, 3, none⟩ = some (.int .i64 pl) ∧ Next N w W') (go_keep)
      (first | (go_at_call 17; have hS := ‹_ ∧ _ ∧ Next _ _ _›; refine (HD.out _).mono ?_; rintro e w1 ⟨rfl, hb1⟩; have y2 := kept_cell hb1 hS.1; have y3 := kept_cell hb1 hS.2.1; have hr1 := hS.2.2.next hb1))
    clear x2 x3 y2 y3 hS hr
    go_wp2
    go_ret
    exact ⟨rfl, by rw [hN]; exact hr1.1⟩
  · have e5 : IntKind.i64.wrap 4 = 4 := by rw [IntKind.wrap_i64]; omega
    have g2 := h2 3 4 77 (by decide)
    have g3 := h3 77 (by decide)
    clear h2 h3 hl
    generalize S [37, 77] = s1 at *
    go_enter Tryz.func43, Tryz.ntmps43
    go_wp2_with fail
    have x2 := hb.1 2 (.int .i64 3) rfl
    have x3 := hb.1 3 (.int .i64 pl) rfl
    have hr := hb.2
    clear hb
    generalize w.alloc (.cells #[.int .i64 op, .int .i64 kd, .int .i64 3, .int .i64 pl, .int .i64 n] 34) = W at *
    generalize hN : w.heap.size = N at *
    go_region_held3 (fun W' => W'.cell? ⟨N, 2, none⟩ = some (.int .i64 3) ∧ W'.cell? ⟨N, 3, none⟩ = some (.int .i64 pl) ∧ Next N w W') (go_keep)
      (first | (go_at_call 17; have hS := ‹_ ∧ _ ∧ Next _ _ _›; refine (HD.out _).mono ?_; rintro e w1 ⟨rfl, hb1⟩; have y2 := kept_cell hb1 hS.1; have y3 := kept_cell hb1 hS.2.1; have hr1 := hS.2.2.next hb1))
    clear x2 x3 y2 y3 hS hr
    go_wp2
    go_ret
    exact ⟨rfl, by rw [hN]; exact hr1.1⟩
  · have e5 : IntKind.i64.wrap 5 = 5 := by rw [IntKind.wrap_i64]; omega
    have g2 := h2 4 5 82 (by decide)
    have g3 := h3 82 (by decide)
    clear h2 h3 hl
    generalize S [37, 82] = s1 at *
    go_enter Tryz.func43, Tryz.ntmps43
    go_wp2_with fail
    have x2 := hb.1 2 (.int .i64 4) rfl
    have x3 := hb.1 3 (.int .i64 pl) rfl
    have hr := hb.2
    clear hb
    generalize w.alloc (.cells #[.int .i64 op, .int .i64 kd, .int .i64 4, .int .i64 pl, .int .i64 n] 34) = W at *
    generalize hN : w.heap.size = N at *
    go_region_held3 (fun W' => W'.cell? ⟨N, 2, none⟩ = some (.int .i64 4) ∧ W'.cell? ⟨N, 3, none⟩ = some (.int .i64 pl) ∧ Next N w W') (go_keep)
      (first | (go_at_call 17; have hS := ‹_ ∧ _ ∧ Next _ _ _›; refine (HD.out _).mono ?_; rintro e w1 ⟨rfl, hb1⟩; have y2 := kept_cell hb1 hS.1; have y3 := kept_cell hb1 hS.2.1; have hr1 := hS.2.2.next hb1))
    clear x2 x3 y2 y3 hS hr
    go_wp2
    go_ret
    exact ⟨rfl, by rw [hN]; exact hr1.1⟩

end Go.Proofs.YtpnjhodpbjhmcaaGreatDoor.Il
