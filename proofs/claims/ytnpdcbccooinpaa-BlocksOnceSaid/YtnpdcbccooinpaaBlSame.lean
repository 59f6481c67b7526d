/-
  same, Parts, Piece, Cut, All: walked. Conditions: none.
-/
import Derived.Test.YtnpdcbccooinpaaBlOf
namespace Go.Proofs.Ytnpdcbccooinpaa.Bl
open Go.RowKit

theorem ints_at (l : List Int) (i : Nat) (h : i < l.length) : (ints l)[i]? = some (.int .i64 (l.getD i 0)) := by
  simp [ints, h]
theorem Row.cellAt {N : Nat} {w : World} {g cap : Nat} {l : List Int} (h : Row N w (.slice (some ⟨g, 0, none⟩) l.length cap) l) {i : Nat} (hi : i < l.length) : w.cell? ⟨g, i, none⟩ = some (.int .i64 (l.getD i 0)) :=
  (World.ownsRow.cellAt (show w.ownsRow N 3 1 _ l.length (ints l) from h) i (by omega)).trans (ints_at l i hi)

theorem below_drewN (W : World) (N n : Nat) : Below N W (W.drewN n) := ⟨rfl, rfl, rfl, Nat.le_refl _, fun _ _ => rfl⟩
set_option maxRecDepth 100000 in
set_option maxHeartbeats 4000000 in
/-- The same numbers, twice. -/
theorem same_any (N M : Nat) (v u : Value) (l : List Int) (w : World) (h1 : Row N w v l) (h2 : Row M w u l) (hm : l.length ≤ 40) : Calls Try.prog 11 #[v, u] w (Tells (.bool true) w) := by
  obtain ⟨A, c, rfl⟩ := own_form h1
  obtain ⟨B, d, rfl⟩ := own_form h2
  have H1 := Lib.hid h1
  have H2 := Lib.hid h2
  clear h1 h2
  go_enter Try.func11, Try.ntmps11
  go_wp2
  go_loopw [13] (fun i W => ∃ (k m : Nat), k ≤ l.length ∧ i = .int .i64 k ∧ W = w.drewN m) (fun i _ => l.length - (intOf i).toNat)
  case atStart => exact ⟨0, 0, Nat.zero_le _, rfl, rfl⟩
  case round =>
    obtain ⟨k, m, hk, rfl, rfl⟩ := hrel
    by_cases hlt : k < l.length
    · have e1 : decide ((k : Int) < l.length) = true := by simp; omega
      obtain ⟨g, rfl⟩ : ∃ g, A = some ⟨g, 0, none⟩ := by
        rcases H1.out.2 with ⟨h, h0⟩ | ⟨g', cap, cur, h, _⟩
        · injection h with _ h _; omega
        · injection h with h _ _; exact ⟨g', h⟩
      obtain ⟨g', rfl⟩ : ∃ g, B = some ⟨g, 0, none⟩ := by
        rcases H2.out.2 with ⟨h, h0⟩ | ⟨g', cap, cur, h, _⟩
        · injection h with _ h _; omega
        · injection h with h _ _; exact ⟨g', h⟩
      have c1 : w.cell? ⟨g, k, none⟩ = _ := H1.out.cellAt hlt
      have c2 : w.cell? ⟨g', k, none⟩ = _ := H2.out.cellAt hlt
      generalize l.getD k 0 = z at c1 c2
      have hne : (z != z) = false := by simp
      go_wp2_with fail
      go_quiet (fail)
      go_wp2
      exact ⟨⟨k + 1, m + nq, by omega, by go_num, rfl⟩, by simp [intOf]; omega⟩
    · obtain rfl : k = l.length := by omega
      go_wp2
      go_ret
      exact ⟨rfl, below_drewN _ _ _⟩

theorem cParts_any (n : Int) (w : World) : Calls Try.prog 15 #[.int .i64 n] w (fun e w' => e = .returned (.int .i64 (partsN n)) ∧ w = w') := by
  obtain ⟨R, hR⟩ : ∃ R : Int, R = partsN n := ⟨_, rfl⟩
  rw [← hR]
  unfold partsN at hR
  by_cases h1 : n < 1
  · obtain rfl : R = 0 := by rw [hR, if_neg (by omega)]
    have e1 : decide (n < 1) = true := decide_eq_true h1
    clear hR h1
    go_enter Try.func15, Try.ntmps15
    go_wp2
    go_ret
    exact ⟨rfl, rfl⟩
  · have e1 : decide (n < 1) = false := decide_eq_false h1
    by_cases h2 : 64 < n
    · obtain rfl : R = 0 := by rw [hR, if_neg (by omega)]
      have e2 : decide (64 < n) = true := decide_eq_true h2
      clear hR
      go_enter Try.func15, Try.ntmps15
      go_wp2
      go_ret
      exact ⟨rfl, rfl⟩
    · have e2 : decide (64 < n) = false := decide_eq_false h2
      rw [if_pos (by omega)] at hR
      have hw1 : IntKind.i64.wrap (n + 16) = n + 16 := by rw [IntKind.wrap_i64]; omega
      have hw2 : IntKind.i64.wrap (n + 16 - 1) = n + 15 := by rw [IntKind.wrap_i64]; omega
      have hd : (n + 15).tdiv 16 = R := by rw [hR, Int.tdiv_eq_ediv_of_nonneg (by omega)]
      have hw3 : IntKind.i64.wrap R = R := by rw [IntKind.wrap_i64]; omega
      go_enter Try.func15, Try.ntmps15
      go_wp2
      go_ret
      exact ⟨rfl, rfl⟩
end Go.Proofs.Ytnpdcbccooinpaa.Bl
