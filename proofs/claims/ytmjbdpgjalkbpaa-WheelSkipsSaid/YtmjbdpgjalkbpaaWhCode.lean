/-
  The code's timers answer as is asked of them, where they are sixteen numbers in the object's one block. Conditions: none.
-/
import Derived.Test.YtmjbdpgjalkbpaaWhPair
namespace Go.Proofs.Ytmjbdpgjalkbpaa.Whl
open Go.RowKit

/-- The code's object: one block of sixteen numbers. -/
def face : Face where
  At := fun w p g x => g = p ∧ RefAt w p x
  of := fun h hp _ => ⟨h.1, h.2.of hp⟩
  plt := fun h => h.2.lt
  glt := fun h => by rw [h.1]; exact h.2.lt
  ok := fun h => h.2.1

theorem done_of {p g : Nat} {v : Value} {x : Wh} {w : World} {e : Ending} {w' : World} (hg : g = p) (h : RefDone p v x w e w') : Done face p g v x w e w' := by
  subst hg
  exact ⟨h.1, ⟨rfl, h.2.1⟩, h.2.2⟩

set_option maxHeartbeats 800000 in
theorem new_any (w : World) : Calls Try.prog 7 #[] w (News face w) := by
  have hb := fun o => (Below.refl w.heap.size w).alloc (Nat.le_refl _) o
  have HZ : Hid (RefAt (w.alloc (Obj.cells #[Value.int IntKind.i64 0, Value.int IntKind.i64 0, Value.int IntKind.i64 0, Value.int IntKind.i64 0, Value.int IntKind.i64 0, Value.int IntKind.i64 0, Value.int IntKind.i64 0, Value.int IntKind.i64 0, Value.int IntKind.i64 0, Value.int IntKind.i64 0, Value.int IntKind.i64 0, Value.int IntKind.i64 0, Value.int IntKind.i64 0, Value.int IntKind.i64 0, Value.int IntKind.i64 0, Value.int IntKind.i64 0] 44)) w.heap.size zero) := Lib.hid ⟨zero_ok, fun i hi => ⟨by
    rw [cell_of_row _ _ i _ 44 (0, 0) (heap_alloc_new w _)]
    match i, hi with
    | 0, _ | 1, _ | 2, _ | 3, _ | 4, _ | 5, _ | 6, _ | 7, _ | 8, _ | 9, _ | 10, _ | 11, _ | 12, _ | 13, _ | 14, _ | 15, _ => rfl
    | n + 16, h => exact absurd h (by omega), by simp [go_sem]⟩⟩
  have HB := Lib.hid hb
  clear hb
  go_enter Try.func7, Try.ntmps7
  go_wp2
  go_ret
  exact ⟨_, _, rfl, ⟨rfl, HZ.out⟩, Nat.le_refl _, Nat.le_refl _, HB.out _⟩

set_option maxHeartbeats 800000 in
theorem chas_any (p : Nat) (id : Int) (w : World) :
    Calls Try.prog 19 #[.pointer (some ⟨p, 0, none⟩), .int .i64 id] w fun e w' => e = .returned (.bool (idB id)) ∧ w = w' := by
  by_cases h : 0 ≤ id ∧ id ≤ 15
  · have hb : idB id = true := by simp [idB, h]
    rw [hb]
    obtain ⟨h1, h2⟩ := h
    have h3 : id < 16 := by omega
    clear hb
    go_enter Try.func19, Try.ntmps19
    go_wp2
    go_ret
    exact ⟨rfl, rfl⟩
  · have hb : idB id = false := by unfold idB; exact decide_eq_false h
    rw [hb]
    have h2 : id < 0 ∨ (0 ≤ id ∧ ¬ id < 16) := by omega
    clear hb h
    rcases h2 with h | ⟨h1, h⟩
    all_goals
      go_enter Try.func19, Try.ntmps19
      go_wp2
      go_ret
      exact ⟨rfl, rfl⟩

set_option maxHeartbeats 800000 in
theorem cset_no (p : Nat) (x : Wh) (id n : Int) (w : World) (hx : RefAt w p x) (h : idB id = false ∨ (idB id = true ∧ n < 1) ∨ (idB id = true ∧ 1 ≤ n ∧ 10000 < n)) :
    Calls Try.prog 8 #[.pointer (some ⟨p, 0, none⟩), .int .i64 id, .int .i64 n] w (RefDone p (.bool false) x w) := by
  have HX := Lib.hid hx
  have HH := Lib.hid (chas_any p id w)
  clear hx
  rcases h with h | ⟨h1, h⟩ | ⟨h1, h2, h⟩
  · rw [h] at HH
    clear h
    go_enter Try.func8, Try.ntmps8
    go_wp2_with fail
    refine (HH.out).mono ?_
    rintro e w1 ⟨rfl, rfl⟩
    go_wp2
    go_ret
    exact ⟨rfl, HX.out, Only.refl _ _ _⟩
  all_goals
    rw [h1] at HH
    clear h1
    go_enter Try.func8, Try.ntmps8
    go_wp2_with fail
    refine (HH.out).mono ?_
    rintro e w1 ⟨rfl, rfl⟩
    go_wp2
    go_ret
    exact ⟨rfl, HX.out, Only.refl _ _ _⟩

set_option maxHeartbeats 800000 in
theorem cset_yes (p : Nat) (x : Wh) (i n : Nat) (w : World) (hx : RefAt w p x) (hi : i < 16) (h1 : 1 ≤ n) (h2 : n ≤ 10000) :
    Calls Try.prog 8 #[.pointer (some ⟨p, 0, none⟩), .int .i64 (i : Int), .int .i64 (n : Int)] w (RefDone p (.bool true) (x.set i n) w) := by
  obtain ⟨c, f⟩ := hx.2 i hi
  have HP := Lib.hid (hx.put i n hi h2)
  have hb : idB (i : Int) = true := by unfold idB; exact decide_eq_true (by omega)
  have HH := Lib.hid (chas_any p i w)
  rw [hb] at HH
  have hi2 : (i : Int) < 16 := by omega
  have h12 : (1 : Int) ≤ n := by omega
  have h22 : (n : Int) ≤ 10000 := by omega
  clear hx hb
  go_enter Try.func8, Try.ntmps8
  go_wp2_with fail
  refine (HH.out).mono ?_
  rintro e w1 ⟨rfl, rfl⟩
  go_wp2
  go_ret
  exact ⟨rfl, HP.out, Only.set _ _ _ _ _⟩

theorem cset_any (p : Nat) (x : Wh) (id n : Int) (w : World) (hx : RefAt w p x) :
    Calls Try.prog 8 #[.pointer (some ⟨p, 0, none⟩), .int .i64 id, .int .i64 n] w (RefDone p (.bool (setB id n)) (setX x id n) w) := by
  unfold setX
  by_cases h : 0 ≤ id ∧ id ≤ 15 ∧ 1 ≤ n ∧ n ≤ 10000
  · have hb : setB id n = true := by simp [setB, h]
    rw [hb, if_pos rfl]
    obtain ⟨h1, h2, h3, h4⟩ := h
    obtain ⟨i, rfl⟩ := Int.eq_ofNat_of_zero_le h1
    obtain ⟨k, rfl⟩ := Int.eq_ofNat_of_zero_le (show 0 ≤ n by omega)
    exact cset_yes p x i k w hx (by omega) (by omega) (by omega)
  · have hb : setB id n = false := by unfold setB; exact decide_eq_false h
    rw [hb, if_neg (by decide)]
    refine cset_no p x id n w hx ?_
    unfold idB
    rw [decide_eq_false_iff_not, decide_eq_true_eq]
    omega

set_option maxHeartbeats 800000 in
theorem cleft_any (p : Nat) (x : Wh) (id : Int) (w : World) (hx : RefAt w p x) :
    Calls Try.prog 17 #[.pointer (some ⟨p, 0, none⟩), .int .i64 id] w fun e w' => e = .returned (.int .i64 (leftN x id : Nat)) ∧ w = w' := by
  have HH := Lib.hid (chas_any p id w)
  unfold leftN
  by_cases h : 0 ≤ id ∧ id ≤ 15
  · have hb : idB id = true := by simp [idB, h]
    rw [hb] at HH
    rw [hb, if_pos rfl]
    obtain ⟨h1, h2⟩ := h
    obtain ⟨i, rfl⟩ := Int.eq_ofNat_of_zero_le h1
    obtain ⟨c, f⟩ := hx.2 i (by omega)
    rw [Int.toNat_natCast]
    have h3 : (i : Int) < 16 := by omega
    clear hx hb
    generalize x.getD i 0 = v at *
    go_enter Try.func17, Try.ntmps17
    go_wp2_with fail
    refine (HH.out).mono ?_
    rintro e w1 ⟨rfl, rfl⟩
    go_wp2
    go_ret
    exact ⟨rfl, rfl⟩
  · have hb : idB id = false := by unfold idB; exact decide_eq_false h
    rw [hb] at HH
    rw [hb, if_neg (by decide)]
    clear hx hb h
    go_enter Try.func17, Try.ntmps17
    go_wp2_with fail
    refine (HH.out).mono ?_
    rintro e w1 ⟨rfl, rfl⟩
    go_wp2
    go_ret
    exact ⟨rfl, rfl⟩

set_option maxHeartbeats 1600000 in
theorem ccancel_any (p : Nat) (x : Wh) (id : Int) (w : World) (hx : RefAt w p x) :
    Calls Try.prog 11 #[.pointer (some ⟨p, 0, none⟩), .int .i64 id] w (RefDone p (.bool (canB x id)) (canX x id) w) := by
  have HL := Lib.hid (cleft_any p x id w hx)
  have hle := leftN_le hx.1 id
  have hcb : canB x id = decide (0 < leftN x id) := rfl
  by_cases hv : 0 < leftN x id
  · obtain ⟨i, rfl, hi16, hcx⟩ := left_in hv
    obtain ⟨c, f⟩ := hx.2 i hi16
    have HP := Lib.hid (hx.put i 0 hi16 (by omega))
    rw [hcb, decide_eq_true hv, hcx]
    have hvi : ¬ ((leftN x (i : Int) : Nat) : Int) = 0 := by omega
    clear hx hcb hcx hv
    generalize leftN x (i : Int) = v at *
    go_enter Try.func11, Try.ntmps11
    go_wp2_with fail
    refine (HL.out).mono ?_
    rintro e w1 ⟨rfl, rfl⟩
    go_wp2
    go_ret
    exact ⟨rfl, HP.out, Only.set _ _ _ _ _⟩
  · have h0 : leftN x id = 0 := by omega
    rw [hcb, decide_eq_false hv, can_same hx.1 id h0]
    rw [h0] at HL
    have HX := Lib.hid hx
    clear hx hcb hv h0 hle
    go_enter Try.func11, Try.ntmps11
    go_wp2_with fail
    refine (HL.out).mono ?_
    rintro e w1 ⟨rfl, rfl⟩
    go_wp2
    go_ret
    exact ⟨rfl, HX.out, Only.refl _ _ _⟩

end Go.Proofs.Ytmjbdpgjalkbpaa.Whl
