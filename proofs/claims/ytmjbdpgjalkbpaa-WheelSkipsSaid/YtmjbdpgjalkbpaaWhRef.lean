/-
  The reference's timers: setting, looking, ticking, the soonest, walked. Conditions: none.
-/
import Derived.Test.YtmjbdpgjalkbpaaWhFace
namespace Go.Proofs.Ytmjbdpgjalkbpaa.Whl
open Go.RowKit

def RefDone (b : Nat) (v : Value) (x : Wh) (w : World) (e : Ending) (w' : World) : Prop := e = .returned v ∧ RefAt w' b x ∧ Only b b w w'

set_option maxHeartbeats 800000 in
theorem rset_no (b : Nat) (x : Wh) (id n : Int) (w : World) (hx : RefAt w b x) (h : id < 0 ∨ (0 ≤ id ∧ 15 < id) ∨ (0 ≤ id ∧ id ≤ 15 ∧ n < 1) ∨ (0 ≤ id ∧ id ≤ 15 ∧ 1 ≤ n ∧ 10000 < n)) :
    Calls Try.prog 9 #[.pointer (some ⟨b, 0, none⟩), .int .i64 id, .int .i64 n] w (RefDone b (.bool false) x w) := by
  have HX := Lib.hid hx
  clear hx
  rcases h with h | ⟨h1, h⟩ | ⟨h1, h2, h⟩ | ⟨h1, h2, h3, h⟩
  all_goals
    go_enter Try.func9, Try.ntmps9
    go_wp2
    go_ret
    exact ⟨rfl, HX.out, Only.refl _ _ _⟩

set_option maxHeartbeats 800000 in
theorem rset_yes (b : Nat) (x : Wh) (i n : Nat) (w : World) (hx : RefAt w b x) (hi : i < 16) (h1 : 1 ≤ n) (h2 : n ≤ 10000) :
    Calls Try.prog 9 #[.pointer (some ⟨b, 0, none⟩), .int .i64 (i : Int), .int .i64 (n : Int)] w (RefDone b (.bool true) (x.set i n) w) := by
  obtain ⟨c, f⟩ := hx.2 i hi
  have HP := Lib.hid (hx.put i n hi h2)
  have hi2 : (i : Int) ≤ 15 := by omega
  have h12 : (1 : Int) ≤ n := by omega
  have h22 : (n : Int) ≤ 10000 := by omega
  clear hx
  go_enter Try.func9, Try.ntmps9
  go_wp2
  go_ret
  exact ⟨rfl, HP.out, Only.set _ _ _ _ _⟩

theorem rset_any (b : Nat) (x : Wh) (id n : Int) (w : World) (hx : RefAt w b x) :
    Calls Try.prog 9 #[.pointer (some ⟨b, 0, none⟩), .int .i64 id, .int .i64 n] w (RefDone b (.bool (setB id n)) (setX x id n) w) := by
  unfold setX
  by_cases h : 0 ≤ id ∧ id ≤ 15 ∧ 1 ≤ n ∧ n ≤ 10000
  · have hb : setB id n = true := by simp [setB, h]
    rw [hb, if_pos rfl]
    obtain ⟨h1, h2, h3, h4⟩ := h
    obtain ⟨i, rfl⟩ := Int.eq_ofNat_of_zero_le h1
    obtain ⟨k, rfl⟩ := Int.eq_ofNat_of_zero_le (show 0 ≤ n by omega)
    exact rset_yes b x i k w hx (by omega) (by omega) (by omega)
  · have hb : setB id n = false := by unfold setB; exact decide_eq_false h
    rw [hb, if_neg (by decide)]
    exact rset_no b x id n w hx (by omega)

set_option maxHeartbeats 800000 in
theorem rleft_any (b : Nat) (x : Wh) (id : Int) (w : World) (hx : RefAt w b x) :
    Calls Try.prog 10 #[.pointer (some ⟨b, 0, none⟩), .int .i64 id] w fun e w' => e = .returned (.int .i64 (leftN x id : Nat)) ∧ w = w' := by
  unfold leftN
  by_cases h : 0 ≤ id ∧ id ≤ 15
  · have hb : idB id = true := by simp [idB, h]
    rw [hb, if_pos rfl]
    obtain ⟨h1, h2⟩ := h
    obtain ⟨i, rfl⟩ := Int.eq_ofNat_of_zero_le h1
    obtain ⟨c, f⟩ := hx.2 i (by omega)
    rw [Int.toNat_natCast]
    clear hx hb
    generalize x.getD i 0 = v at *
    go_enter Try.func10, Try.ntmps10
    go_wp2
    go_ret
    exact ⟨rfl, rfl⟩
  · have hb : idB id = false := by unfold idB; exact decide_eq_false h
    rw [hb, if_neg (by decide)]
    have h2 : id < 0 ∨ (0 ≤ id ∧ 15 < id) := by omega
    clear hx hb h
    rcases h2 with h | ⟨h1, h⟩
    all_goals
      go_enter Try.func10, Try.ntmps10
      go_wp2
      go_ret
      exact ⟨rfl, rfl⟩

end Go.Proofs.Ytmjbdpgjalkbpaa.Whl
