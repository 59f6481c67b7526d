/-
  A store's calls that read, or turn its settings, walked. Conditions: none but on sizes.
-/
import Derived.Test.YtahmngmbgbcmhaaDoorStBase
import Derived.Deep.QuietTactic
import Derived.BigQuiet
namespace Go.Proofs.YtahmngmbgbcmhaaDoor.Sto
open Go.RowKit

theorem there_no1 {l : List UInt8} {a n : Int} (h : a < 0) : there l a n = false := by simp [there]; omega
theorem there_no2 {l : List UInt8} {a n : Int} (h : n < 0) : there l a n = false := by simp [there]; omega
theorem there_no3 {l : List UInt8} {a n : Int} (h : (l.length : Int) - a < n) : there l a n = false := by simp [there]; omega

theorem ret_bool {a b : Bool} (h : a = b) : Ending.returned (.bool a) = .returned (.bool b) := by rw [h]

set_option maxHeartbeats 800000 in
theorem has_any (p g cap : Nat) (l : List UInt8) (d b : Bool) (y n : Int) (a m : Int) (w : World) (hs : StoreAt w p g cap l d b y n) (ha : -9223372036854775808 ≤ a) (hb : a ≤ 9223372036854775807) :
    Calls Tryd.prog 37 #[.pointer (some ⟨p, 0, none⟩), .int .i64 a, .int .i64 m] w fun e w' => e = .returned (.bool (there l a m)) ∧ w = w' := by
  have h0 := hs.c0
  have hl := hs.hcap
  have hm := hs.big
  unfold maxLen at hm
  clear hs
  by_cases h1 : 0 ≤ a
  · by_cases h2 : 0 ≤ m
    · by_cases h3 : m ≤ (l.length : Int) - a
      · have HR := Lib.hid (there_of h1 h2 h3)
        go_enter Tryd.func37, Tryd.ntmps37
        go_wp2
        go_ret
        exact ⟨ret_bool HR.out.symm, rfl⟩
      · have HR := Lib.hid (there_no3 (l := l) (a := a) (n := m) (by omega))
        go_enter Tryd.func37, Tryd.ntmps37
        go_wp2
        go_ret
        exact ⟨ret_bool HR.out.symm, rfl⟩
    · have HR := Lib.hid (there_no2 (l := l) (a := a) (n := m) (by omega))
      go_enter Tryd.func37, Tryd.ntmps37
      go_wp2
      go_ret
      exact ⟨ret_bool HR.out.symm, rfl⟩
  · have HR := Lib.hid (there_no1 (l := l) (a := a) (n := m) (by omega))
    go_enter Tryd.func37, Tryd.ntmps37
    go_wp2
    go_ret
    exact ⟨ret_bool HR.out.symm, rfl⟩

/-- What a call with no result leaves: the store, turned. -/
def Turns (p g cap : Nat) (x : St) (w : World) (e : Ending) (w' : World) : Prop := e = .returned (.tuple #[]) ∧ CodeAt w' p g cap x ∧ Only p g w w'

set_option maxHeartbeats 800000 in
theorem arm_any (p g cap : Nat) (x : St) (m : Int) (w : World) (hx : CodeAt w p g cap x) :
    Calls Tryd.prog 16 #[.pointer (some ⟨p, 0, none⟩), .int .i64 m] w (Turns p g cap { x with arm := some m.toNat } w) := by
  obtain ⟨y, hs, hy⟩ := hx
  have h2 := hs.c2
  have h3 := hs.c3
  have f2 := hs.f2
  have f3 := hs.f3
  have HO := Lib.hid (((Only.refl p g w).set 2 (.bool true)).set 3 (.int .i64 (m.toNat : Int)))
  have HS := Lib.hid ((hs.set2 true).set3 (m.toNat : Int))
  clear hs hy
  by_cases h : 0 ≤ m
  · have HM := Lib.hid (show (m.toNat : Int) = m by omega)
    go_enter Tryd.func16, Tryd.ntmps16
    go_wp2
    all_goals
      go_end0
      rw [HM.out] at HO HS
      exact ⟨rfl, ⟨m, HS.out, fun k hk => by injection hk with hk; have := HM.out; omega⟩, HO.out⟩
  · have HM := Lib.hid (show (m.toNat : Int) = 0 by omega)
    go_enter Tryd.func16, Tryd.ntmps16
    go_wp2
    all_goals
      go_end0
      rw [HM.out] at HO HS
      exact ⟨rfl, ⟨0, HS.out, fun k hk => by injection hk with hk; have := HM.out; omega⟩, HO.out⟩

set_option maxHeartbeats 800000 in
theorem off_any (p g cap : Nat) (x : St) (w : World) (hx : CodeAt w p g cap x) :
    Calls Tryd.prog 17 #[.pointer (some ⟨p, 0, none⟩)] w (Turns p g cap { x with up := false, arm := none } w) := by
  obtain ⟨y, hs, hy⟩ := hx
  have h1 := hs.c1
  have h2 := hs.c2
  have f1 := hs.f1
  have f2 := hs.f2
  have HO := Lib.hid (((Only.refl p g w).set 1 (.bool true)).set 2 (.bool false))
  have HS := Lib.hid ((hs.set1 true).set2 false)
  clear hs hy
  go_enter Tryd.func17, Tryd.ntmps17
  go_wp2
  go_end0
  exact ⟨rfl, ⟨y, HS.out, fun k hk => by injection hk⟩, HO.out⟩

set_option maxHeartbeats 800000 in
theorem on_any (p g cap : Nat) (x : St) (w : World) (hx : CodeAt w p g cap x) :
    Calls Tryd.prog 11 #[.pointer (some ⟨p, 0, none⟩)] w (Turns p g cap { x with up := true } w) := by
  obtain ⟨y, hs, hy⟩ := hx
  have h1 := hs.c1
  have f1 := hs.f1
  have HO := Lib.hid ((Only.refl p g w).set 1 (.bool false))
  have HS := Lib.hid (hs.set1 false)
  have HY := Lib.hid hy
  clear hs hy
  go_enter Tryd.func11, Tryd.ntmps11
  go_wp2
  go_end0
  exact ⟨rfl, ⟨y, HS.out, HY.out⟩, HO.out⟩

set_option maxHeartbeats 800000 in
theorem power_any (p g cap : Nat) (x : St) (w : World) (hx : CodeAt w p g cap x) :
    Calls Tryd.prog 23 #[.pointer (some ⟨p, 0, none⟩)] w fun e w' => e = .returned (.bool x.up) ∧ w = w' := by
  obtain ⟨y, hs, hy⟩ := hx
  have h1 := hs.c1
  clear hs hy
  obtain ⟨l, up, arm, n⟩ := x
  cases up
  all_goals
    go_enter Tryd.func23, Tryd.ntmps23
    go_wp2
    go_ret
    exact ⟨rfl, rfl⟩

set_option maxHeartbeats 800000 in
theorem len_any (p g cap : Nat) (x : St) (w : World) (hx : CodeAt w p g cap x) :
    Calls Tryd.prog 32 #[.pointer (some ⟨p, 0, none⟩)] w fun e w' => e = .returned (.int .i64 x.l.length) ∧ w = w' := by
  obtain ⟨y, hs, hy⟩ := hx
  have h0 := hs.c0
  clear hs hy
  go_enter Tryd.func32, Tryd.ntmps32
  go_wp2
  go_ret
  exact ⟨rfl, rfl⟩

/-- For how many, told by Armed. -/
def armN : Option Nat → Int
  | none => 0
  | some k => k

set_option maxHeartbeats 800000 in
theorem armed_any (p g cap : Nat) (x : St) (w : World) (hx : CodeAt w p g cap x) :
    Calls Tryd.prog 22 #[.pointer (some ⟨p, 0, none⟩)] w fun e w' => e = .returned (.tuple #[.int .i64 (armN x.arm), .bool x.arm.isSome]) ∧ w = w' := by
  obtain ⟨y, hs, hy⟩ := hx
  have h2 := hs.c2
  have h3 := hs.c3
  obtain ⟨l, up, arm, n⟩ := x
  cases arm with
  | none =>
    clear hs hy
    go_enter Tryd.func22, Tryd.ntmps22
    go_wp2
    go_ret2
    exact ⟨rfl, rfl⟩
  | some k =>
    obtain rfl := hy k rfl
    clear hs hy
    go_enter Tryd.func22, Tryd.ntmps22
    go_wp2
    go_ret2
    exact ⟨rfl, rfl⟩

end Go.Proofs.YtahmngmbgbcmhaaDoor.Sto
