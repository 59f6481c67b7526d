/-
  A text cut at its first point, walked. Conditions: none.
-/
import Derived.Test.YtgdamcajjifliaaDoorRefText
import Derived.Test.YtgdamcajjifliaaDoorCutMath
namespace Go.Proofs.YtgdamcajjifliaaDoor
open Go.RowKit

theorem quiet_below (w : World) (n : Nat) : Below w.heap.size w (w.drewN n) := ⟨rfl, rfl, rfl, Nat.le_refl _, fun _ _ => rfl⟩

set_option maxRecDepth 100000 in
set_option maxHeartbeats 1000000 in
theorem cut_yes (s : ByteArray) (k : Nat) (hi : Lib.indexByte s.data.toList 46 = (k : Int)) (hk : k < s.size) (hs : s.size ≤ 1000) (w : World) :
    Calls Tryd.prog 26 #[.string s, .string ⟨#[46]⟩] w fun e w' => e = .returned (.tuple #[.string (s.extract 0 k), .string (s.extract (k + 1) s.size), .bool true]) ∧ Below w.heap.size w w' := by
  have HI := Lib.hid hi
  have b1 : (k : Int) ≤ (s.size : Int) := by omega
  have b2 : (k : Int) + 1 ≤ (s.size : Int) := by omega
  have b3 : (0 : Int) ≤ (k : Int) + 1 := by omega
  have b4 : IntKind.i64.wrap ((k : Int) + 1) = (k : Int) + 1 := by rw [IntKind.wrap_i64]; omega
  have b5 : ((k : Int) + 1).toNat = k + 1 := by omega
  clear hi
  go_enter Tryd.func26, Tryd.ntmps26
  go_wp2_with (go_at_call 31; go_in)
  go_wp2_with (go_at_call 34; refine (Tryd.stringslite_Index_one s 46 _).mono ?_; rw [HI.out]; rintro e w2 ⟨rfl, rfl⟩)
  go_quiet (fail)
  go_wp2
  refine bodyPost_ret (v := .tuple #[.string (s.extract 0 k), .string (s.extract (k + 1) s.size), .bool true]) (by simp [results, go_sem]) rfl ?_
  go_wp2
  exact bodyPost_ret (v := .tuple #[.string (s.extract 0 k), .string (s.extract (k + 1) s.size), .bool true]) (by simp [results, Tryd.results26, go_sem]) rfl ⟨rfl, quiet_below _ _⟩

set_option maxRecDepth 100000 in
set_option maxHeartbeats 1000000 in
theorem cut_no (s : ByteArray) (hi : Lib.indexByte s.data.toList 46 = -1) (w : World) :
    Calls Tryd.prog 26 #[.string s, .string ⟨#[46]⟩] w fun e w' => e = .returned (.tuple #[.string s, .string ⟨#[]⟩, .bool false]) ∧ Below w.heap.size w w' := by
  have HI := Lib.hid hi
  clear hi
  go_enter Tryd.func26, Tryd.ntmps26
  go_wp2_with (go_at_call 31; go_in)
  go_wp2_with (go_at_call 34; refine (Tryd.stringslite_Index_one s 46 _).mono ?_; rw [HI.out]; rintro e w2 ⟨rfl, rfl⟩)
  refine bodyPost_ret (v := .tuple #[.string s, .string ⟨#[]⟩, .bool false]) (by simp [results, go_sem]) rfl ?_
  go_wp2
  exact bodyPost_ret (v := .tuple #[.string s, .string ⟨#[]⟩, .bool false]) (by simp [results, Tryd.results26, go_sem]) rfl ⟨rfl, Below.refl _ _⟩

/-- Any text, cut. -/
theorem cut_any (s : ByteArray) (hs : s.size ≤ 1000) (w : World) :
    Calls Tryd.prog 26 #[.string s, .string ⟨#[46]⟩] w fun e w' => e = .returned (.tuple #[.string (txt (cutA s.data.toList)), .string (txt (cutB s.data.toList)), .bool (hasDot s.data.toList)]) ∧ Below w.heap.size w w' := by
  rcases cut_cases s.data.toList with ⟨h1, h2, h3, h4⟩ | ⟨k, h0, h1, h2, h3, h4⟩
  · rw [h2, h3, h4]
    exact cut_no s h1 w
  · rw [h2, h3, h4, ← extract_take, ← extract_drop]
    exact cut_yes s k h1 (by rw [size_list] at h0; exact h0) hs w

end Go.Proofs.YtgdamcajjifliaaDoor
