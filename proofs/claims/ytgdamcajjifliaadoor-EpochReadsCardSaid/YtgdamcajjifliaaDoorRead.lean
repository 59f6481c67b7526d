/-
  Reading an epoch's text, walked. Conditions: a short text; the library's variables are as the program lays them.
-/
import Derived.Test.YtgdamcajjifliaaDoorNumber
import Derived.Lib.Strings
namespace Go.Proofs.YtgdamcajjifliaaDoor
open Go.RowKit

/-- The epoch that the numbers between a text's points make. -/
def rd (l : List UInt8) : Ep := ⟨numP (cutA l) % 65536, numP (cutA (cutB l)) % 256, numP (cutB (cutB l)) % 65536⟩
theorem rd_fit (l : List UInt8) : (rd l).fit := ⟨by simp only [rd]; omega, by simp only [rd]; omega, by simp only [rd]; omega⟩

theorem str_eq {a b : ByteArray} (h : a = b) : (a.toList == b.toList) = true := by rw [h]; simp
theorem str_ne {a b : ByteArray} (h : a ≠ b) : (a.toList == b.toList) = false := by
  rw [beq_eq_false_iff_ne]
  intro e
  rw [Lib.toList_data, Lib.toList_data] at e
  apply h
  rw [← Lib.mk_data a, ← Lib.mk_data b, e]

theorem cutA_le (l : List UInt8) : (cutA l).length ≤ l.length := by
  induction l with
  | nil => exact Nat.le_refl _
  | cons b l ih =>
    unfold cutA
    split
    · simp
    · simp; omega
theorem cutB_le (l : List UInt8) : (cutB l).length ≤ l.length := by
  induction l with
  | nil => exact Nat.le_refl _
  | cons b l ih =>
    unfold cutB
    split
    · simp
    · simp; omega

/-- A block of three cells that can be written. -/
def Tri (W : World) (b : Nat) (x y z : Value) : Prop :=
  (W.cell? ⟨b, 0, none⟩ = some x ∧ W.cell? ⟨b, 1, none⟩ = some y ∧ W.cell? ⟨b, 2, none⟩ = some z) ∧ W.frozen? ⟨b, 0, none⟩ = false ∧ W.frozen? ⟨b, 1, none⟩ = false ∧ W.frozen? ⟨b, 2, none⟩ = false
theorem tri_mk (w : World) (x y z : Value) (t : TypeId) : Tri (w.alloc (.cells #[x, y, z] t)) w.heap.size x y z :=
  ⟨⟨box_cell _ _ _ _ _ rfl, box_cell _ _ _ _ _ rfl, box_cell _ _ _ _ _ rfl⟩, World.frozen?_alloc_new _ _ _ _, World.frozen?_alloc_new _ _ _ _, World.frozen?_alloc_new _ _ _ _⟩
theorem Tri.lt {W : World} {b : Nat} {x y z : Value} (h : Tri W b x y z) : b < W.heap.size := World.block_lt_of_cell? W ⟨b, 0, none⟩ h.1.1
theorem Tri.below {W W' : World} {b : Nat} {x y z : Value} (h : Tri W b x y z) (hb : Below W.heap.size W W') : Tri W' b x y z := by
  have hl := h.lt
  obtain ⟨⟨h1, h2, h3⟩, h4, h5, h6⟩ := h
  exact ⟨⟨kept_cell hb h1, kept_cell hb h2, kept_cell hb h3⟩, (hb.frozen (p := ⟨b, 0, none⟩) hl).trans h4, (hb.frozen (p := ⟨b, 1, none⟩) hl).trans h5, (hb.frozen (p := ⟨b, 2, none⟩) hl).trans h6⟩

set_option maxRecDepth 100000 in
set_option maxHeartbeats 2000000 in
theorem read_yes (s : ByteArray) (hs : s.size ≤ 1000) (h : textE (rd s.data.toList) = s) (w : World) (hE : Env w) :
    Calls Tryd.prog 19 #[.string s] w fun e w' => e = .returned (.tuple #[.agg #[.int .u16 (rd s.data.toList).c, .int .u8 (rd s.data.toList).a, .int .u16 (rd s.data.toList).i], .bool true]) ∧ Below w.heap.size w w' := by
  have hq := str_eq h
  have k1 : IntKind.u16.wrap (numP (cutA s.data.toList) : Int) = ((rd s.data.toList).c : Int) := by rw [IntKind.wrap_u16]; rfl
  have k2 : IntKind.u8.wrap (numP (cutA (cutB s.data.toList)) : Int) = ((rd s.data.toList).a : Int) := by rw [IntKind.wrap_u8]; rfl
  have k3 : IntKind.u16.wrap (numP (cutB (cutB s.data.toList)) : Int) = ((rd s.data.toList).i : Int) := by rw [IntKind.wrap_u16]; rfl
  have hf := Lib.hid (rd_fit s.data.toList)
  have sl : s.data.toList.length ≤ 1000 := by rw [size_list]; exact hs
  have z1 := Nat.le_trans (cutA_le s.data.toList) sl
  have z2 := Nat.le_trans (cutB_le s.data.toList) sl
  have z3 := Nat.le_trans (cutA_le (cutB s.data.toList)) z2
  have z4 := Nat.le_trans (cutB_le (cutB s.data.toList)) z2
  have Z1 := Lib.hid z1
  have Z2 := Lib.hid z2
  have Z3 := Lib.hid z3
  have Z4 := Lib.hid z4
  have HE := Lib.hid hE
  have HS := Lib.hid hs
  clear h sl z1 z2 z3 z4 hE hs
  have hT := tri_mk w (.int .u16 0) (.int .u8 0) (.int .u16 0) 24
  have hR : Rest w.heap.size w (w.alloc (.cells #[.int .u16 0, .int .u8 0, .int .u16 0] 24)) := ⟨HE.out.below ((Below.refl _ _).alloc (Nat.le_refl _) _), (Below.refl _ _).alloc (Nat.le_refl _) _, by simp⟩
  have HT := Lib.hid hT
  have HR := Lib.hid hR
  clear hT hR HE
  go_enter Tryd.func19, Tryd.ntmps19
  go_wp2_with fail
  refine (cut_any s HS.out _).mono ?_
  rintro e w1 ⟨rfl, hb1⟩
  have T1 := Lib.hid (HT.out.below hb1)
  have R1 := Lib.hid (HR.out.next hb1)
  clear hb1 HT HR
  generalize hN : w.heap.size = b at *
  go_wp2_with fail
  refine (cut_any _ (by rw [txt_size]; exact Z2.out) _).mono ?_
  rintro e w2 ⟨rfl, hb2⟩
  rw [txt_list]
  have T2 := Lib.hid (T1.out.below hb2)
  have R2 := Lib.hid (R1.out.next hb2)
  clear hb2 T1 R1
  go_wp2_with fail
  refine (number_any _ (by rw [txt_size]; exact Z1.out) _ R2.out.1).mono ?_
  rintro e w3 ⟨rfl, hb3⟩
  rw [txt_list]
  have T3 := Lib.hid (T2.out.below hb3)
  have R3 := Lib.hid (R2.out.next hb3)
  clear hb3 T2 R2
  go_wp2_with fail
  refine (number_any _ (by rw [txt_size]; exact Z3.out) _ R3.out.1).mono ?_
  rintro e w4 ⟨rfl, hb4⟩
  rw [txt_list]
  have T4 := Lib.hid (T3.out.below hb4)
  have R4 := Lib.hid (R3.out.next hb4)
  clear hb4 T3 R3
  go_wp2_with fail
  refine (number_any _ (by rw [txt_size]; exact Z4.out) _ R4.out.1).mono ?_
  rintro e w5 ⟨rfl, hb5⟩
  rw [txt_list]
  have T5 := Lib.hid (T4.out.below hb5)
  have R5 := Lib.hid (R4.out.next hb5)
  clear hb5 T4 R4
  go_wp2_with fail
  have hA := (Below.refl w5.heap.size w5).alloc (Nat.le_refl _) (.cells #[.int .u16 (rd s.data.toList).c, .int .u8 (rd s.data.toList).a, .int .u16 (rd s.data.toList).i] 24)
  have R6 := R5.out.next hA
  have T6 := T5.out.below hA
  have E6 := tri_mk w5 (.int .u16 (rd s.data.toList).c) (.int .u8 (rd s.data.toList).a) (.int .u16 (rd s.data.toList).i) 24
  refine (text_any (rd s.data.toList) hf.out _ R6.1).mono ?_
  rintro e w6 ⟨rfl, hb6⟩
  have R7 := Lib.hid (R6.next hb6)
  obtain ⟨⟨c0, c1, c2⟩, f0, f1, f2⟩ := T6.below hb6
  obtain ⟨⟨d0, d1, d2⟩, g0, g1, g2⟩ := E6.below hb6
  clear hA R6 T6 E6 hb6 T5 R5
  generalize w5.heap.size = b2 at *
  go_wp2
  refine bodyPost_ret (v := .tuple #[.agg #[.int .u16 (rd s.data.toList).c, .int .u8 (rd s.data.toList).a, .int .u16 (rd s.data.toList).i], .bool true]) ?_ rfl ⟨rfl, ?_⟩
  · simp [results, Tryd.results19, go_sem, c0, c1, c2]
  · rw [hN]
    exact ((R7.out.2.1.setCell (Nat.le_refl _) _).setCell (Nat.le_refl _) _).setCell (Nat.le_refl _) _

set_option maxRecDepth 100000 in
set_option maxHeartbeats 2000000 in
theorem read_no (s : ByteArray) (hs : s.size ≤ 1000) (h : textE (rd s.data.toList) ≠ s) (w : World) (hE : Env w) :
    Calls Tryd.prog 19 #[.string s] w fun e w' => e = .returned (.tuple #[.agg #[.int .u16 (0 : Nat), .int .u8 (0 : Nat), .int .u16 (0 : Nat)], .bool false]) ∧ Below w.heap.size w w' := by
  have hq := str_ne h
  have k1 : IntKind.u16.wrap (numP (cutA s.data.toList) : Int) = ((rd s.data.toList).c : Int) := by rw [IntKind.wrap_u16]; rfl
  have k2 : IntKind.u8.wrap (numP (cutA (cutB s.data.toList)) : Int) = ((rd s.data.toList).a : Int) := by rw [IntKind.wrap_u8]; rfl
  have k3 : IntKind.u16.wrap (numP (cutB (cutB s.data.toList)) : Int) = ((rd s.data.toList).i : Int) := by rw [IntKind.wrap_u16]; rfl
  have hf := Lib.hid (rd_fit s.data.toList)
  have sl : s.data.toList.length ≤ 1000 := by rw [size_list]; exact hs
  have z1 := Nat.le_trans (cutA_le s.data.toList) sl
  have z2 := Nat.le_trans (cutB_le s.data.toList) sl
  have z3 := Nat.le_trans (cutA_le (cutB s.data.toList)) z2
  have z4 := Nat.le_trans (cutB_le (cutB s.data.toList)) z2
  have Z1 := Lib.hid z1
  have Z2 := Lib.hid z2
  have Z3 := Lib.hid z3
  have Z4 := Lib.hid z4
  have HE := Lib.hid hE
  have HS := Lib.hid hs
  clear h sl z1 z2 z3 z4 hE hs
  have hT := tri_mk w (.int .u16 0) (.int .u8 0) (.int .u16 0) 24
  have hR : Rest w.heap.size w (w.alloc (.cells #[.int .u16 0, .int .u8 0, .int .u16 0] 24)) := ⟨HE.out.below ((Below.refl _ _).alloc (Nat.le_refl _) _), (Below.refl _ _).alloc (Nat.le_refl _) _, by simp⟩
  have HT := Lib.hid hT
  have HR := Lib.hid hR
  clear hT hR HE
  go_enter Tryd.func19, Tryd.ntmps19
  go_wp2_with fail
  refine (cut_any s HS.out _).mono ?_
  rintro e w1 ⟨rfl, hb1⟩
  have T1 := Lib.hid (HT.out.below hb1)
  have R1 := Lib.hid (HR.out.next hb1)
  clear hb1 HT HR
  generalize hN : w.heap.size = b at *
  go_wp2_with fail
  refine (cut_any _ (by rw [txt_size]; exact Z2.out) _).mono ?_
  rintro e w2 ⟨rfl, hb2⟩
  rw [txt_list]
  have T2 := Lib.hid (T1.out.below hb2)
  have R2 := Lib.hid (R1.out.next hb2)
  clear hb2 T1 R1
  go_wp2_with fail
  refine (number_any _ (by rw [txt_size]; exact Z1.out) _ R2.out.1).mono ?_
  rintro e w3 ⟨rfl, hb3⟩
  rw [txt_list]
  have T3 := Lib.hid (T2.out.below hb3)
  have R3 := Lib.hid (R2.out.next hb3)
  clear hb3 T2 R2
  go_wp2_with fail
  refine (number_any _ (by rw [txt_size]; exact Z3.out) _ R3.out.1).mono ?_
  rintro e w4 ⟨rfl, hb4⟩
  rw [txt_list]
  have T4 := Lib.hid (T3.out.below hb4)
  have R4 := Lib.hid (R3.out.next hb4)
  clear hb4 T3 R3
  go_wp2_with fail
  refine (number_any _ (by rw [txt_size]; exact Z4.out) _ R4.out.1).mono ?_
  rintro e w5 ⟨rfl, hb5⟩
  rw [txt_list]
  have T5 := Lib.hid (T4.out.below hb5)
  have R5 := Lib.hid (R4.out.next hb5)
  clear hb5 T4 R4
  go_wp2_with fail
  have hA := (Below.refl w5.heap.size w5).alloc (Nat.le_refl _) (.cells #[.int .u16 (rd s.data.toList).c, .int .u8 (rd s.data.toList).a, .int .u16 (rd s.data.toList).i] 24)
  have R6 := R5.out.next hA
  have T6 := T5.out.below hA
  have E6 := tri_mk w5 (.int .u16 (rd s.data.toList).c) (.int .u8 (rd s.data.toList).a) (.int .u16 (rd s.data.toList).i) 24
  refine (text_any (rd s.data.toList) hf.out _ R6.1).mono ?_
  rintro e w6 ⟨rfl, hb6⟩
  have R7 := Lib.hid (R6.next hb6)
  obtain ⟨⟨c0, c1, c2⟩, f0, f1, f2⟩ := T6.below hb6
  obtain ⟨⟨d0, d1, d2⟩, g0, g1, g2⟩ := E6.below hb6
  clear hA R6 T6 E6 hb6 T5 R5
  generalize w5.heap.size = b2 at *
  go_wp2
  refine bodyPost_ret (v := .tuple #[.agg #[.int .u16 (0 : Nat), .int .u8 (0 : Nat), .int .u16 (0 : Nat)], .bool false]) ?_ rfl ⟨rfl, ?_⟩
  · simp [results, Tryd.results19, go_sem, c0, c1, c2]
  · rw [hN]
    exact ((R7.out.2.1.setCell (Nat.le_refl _) _).setCell (Nat.le_refl _) _).setCell (Nat.le_refl _) _

end Go.Proofs.YtgdamcajjifliaaDoor
