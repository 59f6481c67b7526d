/-
  The check that each law makes first, walked: it returns true. Conditions: the library's variables are as the program lays them.
-/
import Derived.Test.YtgdamcajjifliaaDoorRead
import Derived.Test.YtgdamcajjifliaaDoorMint
namespace Go.Proofs.YtgdamcajjifliaaDoor
open Go.RowKit

theorem text_824 : textE ⟨8, 2, 4⟩ = ⟨#[56, 46, 50, 46, 52]⟩ := by
  unfold textE dgs dot
  rw [dec_lt 8 (by decide), dec_lt 2 (by decide), dec_lt 4 (by decide)]
  decide +kernel
theorem rd_824 : rd (⟨#[56, 46, 50, 46, 52]⟩ : ByteArray).data.toList = ⟨8, 2, 4⟩ := by
  have h1 : (rd (⟨#[56, 46, 50, 46, 52]⟩ : ByteArray).data.toList).c = 8 := by decide +kernel
  have h2 : (rd (⟨#[56, 46, 50, 46, 52]⟩ : ByteArray).data.toList).a = 2 := by decide +kernel
  have h3 : (rd (⟨#[56, 46, 50, 46, 52]⟩ : ByteArray).data.toList).i = 4 := by decide +kernel
  generalize rd (⟨#[56, 46, 50, 46, 52]⟩ : ByteArray).data.toList = x at *
  cases x
  simp only at h1 h2 h3
  subst h1 h2 h3
  rfl
theorem cmp_824 : cmpE ⟨8, 2, 4⟩ ⟨0, 0, 0⟩ = 1 := by decide +kernel

theorem c_mint (w : World) : Calls Tryd.prog 16 #[.agg #[.int .u16 7, .int .u8 3, .int .u16 1], .int .u8 2, .int .u16 4, .int .i64 100] w fun e w' => e = .returned (.tuple #[.agg #[.int .u16 8, .int .u8 2, .int .u16 4], .bool true]) ∧ Below w.heap.size w w' :=
  mint_yes ⟨7, 3, 1⟩ 2 4 100 w (by decide) (by decide)
theorem c_read (w : World) (hE : Env w) : Calls Tryd.prog 19 #[.string ⟨#[56, 46, 50, 46, 52]⟩] w fun e w' => e = .returned (.tuple #[.agg #[.int .u16 8, .int .u8 2, .int .u16 4], .bool true]) ∧ Below w.heap.size w w' := by
  have h := read_yes ⟨#[56, 46, 50, 46, 52]⟩ (by decide) (by rw [rd_824, text_824]) w hE
  rw [rd_824] at h
  exact h
theorem c_hop (w : World) : Calls Tryd.prog 18 #[.agg #[.int .u16 8, .int .u8 2, .int .u16 4, .int .u16 1]] w fun e w' => e = .returned (.tuple #[.agg #[.int .u16 8, .int .u8 2, .int .u16 4, .int .u16 2], .bool true]) ∧ Below w.heap.size w w' :=
  hop_yes ⟨8, 2, 4⟩ 1 w (by decide)
theorem c_cmp (w : World) : Calls Tryd.prog 9 #[.agg #[.int .u16 8, .int .u8 2, .int .u16 4], .agg #[.int .u16 0, .int .u8 0, .int .u16 0]] w fun e w' => e = .returned (.int .i64 1) ∧ Below w.heap.size w w' := by
  have h := cmpE_any ⟨8, 2, 4⟩ ⟨0, 0, 0⟩ w
  rw [cmp_824] at h
  exact h
theorem c_text (w : World) (hE : Env w) : Calls Tryd.prog 14 #[.agg #[.int .u16 8, .int .u8 2, .int .u16 4]] w fun e w' => e = .returned (.string ⟨#[56, 46, 50, 46, 52]⟩) ∧ Below w.heap.size w w' := by
  have h := text_any ⟨8, 2, 4⟩ ⟨by decide, by decide, by decide⟩ w hE
  rw [text_824] at h
  exact h

/-- What calls one behind the other hand on. -/
def On (N : Nat) (w W : World) : Prop := Env W ∧ Below N w W ∧ N ≤ W.heap.size
theorem On.next {N : Nat} {w W W' : World} (h : On N w W) (hb : Below W.heap.size W W') : On N w W' :=
  ⟨h.1.below hb, h.2.1.trans (hb.mono h.2.2), Nat.le_trans h.2.2 hb.size⟩
theorem On.new {N : Nat} {w W : World} (h : On N w W) (o : Obj) : On N w (W.alloc o) := h.next ((Below.refl _ _).alloc (Nat.le_refl _) o)
theorem On.refl {w : World} (h : Env w) : On w.heap.size w w := ⟨h, Below.refl _ _, Nat.le_refl _⟩
theorem Tri.new {W : World} {b : Nat} {x y z : Value} (h : Tri W b x y z) (o : Obj) : Tri (W.alloc o) b x y z := h.below ((Below.refl _ _).alloc (Nat.le_refl _) o)

/-- A block's cells, told as a list. -/
def Cells (W : World) (b : Nat) (c : List Value) : Prop := b < W.heap.size ∧ ∀ k v, c[k]? = some v → W.cell? ⟨b, k, none⟩ = some v
theorem cells_mk (w : World) (c : List Value) (t : TypeId) : Cells (w.alloc (.cells c.toArray t)) w.heap.size c := ⟨by simp, fun k v h => box_cell _ _ _ _ _ (by simpa using h)⟩
theorem Cells.below {W W' : World} {b : Nat} {c : List Value} (h : Cells W b c) (hb : Below W.heap.size W W') : Cells W' b c :=
  ⟨Nat.lt_of_lt_of_le h.1 hb.size, fun k v hk => kept_cell hb (h.2 k v hk)⟩
theorem Cells.new {W : World} {b : Nat} {c : List Value} (h : Cells W b c) (o : Obj) : Cells (W.alloc o) b c := h.below ((Below.refl _ _).alloc (Nat.le_refl _) o)

set_option maxRecDepth 100000 in
set_option maxHeartbeats 2000000 in
theorem awake_any (w : World) (hE : Env w) : Calls Tryd.prog 7 #[] w fun e w' => e = .returned (.bool true) ∧ Below w.heap.size w w' := by
  have R0 := Lib.hid (On.refl hE)
  clear hE
  go_enter Tryd.func7, Tryd.ntmps7
  go_wp2_with fail
  refine (c_mint _).mono ?_
  rintro e w1 ⟨rfl, hb1⟩
  have R1 := (R0.out.next hb1).new (.cells #[.int .u16 8, .int .u8 2, .int .u16 4] 24)
  have A1 := cells_mk w1 [.int .u16 8, .int .u8 2, .int .u16 4] 24
  go_wp2_with fail
  refine (c_read _ R1.1).mono ?_
  rintro e w2 ⟨rfl, hb2⟩
  have R2 := (R1.next hb2).new (.cells #[.int .u16 8, .int .u8 2, .int .u16 4] 24)
  have A2 := (A1.below hb2).new (.cells #[.int .u16 8, .int .u8 2, .int .u16 4] 24)
  have B2 := cells_mk w2 [.int .u16 8, .int .u8 2, .int .u16 4] 24
  have H1 := Lib.hid R2
  have H2 := Lib.hid A2
  have H3 := Lib.hid B2
  clear R1 A1 R2 A2 B2 hb1 hb2 R0
  generalize w1.heap.size = b1 at *
  have a0 := H2.out.2 0 _ rfl
  have a1 := H2.out.2 1 _ rfl
  have a2 := H2.out.2 2 _ rfl
  go_wp2_with fail
  refine (c_hop _).mono ?_
  rintro e w3 ⟨rfl, hb3⟩
  have R3 := (H1.out.next hb3).new (.cells #[.int .u16 8, .int .u8 2, .int .u16 4, .int .u16 2] 26)
  have A3 := (H2.out.below hb3).new (.cells #[.int .u16 8, .int .u8 2, .int .u16 4, .int .u16 2] 26)
  have B3 := (H3.out.below hb3).new (.cells #[.int .u16 8, .int .u8 2, .int .u16 4, .int .u16 2] 26)
  have C3 := cells_mk w3 [.int .u16 8, .int .u8 2, .int .u16 4, .int .u16 2] 26
  have H4 := Lib.hid R3
  have H5 := Lib.hid A3
  have H6 := Lib.hid B3
  have H7 := Lib.hid C3
  clear R3 A3 B3 C3 hb3 H1 H2 H3 a0 a1 a2
  generalize w2.heap.size = b2 at *
  have a0 := H5.out.2 0 _ rfl
  have a1 := H5.out.2 1 _ rfl
  have a2 := H5.out.2 2 _ rfl
  have e0 := H6.out.2 0 _ rfl
  have e1 := H6.out.2 1 _ rfl
  have e2 := H6.out.2 2 _ rfl
  have m3 := H7.out.2 3 _ rfl
  go_wp2_with fail
  refine (c_cmp _).mono ?_
  rintro e w4 ⟨rfl, hb4⟩
  have R4 := Lib.hid (H4.out.next hb4)
  have A4 := Lib.hid (H5.out.below hb4)
  clear a0 a1 a2 e0 e1 e2 m3 hb4 H4 H5 H6 H7
  have a0 := A4.out.2 0 _ rfl
  have a1 := A4.out.2 1 _ rfl
  have a2 := A4.out.2 2 _ rfl
  go_wp2_with fail
  refine (c_text _ R4.out.1).mono ?_
  rintro e w5 ⟨rfl, hb5⟩
  have R5 := Lib.hid (R4.out.next hb5)
  clear a0 a1 a2 hb5 A4 R4
  go_wp2_with fail
  go_ret
  exact ⟨rfl, R5.out.2.1⟩

end Go.Proofs.YtgdamcajjifliaaDoor
