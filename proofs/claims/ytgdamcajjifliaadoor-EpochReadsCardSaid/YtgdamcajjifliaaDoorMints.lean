/-
  The law EpochMints, walked: it returns true. Conditions: numbers such as their kinds hold; the library's variables are as the program lays them.
-/
import Derived.Test.YtgdamcajjifliaaDoorOrders
namespace Go.Proofs.YtgdamcajjifliaaDoor
open Go.RowKit

/-- What the program mints the reference mints. -/
theorem mint_same (x : Ep) (a i : Nat) (limit : Int) (hx : x.c ≤ 65535) : ∃ (r : Ep) (ok : Bool),
    (∀ w : World, Calls Tryd.prog 16 #[.agg #[.int .u16 x.c, .int .u8 x.a, .int .u16 x.i], .int .u8 a, .int .u16 i, .int .i64 limit] w fun e w' => e = .returned (.tuple #[.agg #[.int .u16 r.c, .int .u8 r.a, .int .u16 r.i], .bool ok]) ∧ Below w.heap.size w w') ∧
    (∀ w : World, Calls Tryd.prog 17 #[.agg #[.int .u16 x.c, .int .u8 x.a, .int .u16 x.i], .int .u8 a, .int .u16 i, .int .i64 limit] w fun e w' => e = .returned (.tuple #[.agg #[.int .u16 r.c, .int .u8 r.a, .int .u16 r.i], .bool ok]) ∧ Below w.heap.size w w') := by
  by_cases h : limit ≤ (x.c : Int) ∨ (65535 : Int) ≤ (x.c : Int)
  · exact ⟨⟨0, 0, 0⟩, false, fun w => mint_no x a i limit w hx h, fun w => rmint_no x a i limit w hx h⟩
  · exact ⟨⟨x.c + 1, a, i⟩, true, fun w => mint_yes x a i limit w (by omega) (by omega), fun w => rmint_yes x a i limit w (by omega) (by omega)⟩

theorem newer_next (x : Ep) (h : Nat) (hx : x.fit) (hh : ¬ (65535 : Int) ≤ (h : Int)) (w : World) :
    Calls Tryd.prog 12 #[.agg #[.int .u16 x.c, .int .u8 x.a, .int .u16 x.i, .int .u16 (h + 1 : Nat)], .agg #[.int .u16 x.c, .int .u8 x.a, .int .u16 x.i, .int .u16 h]] w fun e w' => e = .returned (.bool true) ∧ Below w.heap.size w w' := by
  have k := newer_num x x (h + 1) h hx hx (by omega) (by omega) w
  have e : decide ((numM x h : Int) < (numM x (h + 1) : Int)) = true := by unfold numM; simp; omega
  rw [e] at k
  exact k

theorem newer_is (x : Ep) (h h1 : Nat) (e : h + 1 = h1) (hx : x.fit) (hh : h < 65535) (w : World) :
    Calls Tryd.prog 12 #[.agg #[.int .u16 x.c, .int .u8 x.a, .int .u16 x.i, .int .u16 h1], .agg #[.int .u16 x.c, .int .u8 x.a, .int .u16 x.i, .int .u16 h]] w fun e w' => e = .returned (.bool true) ∧ Below w.heap.size w w' := by
  subst e
  exact newer_next x h hx (by omega) w
theorem hop_is (x : Ep) (h h1 : Nat) (e : h + 1 = h1) (hh : h < 65535) (w : World) : Calls Tryd.prog 18 #[.agg #[.int .u16 x.c, .int .u8 x.a, .int .u16 x.i, .int .u16 h]] w fun e w' => e = .returned (.tuple #[.agg #[.int .u16 x.c, .int .u8 x.a, .int .u16 x.i, .int .u16 h1], .bool true]) ∧ Below w.heap.size w w' := by
  subst e
  exact hop_yes x h w (by omega)
theorem Rest.new {N : Nat} {w W : World} (h : Rest N w W) (o : Obj) : Rest N w (W.alloc o) := h.next ((Below.refl _ _).alloc (Nat.le_refl _) o)

set_option maxRecDepth 100000 in
set_option maxHeartbeats 4000000 in
theorem mints_walk (x : Ep) (h n : Nat) (a b : Int) (hx : x.fit) (hh : h ≤ 65535) (w : World) (hE : Env w) :
    Calls Tryd.prog 4 #[.agg #[.int .u16 x.c, .int .u8 x.a, .int .u16 x.i, .int .u16 h], .int .u8 n, .agg #[.int .i64 a, .int .i64 b]] w fun e w' => e = .returned (.bool true) ∧ Below w.heap.size w w' := by
  obtain ⟨i, hi⟩ : ∃ i : Nat, IntKind.u16.wrap a = (i : Int) := ⟨(a % 65536).toNat, by rw [IntKind.wrap_u16]; omega⟩
  obtain ⟨r, ok, m1, m2⟩ := mint_same x n i b hx.1
  have HX := Lib.hid hx
  have M1 := Lib.hid m1
  have M2 := Lib.hid m2
  have HB := boxes_mk w [.int .u16 x.c, .int .u8 x.a, .int .u16 x.i, .int .u16 h] [.int .i64 a, .int .i64 b] 26 36
  have HR : Rest w.heap.size w ((w.alloc (.cells [.int .u16 x.c, .int .u8 x.a, .int .u16 x.i, .int .u16 h].toArray 26)).alloc (.cells [.int .i64 a, .int .i64 b].toArray 36)) := ⟨hE.below HB.2.2.2.2.2.2, HB.2.2.2.2.2.2, HB.2.2.1⟩
  have HB1 := Lib.hid HB
  have HR1 := Lib.hid HR
  clear hx HB HR hE m1 m2
  rcases Nat.lt_or_ge h 65535 with hlt | hge
  · have H5 := Lib.hid hlt
    have he : ((h : Int) == 65535) = false := by simp; omega
    have hw : IntKind.u16.wrap ((h : Int) + 1) = ((h + 1 : Nat) : Int) := by rw [IntKind.wrap_u16]; omega
    clear hlt hh
    generalize hh1 : h + 1 = h1 at *
    have HH1 := Lib.hid hh1
    clear hh1
    go_enter Tryd.func4, Tryd.ntmps4
    go_wp2_with fail
    refine (awake_any _ HR1.out.1).mono ?_
    rintro e w0 ⟨rfl, hb0⟩
    have HB2 := HB1.out.below hb0
    have HR2 := HR1.out.next hb0
    clear hb0 HB1 HR1
    have c6 := HB2.2.2.2.2.2.1
    have p0 := c6 0 _ rfl
    have p1 := c6 1 _ rfl
    have CC : Cells w0 w.heap.size [.int .u16 x.c, .int .u8 x.a, .int .u16 x.i, .int .u16 h] := ⟨HB2.2.2.1, HB2.2.2.2.2.1⟩
    have C0 := Lib.hid CC
    clear c6 HB2 CC
    generalize w.heap.size + 1 = b2 at *
    generalize hN : w.heap.size = b1 at *
    go_wp2_with fail
    go_quiet (fail)
    have R1 := Lib.hid (HR2.next (quiet_below w0 nq))
    have C1 := Lib.hid (C0.out.below (quiet_below w0 nq))
    clear p0 p1 HR2 C0
    generalize w0.drewN nq = W0 at *
    have x0 := C1.out.2 0 _ rfl
    have x1 := C1.out.2 1 _ rfl
    have x2 := C1.out.2 2 _ rfl
    have x3 := C1.out.2 3 _ rfl
    go_wp2_with fail
    refine (M1.out _).mono ?_
    rintro e w1 ⟨rfl, hb1⟩
    have R2 := Lib.hid ((R1.out.next hb1).new (.cells #[.int .u16 r.c, .int .u8 r.a, .int .u16 r.i] 24))
    have C2 := Lib.hid ((C1.out.below hb1).new (.cells #[.int .u16 r.c, .int .u8 r.a, .int .u16 r.i] 24))
    have A2 := Lib.hid (cells_mk w1 [.int .u16 r.c, .int .u8 r.a, .int .u16 r.i] 24)
    clear x0 x1 x2 x3 hb1 R1 C1
    have x0 := C2.out.2 0 _ rfl
    have x1 := C2.out.2 1 _ rfl
    have x2 := C2.out.2 2 _ rfl
    have x3 := C2.out.2 3 _ rfl
    go_wp2_with fail
    generalize w1.heap.size = b3 at *
    refine (M2.out _).mono ?_
    rintro e w2 ⟨rfl, hb2⟩
    have R3 := Lib.hid ((R2.out.next hb2).new (.cells #[.int .u16 r.c, .int .u8 r.a, .int .u16 r.i] 24))
    have C3 := Lib.hid ((C2.out.below hb2).new (.cells #[.int .u16 r.c, .int .u8 r.a, .int .u16 r.i] 24))
    have A3 := Lib.hid ((A2.out.below hb2).new (.cells #[.int .u16 r.c, .int .u8 r.a, .int .u16 r.i] 24))
    have B3 := Lib.hid (cells_mk w2 [.int .u16 r.c, .int .u8 r.a, .int .u16 r.i] 24)
    clear x0 x1 x2 x3 hb2 R2 C2 A2
    have x0 := C3.out.2 0 _ rfl
    have x1 := C3.out.2 1 _ rfl
    have x2 := C3.out.2 2 _ rfl
    have x3 := C3.out.2 3 _ rfl
    go_wp2_with fail
    generalize w2.heap.size = b4 at *
    refine (hop_is x h h1 HH1.out H5.out _).mono ?_
    rintro e w3 ⟨rfl, hb3⟩
    have R4 := Lib.hid ((R3.out.next hb3).new (.cells #[.int .u16 x.c, .int .u8 x.a, .int .u16 x.i, .int .u16 h1] 26))
    have C4 := Lib.hid ((C3.out.below hb3).new (.cells #[.int .u16 x.c, .int .u8 x.a, .int .u16 x.i, .int .u16 h1] 26))
    have A4 := Lib.hid ((A3.out.below hb3).new (.cells #[.int .u16 x.c, .int .u8 x.a, .int .u16 x.i, .int .u16 h1] 26))
    have B4 := Lib.hid ((B3.out.below hb3).new (.cells #[.int .u16 x.c, .int .u8 x.a, .int .u16 x.i, .int .u16 h1] 26))
    have D4 := Lib.hid (cells_mk w3 [.int .u16 x.c, .int .u8 x.a, .int .u16 x.i, .int .u16 h1] 26)
    clear x0 x1 x2 x3 hb3 R3 C3 A3 B3
    have x0 := C4.out.2 0 _ rfl
    have x1 := C4.out.2 1 _ rfl
    have x2 := C4.out.2 2 _ rfl
    have x3 := C4.out.2 3 _ rfl
    have r0 := A4.out.2 0 _ rfl
    have r1 := A4.out.2 1 _ rfl
    have r2 := A4.out.2 2 _ rfl
    have s0 := B4.out.2 0 _ rfl
    have s1 := B4.out.2 1 _ rfl
    have s2 := B4.out.2 2 _ rfl
    have m0 := D4.out.2 0 _ rfl
    have m1 := D4.out.2 1 _ rfl
    have m2 := D4.out.2 2 _ rfl
    have m3 := D4.out.2 3 _ rfl
    go_wp2_with fail
    refine (newer_is x h h1 HH1.out HX.out H5.out _).mono ?_
    rintro e w4 ⟨rfl, hb4⟩
    have R5 := Lib.hid (R4.out.next hb4)
    clear x0 x1 x2 x3 r0 r1 r2 s0 s1 s2 m0 m1 m2 m3 hb4
    go_wp2
    go_ret
    exact ⟨rfl, by rw [hN]; exact R5.out.2.1⟩
  · obtain rfl : h = 65535 := by omega
    clear hge hh
    go_enter Tryd.func4, Tryd.ntmps4
    go_wp2_with fail
    refine (awake_any _ HR1.out.1).mono ?_
    rintro e w0 ⟨rfl, hb0⟩
    have HB2 := HB1.out.below hb0
    have HR2 := HR1.out.next hb0
    clear hb0 HB1 HR1
    have c6 := HB2.2.2.2.2.2.1
    have p0 := c6 0 _ rfl
    have p1 := c6 1 _ rfl
    have CC : Cells w0 w.heap.size [.int .u16 x.c, .int .u8 x.a, .int .u16 x.i, .int .u16 65535] := ⟨HB2.2.2.1, HB2.2.2.2.2.1⟩
    have C0 := Lib.hid CC
    clear c6 HB2 CC
    generalize w.heap.size + 1 = b2 at *
    generalize hN : w.heap.size = b1 at *
    go_wp2_with fail
    go_quiet (fail)
    have R1 := Lib.hid (HR2.next (quiet_below w0 nq))
    have C1 := Lib.hid (C0.out.below (quiet_below w0 nq))
    clear p0 p1 HR2 C0
    generalize w0.drewN nq = W0 at *
    have x0 := C1.out.2 0 _ rfl
    have x1 := C1.out.2 1 _ rfl
    have x2 := C1.out.2 2 _ rfl
    have x3 := C1.out.2 3 _ rfl
    go_wp2_with fail
    refine (M1.out _).mono ?_
    rintro e w1 ⟨rfl, hb1⟩
    have R2 := Lib.hid ((R1.out.next hb1).new (.cells #[.int .u16 r.c, .int .u8 r.a, .int .u16 r.i] 24))
    have C2 := Lib.hid ((C1.out.below hb1).new (.cells #[.int .u16 r.c, .int .u8 r.a, .int .u16 r.i] 24))
    have A2 := Lib.hid (cells_mk w1 [.int .u16 r.c, .int .u8 r.a, .int .u16 r.i] 24)
    clear x0 x1 x2 x3 hb1 R1 C1
    have x0 := C2.out.2 0 _ rfl
    have x1 := C2.out.2 1 _ rfl
    have x2 := C2.out.2 2 _ rfl
    have x3 := C2.out.2 3 _ rfl
    go_wp2_with fail
    generalize w1.heap.size = b3 at *
    refine (M2.out _).mono ?_
    rintro e w2 ⟨rfl, hb2⟩
    have R3 := Lib.hid ((R2.out.next hb2).new (.cells #[.int .u16 r.c, .int .u8 r.a, .int .u16 r.i] 24))
    have C3 := Lib.hid ((C2.out.below hb2).new (.cells #[.int .u16 r.c, .int .u8 r.a, .int .u16 r.i] 24))
    have A3 := Lib.hid ((A2.out.below hb2).new (.cells #[.int .u16 r.c, .int .u8 r.a, .int .u16 r.i] 24))
    have B3 := Lib.hid (cells_mk w2 [.int .u16 r.c, .int .u8 r.a, .int .u16 r.i] 24)
    clear x0 x1 x2 x3 hb2 R2 C2 A2
    have x0 := C3.out.2 0 _ rfl
    have x1 := C3.out.2 1 _ rfl
    have x2 := C3.out.2 2 _ rfl
    have x3 := C3.out.2 3 _ rfl
    go_wp2_with fail
    generalize w2.heap.size = b4 at *
    refine (hop_no x _).mono ?_
    rintro e w3 ⟨rfl, hb3⟩
    have R4 := Lib.hid ((R3.out.next hb3).new (.cells #[.int .u16 0, .int .u8 0, .int .u16 0, .int .u16 0] 26))
    have C4 := Lib.hid ((C3.out.below hb3).new (.cells #[.int .u16 0, .int .u8 0, .int .u16 0, .int .u16 0] 26))
    have A4 := Lib.hid ((A3.out.below hb3).new (.cells #[.int .u16 0, .int .u8 0, .int .u16 0, .int .u16 0] 26))
    have B4 := Lib.hid ((B3.out.below hb3).new (.cells #[.int .u16 0, .int .u8 0, .int .u16 0, .int .u16 0] 26))
    have D4 := Lib.hid (cells_mk w3 [.int .u16 0, .int .u8 0, .int .u16 0, .int .u16 0] 26)
    clear x0 x1 x2 x3 hb3 R3 C3 A3 B3
    have x0 := C4.out.2 0 _ rfl
    have x1 := C4.out.2 1 _ rfl
    have x2 := C4.out.2 2 _ rfl
    have x3 := C4.out.2 3 _ rfl
    have r0 := A4.out.2 0 _ rfl
    have r1 := A4.out.2 1 _ rfl
    have r2 := A4.out.2 2 _ rfl
    have s0 := B4.out.2 0 _ rfl
    have s1 := B4.out.2 1 _ rfl
    have s2 := B4.out.2 2 _ rfl
    have m0 := D4.out.2 0 _ rfl
    have m1 := D4.out.2 1 _ rfl
    have m2 := D4.out.2 2 _ rfl
    have m3 := D4.out.2 3 _ rfl
    go_wp2
    go_ret
    exact ⟨rfl, by rw [hN]; exact R4.out.2.1⟩

end Go.Proofs.YtgdamcajjifliaaDoor
