/-
  The law EpochFresh, walked: it returns true. Conditions: numbers such as their kinds hold; the library's variables are as the program lays them.
-/
import Derived.Test.YtgdamcajjifliaaDoorMints
namespace Go.Proofs.YtgdamcajjifliaaDoor
open Go.RowKit

theorem mint_is (x : Ep) (a i c1 : Nat) (e : x.c + 1 = c1) (h : x.c < 65535) (w : World) :
    Calls Tryd.prog 16 #[.agg #[.int .u16 x.c, .int .u8 x.a, .int .u16 x.i], .int .u8 a, .int .u16 i, .int .i64 65535] w fun e w' => e = .returned (.tuple #[.agg #[.int .u16 c1, .int .u8 a, .int .u16 i], .bool true]) ∧ Below w.heap.size w w' := by
  subst e
  exact mint_yes x a i 65535 w (by omega) (by omega)
theorem mint_full (x : Ep) (a i : Nat) (hx : x.fit) (h : 65535 ≤ x.c) (w : World) :
    Calls Tryd.prog 16 #[.agg #[.int .u16 x.c, .int .u8 x.a, .int .u16 x.i], .int .u8 a, .int .u16 i, .int .i64 65535] w fun e w' => e = .returned (.tuple #[.agg #[.int .u16 0, .int .u8 0, .int .u16 0], .bool false]) ∧ Below w.heap.size w w' :=
  mint_no x a i 65535 w hx.1 (by omega)
theorem cmp_to (x y : Ep) (r : Int) (h : cmpE x y = r) (w : World) : Calls Tryd.prog 9 #[.agg #[.int .u16 x.c, .int .u8 x.a, .int .u16 x.i], .agg #[.int .u16 y.c, .int .u8 y.a, .int .u16 y.i]] w fun e w' => e = .returned (.int .i64 r) ∧ Below w.heap.size w w' := by
  subst h
  exact cmpE_any x y w

set_option maxRecDepth 100000 in
set_option maxHeartbeats 8000000 in
theorem fresh_walk (x y : Ep) (ec ea ei fc fa fi : Nat) (hx : x.fit) (hy : y.fit) (he : Ep.fit ⟨ec, ea, ei⟩) (w : World) (hE : Env w) :
    Calls Tryd.prog 5 #[.agg #[.int .u16 x.c, .int .u8 x.a, .int .u16 x.i], .agg #[.int .u16 y.c, .int .u8 y.a, .int .u16 y.i], .agg #[.int .u16 ec, .int .u8 ea, .int .u16 ei, .int .u16 fc, .int .u8 fa, .int .u16 fi]] w fun e w' => e = .returned (.bool true) ∧ Below w.heap.size w w' := by
  have HX := Lib.hid hx
  have r1 : Rest w.heap.size w (w.alloc (.cells [.int .u16 x.c, .int .u8 x.a, .int .u16 x.i].toArray 24)) := ⟨hE.below ((Below.refl _ _).alloc (Nat.le_refl _) _), (Below.refl _ _).alloc (Nat.le_refl _) _, by simp⟩
  have R0 := Lib.hid ((r1.new (.cells [.int .u16 y.c, .int .u8 y.a, .int .u16 y.i].toArray 24)).new (.cells [.int .u16 ec, .int .u8 ea, .int .u16 ei, .int .u16 fc, .int .u8 fa, .int .u16 fi].toArray 42))
  have X0 := Lib.hid (((cells_mk w [.int .u16 x.c, .int .u8 x.a, .int .u16 x.i] 24).new (.cells [.int .u16 y.c, .int .u8 y.a, .int .u16 y.i].toArray 24)).new (.cells [.int .u16 ec, .int .u8 ea, .int .u16 ei, .int .u16 fc, .int .u8 fa, .int .u16 fi].toArray 42))
  have y0 := (cells_mk (w.alloc (.cells [.int .u16 x.c, .int .u8 x.a, .int .u16 x.i].toArray 24)) [.int .u16 y.c, .int .u8 y.a, .int .u16 y.i] 24).new (.cells [.int .u16 ec, .int .u8 ea, .int .u16 ei, .int .u16 fc, .int .u8 fa, .int .u16 fi].toArray 42)
  have z0 := cells_mk ((w.alloc (.cells [.int .u16 x.c, .int .u8 x.a, .int .u16 x.i].toArray 24)).alloc (.cells [.int .u16 y.c, .int .u8 y.a, .int .u16 y.i].toArray 24)) [.int .u16 ec, .int .u8 ea, .int .u16 ei, .int .u16 fc, .int .u8 fa, .int .u16 fi] 42
  rw [show (w.alloc (.cells [.int .u16 x.c, .int .u8 x.a, .int .u16 x.i].toArray 24)).heap.size = w.heap.size + 1 by simp] at y0
  rw [show ((w.alloc (.cells [.int .u16 x.c, .int .u8 x.a, .int .u16 x.i].toArray 24)).alloc (.cells [.int .u16 y.c, .int .u8 y.a, .int .u16 y.i].toArray 24)).heap.size = w.heap.size + 1 + 1 by simp] at z0
  have Y0 := Lib.hid y0
  have W0 := Lib.hid z0
  clear r1 y0 z0 hE
  rcases Nat.lt_or_ge x.c 65535 with hlt | hge
  · have hA : Ep.fit ⟨x.c + 1, ea, ei⟩ := ⟨by show x.c + 1 ≤ 65535; omega, he.2.1, he.2.2⟩
    have K1 : Hid (cmpE ⟨x.c + 1, ea, ei⟩ x = 1) := by
      rw [cmpE_num _ _ hA hx, cmpN_gt (by obtain ⟨a1, a2, a3⟩ := hx; unfold numE; simp only; omega)]
      exact Lib.hid rfl
    have K2 : Hid (cmpE x ⟨x.c + 1, ea, ei⟩ = -1) := by
      rw [cmpE_num _ _ hx hA, cmpN_lt (by obtain ⟨a1, a2, a3⟩ := hx; unfold numE; simp only; omega)]
      exact Lib.hid rfl
    have K5 : numE x < numE ⟨x.c + 1, ea, ei⟩ := by
      obtain ⟨a1, a2, a3⟩ := hx
      unfold numE; simp only; omega
    have K6 : numE y < numE x → cmpE ⟨x.c + 1, ea, ei⟩ y = 1 := fun h => by
      rw [cmpE_num _ _ hA hy, cmpN_gt (Nat.lt_trans h K5)]
    have K7 := Lib.hid K6
    have H5 := Lib.hid hlt
    have KN := Lib.hid (cmpE_num y x hy hx)
    clear K5 K6 hlt he hx hy hA
    generalize hh1 : x.c + 1 = c1 at *
    have HH1 := Lib.hid hh1
    clear hh1
    go_enter Tryd.func5, Tryd.ntmps5
    go_wp2_with fail
    refine (awake_any _ R0.out.1).mono ?_
    rintro e w0 ⟨rfl, hb0⟩
    have R1 := Lib.hid (R0.out.next hb0)
    have X1 := Lib.hid (X0.out.below hb0)
    have Y1 := Lib.hid (Y0.out.below hb0)
    have W1 := Lib.hid (W0.out.below hb0)
    clear hb0 R0 X0 Y0 W0
    generalize w.heap.size + 1 + 1 = b3 at *
    generalize w.heap.size + 1 = b2 at *
    generalize hN : w.heap.size = b1 at *
    have x0 := X1.out.2 0 _ rfl
    have x1 := X1.out.2 1 _ rfl
    have x2 := X1.out.2 2 _ rfl
    have u0 := W1.out.2 0 _ rfl
    have u1 := W1.out.2 1 _ rfl
    have u2 := W1.out.2 2 _ rfl
    have u3 := W1.out.2 3 _ rfl
    have u4 := W1.out.2 4 _ rfl
    have u5 := W1.out.2 5 _ rfl
    go_wp2_with fail
    refine (mint_is x ea ei c1 HH1.out H5.out _).mono ?_
    rintro e w1 ⟨rfl, hb⟩
    have R2 := Lib.hid ((R1.out.next hb).new (.cells #[.int .u16 c1, .int .u8 ea, .int .u16 ei] 24))
    have X2 := Lib.hid ((X1.out.below hb).new (.cells #[.int .u16 c1, .int .u8 ea, .int .u16 ei] 24))
    have Y2 := Lib.hid ((Y1.out.below hb).new (.cells #[.int .u16 c1, .int .u8 ea, .int .u16 ei] 24))
    have W2 := Lib.hid ((W1.out.below hb).new (.cells #[.int .u16 c1, .int .u8 ea, .int .u16 ei] 24))
    have A2 := Lib.hid (cells_mk w1 [.int .u16 c1, .int .u8 ea, .int .u16 ei] 24)
    clear x0 x1 x2 u0 u1 u2 u3 u4 u5 hb R1 X1 Y1 W1
    have x0 := X2.out.2 0 _ rfl
    have x1 := X2.out.2 1 _ rfl
    have x2 := X2.out.2 2 _ rfl
    have u0 := W2.out.2 0 _ rfl
    have u1 := W2.out.2 1 _ rfl
    have u2 := W2.out.2 2 _ rfl
    have u3 := W2.out.2 3 _ rfl
    have u4 := W2.out.2 4 _ rfl
    have u5 := W2.out.2 5 _ rfl
    go_wp2_with fail
    generalize w1.heap.size = b4 at *
    refine (mint_is x fa fi c1 HH1.out H5.out _).mono ?_
    rintro e w2 ⟨rfl, hb⟩
    have R3 := Lib.hid ((R2.out.next hb).new (.cells #[.int .u16 c1, .int .u8 fa, .int .u16 fi] 24))
    have X3 := Lib.hid ((X2.out.below hb).new (.cells #[.int .u16 c1, .int .u8 fa, .int .u16 fi] 24))
    have Y3 := Lib.hid ((Y2.out.below hb).new (.cells #[.int .u16 c1, .int .u8 fa, .int .u16 fi] 24))
    have W3 := Lib.hid ((W2.out.below hb).new (.cells #[.int .u16 c1, .int .u8 fa, .int .u16 fi] 24))
    have A3 := Lib.hid ((A2.out.below hb).new (.cells #[.int .u16 c1, .int .u8 fa, .int .u16 fi] 24))
    have B3 := Lib.hid (cells_mk w2 [.int .u16 c1, .int .u8 fa, .int .u16 fi] 24)
    clear x0 x1 x2 u0 u1 u2 u3 u4 u5 hb R2 X2 Y2 W2 A2
    have HV : numE y < numE x ∨ ¬ numE y < numE x := by omega
    rcases HV with hv | hv
    · have K4 := Lib.hid (K7.out hv)
      have K3 : Hid (cmpE y x = -1) := by
        rw [KN.out, cmpN_lt hv]
        exact Lib.hid rfl
      clear hv KN K7
      rcases Nat.lt_trichotomy ea fa with d | d | d
      · have e1 : ((ea : Int) == (fa : Int)) = false := by simp; omega
        clear d
        have x0 := X3.out.2 0 _ rfl
        have x1 := X3.out.2 1 _ rfl
        have x2 := X3.out.2 2 _ rfl
        have y0 := Y3.out.2 0 _ rfl
        have y1 := Y3.out.2 1 _ rfl
        have y2 := Y3.out.2 2 _ rfl
        have u0 := W3.out.2 0 _ rfl
        have u1 := W3.out.2 1 _ rfl
        have u2 := W3.out.2 2 _ rfl
        have u3 := W3.out.2 3 _ rfl
        have u4 := W3.out.2 4 _ rfl
        have u5 := W3.out.2 5 _ rfl
        go_wp2_with fail
        generalize w2.heap.size = b5 at *
        refine (cmp_to y x _ K3.out _).mono ?_
        rintro e w3 ⟨rfl, hb⟩
        have R4 := Lib.hid (R3.out.next hb)
        have X4 := Lib.hid (X3.out.below hb)
        have Y4 := Lib.hid (Y3.out.below hb)
        have A4 := Lib.hid (A3.out.below hb)
        have B4 := Lib.hid (B3.out.below hb)
        clear x0 x1 x2 y0 y1 y2 u0 u1 u2 u3 u4 u5 hb R3 X3 Y3 A3 B3
        have y0 := Y4.out.2 0 _ rfl
        have y1 := Y4.out.2 1 _ rfl
        have y2 := Y4.out.2 2 _ rfl
        have r0 := A4.out.2 0 _ rfl
        have r1 := A4.out.2 1 _ rfl
        have r2 := A4.out.2 2 _ rfl
        go_wp2_with fail
        refine (cmp_to ⟨c1, ea, ei⟩ y _ K4.out _).mono ?_
        rintro e w4 ⟨rfl, hb⟩
        have R5 := Lib.hid (R4.out.next hb)
        have X5 := Lib.hid (X4.out.below hb)
        have A5 := Lib.hid (A4.out.below hb)
        have B5 := Lib.hid (B4.out.below hb)
        clear y0 y1 y2 r0 r1 r2 hb R4 X4 A4 B4
        have x0 := X5.out.2 0 _ rfl
        have x1 := X5.out.2 1 _ rfl
        have x2 := X5.out.2 2 _ rfl
        have r0 := A5.out.2 0 _ rfl
        have r1 := A5.out.2 1 _ rfl
        have r2 := A5.out.2 2 _ rfl
        go_wp2_with fail
        refine (cmp_to ⟨c1, ea, ei⟩ x _ K1.out _).mono ?_
        rintro e w5 ⟨rfl, hb⟩
        have R6 := Lib.hid (R5.out.next hb)
        have X6 := Lib.hid (X5.out.below hb)
        have A6 := Lib.hid (A5.out.below hb)
        have B6 := Lib.hid (B5.out.below hb)
        clear x0 x1 x2 r0 r1 r2 hb R5 X5 A5 B5
        have x0 := X6.out.2 0 _ rfl
        have x1 := X6.out.2 1 _ rfl
        have x2 := X6.out.2 2 _ rfl
        have r0 := A6.out.2 0 _ rfl
        have r1 := A6.out.2 1 _ rfl
        have r2 := A6.out.2 2 _ rfl
        go_wp2_with fail
        refine (cmp_to x ⟨c1, ea, ei⟩ _ K2.out _).mono ?_
        rintro e w6 ⟨rfl, hb⟩
        have R7 := Lib.hid (R6.out.next hb)
        have A7 := Lib.hid (A6.out.below hb)
        have B7 := Lib.hid (B6.out.below hb)
        clear x0 x1 x2 r0 r1 r2 hb R6 A6 B6
        have r0 := A7.out.2 0 _ rfl
        have r1 := A7.out.2 1 _ rfl
        have r2 := A7.out.2 2 _ rfl
        have s0 := B7.out.2 0 _ rfl
        have s1 := B7.out.2 1 _ rfl
        have s2 := B7.out.2 2 _ rfl
        go_wp2
        go_ret
        exact ⟨rfl, by rw [hN]; exact R7.out.2.1⟩
      · subst d
        rcases Nat.lt_trichotomy ei fi with d | d | d
        · have e1 : ((ei : Int) == (fi : Int)) = false := by simp; omega
          clear d
          have x0 := X3.out.2 0 _ rfl
          have x1 := X3.out.2 1 _ rfl
          have x2 := X3.out.2 2 _ rfl
          have y0 := Y3.out.2 0 _ rfl
          have y1 := Y3.out.2 1 _ rfl
          have y2 := Y3.out.2 2 _ rfl
          have u0 := W3.out.2 0 _ rfl
          have u1 := W3.out.2 1 _ rfl
          have u2 := W3.out.2 2 _ rfl
          have u3 := W3.out.2 3 _ rfl
          have u4 := W3.out.2 4 _ rfl
          have u5 := W3.out.2 5 _ rfl
          go_wp2_with fail
          generalize w2.heap.size = b5 at *
          refine (cmp_to y x _ K3.out _).mono ?_
          rintro e w3 ⟨rfl, hb⟩
          have R4 := Lib.hid (R3.out.next hb)
          have X4 := Lib.hid (X3.out.below hb)
          have Y4 := Lib.hid (Y3.out.below hb)
          have A4 := Lib.hid (A3.out.below hb)
          have B4 := Lib.hid (B3.out.below hb)
          clear x0 x1 x2 y0 y1 y2 u0 u1 u2 u3 u4 u5 hb R3 X3 Y3 A3 B3
          have y0 := Y4.out.2 0 _ rfl
          have y1 := Y4.out.2 1 _ rfl
          have y2 := Y4.out.2 2 _ rfl
          have r0 := A4.out.2 0 _ rfl
          have r1 := A4.out.2 1 _ rfl
          have r2 := A4.out.2 2 _ rfl
          go_wp2_with fail
          refine (cmp_to ⟨c1, ea, ei⟩ y _ K4.out _).mono ?_
          rintro e w4 ⟨rfl, hb⟩
          have R5 := Lib.hid (R4.out.next hb)
          have X5 := Lib.hid (X4.out.below hb)
          have A5 := Lib.hid (A4.out.below hb)
          have B5 := Lib.hid (B4.out.below hb)
          clear y0 y1 y2 r0 r1 r2 hb R4 X4 A4 B4
          have x0 := X5.out.2 0 _ rfl
          have x1 := X5.out.2 1 _ rfl
          have x2 := X5.out.2 2 _ rfl
          have r0 := A5.out.2 0 _ rfl
          have r1 := A5.out.2 1 _ rfl
          have r2 := A5.out.2 2 _ rfl
          go_wp2_with fail
          refine (cmp_to ⟨c1, ea, ei⟩ x _ K1.out _).mono ?_
          rintro e w5 ⟨rfl, hb⟩
          have R6 := Lib.hid (R5.out.next hb)
          have X6 := Lib.hid (X5.out.below hb)
          have A6 := Lib.hid (A5.out.below hb)
          have B6 := Lib.hid (B5.out.below hb)
          clear x0 x1 x2 r0 r1 r2 hb R5 X5 A5 B5
          have x0 := X6.out.2 0 _ rfl
          have x1 := X6.out.2 1 _ rfl
          have x2 := X6.out.2 2 _ rfl
          have r0 := A6.out.2 0 _ rfl
          have r1 := A6.out.2 1 _ rfl
          have r2 := A6.out.2 2 _ rfl
          go_wp2_with fail
          refine (cmp_to x ⟨c1, ea, ei⟩ _ K2.out _).mono ?_
          rintro e w6 ⟨rfl, hb⟩
          have R7 := Lib.hid (R6.out.next hb)
          have A7 := Lib.hid (A6.out.below hb)
          have B7 := Lib.hid (B6.out.below hb)
          clear x0 x1 x2 r0 r1 r2 hb R6 A6 B6
          have r0 := A7.out.2 0 _ rfl
          have r1 := A7.out.2 1 _ rfl
          have r2 := A7.out.2 2 _ rfl
          have s0 := B7.out.2 0 _ rfl
          have s1 := B7.out.2 1 _ rfl
          have s2 := B7.out.2 2 _ rfl
          go_wp2
          go_ret
          exact ⟨rfl, by rw [hN]; exact R7.out.2.1⟩
        · subst d
          have x0 := X3.out.2 0 _ rfl
          have x1 := X3.out.2 1 _ rfl
          have x2 := X3.out.2 2 _ rfl
          have y0 := Y3.out.2 0 _ rfl
          have y1 := Y3.out.2 1 _ rfl
          have y2 := Y3.out.2 2 _ rfl
          have u0 := W3.out.2 0 _ rfl
          have u1 := W3.out.2 1 _ rfl
          have u2 := W3.out.2 2 _ rfl
          have u3 := W3.out.2 3 _ rfl
          have u4 := W3.out.2 4 _ rfl
          have u5 := W3.out.2 5 _ rfl
          go_wp2_with fail
          generalize w2.heap.size = b5 at *
          refine (cmp_to y x _ K3.out _).mono ?_
          rintro e w3 ⟨rfl, hb⟩
          have R4 := Lib.hid (R3.out.next hb)
          have X4 := Lib.hid (X3.out.below hb)
          have Y4 := Lib.hid (Y3.out.below hb)
          have A4 := Lib.hid (A3.out.below hb)
          have B4 := Lib.hid (B3.out.below hb)
          clear x0 x1 x2 y0 y1 y2 u0 u1 u2 u3 u4 u5 hb R3 X3 Y3 A3 B3
          have y0 := Y4.out.2 0 _ rfl
          have y1 := Y4.out.2 1 _ rfl
          have y2 := Y4.out.2 2 _ rfl
          have r0 := A4.out.2 0 _ rfl
          have r1 := A4.out.2 1 _ rfl
          have r2 := A4.out.2 2 _ rfl
          go_wp2_with fail
          refine (cmp_to ⟨c1, ea, ei⟩ y _ K4.out _).mono ?_
          rintro e w4 ⟨rfl, hb⟩
          have R5 := Lib.hid (R4.out.next hb)
          have X5 := Lib.hid (X4.out.below hb)
          have A5 := Lib.hid (A4.out.below hb)
          have B5 := Lib.hid (B4.out.below hb)
          clear y0 y1 y2 r0 r1 r2 hb R4 X4 A4 B4
          have x0 := X5.out.2 0 _ rfl
          have x1 := X5.out.2 1 _ rfl
          have x2 := X5.out.2 2 _ rfl
          have r0 := A5.out.2 0 _ rfl
          have r1 := A5.out.2 1 _ rfl
          have r2 := A5.out.2 2 _ rfl
          go_wp2_with fail
          refine (cmp_to ⟨c1, ea, ei⟩ x _ K1.out _).mono ?_
          rintro e w5 ⟨rfl, hb⟩
          have R6 := Lib.hid (R5.out.next hb)
          have X6 := Lib.hid (X5.out.below hb)
          have A6 := Lib.hid (A5.out.below hb)
          have B6 := Lib.hid (B5.out.below hb)
          clear x0 x1 x2 r0 r1 r2 hb R5 X5 A5 B5
          have x0 := X6.out.2 0 _ rfl
          have x1 := X6.out.2 1 _ rfl
          have x2 := X6.out.2 2 _ rfl
          have r0 := A6.out.2 0 _ rfl
          have r1 := A6.out.2 1 _ rfl
          have r2 := A6.out.2 2 _ rfl
          go_wp2_with fail
          refine (cmp_to x ⟨c1, ea, ei⟩ _ K2.out _).mono ?_
          rintro e w6 ⟨rfl, hb⟩
          have R7 := Lib.hid (R6.out.next hb)
          have A7 := Lib.hid (A6.out.below hb)
          have B7 := Lib.hid (B6.out.below hb)
          clear x0 x1 x2 r0 r1 r2 hb R6 A6 B6
          have r0 := A7.out.2 0 _ rfl
          have r1 := A7.out.2 1 _ rfl
          have r2 := A7.out.2 2 _ rfl
          have s0 := B7.out.2 0 _ rfl
          have s1 := B7.out.2 1 _ rfl
          have s2 := B7.out.2 2 _ rfl
          go_wp2
          go_ret
          exact ⟨rfl, by rw [hN]; exact R7.out.2.1⟩
        · have e1 : ((ei : Int) == (fi : Int)) = false := by simp; omega
          clear d
          have x0 := X3.out.2 0 _ rfl
          have x1 := X3.out.2 1 _ rfl
          have x2 := X3.out.2 2 _ rfl
          have y0 := Y3.out.2 0 _ rfl
          have y1 := Y3.out.2 1 _ rfl
          have y2 := Y3.out.2 2 _ rfl
          have u0 := W3.out.2 0 _ rfl
          have u1 := W3.out.2 1 _ rfl
          have u2 := W3.out.2 2 _ rfl
          have u3 := W3.out.2 3 _ rfl
          have u4 := W3.out.2 4 _ rfl
          have u5 := W3.out.2 5 _ rfl
          go_wp2_with fail
          generalize w2.heap.size = b5 at *
          refine (cmp_to y x _ K3.out _).mono ?_
          rintro e w3 ⟨rfl, hb⟩
          have R4 := Lib.hid (R3.out.next hb)
          have X4 := Lib.hid (X3.out.below hb)
          have Y4 := Lib.hid (Y3.out.below hb)
          have A4 := Lib.hid (A3.out.below hb)
          have B4 := Lib.hid (B3.out.below hb)
          clear x0 x1 x2 y0 y1 y2 u0 u1 u2 u3 u4 u5 hb R3 X3 Y3 A3 B3
          have y0 := Y4.out.2 0 _ rfl
          have y1 := Y4.out.2 1 _ rfl
          have y2 := Y4.out.2 2 _ rfl
          have r0 := A4.out.2 0 _ rfl
          have r1 := A4.out.2 1 _ rfl
          have r2 := A4.out.2 2 _ rfl
          go_wp2_with fail
          refine (cmp_to ⟨c1, ea, ei⟩ y _ K4.out _).mono ?_
          rintro e w4 ⟨rfl, hb⟩
          have R5 := Lib.hid (R4.out.next hb)
          have X5 := Lib.hid (X4.out.below hb)
          have A5 := Lib.hid (A4.out.below hb)
          have B5 := Lib.hid (B4.out.below hb)
          clear y0 y1 y2 r0 r1 r2 hb R4 X4 A4 B4
          have x0 := X5.out.2 0 _ rfl
          have x1 := X5.out.2 1 _ rfl
          have x2 := X5.out.2 2 _ rfl
          have r0 := A5.out.2 0 _ rfl
          have r1 := A5.out.2 1 _ rfl
          have r2 := A5.out.2 2 _ rfl
          go_wp2_with fail
          refine (cmp_to ⟨c1, ea, ei⟩ x _ K1.out _).mono ?_
          rintro e w5 ⟨rfl, hb⟩
          have R6 := Lib.hid (R5.out.next hb)
          have X6 := Lib.hid (X5.out.below hb)
          have A6 := Lib.hid (A5.out.below hb)
          have B6 := Lib.hid (B5.out.below hb)
          clear x0 x1 x2 r0 r1 r2 hb R5 X5 A5 B5
          have x0 := X6.out.2 0 _ rfl
          have x1 := X6.out.2 1 _ rfl
          have x2 := X6.out.2 2 _ rfl
          have r0 := A6.out.2 0 _ rfl
          have r1 := A6.out.2 1 _ rfl
          have r2 := A6.out.2 2 _ rfl
          go_wp2_with fail
          refine (cmp_to x ⟨c1, ea, ei⟩ _ K2.out _).mono ?_
          rintro e w6 ⟨rfl, hb⟩
          have R7 := Lib.hid (R6.out.next hb)
          have A7 := Lib.hid (A6.out.below hb)
          have B7 := Lib.hid (B6.out.below hb)
          clear x0 x1 x2 r0 r1 r2 hb R6 A6 B6
          have r0 := A7.out.2 0 _ rfl
          have r1 := A7.out.2 1 _ rfl
          have r2 := A7.out.2 2 _ rfl
          have s0 := B7.out.2 0 _ rfl
          have s1 := B7.out.2 1 _ rfl
          have s2 := B7.out.2 2 _ rfl
          go_wp2
          go_ret
          exact ⟨rfl, by rw [hN]; exact R7.out.2.1⟩
      · have e1 : ((ea : Int) == (fa : Int)) = false := by simp; omega
        clear d
        have x0 := X3.out.2 0 _ rfl
        have x1 := X3.out.2 1 _ rfl
        have x2 := X3.out.2 2 _ rfl
        have y0 := Y3.out.2 0 _ rfl
        have y1 := Y3.out.2 1 _ rfl
        have y2 := Y3.out.2 2 _ rfl
        have u0 := W3.out.2 0 _ rfl
        have u1 := W3.out.2 1 _ rfl
        have u2 := W3.out.2 2 _ rfl
        have u3 := W3.out.2 3 _ rfl
        have u4 := W3.out.2 4 _ rfl
        have u5 := W3.out.2 5 _ rfl
        go_wp2_with fail
        generalize w2.heap.size = b5 at *
        refine (cmp_to y x _ K3.out _).mono ?_
        rintro e w3 ⟨rfl, hb⟩
        have R4 := Lib.hid (R3.out.next hb)
        have X4 := Lib.hid (X3.out.below hb)
        have Y4 := Lib.hid (Y3.out.below hb)
        have A4 := Lib.hid (A3.out.below hb)
        have B4 := Lib.hid (B3.out.below hb)
        clear x0 x1 x2 y0 y1 y2 u0 u1 u2 u3 u4 u5 hb R3 X3 Y3 A3 B3
        have y0 := Y4.out.2 0 _ rfl
        have y1 := Y4.out.2 1 _ rfl
        have y2 := Y4.out.2 2 _ rfl
        have r0 := A4.out.2 0 _ rfl
        have r1 := A4.out.2 1 _ rfl
        have r2 := A4.out.2 2 _ rfl
        go_wp2_with fail
        refine (cmp_to ⟨c1, ea, ei⟩ y _ K4.out _).mono ?_
        rintro e w4 ⟨rfl, hb⟩
        have R5 := Lib.hid (R4.out.next hb)
        have X5 := Lib.hid (X4.out.below hb)
        have A5 := Lib.hid (A4.out.below hb)
        have B5 := Lib.hid (B4.out.below hb)
        clear y0 y1 y2 r0 r1 r2 hb R4 X4 A4 B4
        have x0 := X5.out.2 0 _ rfl
        have x1 := X5.out.2 1 _ rfl
        have x2 := X5.out.2 2 _ rfl
        have r0 := A5.out.2 0 _ rfl
        have r1 := A5.out.2 1 _ rfl
        have r2 := A5.out.2 2 _ rfl
        go_wp2_with fail
        refine (cmp_to ⟨c1, ea, ei⟩ x _ K1.out _).mono ?_
        rintro e w5 ⟨rfl, hb⟩
        have R6 := Lib.hid (R5.out.next hb)
        have X6 := Lib.hid (X5.out.below hb)
        have A6 := Lib.hid (A5.out.below hb)
        have B6 := Lib.hid (B5.out.below hb)
        clear x0 x1 x2 r0 r1 r2 hb R5 X5 A5 B5
        have x0 := X6.out.2 0 _ rfl
        have x1 := X6.out.2 1 _ rfl
        have x2 := X6.out.2 2 _ rfl
        have r0 := A6.out.2 0 _ rfl
        have r1 := A6.out.2 1 _ rfl
        have r2 := A6.out.2 2 _ rfl
        go_wp2_with fail
        refine (cmp_to x ⟨c1, ea, ei⟩ _ K2.out _).mono ?_
        rintro e w6 ⟨rfl, hb⟩
        have R7 := Lib.hid (R6.out.next hb)
        have A7 := Lib.hid (A6.out.below hb)
        have B7 := Lib.hid (B6.out.below hb)
        clear x0 x1 x2 r0 r1 r2 hb R6 A6 B6
        have r0 := A7.out.2 0 _ rfl
        have r1 := A7.out.2 1 _ rfl
        have r2 := A7.out.2 2 _ rfl
        have s0 := B7.out.2 0 _ rfl
        have s1 := B7.out.2 1 _ rfl
        have s2 := B7.out.2 2 _ rfl
        go_wp2
        go_ret
        exact ⟨rfl, by rw [hN]; exact R7.out.2.1⟩
    · have K3 : ∃ r : Int, Hid (cmpE y x = r) ∧ decide (r < 0) = false := by
        rw [KN.out]
        rcases Nat.lt_or_ge (numE x) (numE y) with h | h
        · exact ⟨1, Lib.hid (cmpN_gt h), rfl⟩
        · exact ⟨0, Lib.hid (cmpN_eq (by omega)), rfl⟩
      obtain ⟨r, K3, hr⟩ := K3
      clear hv KN K7
      rcases Nat.lt_trichotomy ea fa with d | d | d
      · have e1 : ((ea : Int) == (fa : Int)) = false := by simp; omega
        clear d
        have x0 := X3.out.2 0 _ rfl
        have x1 := X3.out.2 1 _ rfl
        have x2 := X3.out.2 2 _ rfl
        have y0 := Y3.out.2 0 _ rfl
        have y1 := Y3.out.2 1 _ rfl
        have y2 := Y3.out.2 2 _ rfl
        have u0 := W3.out.2 0 _ rfl
        have u1 := W3.out.2 1 _ rfl
        have u2 := W3.out.2 2 _ rfl
        have u3 := W3.out.2 3 _ rfl
        have u4 := W3.out.2 4 _ rfl
        have u5 := W3.out.2 5 _ rfl
        go_wp2_with fail
        generalize w2.heap.size = b5 at *
        refine (cmp_to y x _ K3.out _).mono ?_
        rintro e w3 ⟨rfl, hb⟩
        have R4 := Lib.hid (R3.out.next hb)
        have X4 := Lib.hid (X3.out.below hb)
        have Y4 := Lib.hid (Y3.out.below hb)
        have A4 := Lib.hid (A3.out.below hb)
        have B4 := Lib.hid (B3.out.below hb)
        clear x0 x1 x2 y0 y1 y2 u0 u1 u2 u3 u4 u5 hb R3 X3 Y3 A3 B3
        have x0 := X4.out.2 0 _ rfl
        have x1 := X4.out.2 1 _ rfl
        have x2 := X4.out.2 2 _ rfl
        have r0 := A4.out.2 0 _ rfl
        have r1 := A4.out.2 1 _ rfl
        have r2 := A4.out.2 2 _ rfl
        go_wp2_with fail
        refine (cmp_to ⟨c1, ea, ei⟩ x _ K1.out _).mono ?_
        rintro e w5 ⟨rfl, hb⟩
        have R5 := Lib.hid (R4.out.next hb)
        have X5 := Lib.hid (X4.out.below hb)
        have A5 := Lib.hid (A4.out.below hb)
        have B5 := Lib.hid (B4.out.below hb)
        clear x0 x1 x2 r0 r1 r2 hb R4 X4 A4 B4
        have x0 := X5.out.2 0 _ rfl
        have x1 := X5.out.2 1 _ rfl
        have x2 := X5.out.2 2 _ rfl
        have r0 := A5.out.2 0 _ rfl
        have r1 := A5.out.2 1 _ rfl
        have r2 := A5.out.2 2 _ rfl
        go_wp2_with fail
        refine (cmp_to x ⟨c1, ea, ei⟩ _ K2.out _).mono ?_
        rintro e w6 ⟨rfl, hb⟩
        have R6 := Lib.hid (R5.out.next hb)
        have A6 := Lib.hid (A5.out.below hb)
        have B6 := Lib.hid (B5.out.below hb)
        clear x0 x1 x2 r0 r1 r2 hb R5 A5 B5
        have r0 := A6.out.2 0 _ rfl
        have r1 := A6.out.2 1 _ rfl
        have r2 := A6.out.2 2 _ rfl
        have s0 := B6.out.2 0 _ rfl
        have s1 := B6.out.2 1 _ rfl
        have s2 := B6.out.2 2 _ rfl
        go_wp2
        go_ret
        exact ⟨rfl, by rw [hN]; exact R6.out.2.1⟩
      · subst d
        rcases Nat.lt_trichotomy ei fi with d | d | d
        · have e1 : ((ei : Int) == (fi : Int)) = false := by simp; omega
          clear d
          have x0 := X3.out.2 0 _ rfl
          have x1 := X3.out.2 1 _ rfl
          have x2 := X3.out.2 2 _ rfl
          have y0 := Y3.out.2 0 _ rfl
          have y1 := Y3.out.2 1 _ rfl
          have y2 := Y3.out.2 2 _ rfl
          have u0 := W3.out.2 0 _ rfl
          have u1 := W3.out.2 1 _ rfl
          have u2 := W3.out.2 2 _ rfl
          have u3 := W3.out.2 3 _ rfl
          have u4 := W3.out.2 4 _ rfl
          have u5 := W3.out.2 5 _ rfl
          go_wp2_with fail
          generalize w2.heap.size = b5 at *
          refine (cmp_to y x _ K3.out _).mono ?_
          rintro e w3 ⟨rfl, hb⟩
          have R4 := Lib.hid (R3.out.next hb)
          have X4 := Lib.hid (X3.out.below hb)
          have Y4 := Lib.hid (Y3.out.below hb)
          have A4 := Lib.hid (A3.out.below hb)
          have B4 := Lib.hid (B3.out.below hb)
          clear x0 x1 x2 y0 y1 y2 u0 u1 u2 u3 u4 u5 hb R3 X3 Y3 A3 B3
          have x0 := X4.out.2 0 _ rfl
          have x1 := X4.out.2 1 _ rfl
          have x2 := X4.out.2 2 _ rfl
          have r0 := A4.out.2 0 _ rfl
          have r1 := A4.out.2 1 _ rfl
          have r2 := A4.out.2 2 _ rfl
          go_wp2_with fail
          refine (cmp_to ⟨c1, ea, ei⟩ x _ K1.out _).mono ?_
          rintro e w5 ⟨rfl, hb⟩
          have R5 := Lib.hid (R4.out.next hb)
          have X5 := Lib.hid (X4.out.below hb)
          have A5 := Lib.hid (A4.out.below hb)
          have B5 := Lib.hid (B4.out.below hb)
          clear x0 x1 x2 r0 r1 r2 hb R4 X4 A4 B4
          have x0 := X5.out.2 0 _ rfl
          have x1 := X5.out.2 1 _ rfl
          have x2 := X5.out.2 2 _ rfl
          have r0 := A5.out.2 0 _ rfl
          have r1 := A5.out.2 1 _ rfl
          have r2 := A5.out.2 2 _ rfl
          go_wp2_with fail
          refine (cmp_to x ⟨c1, ea, ei⟩ _ K2.out _).mono ?_
          rintro e w6 ⟨rfl, hb⟩
          have R6 := Lib.hid (R5.out.next hb)
          have A6 := Lib.hid (A5.out.below hb)
          have B6 := Lib.hid (B5.out.below hb)
          clear x0 x1 x2 r0 r1 r2 hb R5 A5 B5
          have r0 := A6.out.2 0 _ rfl
          have r1 := A6.out.2 1 _ rfl
          have r2 := A6.out.2 2 _ rfl
          have s0 := B6.out.2 0 _ rfl
          have s1 := B6.out.2 1 _ rfl
          have s2 := B6.out.2 2 _ rfl
          go_wp2
          go_ret
          exact ⟨rfl, by rw [hN]; exact R6.out.2.1⟩
        · subst d
          have x0 := X3.out.2 0 _ rfl
          have x1 := X3.out.2 1 _ rfl
          have x2 := X3.out.2 2 _ rfl
          have y0 := Y3.out.2 0 _ rfl
          have y1 := Y3.out.2 1 _ rfl
          have y2 := Y3.out.2 2 _ rfl
          have u0 := W3.out.2 0 _ rfl
          have u1 := W3.out.2 1 _ rfl
          have u2 := W3.out.2 2 _ rfl
          have u3 := W3.out.2 3 _ rfl
          have u4 := W3.out.2 4 _ rfl
          have u5 := W3.out.2 5 _ rfl
          go_wp2_with fail
          generalize w2.heap.size = b5 at *
          refine (cmp_to y x _ K3.out _).mono ?_
          rintro e w3 ⟨rfl, hb⟩
          have R4 := Lib.hid (R3.out.next hb)
          have X4 := Lib.hid (X3.out.below hb)
          have Y4 := Lib.hid (Y3.out.below hb)
          have A4 := Lib.hid (A3.out.below hb)
          have B4 := Lib.hid (B3.out.below hb)
          clear x0 x1 x2 y0 y1 y2 u0 u1 u2 u3 u4 u5 hb R3 X3 Y3 A3 B3
          have x0 := X4.out.2 0 _ rfl
          have x1 := X4.out.2 1 _ rfl
          have x2 := X4.out.2 2 _ rfl
          have r0 := A4.out.2 0 _ rfl
          have r1 := A4.out.2 1 _ rfl
          have r2 := A4.out.2 2 _ rfl
          go_wp2_with fail
          refine (cmp_to ⟨c1, ea, ei⟩ x _ K1.out _).mono ?_
          rintro e w5 ⟨rfl, hb⟩
          have R5 := Lib.hid (R4.out.next hb)
          have X5 := Lib.hid (X4.out.below hb)
          have A5 := Lib.hid (A4.out.below hb)
          have B5 := Lib.hid (B4.out.below hb)
          clear x0 x1 x2 r0 r1 r2 hb R4 X4 A4 B4
          have x0 := X5.out.2 0 _ rfl
          have x1 := X5.out.2 1 _ rfl
          have x2 := X5.out.2 2 _ rfl
          have r0 := A5.out.2 0 _ rfl
          have r1 := A5.out.2 1 _ rfl
          have r2 := A5.out.2 2 _ rfl
          go_wp2_with fail
          refine (cmp_to x ⟨c1, ea, ei⟩ _ K2.out _).mono ?_
          rintro e w6 ⟨rfl, hb⟩
          have R6 := Lib.hid (R5.out.next hb)
          have A6 := Lib.hid (A5.out.below hb)
          have B6 := Lib.hid (B5.out.below hb)
          clear x0 x1 x2 r0 r1 r2 hb R5 A5 B5
          have r0 := A6.out.2 0 _ rfl
          have r1 := A6.out.2 1 _ rfl
          have r2 := A6.out.2 2 _ rfl
          have s0 := B6.out.2 0 _ rfl
          have s1 := B6.out.2 1 _ rfl
          have s2 := B6.out.2 2 _ rfl
          go_wp2
          go_ret
          exact ⟨rfl, by rw [hN]; exact R6.out.2.1⟩
        · have e1 : ((ei : Int) == (fi : Int)) = false := by simp; omega
          clear d
          have x0 := X3.out.2 0 _ rfl
          have x1 := X3.out.2 1 _ rfl
          have x2 := X3.out.2 2 _ rfl
          have y0 := Y3.out.2 0 _ rfl
          have y1 := Y3.out.2 1 _ rfl
          have y2 := Y3.out.2 2 _ rfl
          have u0 := W3.out.2 0 _ rfl
          have u1 := W3.out.2 1 _ rfl
          have u2 := W3.out.2 2 _ rfl
          have u3 := W3.out.2 3 _ rfl
          have u4 := W3.out.2 4 _ rfl
          have u5 := W3.out.2 5 _ rfl
          go_wp2_with fail
          generalize w2.heap.size = b5 at *
          refine (cmp_to y x _ K3.out _).mono ?_
          rintro e w3 ⟨rfl, hb⟩
          have R4 := Lib.hid (R3.out.next hb)
          have X4 := Lib.hid (X3.out.below hb)
          have Y4 := Lib.hid (Y3.out.below hb)
          have A4 := Lib.hid (A3.out.below hb)
          have B4 := Lib.hid (B3.out.below hb)
          clear x0 x1 x2 y0 y1 y2 u0 u1 u2 u3 u4 u5 hb R3 X3 Y3 A3 B3
          have x0 := X4.out.2 0 _ rfl
          have x1 := X4.out.2 1 _ rfl
          have x2 := X4.out.2 2 _ rfl
          have r0 := A4.out.2 0 _ rfl
          have r1 := A4.out.2 1 _ rfl
          have r2 := A4.out.2 2 _ rfl
          go_wp2_with fail
          refine (cmp_to ⟨c1, ea, ei⟩ x _ K1.out _).mono ?_
          rintro e w5 ⟨rfl, hb⟩
          have R5 := Lib.hid (R4.out.next hb)
          have X5 := Lib.hid (X4.out.below hb)
          have A5 := Lib.hid (A4.out.below hb)
          have B5 := Lib.hid (B4.out.below hb)
          clear x0 x1 x2 r0 r1 r2 hb R4 X4 A4 B4
          have x0 := X5.out.2 0 _ rfl
          have x1 := X5.out.2 1 _ rfl
          have x2 := X5.out.2 2 _ rfl
          have r0 := A5.out.2 0 _ rfl
          have r1 := A5.out.2 1 _ rfl
          have r2 := A5.out.2 2 _ rfl
          go_wp2_with fail
          refine (cmp_to x ⟨c1, ea, ei⟩ _ K2.out _).mono ?_
          rintro e w6 ⟨rfl, hb⟩
          have R6 := Lib.hid (R5.out.next hb)
          have A6 := Lib.hid (A5.out.below hb)
          have B6 := Lib.hid (B5.out.below hb)
          clear x0 x1 x2 r0 r1 r2 hb R5 A5 B5
          have r0 := A6.out.2 0 _ rfl
          have r1 := A6.out.2 1 _ rfl
          have r2 := A6.out.2 2 _ rfl
          have s0 := B6.out.2 0 _ rfl
          have s1 := B6.out.2 1 _ rfl
          have s2 := B6.out.2 2 _ rfl
          go_wp2
          go_ret
          exact ⟨rfl, by rw [hN]; exact R6.out.2.1⟩
      · have e1 : ((ea : Int) == (fa : Int)) = false := by simp; omega
        clear d
        have x0 := X3.out.2 0 _ rfl
        have x1 := X3.out.2 1 _ rfl
        have x2 := X3.out.2 2 _ rfl
        have y0 := Y3.out.2 0 _ rfl
        have y1 := Y3.out.2 1 _ rfl
        have y2 := Y3.out.2 2 _ rfl
        have u0 := W3.out.2 0 _ rfl
        have u1 := W3.out.2 1 _ rfl
        have u2 := W3.out.2 2 _ rfl
        have u3 := W3.out.2 3 _ rfl
        have u4 := W3.out.2 4 _ rfl
        have u5 := W3.out.2 5 _ rfl
        go_wp2_with fail
        generalize w2.heap.size = b5 at *
        refine (cmp_to y x _ K3.out _).mono ?_
        rintro e w3 ⟨rfl, hb⟩
        have R4 := Lib.hid (R3.out.next hb)
        have X4 := Lib.hid (X3.out.below hb)
        have Y4 := Lib.hid (Y3.out.below hb)
        have A4 := Lib.hid (A3.out.below hb)
        have B4 := Lib.hid (B3.out.below hb)
        clear x0 x1 x2 y0 y1 y2 u0 u1 u2 u3 u4 u5 hb R3 X3 Y3 A3 B3
        have x0 := X4.out.2 0 _ rfl
        have x1 := X4.out.2 1 _ rfl
        have x2 := X4.out.2 2 _ rfl
        have r0 := A4.out.2 0 _ rfl
        have r1 := A4.out.2 1 _ rfl
        have r2 := A4.out.2 2 _ rfl
        go_wp2_with fail
        refine (cmp_to ⟨c1, ea, ei⟩ x _ K1.out _).mono ?_
        rintro e w5 ⟨rfl, hb⟩
        have R5 := Lib.hid (R4.out.next hb)
        have X5 := Lib.hid (X4.out.below hb)
        have A5 := Lib.hid (A4.out.below hb)
        have B5 := Lib.hid (B4.out.below hb)
        clear x0 x1 x2 r0 r1 r2 hb R4 X4 A4 B4
        have x0 := X5.out.2 0 _ rfl
        have x1 := X5.out.2 1 _ rfl
        have x2 := X5.out.2 2 _ rfl
        have r0 := A5.out.2 0 _ rfl
        have r1 := A5.out.2 1 _ rfl
        have r2 := A5.out.2 2 _ rfl
        go_wp2_with fail
        refine (cmp_to x ⟨c1, ea, ei⟩ _ K2.out _).mono ?_
        rintro e w6 ⟨rfl, hb⟩
        have R6 := Lib.hid (R5.out.next hb)
        have A6 := Lib.hid (A5.out.below hb)
        have B6 := Lib.hid (B5.out.below hb)
        clear x0 x1 x2 r0 r1 r2 hb R5 A5 B5
        have r0 := A6.out.2 0 _ rfl
        have r1 := A6.out.2 1 _ rfl
        have r2 := A6.out.2 2 _ rfl
        have s0 := B6.out.2 0 _ rfl
        have s1 := B6.out.2 1 _ rfl
        have s2 := B6.out.2 2 _ rfl
        go_wp2
        go_ret
        exact ⟨rfl, by rw [hN]; exact R6.out.2.1⟩
  · have H5 := Lib.hid hge
    have hq : ((x.c : Int) == 65535) = true := by
      have := hx.1
      simp; omega
    clear hge hx hy he
    go_enter Tryd.func5, Tryd.ntmps5
    go_wp2_with fail
    refine (awake_any _ R0.out.1).mono ?_
    rintro e w0 ⟨rfl, hb0⟩
    have R1 := Lib.hid (R0.out.next hb0)
    have X1 := Lib.hid (X0.out.below hb0)
    have Y1 := Lib.hid (Y0.out.below hb0)
    have W1 := Lib.hid (W0.out.below hb0)
    clear hb0 R0 X0 Y0 W0
    generalize w.heap.size + 1 + 1 = b3 at *
    generalize w.heap.size + 1 = b2 at *
    generalize hN : w.heap.size = b1 at *
    have x0 := X1.out.2 0 _ rfl
    have x1 := X1.out.2 1 _ rfl
    have x2 := X1.out.2 2 _ rfl
    have u0 := W1.out.2 0 _ rfl
    have u1 := W1.out.2 1 _ rfl
    have u2 := W1.out.2 2 _ rfl
    have u3 := W1.out.2 3 _ rfl
    have u4 := W1.out.2 4 _ rfl
    have u5 := W1.out.2 5 _ rfl
    go_wp2_with fail
    refine (mint_full x ea ei HX.out H5.out _).mono ?_
    rintro e w1 ⟨rfl, hb⟩
    have R2 := Lib.hid ((R1.out.next hb).new (.cells #[.int .u16 0, .int .u8 0, .int .u16 0] 24))
    have X2 := Lib.hid ((X1.out.below hb).new (.cells #[.int .u16 0, .int .u8 0, .int .u16 0] 24))
    have W2 := Lib.hid ((W1.out.below hb).new (.cells #[.int .u16 0, .int .u8 0, .int .u16 0] 24))
    have A2 := Lib.hid (cells_mk w1 [.int .u16 0, .int .u8 0, .int .u16 0] 24)
    clear x0 x1 x2 u0 u1 u2 u3 u4 u5 hb R1 X1 W1
    have x0 := X2.out.2 0 _ rfl
    have x1 := X2.out.2 1 _ rfl
    have x2 := X2.out.2 2 _ rfl
    go_wp2
    go_ret
    exact ⟨rfl, by rw [hN]; exact R2.out.2.1⟩

end Go.Proofs.YtgdamcajjifliaaDoor
