/-
  The law EpochOrders, walked: it returns true. Conditions: numbers such as their kinds hold; the library's variables are as the program lays them.
-/
import Derived.Test.YtgdamcajjifliaaDoorAwake
namespace Go.Proofs.YtgdamcajjifliaaDoor
open Go.RowKit

theorem env_of {N : Nat} {w W : World} (h : Rest N w W) : Env W := h.1
theorem cmpNum (x y : Ep) (hx : x.fit) (hy : y.fit) (w : World) : Calls Tryd.prog 9 #[.agg #[.int .u16 x.c, .int .u8 x.a, .int .u16 x.i], .agg #[.int .u16 y.c, .int .u8 y.a, .int .u16 y.i]] w fun e w' => e = .returned (.int .i64 (cmpN (numE x) (numE y))) ∧ Below w.heap.size w w' := by
  rw [← cmpE_num x y hx hy]
  exact cmpE_any x y w
theorem max_is (x y z : Ep) (h : maxE x y = z) (w : World) : Calls Tryd.prog 11 #[.agg #[.int .u16 x.c, .int .u8 x.a, .int .u16 x.i], .agg #[.int .u16 y.c, .int .u8 y.a, .int .u16 y.i]] w fun e w' => e = .returned (.agg #[.int .u16 z.c, .int .u8 z.a, .int .u16 z.i]) ∧ Below w.heap.size w w' := by
  subst h
  exact max_any x y w
theorem newB_num (x y : Ep) (h k : Nat) (hx : x.fit) (hy : y.fit) (hh : h ≤ 65535) (hk : k ≤ 65535) : newB x y h k = decide ((numM y k : Int) < (numM x h : Int)) := by
  unfold newB
  rw [cmpE_num x y hx hy]
  unfold orL
  rcases Nat.lt_trichotomy (numE x) (numE y) with e | e | e
  · rw [cmpN_lt e]
    have : ¬ ((numM y k : Int) < (numM x h : Int)) := by unfold numM; omega
    simp [this]
  · rw [cmpN_eq e]
    rcases Nat.lt_trichotomy h k with f | f | f
    · rw [cmpN_lt f]
      have : ¬ ((numM y k : Int) < (numM x h : Int)) := by unfold numM; omega
      simp [orL, this]
    · rw [cmpN_eq f]
      have : ¬ ((numM y k : Int) < (numM x h : Int)) := by unfold numM; omega
      simp [orL, this]
    · rw [cmpN_gt f]
      have : ((numM y k : Int) < (numM x h : Int)) := by unfold numM; omega
      simp [orL, this]
  · rw [cmpN_gt e]
    have : ((numM y k : Int) < (numM x h : Int)) := by unfold numM; omega
    simp [this]
theorem newer_num (x y : Ep) (h k : Nat) (hx : x.fit) (hy : y.fit) (hh : h ≤ 65535) (hk : k ≤ 65535) (w : World) : Calls Tryd.prog 12 #[.agg #[.int .u16 x.c, .int .u8 x.a, .int .u16 x.i, .int .u16 h], .agg #[.int .u16 y.c, .int .u8 y.a, .int .u16 y.i, .int .u16 k]] w fun e w' => e = .returned (.bool (decide ((numM y k : Int) < (numM x h : Int)))) ∧ Below w.heap.size w w' := by
  rw [← newB_num x y h k hx hy hh hk]
  exact newer_any x y h k w

set_option maxRecDepth 100000 in
set_option maxHeartbeats 4000000 in
theorem orders_walk (x y : Ep) (h k : Nat) (hx : x.fit) (hy : y.fit) (hh : h ≤ 65535) (hk : k ≤ 65535) (w : World) (hE : Env w) :
    Calls Tryd.prog 3 #[.agg #[.int .u16 x.c, .int .u8 x.a, .int .u16 x.i, .int .u16 h], .agg #[.int .u16 y.c, .int .u8 y.a, .int .u16 y.i, .int .u16 k]] w fun e w' => e = .returned (.bool true) ∧ Below w.heap.size w w' := by
  have HX := Lib.hid hx
  have HY := Lib.hid hy
  have Hh := Lib.hid hh
  have Hk := Lib.hid hk
  have HB := boxes_mk w [.int .u16 x.c, .int .u8 x.a, .int .u16 x.i, .int .u16 h] [.int .u16 y.c, .int .u8 y.a, .int .u16 y.i, .int .u16 k] 26 26
  have HR : Rest w.heap.size w ((w.alloc (.cells [.int .u16 x.c, .int .u8 x.a, .int .u16 x.i, .int .u16 h].toArray 26)).alloc (.cells [.int .u16 y.c, .int .u8 y.a, .int .u16 y.i, .int .u16 k].toArray 26)) := ⟨hE.below HB.2.2.2.2.2.2, HB.2.2.2.2.2.2, HB.2.2.1⟩
  have HB1 := Lib.hid HB
  have HR1 := Lib.hid HR
  clear hx hy hh hk HB HR hE
  go_enter Tryd.func3, Tryd.ntmps3
  go_wp2_with fail
  refine (awake_any _ HR1.out.1).mono ?_
  rintro e w0 ⟨rfl, hb0⟩
  have HB2 := HB1.out.below hb0
  have HR2 := HR1.out.next hb0
  clear hb0 HB1 HR1
  have c5 := HB2.2.2.2.2.1
  have c6 := HB2.2.2.2.2.2.1
  have x0 := c5 0 _ rfl
  have x1 := c5 1 _ rfl
  have x2 := c5 2 _ rfl
  have x3 := c5 3 _ rfl
  have x4 := c6 0 _ rfl
  have x5 := c6 1 _ rfl
  have x6 := c6 2 _ rfl
  have x7 := c6 3 _ rfl
  clear c5 c6 HB2
  generalize w.heap.size + 1 = b2 at *
  generalize hN : w.heap.size = b1 at *
  go_wp2_with fail
  go_region_held3 (fun W' => W'.cell? ⟨b1, 0, none⟩ = some (.int .u16 x.c) ∧ W'.cell? ⟨b1, 1, none⟩ = some (.int .u8 x.a) ∧ W'.cell? ⟨b1, 2, none⟩ = some (.int .u16 x.i) ∧ W'.cell? ⟨b1, 3, none⟩ = some (.int .u16 h) ∧ W'.cell? ⟨b2, 0, none⟩ = some (.int .u16 y.c) ∧ W'.cell? ⟨b2, 1, none⟩ = some (.int .u8 y.a) ∧ W'.cell? ⟨b2, 2, none⟩ = some (.int .u16 y.i) ∧ W'.cell? ⟨b2, 3, none⟩ = some (.int .u16 k) ∧ Rest b1 w W') (go_keep)
    (first | (go_at_call 8; first | (have hS := ‹_ ∧ _ ∧ _ ∧ _ ∧ _ ∧ _ ∧ _ ∧ _ ∧ Rest _ _ _›; (with_reducible refine (num_any x HX.out _).mono ?_); rintro e w1 ⟨rfl, hb1⟩; have y0 := kept_cell hb1 hS.1; have y1 := kept_cell hb1 hS.2.1; have y2 := kept_cell hb1 hS.2.2.1; have y3 := kept_cell hb1 hS.2.2.2.1; have y4 := kept_cell hb1 hS.2.2.2.2.1; have y5 := kept_cell hb1 hS.2.2.2.2.2.1; have y6 := kept_cell hb1 hS.2.2.2.2.2.2.1; have y7 := kept_cell hb1 hS.2.2.2.2.2.2.2.1; have hr1 := hS.2.2.2.2.2.2.2.2.next hb1) | (have hS := ‹_ ∧ _ ∧ _ ∧ _ ∧ _ ∧ _ ∧ _ ∧ _ ∧ Rest _ _ _›; (with_reducible refine (num_any y HY.out _).mono ?_); rintro e w1 ⟨rfl, hb1⟩; have y0 := kept_cell hb1 hS.1; have y1 := kept_cell hb1 hS.2.1; have y2 := kept_cell hb1 hS.2.2.1; have y3 := kept_cell hb1 hS.2.2.2.1; have y4 := kept_cell hb1 hS.2.2.2.2.1; have y5 := kept_cell hb1 hS.2.2.2.2.2.1; have y6 := kept_cell hb1 hS.2.2.2.2.2.2.1; have y7 := kept_cell hb1 hS.2.2.2.2.2.2.2.1; have hr1 := hS.2.2.2.2.2.2.2.2.next hb1)))
  clear x0 x1 x2 x3 x4 x5 x6 x7 HR2 hS hb1
  have Hy := Lib.hid (⟨y0, y1, y2, y3, y4, y5, y6, y7⟩ : _ ∧ _ ∧ _ ∧ _ ∧ _ ∧ _ ∧ _ ∧ _)
  clear y0 y1 y2 y3 y4 y5 y6 y7
  rcases Nat.lt_or_ge (numE x) (numE y) with hlt | hge
  · have hc : decide (numE x < numE y) = true := by simp; omega
    have HM : Hid (maxE x y = y) := by
      unfold maxE
      rw [cmpE_num x y HX.out HY.out, cmpN_lt hlt]
      exact Lib.hid rfl
    clear hlt
    have HAX := (Below.refl w1.heap.size w1).alloc (Nat.le_refl _) (.cells #[.int .u16 x.c, .int .u8 x.a, .int .u16 x.i] 24)
    have v0 := kept_cell HAX Hy.out.1
    have v1 := kept_cell HAX Hy.out.2.1
    have v2 := kept_cell HAX Hy.out.2.2.1
    have v4 := kept_cell HAX Hy.out.2.2.2.2.1
    have v5 := kept_cell HAX Hy.out.2.2.2.2.2.1
    have v6 := kept_cell HAX Hy.out.2.2.2.2.2.2.1
    have y0 := Hy.out.1
    have y1 := Hy.out.2.1
    have y2 := Hy.out.2.2.1
    clear HAX
    go_wp2_with fail
    have HA := (Below.refl w1.heap.size w1).alloc (Nat.le_refl _) (.cells #[.int .u16 y.c, .int .u8 y.a, .int .u16 y.i] 24)
    have HW := cells_mk w1 [.int .u16 y.c, .int .u8 y.a, .int .u16 y.i] 24
    have z0 := kept_cell HA (Hy.out.1)
    have z1 := kept_cell HA (Hy.out.2.1)
    have z2 := kept_cell HA (Hy.out.2.2.1)
    have z3 := kept_cell HA (Hy.out.2.2.2.1)
    have z4 := kept_cell HA (Hy.out.2.2.2.2.1)
    have z5 := kept_cell HA (Hy.out.2.2.2.2.2.1)
    have z6 := kept_cell HA (Hy.out.2.2.2.2.2.2.1)
    have z7 := kept_cell HA (Hy.out.2.2.2.2.2.2.2)
    have hr2 := hr1.next HA
    have t0 := HW.2 0 _ rfl
    have t1 := HW.2 1 _ rfl
    have t2 := HW.2 2 _ rfl
    clear HA HW Hy hr1 v0 v1 v2 v4 v5 v6 y0 y1 y2
    generalize w1.heap.size = b3 at *
    obtain ⟨W, HW⟩ : ∃ W, Hid (W = (w1.alloc (.cells [.int .u16 y.c, .int .u8 y.a, .int .u16 y.i].toArray 24))) := ⟨_, Lib.hid rfl⟩
    rw [← HW.out]
    rw [← HW.out] at z0 z1 z2 z3 z4 z5 z6 z7 t0 t1 t2 hr2
    clear HW
    go_region_held3 (fun W' => W'.cell? ⟨b1, 0, none⟩ = some (.int .u16 x.c) ∧ W'.cell? ⟨b1, 1, none⟩ = some (.int .u8 x.a) ∧ W'.cell? ⟨b1, 2, none⟩ = some (.int .u16 x.i) ∧ W'.cell? ⟨b1, 3, none⟩ = some (.int .u16 h) ∧ W'.cell? ⟨b2, 0, none⟩ = some (.int .u16 y.c) ∧ W'.cell? ⟨b2, 1, none⟩ = some (.int .u8 y.a) ∧ W'.cell? ⟨b2, 2, none⟩ = some (.int .u16 y.i) ∧ W'.cell? ⟨b2, 3, none⟩ = some (.int .u16 k) ∧ W'.cell? ⟨b3, 0, none⟩ = some (.int .u16 y.c) ∧ W'.cell? ⟨b3, 1, none⟩ = some (.int .u8 y.a) ∧ W'.cell? ⟨b3, 2, none⟩ = some (.int .u16 y.i) ∧ Rest b1 w W') (go_keep)
      (first | (go_at_call 9; have hS := ‹_ ∧ _ ∧ _ ∧ _ ∧ _ ∧ _ ∧ _ ∧ _ ∧ _ ∧ _ ∧ _ ∧ Rest _ _ _›; (with_reducible refine (cmpNum x y HX.out HY.out _).mono ?_); rintro e w1 ⟨rfl, hb1⟩; have y0 := kept_cell hb1 hS.1; have y1 := kept_cell hb1 hS.2.1; have y2 := kept_cell hb1 hS.2.2.1; have y3 := kept_cell hb1 hS.2.2.2.1; have y4 := kept_cell hb1 hS.2.2.2.2.1; have y5 := kept_cell hb1 hS.2.2.2.2.2.1; have y6 := kept_cell hb1 hS.2.2.2.2.2.2.1; have y7 := kept_cell hb1 hS.2.2.2.2.2.2.2.1; have y8 := kept_cell hb1 hS.2.2.2.2.2.2.2.2.1; have y9 := kept_cell hb1 hS.2.2.2.2.2.2.2.2.2.1; have y10 := kept_cell hb1 hS.2.2.2.2.2.2.2.2.2.2.1; have hr1 := hS.2.2.2.2.2.2.2.2.2.2.2.next hb1)
             | (go_at_call 11; have hS := ‹_ ∧ _ ∧ _ ∧ _ ∧ _ ∧ _ ∧ _ ∧ _ ∧ _ ∧ _ ∧ _ ∧ Rest _ _ _›; (with_reducible refine (max_is x y _ HM.out _).mono ?_); rintro e w1 ⟨rfl, hb1⟩; have y0 := kept_cell hb1 hS.1; have y1 := kept_cell hb1 hS.2.1; have y2 := kept_cell hb1 hS.2.2.1; have y3 := kept_cell hb1 hS.2.2.2.1; have y4 := kept_cell hb1 hS.2.2.2.2.1; have y5 := kept_cell hb1 hS.2.2.2.2.2.1; have y6 := kept_cell hb1 hS.2.2.2.2.2.2.1; have y7 := kept_cell hb1 hS.2.2.2.2.2.2.2.1; have y8 := kept_cell hb1 hS.2.2.2.2.2.2.2.2.1; have y9 := kept_cell hb1 hS.2.2.2.2.2.2.2.2.2.1; have y10 := kept_cell hb1 hS.2.2.2.2.2.2.2.2.2.2.1; have hr1 := hS.2.2.2.2.2.2.2.2.2.2.2.next hb1)
             | (go_at_call 12; have hS := ‹_ ∧ _ ∧ _ ∧ _ ∧ _ ∧ _ ∧ _ ∧ _ ∧ _ ∧ _ ∧ _ ∧ Rest _ _ _›; (with_reducible refine (newer_num x y h k HX.out HY.out Hh.out Hk.out _).mono ?_); rintro e w1 ⟨rfl, hb1⟩; have y0 := kept_cell hb1 hS.1; have y1 := kept_cell hb1 hS.2.1; have y2 := kept_cell hb1 hS.2.2.1; have y3 := kept_cell hb1 hS.2.2.2.1; have y4 := kept_cell hb1 hS.2.2.2.2.1; have y5 := kept_cell hb1 hS.2.2.2.2.2.1; have y6 := kept_cell hb1 hS.2.2.2.2.2.2.1; have y7 := kept_cell hb1 hS.2.2.2.2.2.2.2.1; have y8 := kept_cell hb1 hS.2.2.2.2.2.2.2.2.1; have y9 := kept_cell hb1 hS.2.2.2.2.2.2.2.2.2.1; have y10 := kept_cell hb1 hS.2.2.2.2.2.2.2.2.2.2.1; have hr1 := hS.2.2.2.2.2.2.2.2.2.2.2.next hb1)
             | (go_at_call 13; first | (go_at_call 13; have hS := ‹_ ∧ _ ∧ _ ∧ _ ∧ _ ∧ _ ∧ _ ∧ _ ∧ _ ∧ _ ∧ _ ∧ Rest _ _ _›; (with_reducible refine (mark_any x h HX.out Hh.out _).mono ?_); rintro e w1 ⟨rfl, hb1⟩; have y0 := kept_cell hb1 hS.1; have y1 := kept_cell hb1 hS.2.1; have y2 := kept_cell hb1 hS.2.2.1; have y3 := kept_cell hb1 hS.2.2.2.1; have y4 := kept_cell hb1 hS.2.2.2.2.1; have y5 := kept_cell hb1 hS.2.2.2.2.2.1; have y6 := kept_cell hb1 hS.2.2.2.2.2.2.1; have y7 := kept_cell hb1 hS.2.2.2.2.2.2.2.1; have y8 := kept_cell hb1 hS.2.2.2.2.2.2.2.2.1; have y9 := kept_cell hb1 hS.2.2.2.2.2.2.2.2.2.1; have y10 := kept_cell hb1 hS.2.2.2.2.2.2.2.2.2.2.1; have hr1 := hS.2.2.2.2.2.2.2.2.2.2.2.next hb1) | (go_at_call 13; have hS := ‹_ ∧ _ ∧ _ ∧ _ ∧ _ ∧ _ ∧ _ ∧ _ ∧ _ ∧ _ ∧ _ ∧ Rest _ _ _›; (with_reducible refine (mark_any y k HY.out Hk.out _).mono ?_); rintro e w1 ⟨rfl, hb1⟩; have y0 := kept_cell hb1 hS.1; have y1 := kept_cell hb1 hS.2.1; have y2 := kept_cell hb1 hS.2.2.1; have y3 := kept_cell hb1 hS.2.2.2.1; have y4 := kept_cell hb1 hS.2.2.2.2.1; have y5 := kept_cell hb1 hS.2.2.2.2.2.1; have y6 := kept_cell hb1 hS.2.2.2.2.2.2.1; have y7 := kept_cell hb1 hS.2.2.2.2.2.2.2.1; have y8 := kept_cell hb1 hS.2.2.2.2.2.2.2.2.1; have y9 := kept_cell hb1 hS.2.2.2.2.2.2.2.2.2.1; have y10 := kept_cell hb1 hS.2.2.2.2.2.2.2.2.2.2.1; have hr1 := hS.2.2.2.2.2.2.2.2.2.2.2.next hb1))
             | (go_at_call 14; have hS := ‹_ ∧ _ ∧ _ ∧ _ ∧ _ ∧ _ ∧ _ ∧ _ ∧ _ ∧ _ ∧ _ ∧ Rest _ _ _›; (with_reducible refine (text_any x HX.out _ (env_of hS.2.2.2.2.2.2.2.2.2.2.2)).mono ?_); rintro e w1 ⟨rfl, hb1⟩; have y0 := kept_cell hb1 hS.1; have y1 := kept_cell hb1 hS.2.1; have y2 := kept_cell hb1 hS.2.2.1; have y3 := kept_cell hb1 hS.2.2.2.1; have y4 := kept_cell hb1 hS.2.2.2.2.1; have y5 := kept_cell hb1 hS.2.2.2.2.2.1; have y6 := kept_cell hb1 hS.2.2.2.2.2.2.1; have y7 := kept_cell hb1 hS.2.2.2.2.2.2.2.1; have y8 := kept_cell hb1 hS.2.2.2.2.2.2.2.2.1; have y9 := kept_cell hb1 hS.2.2.2.2.2.2.2.2.2.1; have y10 := kept_cell hb1 hS.2.2.2.2.2.2.2.2.2.2.1; have hr1 := hS.2.2.2.2.2.2.2.2.2.2.2.next hb1)
             | (go_at_call 15; have hS := ‹_ ∧ _ ∧ _ ∧ _ ∧ _ ∧ _ ∧ _ ∧ _ ∧ _ ∧ _ ∧ _ ∧ Rest _ _ _›; (with_reducible refine (rtext_any x HX.out _).mono ?_); rintro e w1 ⟨rfl, hb1⟩; have y0 := kept_cell hb1 hS.1; have y1 := kept_cell hb1 hS.2.1; have y2 := kept_cell hb1 hS.2.2.1; have y3 := kept_cell hb1 hS.2.2.2.1; have y4 := kept_cell hb1 hS.2.2.2.2.1; have y5 := kept_cell hb1 hS.2.2.2.2.2.1; have y6 := kept_cell hb1 hS.2.2.2.2.2.2.1; have y7 := kept_cell hb1 hS.2.2.2.2.2.2.2.1; have y8 := kept_cell hb1 hS.2.2.2.2.2.2.2.2.1; have y9 := kept_cell hb1 hS.2.2.2.2.2.2.2.2.2.1; have y10 := kept_cell hb1 hS.2.2.2.2.2.2.2.2.2.2.1; have hr1 := hS.2.2.2.2.2.2.2.2.2.2.2.next hb1)
             | (go_at_call 10; refine (sign_any _ _ _).mono ?_; rintro e w1 ⟨rfl, rfl⟩))
    go_wp2
    go_ret
    exact ⟨by simp, by rw [hN]; exact hr1.2.1⟩
  · have hc : decide (numE x < numE y) = false := by simp; omega
    have HM : Hid (maxE x y = x) := by
      unfold maxE
      rw [cmpE_num x y HX.out HY.out]
      rcases Nat.lt_or_ge (numE y) (numE x) with e | e
      · rw [cmpN_gt e]
        exact Lib.hid rfl
      · rw [cmpN_eq (by omega)]
        exact Lib.hid rfl
    clear hge
    have y0 := Hy.out.1
    have y1 := Hy.out.2.1
    have y2 := Hy.out.2.2.1
    go_wp2_with fail
    have HA := (Below.refl w1.heap.size w1).alloc (Nat.le_refl _) (.cells #[.int .u16 x.c, .int .u8 x.a, .int .u16 x.i] 24)
    have HW := cells_mk w1 [.int .u16 x.c, .int .u8 x.a, .int .u16 x.i] 24
    have z0 := kept_cell HA (Hy.out.1)
    have z1 := kept_cell HA (Hy.out.2.1)
    have z2 := kept_cell HA (Hy.out.2.2.1)
    have z3 := kept_cell HA (Hy.out.2.2.2.1)
    have z4 := kept_cell HA (Hy.out.2.2.2.2.1)
    have z5 := kept_cell HA (Hy.out.2.2.2.2.2.1)
    have z6 := kept_cell HA (Hy.out.2.2.2.2.2.2.1)
    have z7 := kept_cell HA (Hy.out.2.2.2.2.2.2.2)
    have hr2 := hr1.next HA
    have t0 := HW.2 0 _ rfl
    have t1 := HW.2 1 _ rfl
    have t2 := HW.2 2 _ rfl
    clear HA HW Hy hr1 y0 y1 y2
    generalize w1.heap.size = b3 at *
    obtain ⟨W, HW⟩ : ∃ W, Hid (W = (w1.alloc (.cells [.int .u16 x.c, .int .u8 x.a, .int .u16 x.i].toArray 24))) := ⟨_, Lib.hid rfl⟩
    rw [← HW.out]
    rw [← HW.out] at z0 z1 z2 z3 z4 z5 z6 z7 t0 t1 t2 hr2
    clear HW
    go_region_held3 (fun W' => W'.cell? ⟨b1, 0, none⟩ = some (.int .u16 x.c) ∧ W'.cell? ⟨b1, 1, none⟩ = some (.int .u8 x.a) ∧ W'.cell? ⟨b1, 2, none⟩ = some (.int .u16 x.i) ∧ W'.cell? ⟨b1, 3, none⟩ = some (.int .u16 h) ∧ W'.cell? ⟨b2, 0, none⟩ = some (.int .u16 y.c) ∧ W'.cell? ⟨b2, 1, none⟩ = some (.int .u8 y.a) ∧ W'.cell? ⟨b2, 2, none⟩ = some (.int .u16 y.i) ∧ W'.cell? ⟨b2, 3, none⟩ = some (.int .u16 k) ∧ W'.cell? ⟨b3, 0, none⟩ = some (.int .u16 x.c) ∧ W'.cell? ⟨b3, 1, none⟩ = some (.int .u8 x.a) ∧ W'.cell? ⟨b3, 2, none⟩ = some (.int .u16 x.i) ∧ Rest b1 w W') (go_keep)
      (first | (go_at_call 9; have hS := ‹_ ∧ _ ∧ _ ∧ _ ∧ _ ∧ _ ∧ _ ∧ _ ∧ _ ∧ _ ∧ _ ∧ Rest _ _ _›; (with_reducible refine (cmpNum x y HX.out HY.out _).mono ?_); rintro e w1 ⟨rfl, hb1⟩; have y0 := kept_cell hb1 hS.1; have y1 := kept_cell hb1 hS.2.1; have y2 := kept_cell hb1 hS.2.2.1; have y3 := kept_cell hb1 hS.2.2.2.1; have y4 := kept_cell hb1 hS.2.2.2.2.1; have y5 := kept_cell hb1 hS.2.2.2.2.2.1; have y6 := kept_cell hb1 hS.2.2.2.2.2.2.1; have y7 := kept_cell hb1 hS.2.2.2.2.2.2.2.1; have y8 := kept_cell hb1 hS.2.2.2.2.2.2.2.2.1; have y9 := kept_cell hb1 hS.2.2.2.2.2.2.2.2.2.1; have y10 := kept_cell hb1 hS.2.2.2.2.2.2.2.2.2.2.1; have hr1 := hS.2.2.2.2.2.2.2.2.2.2.2.next hb1)
             | (go_at_call 11; have hS := ‹_ ∧ _ ∧ _ ∧ _ ∧ _ ∧ _ ∧ _ ∧ _ ∧ _ ∧ _ ∧ _ ∧ Rest _ _ _›; (with_reducible refine (max_is x y _ HM.out _).mono ?_); rintro e w1 ⟨rfl, hb1⟩; have y0 := kept_cell hb1 hS.1; have y1 := kept_cell hb1 hS.2.1; have y2 := kept_cell hb1 hS.2.2.1; have y3 := kept_cell hb1 hS.2.2.2.1; have y4 := kept_cell hb1 hS.2.2.2.2.1; have y5 := kept_cell hb1 hS.2.2.2.2.2.1; have y6 := kept_cell hb1 hS.2.2.2.2.2.2.1; have y7 := kept_cell hb1 hS.2.2.2.2.2.2.2.1; have y8 := kept_cell hb1 hS.2.2.2.2.2.2.2.2.1; have y9 := kept_cell hb1 hS.2.2.2.2.2.2.2.2.2.1; have y10 := kept_cell hb1 hS.2.2.2.2.2.2.2.2.2.2.1; have hr1 := hS.2.2.2.2.2.2.2.2.2.2.2.next hb1)
             | (go_at_call 12; have hS := ‹_ ∧ _ ∧ _ ∧ _ ∧ _ ∧ _ ∧ _ ∧ _ ∧ _ ∧ _ ∧ _ ∧ Rest _ _ _›; (with_reducible refine (newer_num x y h k HX.out HY.out Hh.out Hk.out _).mono ?_); rintro e w1 ⟨rfl, hb1⟩; have y0 := kept_cell hb1 hS.1; have y1 := kept_cell hb1 hS.2.1; have y2 := kept_cell hb1 hS.2.2.1; have y3 := kept_cell hb1 hS.2.2.2.1; have y4 := kept_cell hb1 hS.2.2.2.2.1; have y5 := kept_cell hb1 hS.2.2.2.2.2.1; have y6 := kept_cell hb1 hS.2.2.2.2.2.2.1; have y7 := kept_cell hb1 hS.2.2.2.2.2.2.2.1; have y8 := kept_cell hb1 hS.2.2.2.2.2.2.2.2.1; have y9 := kept_cell hb1 hS.2.2.2.2.2.2.2.2.2.1; have y10 := kept_cell hb1 hS.2.2.2.2.2.2.2.2.2.2.1; have hr1 := hS.2.2.2.2.2.2.2.2.2.2.2.next hb1)
             | (go_at_call 13; first | (go_at_call 13; have hS := ‹_ ∧ _ ∧ _ ∧ _ ∧ _ ∧ _ ∧ _ ∧ _ ∧ _ ∧ _ ∧ _ ∧ Rest _ _ _›; (with_reducible refine (mark_any x h HX.out Hh.out _).mono ?_); rintro e w1 ⟨rfl, hb1⟩; have y0 := kept_cell hb1 hS.1; have y1 := kept_cell hb1 hS.2.1; have y2 := kept_cell hb1 hS.2.2.1; have y3 := kept_cell hb1 hS.2.2.2.1; have y4 := kept_cell hb1 hS.2.2.2.2.1; have y5 := kept_cell hb1 hS.2.2.2.2.2.1; have y6 := kept_cell hb1 hS.2.2.2.2.2.2.1; have y7 := kept_cell hb1 hS.2.2.2.2.2.2.2.1; have y8 := kept_cell hb1 hS.2.2.2.2.2.2.2.2.1; have y9 := kept_cell hb1 hS.2.2.2.2.2.2.2.2.2.1; have y10 := kept_cell hb1 hS.2.2.2.2.2.2.2.2.2.2.1; have hr1 := hS.2.2.2.2.2.2.2.2.2.2.2.next hb1) | (go_at_call 13; have hS := ‹_ ∧ _ ∧ _ ∧ _ ∧ _ ∧ _ ∧ _ ∧ _ ∧ _ ∧ _ ∧ _ ∧ Rest _ _ _›; (with_reducible refine (mark_any y k HY.out Hk.out _).mono ?_); rintro e w1 ⟨rfl, hb1⟩; have y0 := kept_cell hb1 hS.1; have y1 := kept_cell hb1 hS.2.1; have y2 := kept_cell hb1 hS.2.2.1; have y3 := kept_cell hb1 hS.2.2.2.1; have y4 := kept_cell hb1 hS.2.2.2.2.1; have y5 := kept_cell hb1 hS.2.2.2.2.2.1; have y6 := kept_cell hb1 hS.2.2.2.2.2.2.1; have y7 := kept_cell hb1 hS.2.2.2.2.2.2.2.1; have y8 := kept_cell hb1 hS.2.2.2.2.2.2.2.2.1; have y9 := kept_cell hb1 hS.2.2.2.2.2.2.2.2.2.1; have y10 := kept_cell hb1 hS.2.2.2.2.2.2.2.2.2.2.1; have hr1 := hS.2.2.2.2.2.2.2.2.2.2.2.next hb1))
             | (go_at_call 14; have hS := ‹_ ∧ _ ∧ _ ∧ _ ∧ _ ∧ _ ∧ _ ∧ _ ∧ _ ∧ _ ∧ _ ∧ Rest _ _ _›; (with_reducible refine (text_any x HX.out _ (env_of hS.2.2.2.2.2.2.2.2.2.2.2)).mono ?_); rintro e w1 ⟨rfl, hb1⟩; have y0 := kept_cell hb1 hS.1; have y1 := kept_cell hb1 hS.2.1; have y2 := kept_cell hb1 hS.2.2.1; have y3 := kept_cell hb1 hS.2.2.2.1; have y4 := kept_cell hb1 hS.2.2.2.2.1; have y5 := kept_cell hb1 hS.2.2.2.2.2.1; have y6 := kept_cell hb1 hS.2.2.2.2.2.2.1; have y7 := kept_cell hb1 hS.2.2.2.2.2.2.2.1; have y8 := kept_cell hb1 hS.2.2.2.2.2.2.2.2.1; have y9 := kept_cell hb1 hS.2.2.2.2.2.2.2.2.2.1; have y10 := kept_cell hb1 hS.2.2.2.2.2.2.2.2.2.2.1; have hr1 := hS.2.2.2.2.2.2.2.2.2.2.2.next hb1)
             | (go_at_call 15; have hS := ‹_ ∧ _ ∧ _ ∧ _ ∧ _ ∧ _ ∧ _ ∧ _ ∧ _ ∧ _ ∧ _ ∧ Rest _ _ _›; (with_reducible refine (rtext_any x HX.out _).mono ?_); rintro e w1 ⟨rfl, hb1⟩; have y0 := kept_cell hb1 hS.1; have y1 := kept_cell hb1 hS.2.1; have y2 := kept_cell hb1 hS.2.2.1; have y3 := kept_cell hb1 hS.2.2.2.1; have y4 := kept_cell hb1 hS.2.2.2.2.1; have y5 := kept_cell hb1 hS.2.2.2.2.2.1; have y6 := kept_cell hb1 hS.2.2.2.2.2.2.1; have y7 := kept_cell hb1 hS.2.2.2.2.2.2.2.1; have y8 := kept_cell hb1 hS.2.2.2.2.2.2.2.2.1; have y9 := kept_cell hb1 hS.2.2.2.2.2.2.2.2.2.1; have y10 := kept_cell hb1 hS.2.2.2.2.2.2.2.2.2.2.1; have hr1 := hS.2.2.2.2.2.2.2.2.2.2.2.next hb1)
             | (go_at_call 10; refine (sign_any _ _ _).mono ?_; rintro e w1 ⟨rfl, rfl⟩))
    go_wp2
    go_ret
    exact ⟨by simp, by rw [hN]; exact hr1.2.1⟩

end Go.Proofs.YtgdamcajjifliaaDoor
