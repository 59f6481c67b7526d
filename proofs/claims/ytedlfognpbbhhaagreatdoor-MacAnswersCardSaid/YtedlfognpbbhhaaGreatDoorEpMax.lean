/-
  The newer mark and the greater epoch, walked. Conditions: none.
-/
import Derived.Test.YtedlfognpbbhhaaGreatDoorEpNum
namespace Go.Proofs.YtedlfognpbbhhaaGreatDoor.Epo
open Go.RowKit

theorem or2b (a b : Int) (w : World) : Calls Tryz.prog 42 #[.slice (some ⟨w.heap.size, 0, none⟩) 2 2] (w.alloc (.cells #[.int .i64 a, .int .i64 b] 3)) fun e w' => e = .returned (.int .i64 (orL [a, b])) ∧ (w.alloc (.cells #[.int .i64 a, .int .i64 b] 3)) = w' := by
  refine or_any w.heap.size 2 [a, b] _ (by simp) fun k x hk => ?_
  refine box_cell w _ _ k _ ?_
  match k with
  | 0 => cases hk; rfl
  | 1 => cases hk; rfl
  | k + 2 => simp at hk

/-- Is the first mark the greater one? -/
def newB (x y : Ep) (h k : Nat) : Bool := decide (0 < orL [cmpE x y, cmpN h k])

set_option maxRecDepth 100000 in
set_option maxHeartbeats 2000000 in
theorem newer_any (x y : Ep) (h k : Nat) (w : World) : Calls Tryz.prog 45 #[.agg #[.int .u16 x.c, .int .u8 x.a, .int .u16 x.i, .int .u16 h], .agg #[.int .u16 y.c, .int .u8 y.a, .int .u16 y.i, .int .u16 k]] w fun e w' => e = .returned (.bool (newB x y h k)) ∧ Below w.heap.size w w' := by
  have HB := Lib.hid (boxes_mk w [.int .u16 x.c, .int .u8 x.a, .int .u16 x.i, .int .u16 h] [.int .u16 y.c, .int .u8 y.a, .int .u16 y.i, .int .u16 k] 43 43)
  have HN : Hid (decide (0 < orL [cmpE x y, cmpN h k]) = newB x y h k) := Lib.hid rfl
  go_enter Tryz.func45, Tryz.ntmps45
  go_wp2_with fail
  obtain ⟨W, HW⟩ : ∃ W, Hid (W = ((w.alloc (.cells [.int .u16 x.c, .int .u8 x.a, .int .u16 x.i, .int .u16 h].toArray 43)).alloc (.cells [.int .u16 y.c, .int .u8 y.a, .int .u16 y.i, .int .u16 k].toArray 43))) := ⟨_, Lib.hid rfl⟩
  rw [← HW.out] at HB
  rw [← HW.out]
  generalize w.heap.size + 1 = b2 at *
  have c5 := HB.out.2.2.2.2.1
  have c6 := HB.out.2.2.2.2.2.1
  have hlt := HB.out.2.2.1
  have hbel := HB.out.2.2.2.2.2.2
  have x0 := c5 0 _ rfl
  have x1 := c5 1 _ rfl
  have x2 := c5 2 _ rfl
  have x3 := c5 3 _ rfl
  have y0 := c6 0 _ rfl
  have y1 := c6 1 _ rfl
  have y2 := c6 2 _ rfl
  have y3 := c6 3 _ rfl
  clear c5 c6 HB HW
  generalize hN : w.heap.size = N at *
  go_region_held3 (fun W' => W'.cell? ⟨N, 0, none⟩ = some (.int .u16 x.c) ∧ W'.cell? ⟨N, 1, none⟩ = some (.int .u8 x.a) ∧ W'.cell? ⟨N, 2, none⟩ = some (.int .u16 x.i) ∧ W'.cell? ⟨N, 3, none⟩ = some (.int .u16 h) ∧ W'.cell? ⟨b2, 0, none⟩ = some (.int .u16 y.c) ∧ W'.cell? ⟨b2, 1, none⟩ = some (.int .u8 y.a) ∧ W'.cell? ⟨b2, 2, none⟩ = some (.int .u16 y.i) ∧ W'.cell? ⟨b2, 3, none⟩ = some (.int .u16 k)) (go_keep)
    (first | (go_at_call 31; refine (cmpE_any x y _).mono ?_; rintro e w1 ⟨rfl, hb1⟩; have z0 := kept_cell hb1 x0; have z1 := kept_cell hb1 x1; have z2 := kept_cell hb1 x2; have z3 := kept_cell hb1 x3; have v0 := kept_cell hb1 y0; have v1 := kept_cell hb1 y1; have v2 := kept_cell hb1 y2; have v3 := kept_cell hb1 y3)
           | (go_at_call 43; refine (cmp16 _ _ _).mono ?_; rintro e w2 ⟨rfl, rfl⟩)
           | (go_at_call 42; refine (or2b _ _ _).mono ?_; rintro e w2 ⟨rfl, rfl⟩))
  rw [HN.out]
  go_wp2
  go_ret
  exact ⟨rfl, by rw [hN]; exact (hbel.drew.trans (hb1.mono (Nat.le_of_lt hlt))).alloc (Nat.le_trans (Nat.le_of_lt hlt) hb1.size) _⟩

theorem bcell {W w1 : World} (hb : Below W.heap.size W w1) : (∀ b o, b < W.heap.size → w1.cell? ⟨b, o, none⟩ = W.cell? ⟨b, o, none⟩) ∧ (∀ b o, b < W.heap.size → w1.frozen? ⟨b, o, none⟩ = W.frozen? ⟨b, o, none⟩) :=
  ⟨fun b o h => hb.cell (p := ⟨b, o, none⟩) h, fun b o h => hb.frozen (p := ⟨b, o, none⟩) h⟩

/-- The greater one. -/
def maxE (x y : Ep) : Ep := if cmpE x y < 0 then y else x

set_option maxRecDepth 100000 in
set_option maxHeartbeats 2000000 in
theorem max_any (x y : Ep) (w : World) : Calls Tryz.prog 38 #[.agg #[.int .u16 x.c, .int .u8 x.a, .int .u16 x.i], .agg #[.int .u16 y.c, .int .u8 y.a, .int .u16 y.i]] w fun e w' => e = .returned (.agg #[.int .u16 (maxE x y).c, .int .u8 (maxE x y).a, .int .u16 (maxE x y).i]) ∧ Below w.heap.size w w' := by
  have hD : cmpE x y < 0 ∨ ¬ cmpE x y < 0 := by omega
  rcases hD with hd | hd
  all_goals
    have HM := Lib.hid (show maxE x y = _ from by unfold maxE; first | rw [if_pos hd] | rw [if_neg hd])
    rw [HM.out]
    clear HM
    go_enter Tryz.func38, Tryz.ntmps38
    go_wp2_with fail
    refine (cmpE_any x y _).mono ?_
    rintro e w1 ⟨rfl, hb1⟩
    obtain ⟨hc, hf⟩ := bcell hb1
    have hb3 := ((((Below.refl w.heap.size w).alloc (Nat.le_refl _) (.cells #[.int .u16 x.c, .int .u8 x.a, .int .u16 x.i] 33)).alloc (by simp) (.cells #[.int .u16 y.c, .int .u8 y.a, .int .u16 y.i] 33)).alloc (by simp; omega) (.cells #[.int .u16 0, .int .u8 0, .int .u16 0] 33)).trans (hb1.mono (by simp; omega))
    have HB := Lib.hid hb3
    clear hb3
    go_wp2
    refine bodyPost_ret (v := .agg #[_, _, _]) (by simp [results, Tryz.results38, go_sem, hc]) rfl ⟨rfl, ?_⟩
    exact ((HB.out.setCell (by show w.heap.size ≤ w.heap.size + 1 + 1; omega) _).setCell (by show w.heap.size ≤ w.heap.size + 1 + 1; omega) _).setCell (by show w.heap.size ≤ w.heap.size + 1 + 1; omega) _
end Go.Proofs.YtedlfognpbbhhaaGreatDoor.Epo
