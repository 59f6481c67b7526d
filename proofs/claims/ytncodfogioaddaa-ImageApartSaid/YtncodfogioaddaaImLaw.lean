/-
  The laws' first look, walked. Conditions: none.
-/
import Derived.Test.YtncodfogioaddaaImLay
import Derived.Test.YtncodfogioaddaaImInp
namespace Go.Proofs.Ytncodfogioaddaa.Bl
open Go.RowKit

theorem spots_one (W : World) (s : Spt) (t : TypeId) : LiesS (W.alloc (.cells #[.int .i64 s.b, .int .i64 s.a] t)) (W.heap.size + 1) (some ⟨W.heap.size, 0, none⟩) [s] := fun _ => by
  refine ⟨W.heap.size, 0, rfl, by omega, fun i x hx => ?_⟩
  match i with
  | 0 => injection hx with hx; subst hx; exact (Own2.new W s t).cells
  | i + 1 => simp at hx
theorem blks_one (W : World) (x : Blk) (t : TypeId) : Lies (W.alloc (.cells #[.int .i64 x.id, .int .i64 x.ad, .int .i64 x.sz, .bool x.hi] t)) (W.heap.size + 1) (some ⟨W.heap.size, 0, none⟩) [x] := fun _ => by
  refine ⟨W.heap.size, 0, rfl, by omega, fun i y hy => ?_⟩
  match i with
  | 0 => injection hy with hy; subst hy; exact (Own4.new W x t).cells
  | i + 1 => simp at hy
theorem text_one (W : World) (v : Bs) (t : TypeId) : LiesT (W.alloc (.cells #[.string (S v)] t)) (W.heap.size + 1) (some ⟨W.heap.size, 0, none⟩) [v] := fun _ => by
  refine ⟨W.heap.size, 0, rfl, by omega, fun i y hy => ?_⟩
  match i with
  | 0 => injection hy with hy; subst hy; rw [cell_of_row _ _ _ _ _ _ (heap_alloc_new _ _)]; rfl
  | i + 1 => simp at hy
theorem size_alloc (W : World) (o : Obj) : (W.alloc o).heap.size = W.heap.size + 1 := by simp
theorem im_two (W : World) (s : Spt) (x : Blk) (t u : TypeId) : Im ((W.alloc (.cells #[.int .i64 s.b, .int .i64 s.a] t)).alloc (.cells #[.int .i64 x.id, .int .i64 x.ad, .int .i64 x.sz, .bool x.hi] u)) ((W.alloc (.cells #[.int .i64 s.b, .int .i64 s.a] t)).alloc (.cells #[.int .i64 x.id, .int .i64 x.ad, .int .i64 x.sz, .bool x.hi] u)) (some ⟨W.heap.size, 0, none⟩) [s] (some ⟨W.heap.size + 1, 0, none⟩) [x] := by
  have h := (blks_one (W.alloc (.cells #[.int .i64 s.b, .int .i64 s.a] t)) x u).more (M := ((W.alloc (.cells #[.int .i64 s.b, .int .i64 s.a] t)).alloc (.cells #[.int .i64 x.id, .int .i64 x.ad, .int .i64 x.sz, .bool x.hi] u)).heap.size) (by simp)
  rw [size_alloc W] at h
  refine Im.first ?_ h
  have k := (spots_one W s t).more (M := (W.alloc (.cells #[.int .i64 s.b, .int .i64 s.a] t)).heap.size) (by simp)
  exact (k.below (one_S _ _ _)).more (by simp)
theorem it_two (W : World) (s : Spt) (v : Bs) (t u : TypeId) : It ((W.alloc (.cells #[.int .i64 s.b, .int .i64 s.a] t)).alloc (.cells #[.string (S v)] u)) ((W.alloc (.cells #[.int .i64 s.b, .int .i64 s.a] t)).alloc (.cells #[.string (S v)] u)) (some ⟨W.heap.size, 0, none⟩) [s] (some ⟨W.heap.size + 1, 0, none⟩) [v] := by
  have h := (text_one (W.alloc (.cells #[.int .i64 s.b, .int .i64 s.a] t)) v u).more (M := ((W.alloc (.cells #[.int .i64 s.b, .int .i64 s.a] t)).alloc (.cells #[.string (S v)] u)).heap.size) (by simp)
  rw [size_alloc W] at h
  refine It.first ?_ h
  have k := (spots_one W s t).more (M := (W.alloc (.cells #[.int .i64 s.b, .int .i64 s.a] t)).heap.size) (by simp)
  exact (k.below (one_S _ _ _)).more (by simp)
theorem wake_lay : layO true 4 [⟨1, 2⟩] [⟨1, 0, 8, false⟩] = (15, 0) := by decide
theorem wake_inp : (inpB 2 [97, 98, 99] [⟨1, 3⟩] [[120, 121]]).take 6 = [97, 98, 0, 120, 121, 0] := by decide
theorem wake_val : valB [97, 98, 99] 1 3 = [98, 99, 0] := by decide
theorem wake_put : putB [97, 98, 99] 1 [122, 122, 122] = [97, 122, 122] := by decide

set_option maxRecDepth 100000 in
set_option maxHeartbeats 4000000 in
theorem wake_any (w : World) : Calls Try.prog 6 #[] w (Tells (.bool true) w) := by
  have hL := fun W => cLay_any 4 [⟨1, 2⟩] (some ⟨W.heap.size, 0, none⟩) 1 [⟨1, 0, 8, false⟩] (some ⟨W.heap.size + 1, 0, none⟩) 1 _ (im_two W ⟨1, 2⟩ ⟨1, 0, 8, false⟩ 36 38) (Nat.le_refl _) (by unfold maxLen; decide) (by unfold maxLen; decide)
  rw [wake_lay] at hL
  unfold errV at hL
  dsimp only [List.length_cons, List.length_nil] at hL
  have hI := fun W => cInputs_any 2 [97, 98, 99] [⟨1, 3⟩] (some ⟨W.heap.size, 0, none⟩) 1 [[120, 121]] (some ⟨W.heap.size + 1, 0, none⟩) 1 _ (it_two W ⟨1, 3⟩ [120, 121] 36 9) (by unfold maxLen; decide)
    (fun k x hx => by match k with
                      | 0 => injection hx with hx; subst hx; unfold I64; decide
                      | k + 1 => simp at hx)
    (fun k x hx => by match k with
                      | 0 => injection hx with hx; subst hx; unfold maxLen; decide
                      | k + 1 => simp at hx)
  have hil := inp_len 2 [97, 98, 99] [⟨1, 3⟩] [[120, 121]]
  have hit := wake_inp
  generalize inpB 2 [97, 98, 99] [⟨1, 3⟩] [[120, 121]] = X at *
  dsimp only [List.length_cons, List.length_nil] at hI
  have hV := fun W => cValue_any [97, 98, 99] 1 3 W (by unfold maxLen; decide) (by decide) (by decide)
  rw [wake_val] at hV
  have hP := fun W => cPutS_any [97, 98, 99] [122, 122, 122] 1 W (by unfold maxLen; decide) (by unfold maxLen; decide) (by unfold I64; decide)
  rw [wake_put] at hP
  have hx : (S X).extract 0 6 = ⟨#[97, 98, 0, 120, 121, 0]⟩ := by
    rw [S_cut, hit]
    rfl
  have hsz := S_size X
  rw [hil] at hsz
  have e1 : S [97, 98, 99] = ⟨#[97, 98, 99]⟩ := rfl
  have e2 : S [120, 121] = ⟨#[120, 121]⟩ := rfl
  have e3 : S [98, 99, 0] = ⟨#[98, 99, 0]⟩ := rfl
  have e4 : S [122, 122, 122] = ⟨#[122, 122, 122]⟩ := rfl
  have e5 : S [97, 122, 122] = ⟨#[97, 122, 122]⟩ := rfl
  rw [e1, e2] at hI
  rw [e1, e3] at hV
  rw [e1, e4, e5] at hP
  have HL := Lib.hid hL
  have HI := Lib.hid hI
  have HV := Lib.hid hV
  have HP := Lib.hid hP
  clear hL hI hV hP hit hil e1 e2 e3 e4 e5
  go_enter Try.func6, Try.ntmps6
  go_wp2_with fail
  refine (HL.out _).mono ?_
  rintro e w1 ⟨rfl, hb1⟩
  have B1 := Lib.hid (((one_S w _ _).trans ((one_S _ _ _).mono (by simp))).trans (hb1.mono (by simp; omega)))
  clear hb1
  go_wp2_with fail
  refine (HI.out _).mono ?_
  rintro e w2 ⟨rfl, hb2⟩
  have B2 := Lib.hid (((one_S w1 _ _).trans ((one_S _ _ _).mono (by simp))).trans (hb2.mono (by simp; omega)))
  have C2 := Lib.hid (B1.out.trans (B2.out.mono B1.out.size))
  clear hb2 B1 B2
  go_wp2_with fail
  refine (HV.out _).mono ?_
  rintro e w3 ⟨rfl, hb3⟩
  have C3 := Lib.hid (C2.out.trans (hb3.mono C2.out.size))
  clear hb3 C2
  go_wp2_with fail
  refine (HP.out _).mono ?_
  rintro e w4 ⟨rfl, hb4⟩
  have C4 := Lib.hid (C3.out.trans (hb4.mono C3.out.size))
  clear hb4 C3
  go_wp2
  go_ret
  exact ⟨rfl, C4.out⟩
end Go.Proofs.Ytncodfogioaddaa.Bl
