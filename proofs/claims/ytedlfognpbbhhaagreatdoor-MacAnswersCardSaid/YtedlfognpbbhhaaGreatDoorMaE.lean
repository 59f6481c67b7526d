/-
  Passing, asking, answering, minting, hopping: walked. Conditions: as each states.
-/
import Derived.Test.YtedlfognpbbhhaaGreatDoorMaB
namespace Go.Proofs.YtedlfognpbbhhaaGreatDoor.Ma
open Go.RowKit
open Go.Proofs.YtedlfognpbbhhaaGreatDoor.Epo (Ep cmpE newB maxE numE numM)
open Go.Proofs.YtedlfognpbbhhaaGreatDoor.Mem (St withB woB hasB passB nextI turnI gapB sv)
open Go.Proofs.YtedlfognpbbhhaaGreatDoor.Frm (Fr world_cut)
attribute [local go_sem ↓] exec_ldF exec_stF exec_bdF
attribute [local go_sem] bdF_5 bdF_9 bdF_0 stF_new0

variable {b : Nat} {M : Mc} {w : World}
/-- Three cells of an epoch in a block of their own. -/
structure Bx (w W : World) (b : Nat) (M : Mc) (g : Nat) (x : Ep) : Prop where
  mw : Mw W b M
  only : OnlyL [b] w W
  row : W.heap[g]? = some (.cells #[.int .u16 x.c, .int .u8 x.a, .int .u16 x.i] 33 (0, 0))
  ge : w.heap.size ≤ g
  blt : b < w.heap.size
section
variable {w W w2 : World} {b g : Nat} {M M' : Mc} {x : Ep}
theorem Bx.after (h : Mw w2 b M ∧ OnlyL [b] w w2) (hb : b < w.heap.size) (x : Ep) : Bx w (w2.alloc (.cells #[.int .u16 x.c, .int .u8 x.a, .int .u16 x.i] 33)) b M w2.heap.size x :=
  ⟨h.1.alloc _, h.2.alloc _, heap_alloc_new _ _, h.2.size, hb⟩
theorem Bx.before (h : Mw w2 b M ∧ OnlyL [b] w w2) (hb : b < w.heap.size) (x : Ep) (hr : w2.heap[w.heap.size]? = some (.cells #[.int .u16 0, .int .u8 0, .int .u16 0] 33 (0, 0))) :
    Bx w (((w2.setCell ⟨w.heap.size, 0, none⟩ (.int .u16 x.c)).setCell ⟨w.heap.size, 1, none⟩ (.int .u8 x.a)).setCell ⟨w.heap.size, 2, none⟩ (.int .u16 x.i)) b M w.heap.size x := by
  have n0 : (w.heap.size : Nat) ≠ 0 := by omega
  have nb : w.heap.size ≠ b := by omega
  exact ⟨((h.1.setx nb n0 _ _).setx nb n0 _ _).setx nb n0 _ _, ((h.2.setc (.inr (Nat.le_refl _)) _ _).setc (.inr (Nat.le_refl _)) _ _).setc (.inr (Nat.le_refl _)) _ _,
    heap_setCell_same _ _ 2 _ _ _ (heap_setCell_same _ _ 1 _ _ _ (heap_setCell_same _ _ 0 _ _ _ hr)), Nat.le_refl _, hb⟩
theorem Bx.c0 (h : Bx w W b M g x) : W.cell? ⟨g, 0, none⟩ = some (.int .u16 x.c) := by rw [cell_of_row _ _ _ _ _ _ h.row]; rfl
theorem Bx.c1 (h : Bx w W b M g x) : W.cell? ⟨g, 1, none⟩ = some (.int .u8 x.a) := by rw [cell_of_row _ _ _ _ _ _ h.row]; rfl
theorem Bx.c2 (h : Bx w W b M g x) : W.cell? ⟨g, 2, none⟩ = some (.int .u16 x.i) := by rw [cell_of_row _ _ _ _ _ _ h.row]; rfl
theorem Bx.fin (h : Bx w W b M g x) (l : List (Nat × Value)) (e : setA (macL M) l = macL M') : Mw (setL W b l) b M' ∧ OnlyL [b] w (setL W b l) :=
  ⟨h.mw.sets l e, h.only.tr (setL_only (by simp) l W)⟩
end
theorem box3 {w w2 : World} (hb : Below (w.alloc (.cells #[.int .u16 0, .int .u8 0, .int .u16 0] 33)).drew.heap.size (w.alloc (.cells #[.int .u16 0, .int .u8 0, .int .u16 0] 33)).drew w2) :
    w2.heap[w.heap.size]? = some (.cells #[.int .u16 0, .int .u8 0, .int .u16 0] 33 (0, 0)) :=
  (hb.block w.heap.size (by simp)).trans (show (w.alloc (.cells #[.int .u16 0, .int .u8 0, .int .u16 0] 33)).drew.heap[w.heap.size]? = some (.cells #[.int .u16 0, .int .u8 0, .int .u16 0] 33 (0, 0)) from heap_alloc_new _ _)
theorem box3c {w2 : World} {g : Nat} (h : w2.heap[g]? = some (.cells #[.int .u16 0, .int .u8 0, .int .u16 0] 33 (0, 0))) :
    w2.cell? ⟨g, 0, none⟩ = some (.int .u16 0) ∧ w2.cell? ⟨g, 1, none⟩ = some (.int .u8 0) ∧ w2.cell? ⟨g, 2, none⟩ = some (.int .u16 0) ∧
    w2.frozen? ⟨g, 0, none⟩ = false ∧ w2.frozen? ⟨g, 1, none⟩ = false ∧ w2.frozen? ⟨g, 2, none⟩ = false := by
  refine ⟨?_, ?_, ?_, frozen_of _ _ _ _ _ h, frozen_of _ _ _ _ _ h, frozen_of _ _ _ _ _ h⟩ <;> (rw [cell_of_row _ _ _ _ _ _ h]; rfl)
set_option maxRecDepth 100000 in
set_option maxHeartbeats 2000000 in
theorem cMint_no (h : Mw w b M) (had : M.ad < 32) (hc : M.high.c ≤ 65535) (hm : mintB M = false) : Calls Tryz.prog 75 #[.pointer (some ⟨b, 0, none⟩)] w (Does w b (.bool false) (offM M)) := by
  have HM := Lib.hid (fun W => Epo.mint_no M.high M.ad M.inc M.lm W hc (by
    unfold mintB at hm
    simp only [Bool.and_eq_false_iff, decide_eq_false_iff_not] at hm
    omega))
  have ew : IntKind.u8.wrap (M.ad : Int) = M.ad := by rw [IntKind.wrap_u8]; omega
  have c0 := h.cell 0 rfl
  have c1 := h.cell 1 rfl
  have c6 := h.cell 6 rfl
  have c53 := h.cell 53 rfl
  have c54 := h.cell 54 rfl
  have c55 := h.cell 55 rfl
  have hlt := h.lt
  have HW := Lib.hid h.drew
  clear h had hc hm
  go_enter Tryz.func75, Tryz.ntmps75
  go_wp2
  go_region_held3 (fun W' => W'.cell? ⟨b, 0, none⟩ = some (.int .i64 M.ad) ∧ W'.cell? ⟨b, 1, none⟩ = some (.int .u16 M.inc) ∧ W'.cell? ⟨b, 6, none⟩ = some (.int .i64 M.lm) ∧ W'.cell? ⟨b, 53, none⟩ = some (.int .u16 M.high.c) ∧ W'.cell? ⟨b, 54, none⟩ = some (.int .u8 M.high.a) ∧ W'.cell? ⟨b, 55, none⟩ = some (.int .u16 M.high.i)) (first | (go_keep; done) | (go_simp; done))
    ((go_at_call 90; refine (HM.out _).mono ?_; rintro e w2 ⟨rfl, hb2⟩; have HY : Hid (Mw w2 b M ∧ OnlyL [b] w w2) := Lib.hid (by first | exact ⟨HW.out.below hb2, (OnlyL.of_below hb2).frm⟩ | exact ⟨(HW.out.alloc _).below hb2, ((OnlyL.refl [b] w).alloc _).tr (OnlyL.of_below hb2).frm⟩); have hlt2 := HY.out.1.lt; have k0 := HY.out.1.cell 0 rfl; have k1 := HY.out.1.cell 1 rfl; have k6 := HY.out.1.cell 6 rfl; have k53 := HY.out.1.cell 53 rfl; have k54 := HY.out.1.cell 54 rfl; have k55 := HY.out.1.cell 55 rfl; first | (have hbx := box3 hb2; have hby := box3c hbx; obtain ⟨z0, z1, z2, g0, g1, g2⟩ := hby; replace hbx := Lib.hid hbx) | skip))
  all_goals
    refine world_cut (G := fun W => Exit.then _ _ Exit.normal _ W) (fun W => Bx w W b M _ ⟨0, 0, 0⟩) (by first | exact Bx.after HY.out hlt ⟨0, 0, 0⟩ | exact Bx.before HY.out hlt ⟨0, 0, 0⟩ hbx.out) ?_
    rintro W hB
    have x0 := hB.c0
    have x1 := hB.c1
    have x2 := hB.c2
    have hlt3 := hB.mw.lt
    have c10 := hB.mw.cell 10 rfl
    have c13 := hB.mw.cell 13 rfl
    have f10 := hB.mw.free 10
    have f13 := hB.mw.free 13
    have HZ := Lib.hid (hB.fin (M' := offM M) [(10, .int .i64 0), (13, .bool true)] rfl)
    clear hB x0 x1 x2
    go_wp2
    go_ret
    exact ⟨rfl, HZ.out⟩
set_option maxRecDepth 100000 in
set_option maxHeartbeats 2000000 in
theorem cMint_yes (h : Mw w b M) (had : M.ad < 32) (hm : mintB M = true) : Calls Tryz.prog 75 #[.pointer (some ⟨b, 0, none⟩)] w (Does w b (.bool true) (newM M)) := by
  have HM := Lib.hid (fun W => Epo.mint_yes M.high M.ad M.inc M.lm W (by
    unfold mintB at hm
    simp only [Bool.and_eq_true, decide_eq_true_iff] at hm
    exact hm.1) (by
    unfold mintB at hm
    simp only [Bool.and_eq_true, decide_eq_true_iff] at hm
    exact hm.2))
  have ew : IntKind.u8.wrap (M.ad : Int) = M.ad := by rw [IntKind.wrap_u8]; omega
  have c0 := h.cell 0 rfl
  have c1 := h.cell 1 rfl
  have c6 := h.cell 6 rfl
  have c53 := h.cell 53 rfl
  have c54 := h.cell 54 rfl
  have c55 := h.cell 55 rfl
  have hlt := h.lt
  have HW := Lib.hid h.drew
  clear h had hm
  have HV : Hid (newM M = { M with high := ⟨M.high.c + 1, M.ad, M.inc⟩, tok := ⟨⟨M.high.c + 1, M.ad, M.inc⟩, 0⟩ }) := Lib.hid rfl
  rw [HV.out]
  clear HV
  generalize M.high.c + 1 = k at *
  go_enter Tryz.func75, Tryz.ntmps75
  go_wp2
  go_region_held3 (fun W' => W'.cell? ⟨b, 0, none⟩ = some (.int .i64 M.ad) ∧ W'.cell? ⟨b, 1, none⟩ = some (.int .u16 M.inc) ∧ W'.cell? ⟨b, 6, none⟩ = some (.int .i64 M.lm) ∧ W'.cell? ⟨b, 53, none⟩ = some (.int .u16 M.high.c) ∧ W'.cell? ⟨b, 54, none⟩ = some (.int .u8 M.high.a) ∧ W'.cell? ⟨b, 55, none⟩ = some (.int .u16 M.high.i)) (first | (go_keep; done) | (go_simp; done))
    ((go_at_call 90; refine (HM.out _).mono ?_; rintro e w2 ⟨rfl, hb2⟩; have HY : Hid (Mw w2 b M ∧ OnlyL [b] w w2) := Lib.hid (by first | exact ⟨HW.out.below hb2, (OnlyL.of_below hb2).frm⟩ | exact ⟨(HW.out.alloc _).below hb2, ((OnlyL.refl [b] w).alloc _).tr (OnlyL.of_below hb2).frm⟩); have hlt2 := HY.out.1.lt; have k0 := HY.out.1.cell 0 rfl; have k1 := HY.out.1.cell 1 rfl; have k6 := HY.out.1.cell 6 rfl; have k53 := HY.out.1.cell 53 rfl; have k54 := HY.out.1.cell 54 rfl; have k55 := HY.out.1.cell 55 rfl; first | (have hbx := box3 hb2; have hby := box3c hbx; obtain ⟨z0, z1, z2, g0, g1, g2⟩ := hby; replace hbx := Lib.hid hbx) | skip))
  all_goals
    refine world_cut (G := fun W => Exit.then _ _ Exit.normal _ W) (fun W => Bx w W b M _ ⟨k, M.ad, M.inc⟩) (by first | exact Bx.after HY.out hlt ⟨k, M.ad, M.inc⟩ | exact Bx.before HY.out hlt ⟨k, M.ad, M.inc⟩ hbx.out) ?_
    rintro W hB
    have x0 := hB.c0
    have x1 := hB.c1
    have x2 := hB.c2
    have hlt3 := hB.mw.lt
    have c53 := hB.mw.cell 53 rfl
    have c54 := hB.mw.cell 54 rfl
    have c55 := hB.mw.cell 55 rfl
    have c56 := hB.mw.cell 56 rfl
    have c57 := hB.mw.cell 57 rfl
    have c58 := hB.mw.cell 58 rfl
    have c59 := hB.mw.cell 59 rfl
    have f53 := hB.mw.free 53
    have f54 := hB.mw.free 54
    have f55 := hB.mw.free 55
    have f56 := hB.mw.free 56
    have f57 := hB.mw.free 57
    have f58 := hB.mw.free 58
    have f59 := hB.mw.free 59
    have HZ := Lib.hid (hB.fin (M' := { M with high := ⟨k, M.ad, M.inc⟩, tok := ⟨⟨k, M.ad, M.inc⟩, 0⟩ }) [(53, .int .u16 k), (54, .int .u8 M.ad), (55, .int .u16 M.inc), (56, .int .u16 k), (57, .int .u8 M.ad), (58, .int .u16 M.inc), (59, .int .u16 0)] rfl)
    clear hB
    go_wp2
    go_ret
    exact ⟨rfl, HZ.out⟩
end Go.Proofs.YtedlfognpbbhhaaGreatDoor.Ma
