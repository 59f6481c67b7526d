/-
  Giving way: walked. Conditions: as each states.
-/
import Derived.Test.YtedlfognpbbhhaaGreatDoorMaJ
namespace Go.Proofs.YtedlfognpbbhhaaGreatDoor.Ma
open Go.RowKit
open Go.Proofs.YtedlfognpbbhhaaGreatDoor.Epo (Ep cmpE newB maxE numE numM)
open Go.Proofs.YtedlfognpbbhhaaGreatDoor.Mem (St withB woB hasB passB nextI turnI gapB sv)
open Go.Proofs.YtedlfognpbbhhaaGreatDoor.Frm (Fr world_cut)
attribute [local go_sem ↓] exec_ldF exec_stF exec_bdF
attribute [local go_sem] bdF_5 bdF_9 bdF_0 stF_new0

variable {b : Nat} {M : Mc} {w : World}
/-- A mac beside a frame's own block and a mark's. -/
structure Hx (w W : World) (b : Nat) (M : Mc) (G : Nat) (k : Mk) : Prop where
  mw : Mw W b M
  only : OnlyL [b] w W
  row : W.heap[G]? = some (.cells #[.int .u16 k.e.c, .int .u8 k.e.a, .int .u16 k.e.i, .int .u16 k.h] 43 (0, 0))
  ge : w.heap.size ≤ G
  blt : b < w.heap.size
section
variable {w W W' : World} {b G : Nat} {M M' : Mc} {k : Mk}
theorem Hx.first (h : Mw w b M) (k : Mk) : Hx w (w.alloc (.cells #[.int .u16 k.e.c, .int .u8 k.e.a, .int .u16 k.e.i, .int .u16 k.h] 43)) b M w.heap.size k :=
  ⟨h.alloc _, (OnlyL.refl _ _).alloc _, heap_alloc_new _ _, Nat.le_refl _, h.lt⟩
theorem Hx.lt (h : Hx w W b M G k) : G < W.heap.size := lt_of_heap h.row
theorem Hx.turn (h : Hx w W b M G k) (hm : Mw W' b M') (ho : OnlyL [b] W W') : Hx w W' b M' G k :=
  ⟨hm, h.only.tr ho, (ho.block G h.lt (by have := h.ge; have := h.blt; simp; omega)).trans h.row, h.ge, h.blt⟩
theorem Hx.below (h : Hx w W b M G k) (hb : Below W.heap.size W W') : Hx w W' b M G k := h.turn (h.mw.below hb) (OnlyL.of_below hb)
theorem Hx.drew (h : Hx w W b M G k) : Hx w W.drew b M G k := ⟨h.mw.drew, h.only.drew, h.row, h.ge, h.blt⟩
theorem Hx.drewN (h : Hx w W b M G k) (n : Nat) : Hx w (W.drewN n) b M G k := ⟨h.mw.drewN n, h.only.drewN n, h.row, h.ge, h.blt⟩
theorem Hx.sets (h : Hx w W b M G k) (l : List (Nat × Value)) (e : setA (macL M) l = macL M') : Hx w (setL W b l) b M' G k := h.turn (h.mw.sets l e) (setL_only (by simp) l W)
theorem Hx.x (h : Hx w W b M G k) : W.cell? ⟨G, 0, none⟩ = some (.int .u16 k.e.c) ∧ W.cell? ⟨G, 1, none⟩ = some (.int .u8 k.e.a) ∧ W.cell? ⟨G, 2, none⟩ = some (.int .u16 k.e.i) ∧ W.cell? ⟨G, 3, none⟩ = some (.int .u16 k.h) := by
  refine ⟨?_, ?_, ?_, ?_⟩ <;> (rw [cell_of_row _ _ _ _ _ _ h.row]; rfl)
theorem Hx.does (h : Hx w W b M G k) : Mw W b M ∧ OnlyL [b] w W := ⟨h.mw, h.only⟩
end
theorem way1_a (k : Mk) (hp : 0 < cmpE k.e M.high) (hq : holdsB M.st = true ∨ M.st = 8) : wayM M k = { M with high := k.e, st := 2, leaving := false } := by
  unfold wayM way1
  rw [if_pos hp, if_pos hq]
  unfold way2
  rw [if_neg (fun z => absurd (show (2 : Int) = 8 from z.1) (by decide))]
theorem way1_b (k : Mk) (hp : 0 < cmpE k.e M.high) (hq : ¬ (holdsB M.st = true ∨ M.st = 8)) : wayM M k = { M with high := k.e } := by
  unfold wayM way1
  rw [if_pos hp, if_neg hq]
  unfold way2
  rw [if_neg (fun z => hq (.inr z.1))]
theorem way_c (k : Mk) (hp : ¬ 0 < cmpE k.e M.high) (hs : M.st ≠ 8) : wayM M k = M := by
  unfold wayM way1
  rw [if_neg hp]
  unfold way2
  rw [if_neg (fun z => hs z.1)]
theorem way_d (k : Mk) (hp : ¬ 0 < cmpE k.e M.high) (hn : newB M.tok.e k.e M.tok.h k.h = true) : wayM M k = M := by
  unfold wayM way1
  rw [if_neg hp]
  unfold way2
  rw [if_neg (fun z => by rw [hn] at z; exact absurd z.2 (by decide))]
theorem way_e (k : Mk) (hp : ¬ 0 < cmpE k.e M.high) (hs : M.st = 8) (hn : newB M.tok.e k.e M.tok.h k.h = false) (hl : M.leaving = true) : wayM M k = { M with st := 1, leaving := false } := by
  unfold wayM way1
  rw [if_neg hp]
  unfold way2
  rw [if_pos ⟨hs, hn⟩, if_pos hl]
theorem way_f (k : Mk) (hp : ¬ 0 < cmpE k.e M.high) (hs : M.st = 8) (hn : newB M.tok.e k.e M.tok.h k.h = false) (hl : M.leaving = false) : wayM M k = { M with st := 2 } := by
  unfold wayM way1
  rw [if_neg hp]
  unfold way2
  rw [if_pos ⟨hs, hn⟩, if_neg (by rw [hl]; decide)]
set_option maxRecDepth 100000 in
set_option maxHeartbeats 4000000 in
theorem cGiveWay (h : Mw w b M) (k : Mk) : Calls Tryz.prog 32 #[.pointer (some ⟨b, 0, none⟩), .agg #[.int .u16 k.e.c, .int .u8 k.e.a, .int .u16 k.e.i, .int .u16 k.h]] w (Turns w b (wayM M k)) := by
  have HX := Lib.hid (Hx.first h k)
  have HC := Lib.hid (fun W => Epo.cmpE_any k.e M.high W)
  by_cases hp : 0 < cmpE k.e M.high
  · have d1 : decide (0 < cmpE k.e M.high) = true := decide_eq_true hp
    have hH : ∀ W, Mw W b { M with high := k.e } → Calls Tryz.prog 23 #[.pointer (some ⟨b, 0, none⟩)] W (fun e w' => e = .returned (.bool (holdsB M.st)) ∧ W = w') := fun W z => cHolds (M := { M with high := k.e }) z
    have HH := Lib.hid hH
    clear hH
    by_cases hq : holdsB M.st = true ∨ M.st = 8
    · have HV := Lib.hid (way1_a k hp hq)
      cases hh : holdsB M.st
      · have h8 : M.st = 8 := hq.resolve_left (by rw [hh]; decide)
        have HS := Lib.hid h8
        rw [hh] at HH
        clear h hp hq hh h8
        go_enter Tryz.func32, Tryz.ntmps32
        go_wp2
        refine world_cut (G := fun W => Code.wp _ _ _ _ W) (fun W => Hx w W b M w.heap.size k) (by exact HX.out) ?_
        rintro W hx
        generalize w.heap.size = G at *
        obtain ⟨x0, x1, x2, x3⟩ := hx.x
        have c53 := hx.mw.cell 53 rfl
        have c54 := hx.mw.cell 54 rfl
        have c55 := hx.mw.cell 55 rfl
        have HQ := Lib.hid hx.drew
        clear HX hx
        go_region_with ((go_at_call 31; refine (HC.out _).mono ?_; rintro e w1 ⟨rfl, hb1⟩; have HQ1 := Lib.hid (HQ.out.below hb1)))
        all_goals
          refine world_cut (G := fun W => Exit.then _ _ Exit.normal _ W) (fun W => Hx w W b M G k) (by exact HQ1.out) ?_
          rintro W9 hx9
          clear c53 c54 c55 x0 x1 x2 x3 HQ HQ1 HC
          obtain ⟨x0, x1, x2, x3⟩ := hx9.x
          have hGb : G ≠ b := by have := hx9.ge; have := hx9.blt; omega
          have c10 := hx9.mw.cell 10 rfl
          have c53 := hx9.mw.cell 53 rfl
          have c54 := hx9.mw.cell 54 rfl
          have c55 := hx9.mw.cell 55 rfl
          have f53 := hx9.mw.free 53
          have f54 := hx9.mw.free 54
          have f55 := hx9.mw.free 55
          have HB := Lib.hid hx9
          have HA : Hid (Hx w (setL W9 b [(53, .int .u16 k.e.c), (54, .int .u8 k.e.a), (55, .int .u16 k.e.i)]) b { M with high := k.e } G k) := Lib.hid (hx9.sets [(53, .int .u16 k.e.c), (54, .int .u8 k.e.a), (55, .int .u16 k.e.i)] rfl)
          clear hx9 HB
          go_wp2_with fail
          refine world_cut (G := fun W => Calls _ _ _ W _) (fun W => Hx w W b { M with high := k.e } G k) (by exact HA.out) ?_
          rintro W8 hx8
          refine (HH.out _ hx8.mw).mono ?_
          rintro e w7 ⟨rfl, rfl⟩
          clear HA c10 c53 c54 c55 f53 f54 f55 x0 x1 x2 x3
          have c10 : W8.cell? ⟨b, 10, none⟩ = some (.int .i64 8) := by rw [hx8.mw.cell 10 rfl]; exact congrArg (fun z => some (Value.int .i64 z)) HS.out
          have c12 := hx8.mw.cell 12 rfl
          have f10 := hx8.mw.free 10
          have f12 := hx8.mw.free 12
          have HZ := Lib.hid (hx8.sets (M' := { M with high := k.e, st := 2, leaving := false }) [(10, .int .i64 2), (12, .bool false)] rfl)
          clear hx8
          go_wp2
          refine world_cut (G := fun W => Code.wp _ _ _ _ W) (fun W => Hx w W b { M with high := k.e, st := 2, leaving := false } G k) (by exact HZ.out) ?_
          rintro W6 hx6
          have e10 : W6.cell? ⟨b, 10, none⟩ = some (.int .i64 2) := hx6.mw.cell 10 rfl
          have HY := Lib.hid hx6
          clear hx6 HZ c12 f10 f12
          go_quiet (fail)
          go_wp2
          go_end0
          exact ⟨rfl, by rw [HV.out]; exact (HY.out.drewN _).does⟩
      · rw [hh] at HH
        clear h hp hq hh
        go_enter Tryz.func32, Tryz.ntmps32
        go_wp2
        refine world_cut (G := fun W => Code.wp _ _ _ _ W) (fun W => Hx w W b M w.heap.size k) (by exact HX.out) ?_
        rintro W hx
        generalize w.heap.size = G at *
        obtain ⟨x0, x1, x2, x3⟩ := hx.x
        have c53 := hx.mw.cell 53 rfl
        have c54 := hx.mw.cell 54 rfl
        have c55 := hx.mw.cell 55 rfl
        have HQ := Lib.hid hx.drew
        clear HX hx
        go_region_with ((go_at_call 31; refine (HC.out _).mono ?_; rintro e w1 ⟨rfl, hb1⟩; have HQ1 := Lib.hid (HQ.out.below hb1)))
        all_goals
          refine world_cut (G := fun W => Exit.then _ _ Exit.normal _ W) (fun W => Hx w W b M G k) (by exact HQ1.out) ?_
          rintro W9 hx9
          clear c53 c54 c55 x0 x1 x2 x3 HQ HQ1 HC
          obtain ⟨x0, x1, x2, x3⟩ := hx9.x
          have hGb : G ≠ b := by have := hx9.ge; have := hx9.blt; omega
          have c10 := hx9.mw.cell 10 rfl
          have c53 := hx9.mw.cell 53 rfl
          have c54 := hx9.mw.cell 54 rfl
          have c55 := hx9.mw.cell 55 rfl
          have f53 := hx9.mw.free 53
          have f54 := hx9.mw.free 54
          have f55 := hx9.mw.free 55
          have HB := Lib.hid hx9
          have HA : Hid (Hx w (setL W9 b [(53, .int .u16 k.e.c), (54, .int .u8 k.e.a), (55, .int .u16 k.e.i)]) b { M with high := k.e } G k) := Lib.hid (hx9.sets [(53, .int .u16 k.e.c), (54, .int .u8 k.e.a), (55, .int .u16 k.e.i)] rfl)
          clear hx9 HB
          go_wp2_with fail
          refine world_cut (G := fun W => Calls _ _ _ W _) (fun W => Hx w W b { M with high := k.e } G k) (by exact HA.out) ?_
          rintro W8 hx8
          refine (HH.out _ hx8.mw).mono ?_
          rintro e w7 ⟨rfl, rfl⟩
          clear HA c10 c53 c54 c55 f53 f54 f55 x0 x1 x2 x3
          have c10 : W8.cell? ⟨b, 10, none⟩ = some (.int .i64 M.st) := hx8.mw.cell 10 rfl
          have c12 := hx8.mw.cell 12 rfl
          have f10 := hx8.mw.free 10
          have f12 := hx8.mw.free 12
          have HZ := Lib.hid (hx8.sets (M' := { M with high := k.e, st := 2, leaving := false }) [(10, .int .i64 2), (12, .bool false)] rfl)
          clear hx8
          go_wp2
          refine world_cut (G := fun W => Code.wp _ _ _ _ W) (fun W => Hx w W b { M with high := k.e, st := 2, leaving := false } G k) (by exact HZ.out) ?_
          rintro W6 hx6
          have e10 : W6.cell? ⟨b, 10, none⟩ = some (.int .i64 2) := hx6.mw.cell 10 rfl
          have HY := Lib.hid hx6
          clear hx6 HZ c12 f10 f12
          go_quiet (fail)
          go_wp2
          go_end0
          exact ⟨rfl, by rw [HV.out]; exact (HY.out.drewN _).does⟩
    · have HV := Lib.hid (way1_b k hp hq)
      have hh : holdsB M.st = false := by cases z : holdsB M.st; rfl; exact absurd (.inl z) hq
      have e8 : (M.st == 8) = false := by rw [beq_eq_false_iff_ne]; exact fun z => hq (.inr z)
      have e8n : (M.st != 8) = true := by rw [bne_iff_ne]; exact fun z => hq (.inr z)
      rw [hh] at HH
      clear h hp hq hh
      go_enter Tryz.func32, Tryz.ntmps32
      go_wp2
      refine world_cut (G := fun W => Code.wp _ _ _ _ W) (fun W => Hx w W b M w.heap.size k) (by exact HX.out) ?_
      rintro W hx
      generalize w.heap.size = G at *
      obtain ⟨x0, x1, x2, x3⟩ := hx.x
      have c53 := hx.mw.cell 53 rfl
      have c54 := hx.mw.cell 54 rfl
      have c55 := hx.mw.cell 55 rfl
      have HQ := Lib.hid hx.drew
      clear HX hx
      go_region_with ((go_at_call 31; refine (HC.out _).mono ?_; rintro e w1 ⟨rfl, hb1⟩; have HQ1 := Lib.hid (HQ.out.below hb1)))
      all_goals
        refine world_cut (G := fun W => Exit.then _ _ Exit.normal _ W) (fun W => Hx w W b M G k) (by exact HQ1.out) ?_
        rintro W9 hx9
        clear c53 c54 c55 x0 x1 x2 x3 HQ HQ1 HC
        obtain ⟨x0, x1, x2, x3⟩ := hx9.x
        have hGb : G ≠ b := by have := hx9.ge; have := hx9.blt; omega
        have c10 := hx9.mw.cell 10 rfl
        have c53 := hx9.mw.cell 53 rfl
        have c54 := hx9.mw.cell 54 rfl
        have c55 := hx9.mw.cell 55 rfl
        have f53 := hx9.mw.free 53
        have f54 := hx9.mw.free 54
        have f55 := hx9.mw.free 55
        have HB := Lib.hid hx9
        have HA : Hid (Hx w (setL W9 b [(53, .int .u16 k.e.c), (54, .int .u8 k.e.a), (55, .int .u16 k.e.i)]) b { M with high := k.e } G k) := Lib.hid (hx9.sets [(53, .int .u16 k.e.c), (54, .int .u8 k.e.a), (55, .int .u16 k.e.i)] rfl)
        clear hx9 HB
        go_wp2_with fail
        refine world_cut (G := fun W => Calls _ _ _ W _) (fun W => Hx w W b { M with high := k.e } G k) (by exact HA.out) ?_
        rintro W8 hx8
        refine (HH.out _ hx8.mw).mono ?_
        rintro e w7 ⟨rfl, rfl⟩
        clear HA c10 c53 c54 c55 f53 f54 f55 x0 x1 x2 x3
        have c10 : W8.cell? ⟨b, 10, none⟩ = some (.int .i64 M.st) := hx8.mw.cell 10 rfl
        have HY := Lib.hid hx8
        clear hx8
        go_wp2
        go_quiet (fail)
        go_wp2
        go_end0
        exact ⟨rfl, by rw [HV.out]; exact (HY.out.drewN _).does⟩
  · have d1 : decide (0 < cmpE k.e M.high) = false := decide_eq_false hp
    by_cases hs : M.st = 8
    · have HN := Lib.hid (fun W => Epo.newer_any M.tok.e k.e M.tok.h k.h W)
      have HS := Lib.hid hs
      cases hn : newB M.tok.e k.e M.tok.h k.h
      · rw [hn] at HN
        cases hl : M.leaving
        · have HV := Lib.hid (way_f k hp hs hn hl)
          have HL := Lib.hid hl
          clear h hp hs hn hl
          go_enter Tryz.func32, Tryz.ntmps32
          go_wp2
          refine world_cut (G := fun W => Code.wp _ _ _ _ W) (fun W => Hx w W b M w.heap.size k) (by exact HX.out) ?_
          rintro W hx
          generalize w.heap.size = G at *
          obtain ⟨x0, x1, x2, x3⟩ := hx.x
          have c53 := hx.mw.cell 53 rfl
          have c54 := hx.mw.cell 54 rfl
          have c55 := hx.mw.cell 55 rfl
          have HQ := Lib.hid hx.drew
          clear HX hx
          go_region_with ((go_at_call 31; refine (HC.out _).mono ?_; rintro e w1 ⟨rfl, hb1⟩; have HQ1 := Lib.hid (HQ.out.below hb1)))
          all_goals
            refine world_cut (G := fun W => Exit.then _ _ Exit.normal _ W) (fun W => Hx w W b M G k) (by exact HQ1.out) ?_
            rintro W9 hx9
            clear c53 c54 c55 x0 x1 x2 x3 HQ HQ1 HC
            obtain ⟨x0, x1, x2, x3⟩ := hx9.x
            have hGb : G ≠ b := by have := hx9.ge; have := hx9.blt; omega
            have c10 : W9.cell? ⟨b, 10, none⟩ = some (.int .i64 8) := by rw [hx9.mw.cell 10 rfl, HS.out]
            have c56 := hx9.mw.cell 56 rfl
            have c57 := hx9.mw.cell 57 rfl
            have c58 := hx9.mw.cell 58 rfl
            have c59 := hx9.mw.cell 59 rfl
            have HQ := Lib.hid hx9.drew
            clear hx9
            go_wp2
            go_region_with ((go_at_call 45; refine (HN.out _).mono ?_; rintro e w7 ⟨rfl, hb7⟩; have HQ7 := Lib.hid (HQ.out.below hb7)))
            all_goals
              have g10 : w7.cell? ⟨b, 10, none⟩ = some (.int .i64 8) := by rw [HQ7.out.mw.cell 10 rfl, HS.out]
              have q10 := HQ7.out.mw.free 10
              have q12 := HQ7.out.mw.free 12
              have g12 : w7.cell? ⟨b, 12, none⟩ = some (.bool false) := by rw [HQ7.out.mw.cell 12 rfl, HL.out]
              go_wp2
              go_end0
              exact ⟨rfl, by rw [HV.out]; exact (HQ7.out.sets [(10, .int .i64 2)] rfl).does⟩
        · have HV := Lib.hid (way_e k hp hs hn hl)
          have HL := Lib.hid hl
          clear h hp hs hn hl
          go_enter Tryz.func32, Tryz.ntmps32
          go_wp2
          refine world_cut (G := fun W => Code.wp _ _ _ _ W) (fun W => Hx w W b M w.heap.size k) (by exact HX.out) ?_
          rintro W hx
          generalize w.heap.size = G at *
          obtain ⟨x0, x1, x2, x3⟩ := hx.x
          have c53 := hx.mw.cell 53 rfl
          have c54 := hx.mw.cell 54 rfl
          have c55 := hx.mw.cell 55 rfl
          have HQ := Lib.hid hx.drew
          clear HX hx
          go_region_with ((go_at_call 31; refine (HC.out _).mono ?_; rintro e w1 ⟨rfl, hb1⟩; have HQ1 := Lib.hid (HQ.out.below hb1)))
          all_goals
            refine world_cut (G := fun W => Exit.then _ _ Exit.normal _ W) (fun W => Hx w W b M G k) (by exact HQ1.out) ?_
            rintro W9 hx9
            clear c53 c54 c55 x0 x1 x2 x3 HQ HQ1 HC
            obtain ⟨x0, x1, x2, x3⟩ := hx9.x
            have hGb : G ≠ b := by have := hx9.ge; have := hx9.blt; omega
            have c10 : W9.cell? ⟨b, 10, none⟩ = some (.int .i64 8) := by rw [hx9.mw.cell 10 rfl, HS.out]
            have c56 := hx9.mw.cell 56 rfl
            have c57 := hx9.mw.cell 57 rfl
            have c58 := hx9.mw.cell 58 rfl
            have c59 := hx9.mw.cell 59 rfl
            have HQ := Lib.hid hx9.drew
            clear hx9
            go_wp2
            go_region_with ((go_at_call 45; refine (HN.out _).mono ?_; rintro e w7 ⟨rfl, hb7⟩; have HQ7 := Lib.hid (HQ.out.below hb7)))
            all_goals
              have g10 : w7.cell? ⟨b, 10, none⟩ = some (.int .i64 8) := by rw [HQ7.out.mw.cell 10 rfl, HS.out]
              have q10 := HQ7.out.mw.free 10
              have q12 := HQ7.out.mw.free 12
              have g12 : w7.cell? ⟨b, 12, none⟩ = some (.bool true) := by rw [HQ7.out.mw.cell 12 rfl, HL.out]
              go_wp2
              go_end0
              exact ⟨rfl, by rw [HV.out]; exact ((HQ7.out.sets (M' := { M with st := 2 }) [(10, .int .i64 2)] rfl).sets (M' := { M with st := 1, leaving := false }) [(10, .int .i64 1), (12, .bool false)] rfl).does⟩
      · rw [hn] at HN
        have HV := Lib.hid (way_d k hp hn)
        clear h hp hs hn
        go_enter Tryz.func32, Tryz.ntmps32
        go_wp2
        refine world_cut (G := fun W => Code.wp _ _ _ _ W) (fun W => Hx w W b M w.heap.size k) (by exact HX.out) ?_
        rintro W hx
        generalize w.heap.size = G at *
        obtain ⟨x0, x1, x2, x3⟩ := hx.x
        have c53 := hx.mw.cell 53 rfl
        have c54 := hx.mw.cell 54 rfl
        have c55 := hx.mw.cell 55 rfl
        have HQ := Lib.hid hx.drew
        clear HX hx
        go_region_with ((go_at_call 31; refine (HC.out _).mono ?_; rintro e w1 ⟨rfl, hb1⟩; have HQ1 := Lib.hid (HQ.out.below hb1)))
        all_goals
          refine world_cut (G := fun W => Exit.then _ _ Exit.normal _ W) (fun W => Hx w W b M G k) (by exact HQ1.out) ?_
          rintro W9 hx9
          clear c53 c54 c55 x0 x1 x2 x3 HQ HQ1 HC
          obtain ⟨x0, x1, x2, x3⟩ := hx9.x
          have hGb : G ≠ b := by have := hx9.ge; have := hx9.blt; omega
          have c10 : W9.cell? ⟨b, 10, none⟩ = some (.int .i64 8) := by rw [hx9.mw.cell 10 rfl, HS.out]
          have c56 := hx9.mw.cell 56 rfl
          have c57 := hx9.mw.cell 57 rfl
          have c58 := hx9.mw.cell 58 rfl
          have c59 := hx9.mw.cell 59 rfl
          have HQ := Lib.hid hx9.drew
          clear hx9
          go_wp2
          go_region_with ((go_at_call 45; refine (HN.out _).mono ?_; rintro e w7 ⟨rfl, hb7⟩; have HQ7 := Lib.hid (HQ.out.below hb7)))
          all_goals
            go_wp2
            go_end0
            exact ⟨rfl, by rw [HV.out]; exact HQ7.out.does⟩
    · have HV := Lib.hid (way_c k hp hs)
      have e8n : (M.st != 8) = true := by rw [bne_iff_ne]; exact hs
      clear h hp hs
      go_enter Tryz.func32, Tryz.ntmps32
      go_wp2
      refine world_cut (G := fun W => Code.wp _ _ _ _ W) (fun W => Hx w W b M w.heap.size k) (by exact HX.out) ?_
      rintro W hx
      generalize w.heap.size = G at *
      obtain ⟨x0, x1, x2, x3⟩ := hx.x
      have c53 := hx.mw.cell 53 rfl
      have c54 := hx.mw.cell 54 rfl
      have c55 := hx.mw.cell 55 rfl
      have HQ := Lib.hid hx.drew
      clear HX hx
      go_region_with ((go_at_call 31; refine (HC.out _).mono ?_; rintro e w1 ⟨rfl, hb1⟩; have HQ1 := Lib.hid (HQ.out.below hb1)))
      all_goals
        refine world_cut (G := fun W => Exit.then _ _ Exit.normal _ W) (fun W => Hx w W b M G k) (by exact HQ1.out) ?_
        rintro W9 hx9
        clear c53 c54 c55 x0 x1 x2 x3 HQ HQ1 HC
        obtain ⟨x0, x1, x2, x3⟩ := hx9.x
        have hGb : G ≠ b := by have := hx9.ge; have := hx9.blt; omega
        have c10 := hx9.mw.cell 10 rfl
        have HY := Lib.hid hx9
        clear hx9
        go_wp2
        go_quiet (fail)
        go_wp2
        go_end0
        exact ⟨rfl, by rw [HV.out]; exact (HY.out.drewN _).does⟩
end Go.Proofs.YtedlfognpbbhhaaGreatDoor.Ma
