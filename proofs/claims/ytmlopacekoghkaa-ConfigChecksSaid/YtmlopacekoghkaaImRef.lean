/-
  The reference's Lay, walked. Conditions: as each states.
-/
import Derived.Test.YtmlopacekoghkaaImLay
namespace Go.Proofs.Ytmlopacekoghkaa.Bl
open Go.RowKit

/-- Which bytes are used, as 64 cells. -/
def UsedAt (W : World) (b : Nat) (U : Nat → Bool) : Prop := ∀ k, k < 64 → W.cell? ⟨b, k, none⟩ = some (.bool (U k)) ∧ W.frozen? ⟨b, k, none⟩ = false
theorem UsedAt.below {W W' : World} {b N : Nat} {U : Nat → Bool} (h : UsedAt W b U) (hb : Below N W W') (hN : b < N) : UsedAt W' b U := fun k hk => ⟨kept_cell hb hN (h k hk).1, (frozen_kept hb hN).trans (h k hk).2⟩
theorem UsedAt.lt {W : World} {b : Nat} {U : Nat → Bool} (h : UsedAt W b U) : b < W.heap.size := World.block_lt_of_cell? W _ (h 0 (by decide)).1
theorem UsedAt.set {W : World} {b : Nat} {U : Nat → Bool} (h : UsedAt W b U) {j : Nat} (hj : j < 64) (x : Bool) {V : Nat → Bool} (hV : ∀ k, k < 64 → V k = if k = j then x else U k) : UsedAt (W.setCell ⟨b, j, none⟩ (.bool x)) b V := fun k hk => by
  rw [hV k hk]
  by_cases e : k = j
  · subst e
    rw [if_pos rfl, World.frozen?_setCell]
    exact ⟨World.cell?_setCell_same _ _ _ (h k hk).1, (h k hk).2⟩
  · rw [if_neg e, World.frozen?_setCell, World.cell?_setCell_other _ _ _ _ (off_ne b (fun h => e h.symm))]
    exact h k hk
theorem infoBool : (Try.prog.info? 4).map (fun i => (i.zero, i.size, i.bytes)) = some (some (.bool false), 1, 1) := by kernel_rfl
theorem mkBool : ∀ w : World, (Instr.makeSlice 83 (.int .i64 64) (.int .i64 64)).run Try.prog w = .ok (.slice (some ⟨w.heap.size, 0, none⟩) 64 64) (w.alloc (.cells (madeCells #[.bool false] 64) 4)) := fun w => by
  obtain ⟨i0, hi0, hi1, hi2, hi3⟩ := info_parts infoBool
  have h := run_make (P := Try.prog) w 83 4 i0 _ Try.underlying83 hi0 hi1 .i64 .i64 64 64 (by omega) (by omega) (by rw [hi3]; omega) (by omega)
  rw [hi2] at h
  exact h
theorem UsedAt.new (W : World) (t : TypeId) : UsedAt (W.alloc (.cells (madeCells #[.bool false] 64) t)) W.heap.size (fun _ => false) := fun k hk => by
  refine ⟨?_, ?_⟩
  · rw [World.cell?_alloc_new, ← Array.getElem?_toList, toList_madeCells_one, List.getElem?_replicate, if_pos hk]
  · rw [World.frozen?_alloc_new]
/-- A world of the reference's Lay: spots, the directory, what is used. -/
structure Rl (w W : World) (so : Option Addr) (l : List Spt) (bo : Option Addr) (D : List Blk) (b : Nat) (U : Nat → Bool) : Prop where
  im : Im w W so l bo D
  us : UsedAt W b U
  ge : w.heap.size ≤ b
section
variable {w W W' : World} {so bo : Option Addr} {l : List Spt} {D : List Blk} {b : Nat} {U : Nat → Bool}
theorem Rl.next (h : Rl w W so l bo D b U) (hb : Below W.heap.size W W') : Rl w W' so l bo D b U := ⟨h.im.next hb, h.us.below hb h.us.lt, h.ge⟩
theorem Rl.congr (h : Rl w W so l bo D b U) {V : Nat → Bool} (hV : ∀ k, k < 64 → V k = U k) : Rl w W so l bo D b V := ⟨h.im, fun k hk => by rw [hV k hk]; exact h.us k hk, h.ge⟩
theorem Rl.set (h : Rl w W so l bo D b U) {j : Nat} (hj : j < 64) (x : Bool) {V : Nat → Bool} (hV : ∀ k, k < 64 → V k = if k = j then x else U k) : Rl w (W.setCell ⟨b, j, none⟩ (.bool x)) so l bo D b V :=
  ⟨h.im.turn ((Below.refl _ W).setCell (p := ⟨b, j, none⟩) (show w.heap.size ≤ b from h.ge) _), h.us.set hj x hV, h.ge⟩
end
theorem Own4.set {W : World} {b c j : Nat} {x : Blk} {t : TypeId} {v : Value} (h : Own4 W c x t) (hne : c ≠ b) : Own4 (W.setCell ⟨b, j, none⟩ v) c x t := by
  unfold Own4 at *
  rw [← h]
  simp only [World.setCell]
  rw [Array.getElem?_modify, if_neg (fun e => hne e.symm)]

/-- .. and a block of the round's. -/
structure Rm (w W : World) (so : Option Addr) (l : List Spt) (bo : Option Addr) (D : List Blk) (b : Nat) (U : Nat → Bool) (c : Nat) (x : Blk) : Prop where
  rl : Rl w W so l bo D b U
  ob : Own4 W c x 61
  ne : c ≠ b
section
variable {w W W' : World} {so bo : Option Addr} {l : List Spt} {D : List Blk} {b c : Nat} {U : Nat → Bool} {x : Blk}
theorem Rm.next (h : Rm w W so l bo D b U c x) (hb : Below W.heap.size W W') : Rm w W' so l bo D b U c x := ⟨h.rl.next hb, h.ob.kept hb h.ob.lt, h.ne⟩
theorem Rm.set (h : Rm w W so l bo D b U c x) {j : Nat} (hj : j < 64) (y : Bool) {V : Nat → Bool} (hV : ∀ k, k < 64 → V k = if k = j then y else U k) : Rm w (W.setCell ⟨b, j, none⟩ (.bool y)) so l bo D b V c x := ⟨h.rl.set hj y hV, h.ob.set h.ne, h.ne⟩
end
theorem used_step (ov : Bool) (n : Int) (j k : Nat) : (decide (k < j + 1) && (ov && decide ((k : Int) < n))) = if k = j then (ov && decide ((j : Int) < n)) else (decide (k < j) && (ov && decide ((k : Int) < n))) := by
  by_cases e : k = j
  · subst e
    rw [if_pos rfl, decide_eq_true (by omega), Bool.true_and]
  · rw [if_neg e]
    congr 1
    rw [decide_eq_decide]
    omega
theorem set_self (U : Nat → Bool) (p j : Nat) (h : p ≤ j) : setB U p (j - p) j = U j := by
  unfold setB
  have : (decide (p ≤ j) && decide (j < p + (j - p))) = false := by simp; omega
  rw [this, Bool.or_false]
theorem set_step (U : Nat → Bool) (p j k : Nat) (h : p ≤ j) : setB U p (j + 1 - p) k = if k = j then true else setB U p (j - p) k := by
  rw [show j + 1 - p = (j - p) + 1 by omega, set_next, show p + (j - p) = j by omega]

set_option maxRecDepth 100000 in
set_option maxHeartbeats 8000000 in
theorem rLay_f (n : Int) (l : List Spt) (so : Option Addr) (cap : Nat) (D : List Blk) (bo : Option Addr) (capD : Nat) (w : World) (hI : Im w w so l bo D) (hc : l.length ≤ cap) (hm : cap ≤ maxLen) (hD : D.length ≤ maxLen) (hn : (false && beyB n) = false) :
    Calls Try.prog 36 #[.int .i64 n, .slice so l.length cap, .slice bo D.length capD, .bool false] w (Tells (errV (layO false n l D)) w) := by
  have hml : (l.length : Int) ≤ 9223372036854775807 := by unfold maxLen at hm; omega
  obtain ⟨R, hR⟩ : ∃ R, R = layO false n l D := ⟨_, rfl⟩
  rw [← hR]
  unfold layO at hR
  unfold errV
  rw [hn, if_neg (by decide)] at hR
  have hmk := mkBool
  have HI := Lib.hid (hI.next (one_S w (madeCells #[.bool false] 64) 4))
  have HU := Lib.hid (UsedAt.new w 4)
  have HF := Lib.hid (fun (id : Int) W (h : Im w W so l bo D) => rFind_any D bo capD id W h.self.di hD)
  have HR := Lib.hid hR
  have HT := Lib.hid (fun (i k : Nat) (y : Spt) (hy : l[k]? = some y) (hk : k < i) (b : Int) => tw_at hy hk b)
  have HRl0 := Lib.hid (⟨HI.out, HU.out, Nat.le_refl _⟩ : Rl w _ so l bo D w.heap.size (fun _ => false))
  clear hR HI HU hI hn
  go_enter Try.func36, Try.ntmps36
  go_wp2
  generalize w.heap.size = bb at *
  go_loopw [11] (fun i W => ∃ j : Nat, j ≤ 64 ∧ i = .int .i64 j ∧ Hid (Rl w W so l bo D bb (fun k => decide (k < j) && (false && decide ((k : Int) < n))))) (fun i _ => 64 - (intOf i).toNat)
  case atStart => exact ⟨0, Nat.zero_le _, rfl, Lib.hid (HRl0.out.congr fun k _ => by simp)⟩
  case round =>
    obtain ⟨j, hj, rfl, hR⟩ := hrel
    clear HRl0
    by_cases hlt : j < 64
    · have e3 : decide ((j : Int) < 64) = true := by simp; omega
      obtain ⟨c0, f0⟩ := hR.out.us j hlt
      have HS := Lib.hid (hR.out.set hlt (false && decide ((j : Int) < n)) (V := fun k => decide (k < j + 1) && (false && decide ((k : Int) < n))) (fun k _ => used_step false n j k))
      have hlb := hR.out.us.lt
      clear hR
      simp only [Bool.false_and] at HS
      go_wp2
      go_roundw
      case rel => exact ⟨j + 1, by omega, by go_num, HS⟩
      case measure => simp [intOf]; omega
    · have h64 : j = 64 := by omega
      have e3 : decide ((j : Int) < 64) = false := by simp; omega
      have HR1 := Lib.hid (hR.out.congr (V := fun k => false && decide ((k : Int) < n)) fun k hk => by rw [decide_eq_true (show k < j by omega)]; simp)
      clear hR hlt hj h64
      generalize (fun k : Nat => false && decide ((k : Int) < n)) = U0 at *
      go_wp2
      go_loopw [12] (fun i W => ∃ (k : Nat) (U : Nat → Bool), k ≤ l.length ∧ i = .int .i64 k ∧ Hid (R = layF false l D (l.length - k) k U) ∧ Hid (Rl w W so l bo D bb U)) (fun i _ => l.length - (intOf i).toNat)
      case atStart => exact ⟨0, U0, Nat.zero_le _, rfl, HR, HR1⟩
      case round =>
        obtain ⟨k, U, hk, rfl, hL, hR⟩ := hrel
        clear HR HR1
        by_cases hlt : k < l.length
        · have e3 : decide ((k : Int) < (l.length : Int)) = true := by simp; omega
          obtain ⟨s, hs⟩ : ∃ s, l[k]? = some s := ⟨_, List.getElem?_eq_getElem hlt⟩
          obtain ⟨b0, o0, hso, hb0, hcs⟩ := hR.out.im.sp (by omega)
          subst hso
          obtain ⟨c0, c1⟩ := hcs k s hs
          have hg := sget_at hs
          have HFk := HF.out s.b
          obtain ⟨x, f, hf⟩ : ∃ x f, findB D s.b = (x, f) := ⟨_, _, rfl⟩
          rw [hf] at HFk
          unfold foundV blkV at HFk
          replace HFk := Lib.hid HFk
          have HX := Lib.hid (⟨hg, hf, hL.out, hs⟩ : _ ∧ _ ∧ _ ∧ _)
          clear hg hf hL hs hcs hb0
          cases f
          · have hr : R = (5, (k : Int)) := by
              obtain ⟨hg, hf, hL, -⟩ := HX.out
              have h5 := (spE_no (i := k) hg hf).1
              rw [layF_go false D hlt U, if_neg (by rw [h5]; decide), h5] at hL
              exact hL
            subst hr
            clear HX
            go_wp2_with fail
            refine (HFk.out _ hR.out.im).mono ?_
            rintro e w3 ⟨rfl, hb3⟩
            have HI3 := Lib.hid ((hR.out.im.next hb3).next (one_S w3 #[.int .i64 x.id, .int .i64 x.ad, .int .i64 x.sz, .bool x.hi] 61))
            clear hb3
            go_wp2
            go_ret2
            exact ⟨rfl, HI3.out.below⟩
          · go_wp2_with fail
            refine (HFk.out _ hR.out.im).mono ?_
            rintro e w3 ⟨rfl, hb3⟩
            have o3 := one_S w3 #[.int .i64 x.id, .int .i64 x.ad, .int .i64 x.sz, .bool x.hi] 61
            have HM := Lib.hid (⟨(hR.out.next hb3).next o3, Own4.new w3 x 61, by have := hR.out.us.lt; have := hb3.size; omega⟩ : Rm w _ _ l bo D bb U w3.heap.size x)
            clear hb3 o3 hR HFk c0 c1
            go_wp2
            generalize w3.heap.size = cc at *
            go_loopw [15] (fun i W => ∃ q : Nat, q ≤ k ∧ i = .int .i64 q ∧ Hid (twB l k 0 s.b = twB l k q s.b) ∧ Hid (Rm w W (some ⟨b0, o0, none⟩) l bo D bb U cc x)) (fun i _ => k - (intOf i).toNat)
            case atStart => exact ⟨0, Nat.zero_le _, rfl, Lib.hid rfl, HM⟩
            case round =>
              obtain ⟨q, hq, rfl, hT, hM⟩ := hrel
              clear HM
              obtain ⟨b1, o1, hbo, hb1, hcs⟩ := hM.out.rl.im.sp (by omega)
              injection hbo with hbo
              injection hbo with hbo hbo2
              subst hbo hbo2
              obtain ⟨hg, hf, hL, hs⟩ := HX.out
              obtain ⟨c0, c1⟩ := hcs k s hs
              by_cases hqk : q < k
              · have e4 : decide ((q : Int) < (k : Int)) = true := by simp; omega
                obtain ⟨y, hy⟩ : ∃ y, l[q]? = some y := ⟨_, List.getElem?_eq_getElem (by omega)⟩
                obtain ⟨g0, g1⟩ := hcs q y hy
                have htw := HT.out k q y hy hqk s.b
                clear hcs hy hs
                by_cases he : y.b = s.b
                · have e2 : (y.b == s.b) = true := beq_iff_eq.2 he
                  rw [decide_eq_true he, Bool.true_or] at htw
                  have h14 := (spE_tw (i := k) hg hf (hT.out.trans htw)).1
                  rw [layF_go false D hlt U, if_neg (by rw [h14]; decide), h14] at hL
                  subst hL
                  clear hg hf HX htw hT he h14
                  go_wp2_with fail
                  go_quiet (fail)
                  go_wp2
                  go_ret2
                  exact ⟨rfl, (hM.out.next (below_drewN _ _ _)).rl.im.below⟩
                · have e2 : (y.b == s.b) = false := beq_eq_false_iff_ne.2 he
                  rw [decide_eq_false he, Bool.false_or] at htw
                  have HT2 := Lib.hid (hT.out.trans htw)
                  clear htw hT he hg hf hL
                  go_wp2_with fail
                  go_quiet (fail)
                  go_wp2
                  exact ⟨⟨q + 1, by omega, by go_num, HT2, Lib.hid (hM.out.next (below_drewN _ _ _))⟩, by simp [intOf]; omega⟩
              · obtain rfl : q = k := by omega
                have ht := hT.out
                rw [tw_end] at ht
                obtain ⟨q0, q1, q2, q3⟩ := hM.out.ob.cells
                have e4 : decide ((q : Int) < (q : Int)) = false := by simp
                clear hT hcs HX
                by_cases hl : longB s.a x.sz = true
                · have h2 := (spE_long (i := q) hg hf ht hl).1
                  rw [layF_go false D hlt U, if_neg (by rw [h2]; decide), h2] at hL
                  subst hL
                  have hly := long_yes hl
                  clear hg hf h2 ht hl hs
                  have HB := Lib.hid hM.out.rl.im.below
                  clear hM
                  obtain ⟨sb, a⟩ := s
                  obtain ⟨i1, i2, z, i4⟩ := x
                  dsimp only at *
                  by_cases l1 : a < 0
                  · have e1 : decide (a < 0) = true := decide_eq_true l1
                    clear hly
                    go_wp2
                    go_ret2
                    exact ⟨rfl, HB.out⟩
                  · have e1 : decide (a < 0) = false := decide_eq_false l1
                    by_cases l2 : 64 < a
                    · have e2 : decide (64 < a) = true := decide_eq_true l2
                      clear hly l1
                      go_wp2
                      go_ret2
                      exact ⟨rfl, HB.out⟩
                    · have e2 : decide (64 < a) = false := decide_eq_false l2
                      have hw : IntKind.i64.wrap (64 - a) = 64 - a := by rw [IntKind.wrap_i64]; omega
                      by_cases l3 : z < 0
                      · have e3 : decide (z < 0) = true := decide_eq_true l3
                        clear hly l1 l2
                        go_wp2
                        go_ret2
                        exact ⟨rfl, HB.out⟩
                      · have e3 : decide (z < 0) = false := decide_eq_false l3
                        have e5 : decide (64 - a < z) = true := decide_eq_true (by omega)
                        clear hly l1 l2 l3
                        go_wp2
                        go_ret2
                        exact ⟨rfl, HB.out⟩
                · have h0 := (spE_ok (i := q) hg hf ht hl).1
                  obtain ⟨-, -, -, hp, hz, hpz, -⟩ := sp_zero h0
                  rw [hg] at hp hz
                  rw [hf] at hz
                  have hln := long_no hl
                  rw [layF_go false D hlt U, if_pos h0] at hL
                  generalize spP l q = p at *
                  generalize spZ l D q = z at *
                  have HL := Lib.hid hL
                  clear hg hf h0 ht hl hs hL
                  have hzz := hz
                  obtain ⟨sb, a⟩ := s
                  dsimp only at *
                  subst hp
                  rw [← hz] at q2
                  have hw : IntKind.i64.wrap (64 - (p : Int)) = 64 - (p : Int) := by rw [IntKind.wrap_i64]; omega
                  have e1 : decide ((p : Int) < 0) = false := by simp
                  have e2 : decide ((64 : Int) < (p : Int)) = false := by simp; omega
                  have e5 : decide ((z : Int) < 0) = false := by simp
                  have e6 : decide ((64 : Int) - (p : Int) < (z : Int)) = false := by simp; omega
                  have hwz : IntKind.i64.wrap ((p : Int) + (z : Int)) = (p : Int) + (z : Int) := by rw [IntKind.wrap_i64]; omega
                  clear hln
                  go_wp2
                  clear e1 e2 e5 e6 hw c0 c1 q0 q1 q2 q3
                  go_loopw [17] (fun i W => ∃ j : Nat, p ≤ j ∧ j ≤ p + z ∧ i = .int .i64 j ∧ Hid ((false && hitB U p (j - p)) = false) ∧ Hid (Rm w W (some ⟨b0, o0, none⟩) l bo D bb (setB U p (j - p)) cc x)) (fun i _ => p + z - (intOf i).toNat)
                  case atStart => exact ⟨p, Nat.le_refl _, by omega, rfl, Lib.hid (by rw [Nat.sub_self, hit_zero, Bool.and_false]), Lib.hid (by rw [Nat.sub_self, set_zero]; exact hM.out)⟩
                  case round =>
                    obtain ⟨j, hpj, hjz, rfl, hH, hM2⟩ := hrel
                    clear hM
                    obtain ⟨q0, q1, q2, q3⟩ := hM2.out.ob.cells
                    rw [← hzz] at q2
                    by_cases hjl : j < p + z
                    · have e1 : decide ((j : Int) < (p : Int) + (z : Int)) = true := by simp; omega
                      obtain ⟨u0, uf⟩ := hM2.out.rl.us j (by omega)
                      have hU := set_self U p j hpj
                      rw [hU] at u0
                      have hlb := hM2.out.rl.us.lt
                      have hst : ∀ k, k < 64 → setB U p (j + 1 - p) k = if k = j then true else setB U p (j - p) k := fun k _ => set_step U p j k hpj
                      have HS := Lib.hid (hM2.out.set (by omega) true hst)
                      clear hM2 hst hH hU
                      go_wp2
                      go_roundw
                      case rel => exact ⟨j + 1, by omega, by omega, by go_num, Lib.hid (Bool.false_and _), HS⟩
                      case measure => simp [intOf]; omega
                    · obtain rfl : j = p + z := by omega
                      have e1 : decide (((p + z : Nat) : Int) < (p : Int) + (z : Int)) = false := by simp
                      have hh := hH.out
                      have hM3 := hM2.out
                      rw [show p + z - p = z by omega] at hh hM3
                      have hL := HL.out
                      rw [hh, if_neg (by decide)] at hL
                      have HL2 := Lib.hid hL
                      have HM3 := Lib.hid hM3.rl
                      clear hL hh hM2 hM3 hH HL
                      go_wp2
                      go_roundw
                      case rel => exact ⟨q + 1, _, by omega, by go_num, HL2, HM3⟩
                      case measure => simp [intOf]; omega
        · obtain rfl : k = l.length := by omega
          obtain rfl : R = (0, 0) := by rw [hL.out, layF_end]
          clear hL
          go_wp2
          go_ret2
          exact ⟨rfl, hR.out.im.below⟩
set_option maxRecDepth 100000 in
set_option maxHeartbeats 8000000 in
theorem rLay_t (n : Int) (l : List Spt) (so : Option Addr) (cap : Nat) (D : List Blk) (bo : Option Addr) (capD : Nat) (w : World) (hI : Im w w so l bo D) (hc : l.length ≤ cap) (hm : cap ≤ maxLen) (hD : D.length ≤ maxLen) (hn : (true && beyB n) = false) :
    Calls Try.prog 36 #[.int .i64 n, .slice so l.length cap, .slice bo D.length capD, .bool true] w (Tells (errV (layO true n l D)) w) := by
  have hml : (l.length : Int) ≤ 9223372036854775807 := by unfold maxLen at hm; omega
  obtain ⟨R, hR⟩ : ∃ R, R = layO true n l D := ⟨_, rfl⟩
  rw [← hR]
  unfold layO at hR
  unfold errV
  rw [hn, if_neg (by decide)] at hR
  have hmk := mkBool
  have HI := Lib.hid (hI.next (one_S w (madeCells #[.bool false] 64) 4))
  have HU := Lib.hid (UsedAt.new w 4)
  have HF := Lib.hid (fun (id : Int) W (h : Im w W so l bo D) => rFind_any D bo capD id W h.self.di hD)
  have HR := Lib.hid hR
  have e1 : decide (n < 0) = false := by unfold beyB at hn; simp at hn; simp; omega
  have e2 : decide (64 < n) = false := by unfold beyB at hn; simp at hn; simp; omega
  have HT := Lib.hid (fun (i k : Nat) (y : Spt) (hy : l[k]? = some y) (hk : k < i) (b : Int) => tw_at hy hk b)
  have HRl0 := Lib.hid (⟨HI.out, HU.out, Nat.le_refl _⟩ : Rl w _ so l bo D w.heap.size (fun _ => false))
  clear hR HI HU hI hn
  go_enter Try.func36, Try.ntmps36
  go_wp2
  generalize w.heap.size = bb at *
  go_loopw [11] (fun i W => ∃ j : Nat, j ≤ 64 ∧ i = .int .i64 j ∧ Hid (Rl w W so l bo D bb (fun k => decide (k < j) && (true && decide ((k : Int) < n))))) (fun i _ => 64 - (intOf i).toNat)
  case atStart => exact ⟨0, Nat.zero_le _, rfl, Lib.hid (HRl0.out.congr fun k _ => by simp)⟩
  case round =>
    obtain ⟨j, hj, rfl, hR⟩ := hrel
    clear HRl0
    by_cases hlt : j < 64
    · have e3 : decide ((j : Int) < 64) = true := by simp; omega
      obtain ⟨c0, f0⟩ := hR.out.us j hlt
      have HS := Lib.hid (hR.out.set hlt (true && decide ((j : Int) < n)) (V := fun k => decide (k < j + 1) && (true && decide ((k : Int) < n))) (fun k _ => used_step true n j k))
      have hlb := hR.out.us.lt
      clear hR
      simp only [Bool.true_and] at HS
      go_wp2
      go_roundw
      case rel => exact ⟨j + 1, by omega, by go_num, HS⟩
      case measure => simp [intOf]; omega
    · have h64 : j = 64 := by omega
      have e3 : decide ((j : Int) < 64) = false := by simp; omega
      have HR1 := Lib.hid (hR.out.congr (V := fun k => true && decide ((k : Int) < n)) fun k hk => by rw [decide_eq_true (show k < j by omega)]; simp)
      clear hR hlt hj h64
      generalize (fun k : Nat => true && decide ((k : Int) < n)) = U0 at *
      go_wp2
      go_loopw [12] (fun i W => ∃ (k : Nat) (U : Nat → Bool), k ≤ l.length ∧ i = .int .i64 k ∧ Hid (R = layF true l D (l.length - k) k U) ∧ Hid (Rl w W so l bo D bb U)) (fun i _ => l.length - (intOf i).toNat)
      case atStart => exact ⟨0, U0, Nat.zero_le _, rfl, HR, HR1⟩
      case round =>
        obtain ⟨k, U, hk, rfl, hL, hR⟩ := hrel
        clear HR HR1
        by_cases hlt : k < l.length
        · have e3 : decide ((k : Int) < (l.length : Int)) = true := by simp; omega
          obtain ⟨s, hs⟩ : ∃ s, l[k]? = some s := ⟨_, List.getElem?_eq_getElem hlt⟩
          obtain ⟨b0, o0, hso, hb0, hcs⟩ := hR.out.im.sp (by omega)
          subst hso
          obtain ⟨c0, c1⟩ := hcs k s hs
          have hg := sget_at hs
          have HFk := HF.out s.b
          obtain ⟨x, f, hf⟩ : ∃ x f, findB D s.b = (x, f) := ⟨_, _, rfl⟩
          rw [hf] at HFk
          unfold foundV blkV at HFk
          replace HFk := Lib.hid HFk
          have HX := Lib.hid (⟨hg, hf, hL.out, hs⟩ : _ ∧ _ ∧ _ ∧ _)
          clear hg hf hL hs hcs hb0
          cases f
          · have hr : R = (5, (k : Int)) := by
              obtain ⟨hg, hf, hL, -⟩ := HX.out
              have h5 := (spE_no (i := k) hg hf).1
              rw [layF_go true D hlt U, if_neg (by rw [h5]; decide), h5] at hL
              exact hL
            subst hr
            clear HX
            go_wp2_with fail
            refine (HFk.out _ hR.out.im).mono ?_
            rintro e w3 ⟨rfl, hb3⟩
            have HI3 := Lib.hid ((hR.out.im.next hb3).next (one_S w3 #[.int .i64 x.id, .int .i64 x.ad, .int .i64 x.sz, .bool x.hi] 61))
            clear hb3
            go_wp2
            go_ret2
            exact ⟨rfl, HI3.out.below⟩
          · go_wp2_with fail
            refine (HFk.out _ hR.out.im).mono ?_
            rintro e w3 ⟨rfl, hb3⟩
            have o3 := one_S w3 #[.int .i64 x.id, .int .i64 x.ad, .int .i64 x.sz, .bool x.hi] 61
            have HM := Lib.hid (⟨(hR.out.next hb3).next o3, Own4.new w3 x 61, by have := hR.out.us.lt; have := hb3.size; omega⟩ : Rm w _ _ l bo D bb U w3.heap.size x)
            clear hb3 o3 hR HFk c0 c1
            go_wp2
            generalize w3.heap.size = cc at *
            go_loopw [15] (fun i W => ∃ q : Nat, q ≤ k ∧ i = .int .i64 q ∧ Hid (twB l k 0 s.b = twB l k q s.b) ∧ Hid (Rm w W (some ⟨b0, o0, none⟩) l bo D bb U cc x)) (fun i _ => k - (intOf i).toNat)
            case atStart => exact ⟨0, Nat.zero_le _, rfl, Lib.hid rfl, HM⟩
            case round =>
              obtain ⟨q, hq, rfl, hT, hM⟩ := hrel
              clear HM
              obtain ⟨b1, o1, hbo, hb1, hcs⟩ := hM.out.rl.im.sp (by omega)
              injection hbo with hbo
              injection hbo with hbo hbo2
              subst hbo hbo2
              obtain ⟨hg, hf, hL, hs⟩ := HX.out
              obtain ⟨c0, c1⟩ := hcs k s hs
              by_cases hqk : q < k
              · have e4 : decide ((q : Int) < (k : Int)) = true := by simp; omega
                obtain ⟨y, hy⟩ : ∃ y, l[q]? = some y := ⟨_, List.getElem?_eq_getElem (by omega)⟩
                obtain ⟨g0, g1⟩ := hcs q y hy
                have htw := HT.out k q y hy hqk s.b
                clear hcs hy hs
                by_cases he : y.b = s.b
                · have e2 : (y.b == s.b) = true := beq_iff_eq.2 he
                  rw [decide_eq_true he, Bool.true_or] at htw
                  have h14 := (spE_tw (i := k) hg hf (hT.out.trans htw)).1
                  rw [layF_go true D hlt U, if_neg (by rw [h14]; decide), h14] at hL
                  subst hL
                  clear hg hf HX htw hT he h14
                  go_wp2_with fail
                  go_quiet (fail)
                  go_wp2
                  go_ret2
                  exact ⟨rfl, (hM.out.next (below_drewN _ _ _)).rl.im.below⟩
                · have e2 : (y.b == s.b) = false := beq_eq_false_iff_ne.2 he
                  rw [decide_eq_false he, Bool.false_or] at htw
                  have HT2 := Lib.hid (hT.out.trans htw)
                  clear htw hT he hg hf hL
                  go_wp2_with fail
                  go_quiet (fail)
                  go_wp2
                  exact ⟨⟨q + 1, by omega, by go_num, HT2, Lib.hid (hM.out.next (below_drewN _ _ _))⟩, by simp [intOf]; omega⟩
              · obtain rfl : q = k := by omega
                have ht := hT.out
                rw [tw_end] at ht
                obtain ⟨q0, q1, q2, q3⟩ := hM.out.ob.cells
                have e4 : decide ((q : Int) < (q : Int)) = false := by simp
                clear hT hcs HX
                by_cases hl : longB s.a x.sz = true
                · have h2 := (spE_long (i := q) hg hf ht hl).1
                  rw [layF_go true D hlt U, if_neg (by rw [h2]; decide), h2] at hL
                  subst hL
                  have hly := long_yes hl
                  clear hg hf h2 ht hl hs
                  have HB := Lib.hid hM.out.rl.im.below
                  clear hM
                  obtain ⟨sb, a⟩ := s
                  obtain ⟨i1, i2, z, i4⟩ := x
                  dsimp only at *
                  by_cases l1 : a < 0
                  · have e1 : decide (a < 0) = true := decide_eq_true l1
                    clear hly
                    go_wp2
                    go_ret2
                    exact ⟨rfl, HB.out⟩
                  · have e1 : decide (a < 0) = false := decide_eq_false l1
                    by_cases l2 : 64 < a
                    · have e2 : decide (64 < a) = true := decide_eq_true l2
                      clear hly l1
                      go_wp2
                      go_ret2
                      exact ⟨rfl, HB.out⟩
                    · have e2 : decide (64 < a) = false := decide_eq_false l2
                      have hw : IntKind.i64.wrap (64 - a) = 64 - a := by rw [IntKind.wrap_i64]; omega
                      by_cases l3 : z < 0
                      · have e3 : decide (z < 0) = true := decide_eq_true l3
                        clear hly l1 l2
                        go_wp2
                        go_ret2
                        exact ⟨rfl, HB.out⟩
                      · have e3 : decide (z < 0) = false := decide_eq_false l3
                        have e5 : decide (64 - a < z) = true := decide_eq_true (by omega)
                        clear hly l1 l2 l3
                        go_wp2
                        go_ret2
                        exact ⟨rfl, HB.out⟩
                · have h0 := (spE_ok (i := q) hg hf ht hl).1
                  obtain ⟨-, -, -, hp, hz, hpz, -⟩ := sp_zero h0
                  rw [hg] at hp hz
                  rw [hf] at hz
                  have hln := long_no hl
                  rw [layF_go true D hlt U, if_pos h0] at hL
                  generalize spP l q = p at *
                  generalize spZ l D q = z at *
                  have HL := Lib.hid hL
                  clear hg hf h0 ht hl hs hL
                  have hzz := hz
                  obtain ⟨sb, a⟩ := s
                  dsimp only at *
                  subst hp
                  rw [← hz] at q2
                  have hw : IntKind.i64.wrap (64 - (p : Int)) = 64 - (p : Int) := by rw [IntKind.wrap_i64]; omega
                  have e1 : decide ((p : Int) < 0) = false := by simp
                  have e2 : decide ((64 : Int) < (p : Int)) = false := by simp; omega
                  have e5 : decide ((z : Int) < 0) = false := by simp
                  have e6 : decide ((64 : Int) - (p : Int) < (z : Int)) = false := by simp; omega
                  have hwz : IntKind.i64.wrap ((p : Int) + (z : Int)) = (p : Int) + (z : Int) := by rw [IntKind.wrap_i64]; omega
                  clear hln
                  go_wp2
                  clear e1 e2 e5 e6 hw c0 c1 q0 q1 q2 q3
                  go_loopw [17] (fun i W => ∃ j : Nat, p ≤ j ∧ j ≤ p + z ∧ i = .int .i64 j ∧ Hid ((true && hitB U p (j - p)) = false) ∧ Hid (Rm w W (some ⟨b0, o0, none⟩) l bo D bb (setB U p (j - p)) cc x)) (fun i _ => p + z - (intOf i).toNat)
                  case atStart => exact ⟨p, Nat.le_refl _, by omega, rfl, Lib.hid (by rw [Nat.sub_self, hit_zero, Bool.and_false]), Lib.hid (by rw [Nat.sub_self, set_zero]; exact hM.out)⟩
                  case round =>
                    obtain ⟨j, hpj, hjz, rfl, hH, hM2⟩ := hrel
                    clear hM
                    obtain ⟨q0, q1, q2, q3⟩ := hM2.out.ob.cells
                    rw [← hzz] at q2
                    by_cases hjl : j < p + z
                    · have e1 : decide ((j : Int) < (p : Int) + (z : Int)) = true := by simp; omega
                      obtain ⟨u0, uf⟩ := hM2.out.rl.us j (by omega)
                      have hU := set_self U p j hpj
                      rw [hU] at u0
                      have hlb := hM2.out.rl.us.lt
                      by_cases hu : U j = true
                      · rw [hu] at u0
                        have hL := HL.out
                        rw [Bool.true_and, if_pos (hit_iff.2 ⟨j, hpj, hjl, hu⟩)] at hL
                        subst hL
                        clear HL hu hU hH
                        go_wp2
                        go_ret2
                        exact ⟨rfl, hM2.out.rl.im.below⟩
                      · have hu := eq_false_of_ne_true hu
                        rw [hu] at u0
                        have hst : ∀ k, k < 64 → setB U p (j + 1 - p) k = if k = j then true else setB U p (j - p) k := fun k _ => set_step U p j k hpj
                        have HS := Lib.hid (hM2.out.set (by omega) true hst)
                        have HH := Lib.hid (show (true && hitB U p (j + 1 - p)) = false by
                          have := hH.out
                          rw [Bool.true_and] at this ⊢
                          rw [show j + 1 - p = (j - p) + 1 by omega, hit_next, this, show p + (j - p) = j by omega, hu]
                          rfl)
                        clear hM2 hst hH hU hu
                        go_wp2
                        go_roundw
                        case rel => exact ⟨j + 1, by omega, by omega, by go_num, HH, HS⟩
                        case measure => simp [intOf]; omega
                    · obtain rfl : j = p + z := by omega
                      have e1 : decide (((p + z : Nat) : Int) < (p : Int) + (z : Int)) = false := by simp
                      have hh := hH.out
                      have hM3 := hM2.out
                      rw [show p + z - p = z by omega] at hh hM3
                      have hL := HL.out
                      rw [hh, if_neg (by decide)] at hL
                      have HL2 := Lib.hid hL
                      have HM3 := Lib.hid hM3.rl
                      clear hL hh hM2 hM3 hH HL
                      go_wp2
                      go_roundw
                      case rel => exact ⟨q + 1, _, by omega, by go_num, HL2, HM3⟩
                      case measure => simp [intOf]; omega
        · obtain rfl : k = l.length := by omega
          obtain rfl : R = (0, 0) := by rw [hL.out, layF_end]
          clear hL
          go_wp2
          go_ret2
          exact ⟨rfl, hR.out.im.below⟩
theorem rLay_any (ov : Bool) (n : Int) (l : List Spt) (so : Option Addr) (cap : Nat) (D : List Blk) (bo : Option Addr) (capD : Nat) (w : World) (hI : Im w w so l bo D) (hc : l.length ≤ cap) (hm : cap ≤ maxLen) (hD : D.length ≤ maxLen) :
    Calls Try.prog 36 #[.int .i64 n, .slice so l.length cap, .slice bo D.length capD, .bool ov] w (Tells (errV (layO ov n l D)) w) := by
  by_cases hb : (ov && beyB n) = true
  · obtain ⟨rfl, hb2⟩ : ov = true ∧ beyB n = true := by simpa using hb
    have hR : layO true n l D = (2, -1) := by unfold layO; rw [if_pos hb]
    rw [hR]
    unfold errV
    unfold beyB at hb2
    clear hb hR
    by_cases l1 : n < 0
    · have e1 : decide (n < 0) = true := decide_eq_true l1
      clear hb2 l1
      go_enter Try.func36, Try.ntmps36
      go_wp2
      go_ret2
      exact ⟨rfl, Below.refl _ _⟩
    · have e1 : decide (n < 0) = false := decide_eq_false l1
      have e2 : decide (64 < n) = true := by rw [e1, Bool.false_or] at hb2; exact hb2
      clear hb2 l1
      go_enter Try.func36, Try.ntmps36
      go_wp2
      go_ret2
      exact ⟨rfl, Below.refl _ _⟩
  · cases ov
    · exact rLay_f n l so cap D bo capD w hI hc hm hD (eq_false_of_ne_true hb)
    · exact rLay_t n l so cap D bo capD w hI hc hm hD (eq_false_of_ne_true hb)
end Go.Proofs.Ytmlopacekoghkaa.Bl
