/-
  Find, the program's and the reference's, walked. Conditions: none.
-/
import Derived.Test.YtmlopacekoghkaaBlBase
namespace Go.Proofs.Ytmlopacekoghkaa.Bl
open Go.RowKit

def foundV (r : Blk × Bool) : Value := .tuple #[blkV r.1, .bool r.2]
/-- A result's block, and a directory, in a call. -/
structure Fi (w wr : World) (ao : Option Addr) (l : List Blk) : Prop where
  at_ : At w wr ao l
  res : Own4 wr w.heap.size noB 61
section
variable {w wr w' : World} {ao : Option Addr} {l : List Blk}
theorem Fi.first (h : Lies w w.heap.size ao l) : Fi w (w.alloc (.cells #[.int .i64 0, .int .i64 0, .int .i64 0, .bool false] 61)) ao l :=
  ⟨(At.first h).next (one_S _ _ _), Own4.new w noB 61⟩
theorem Fi.next (h : Fi w wr ao l) (hb : Below wr.heap.size wr w') : Fi w w' ao l := ⟨h.at_.next hb, h.res.kept hb h.res.lt⟩
theorem Fi.lt (h : Fi w wr ao l) : w.heap.size < wr.heap.size := h.res.lt
theorem Fi.ends2 (h : Fi w wr ao l) (v0 v1 v2 v3 : Value) (o : Obj) : Below w.heap.size w (((((wr.setCell ⟨w.heap.size, 0, none⟩ v0).setCell ⟨w.heap.size, 1, none⟩ v1).setCell ⟨w.heap.size, 2, none⟩ v2).setCell ⟨w.heap.size, 3, none⟩ v3).alloc o) :=
  ((((h.at_.below.setCell (Nat.le_refl _) _).setCell (Nat.le_refl _) _).setCell (Nat.le_refl _) _).setCell (Nat.le_refl _) _).alloc (by have := h.lt; simp [World.setCell]; omega) _
theorem Fi.ends (h : Fi w wr ao l) (v0 v1 v2 v3 : Value) : Below w.heap.size w ((((wr.setCell ⟨w.heap.size, 0, none⟩ v0).setCell ⟨w.heap.size, 1, none⟩ v1).setCell ⟨w.heap.size, 2, none⟩ v2).setCell ⟨w.heap.size, 3, none⟩ v3) :=
  (((h.at_.below.setCell (Nat.le_refl _) _).setCell (Nat.le_refl _) _).setCell (Nat.le_refl _) _).setCell (Nat.le_refl _) _
end

theorem off_ne (p : Nat) {i j : Nat} (h : i ≠ j) : (⟨p, i, none⟩ : Addr) ≠ ⟨p, j, none⟩ := by intro e; injection e; contradiction
/-- Four cells stored, a block behind. -/
theorem four_set {wr : World} {N : Nat} {c0 c1 c2 c3 : Value} (h0 : wr.cell? ⟨N, 0, none⟩ = some c0) (h1 : wr.cell? ⟨N, 1, none⟩ = some c1) (h2 : wr.cell? ⟨N, 2, none⟩ = some c2) (h3 : wr.cell? ⟨N, 3, none⟩ = some c3) (v0 v1 v2 v3 : Value) (o : Obj) {E : World}
    (hE : E = ((((wr.setCell ⟨N, 0, none⟩ v0).setCell ⟨N, 1, none⟩ v1).setCell ⟨N, 2, none⟩ v2).setCell ⟨N, 3, none⟩ v3).alloc o) :
    E.cell? ⟨N, 0, none⟩ = some v0 ∧ E.cell? ⟨N, 1, none⟩ = some v1 ∧ E.cell? ⟨N, 2, none⟩ = some v2 ∧ E.cell? ⟨N, 3, none⟩ = some v3 := by
  subst hE
  have hlt : N < ((((wr.setCell ⟨N, 0, none⟩ v0).setCell ⟨N, 1, none⟩ v1).setCell ⟨N, 2, none⟩ v2).setCell ⟨N, 3, none⟩ v3).heap.size := by
    have := World.block_lt_of_cell? wr _ h0
    simpa [World.setCell] using this
  have hb := (Below.refl _ ((((wr.setCell ⟨N, 0, none⟩ v0).setCell ⟨N, 1, none⟩ v1).setCell ⟨N, 2, none⟩ v2).setCell ⟨N, 3, none⟩ v3)).alloc (Nat.le_refl _) o
  have a1 := World.cell?_setCell_other wr ⟨N, 0, none⟩ ⟨N, 1, none⟩ v0 (off_ne N (by decide))
  refine ⟨kept_cell hb hlt ?_, kept_cell hb hlt ?_, kept_cell hb hlt ?_, kept_cell hb hlt ?_⟩
  · rw [World.cell?_setCell_other _ _ _ _ (off_ne N (by decide)), World.cell?_setCell_other _ _ _ _ (off_ne N (by decide)), World.cell?_setCell_other _ _ _ _ (off_ne N (by decide))]
    exact World.cell?_setCell_same _ _ _ h0
  · rw [World.cell?_setCell_other _ _ _ _ (off_ne N (by decide)), World.cell?_setCell_other _ _ _ _ (off_ne N (by decide))]
    refine World.cell?_setCell_same _ _ _ ((?_ : _ = _).trans h1)
    exact World.cell?_setCell_other _ _ _ _ (off_ne N (by decide))
  · rw [World.cell?_setCell_other _ _ _ _ (off_ne N (by decide))]
    refine World.cell?_setCell_same _ _ _ ((?_ : _ = _).trans h2)
    rw [World.cell?_setCell_other _ _ _ _ (off_ne N (by decide)), World.cell?_setCell_other _ _ _ _ (off_ne N (by decide))]
  · refine World.cell?_setCell_same _ _ _ ((?_ : _ = _).trans h3)
    rw [World.cell?_setCell_other _ _ _ _ (off_ne N (by decide)), World.cell?_setCell_other _ _ _ _ (off_ne N (by decide)), World.cell?_setCell_other _ _ _ _ (off_ne N (by decide))]

set_option maxRecDepth 100000 in
set_option maxHeartbeats 4000000 in
theorem rFind_any (l : List Blk) (ao : Option Addr) (cap : Nat) (id : Int) (w : World) (hI : Lies w w.heap.size ao l) (hm : l.length ≤ maxLen) :
    Calls Try.prog 30 #[.slice ao l.length cap, .int .i64 id] w (Tells (foundV (findB l id)) w) := by
  have HF := Lib.hid (Fi.first hI)
  have hmi : (l.length : Int) ≤ 9223372036854775807 := by unfold maxLen at hm; omega
  clear hI hm
  unfold foundV blkV
  obtain ⟨r, hr⟩ : ∃ r, r = findB l id := ⟨_, rfl⟩
  have HR := Lib.hid hr
  rw [← hr]
  clear hr
  go_enter Try.func30, Try.ntmps30
  go_wp2
  generalize hN : w.heap.size = N at *
  go_loopw [6] (fun i W => ∃ k : Nat, k ≤ l.length ∧ i = .int .i64 k ∧ Hid (r = findB (l.drop k) id) ∧ Hid (Fi w W ao l)) (fun i _ => l.length - (intOf i).toNat)
  case atStart => exact ⟨0, Nat.zero_le _, rfl, HR, HF⟩
  case round =>
    obtain ⟨k, hk, rfl, hR, hF⟩ := hrel
    clear HR HF
    by_cases hlt : k < l.length
    · have e1 : decide ((k : Int) < l.length) = true := by simp; omega
      obtain ⟨x, hx⟩ : ∃ x, l[k]? = some x := ⟨_, List.getElem?_eq_getElem hlt⟩
      obtain ⟨b, o, rfl, hb, hI⟩ := hF.out.at_.lies (by omega)
      obtain ⟨c0, c1, c2, c3⟩ := hI k x hx
      obtain ⟨r0, r1, r2, r3⟩ := hF.out.res.cells
      have rf := hF.out.res.frozen
      have f0 := rf 0
      have f1 := rf 1
      have f2 := rf 2
      have f3 := rf 3
      clear rf
      rw [hN] at r0 r1 r2 r3 f0 f1 f2 f3
      have hlt2 := hF.out.lt
      rw [hN] at hlt2
      clear hI
      by_cases he : x.id = id
      · have e2 : (x.id == id) = true := beq_iff_eq.2 he
        have hr : r = (x, true) := by rw [hR.out, find_at hx, if_pos he]
        clear hR he hx
        subst hr
        go_wp2
        refine bodyPost_ret (v := .tuple #[.agg #[.int .i64 x.id, .int .i64 x.ad, .int .i64 x.sz, .bool x.hi], .bool true]) (by simp [results, Try.results30, go_sem, r0, r1, r2, r3]) rfl ?_
        exact ⟨rfl, hN ▸ hF.out.ends _ _ _ _⟩
      · have e2 : (x.id == id) = false := beq_eq_false_iff_ne.2 he
        have hR1 := Lib.hid (show r = findB (l.drop (k + 1)) id by rw [hR.out, find_at hx, if_neg he])
        clear hR he hx
        go_wp2
        go_roundw
        case rel => exact ⟨k + 1, by omega, by go_num, hR1, hF⟩
        case measure => simp [intOf]; omega
    · obtain rfl : k = l.length := by omega
      have hr : r = (noB, false) := by rw [hR.out, List.drop_eq_nil_of_le (Nat.le_refl _)]; rfl
      obtain ⟨r0, r1, r2, r3⟩ := hF.out.res.cells
      have rf := hF.out.res.frozen
      have f0 := rf 0
      have f1 := rf 1
      have f2 := rf 2
      have f3 := rf 3
      clear rf hR
      rw [hN] at r0 r1 r2 r3 f0 f1 f2 f3
      subst hr
      go_wp2
      refine bodyPost_ret (v := .tuple #[.agg #[.int .i64 0, .int .i64 0, .int .i64 0, .bool false], .bool false]) (by simp [results, Try.results30, go_sem, r0, r1, r2, r3]) rfl ?_
      exact ⟨rfl, hN ▸ hF.out.ends _ _ _ _⟩
set_option maxRecDepth 100000 in
set_option maxHeartbeats 4000000 in
theorem cFind_any (l : List Blk) (ao : Option Addr) (cap : Nat) (id : Int) (w : World) (hI : Lies w w.heap.size ao l) (hm : l.length ≤ maxLen) :
    Calls Try.prog 29 #[.slice ao l.length cap, .int .i64 id] w (Tells (foundV (findB l id)) w) := by
  have HF := Lib.hid (Fi.first hI)
  have hmi : (l.length : Int) ≤ 9223372036854775807 := by unfold maxLen at hm; omega
  clear hI hm
  unfold foundV blkV
  obtain ⟨r, hr⟩ : ∃ r, r = findB l id := ⟨_, rfl⟩
  have HR := Lib.hid hr
  rw [← hr]
  clear hr
  go_enter Try.func29, Try.ntmps29
  go_wp2
  generalize hN : w.heap.size = N at *
  go_loopw [10] (fun i W => ∃ k : Nat, k ≤ l.length ∧ i = .int .i64 k ∧ Hid (r = findB (l.drop k) id) ∧ Hid (Fi w W ao l)) (fun i _ => l.length - (intOf i).toNat)
  case atStart => exact ⟨0, Nat.zero_le _, rfl, HR, HF⟩
  case round =>
    obtain ⟨k, hk, rfl, hR, hF⟩ := hrel
    clear HR HF
    by_cases hlt : k < l.length
    · have e1 : decide ((k : Int) < l.length) = true := by simp; omega
      obtain ⟨x, hx⟩ : ∃ x, l[k]? = some x := ⟨_, List.getElem?_eq_getElem hlt⟩
      obtain ⟨b, o, rfl, hb, hI⟩ := hF.out.at_.lies (by omega)
      obtain ⟨c0, c1, c2, c3⟩ := hI k x hx
      obtain ⟨r0, r1, r2, r3⟩ := hF.out.res.cells
      have rf := hF.out.res.frozen
      have f0 := rf 0
      have f1 := rf 1
      have f2 := rf 2
      have f3 := rf 3
      clear rf
      rw [hN] at r0 r1 r2 r3 f0 f1 f2 f3
      have hlt2 := hF.out.lt
      rw [hN] at hlt2
      clear hI
      have hF2 := Lib.hid (hF.out.next (one_S wr #[.int .i64 x.id, .int .i64 x.ad, .int .i64 x.sz, .bool x.hi] 61))
      by_cases he : x.id = id
      · have e2 : (x.id == id) = true := beq_iff_eq.2 he
        have hr : r = (x, true) := by rw [hR.out, find_at hx, if_pos he]
        clear hR he hx
        subst hr
        go_wp2
        obtain ⟨q0, q1, q2, q3⟩ := four_set r0 r1 r2 r3 (.int .i64 x.id) (.int .i64 x.ad) (.int .i64 x.sz) (.bool x.hi) (.cells #[.int .i64 x.id, .int .i64 x.ad, .int .i64 x.sz, .bool x.hi] 61) rfl
        refine bodyPost_ret (v := .tuple #[.agg #[.int .i64 x.id, .int .i64 x.ad, .int .i64 x.sz, .bool x.hi], .bool true]) (by simp [results, Try.results29, go_sem, q0, q1, q2, q3]) rfl ?_
        exact ⟨rfl, hN ▸ hF.out.ends2 _ _ _ _ _⟩
      · have e2 : (x.id == id) = false := beq_eq_false_iff_ne.2 he
        have hR1 := Lib.hid (show r = findB (l.drop (k + 1)) id by rw [hR.out, find_at hx, if_neg he])
        clear hR he hx
        go_wp2
        go_roundw
        case rel => exact ⟨k + 1, by omega, by go_num, hR1, hF2⟩
        case measure => simp [intOf]; omega
    · obtain rfl : k = l.length := by omega
      have hr : r = (noB, false) := by rw [hR.out, List.drop_eq_nil_of_le (Nat.le_refl _)]; rfl
      obtain ⟨r0, r1, r2, r3⟩ := hF.out.res.cells
      have rf := hF.out.res.frozen
      have f0 := rf 0
      have f1 := rf 1
      have f2 := rf 2
      have f3 := rf 3
      clear rf hR
      rw [hN] at r0 r1 r2 r3 f0 f1 f2 f3
      subst hr
      go_wp2
      refine bodyPost_ret (v := .tuple #[.agg #[.int .i64 0, .int .i64 0, .int .i64 0, .bool false], .bool false]) (by simp [results, Try.results29, go_sem, r0, r1, r2, r3]) rfl ?_
      exact ⟨rfl, hN ▸ hF.out.ends _ _ _ _⟩
end Go.Proofs.Ytmlopacekoghkaa.Bl
