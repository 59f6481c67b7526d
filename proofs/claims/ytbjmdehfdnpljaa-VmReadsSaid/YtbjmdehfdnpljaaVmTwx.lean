/-
  Two new rows beside calls; bytes of one text and of another; a program run twice. Conditions: none.
-/
import Derived.Test.YtbjmdehfdnpljaaVmFrx
import Derived.Lib.ConvBytes
namespace Go.Proofs.Ytbjmdehfdnpljaa.Vm
open Go.RowKit
open Go.Proofs.Ytbjmdehfdnpljaa.Il hiding Next S S_size S_app S_inj S_list
open Go.Proofs.Ytbjmdehfdnpljaa.Ic Go.Proofs.Ytbjmdehfdnpljaa.Ve
open Oct

abbrev z4 : Array Value := #[.string ⟨#[]⟩, .string ⟨#[]⟩, .string ⟨#[]⟩, .string ⟨#[]⟩]
def Z4 (W : World) (r : Nat) : Prop := W.heap[r]? = some (.cells #[.string ⟨#[]⟩, .string ⟨#[]⟩, .string ⟨#[]⟩, .string ⟨#[]⟩] 44 (0, 0))
theorem Z4.lt {W : World} {r : Nat} (h : Z4 W r) : r < W.heap.size := by
  unfold Z4 at h
  exact (Array.getElem?_eq_some_iff.1 h).1
theorem Z4.kept {W W' : World} {r : Nat} (h : Z4 W r) (hb : Below W.heap.size W W') : Z4 W' r := (hb.block r h.lt).trans h
theorem Z4.cells {W : World} {r : Nat} (h : Z4 W r) : B4 W r (.string ⟨#[]⟩) (.string ⟨#[]⟩) (.string ⟨#[]⟩) (.string ⟨#[]⟩) := by
  refine ⟨?_, ?_, ?_, ?_⟩ <;> (rw [cell_of_row _ _ _ _ _ (0, 0) h]; rfl)
/-- New rows, behind a world V. -/
structure Zs (V W : World) (l : List Nat) : Prop where
  bel : Below V.heap.size V W
  nd : l.Nodup
  all : ∀ b ∈ l, V.heap.size ≤ b ∧ Z4 W b
section
variable {V W W' : World} {l : List Nat} {a b : Nat}
theorem Zs.drew0 (V : World) : Zs V V.drew [] := ⟨(Below.refl _ _).drew, List.nodup_nil, fun b h => by cases h⟩
theorem Zs.call (h : Zs V W l) (hb : Below W.heap.size W W') : Zs V W' l := ⟨h.bel.trans (hb.mono h.bel.size), h.nd, fun b hm => ⟨(h.all b hm).1, (h.all b hm).2.kept hb⟩⟩
theorem Zs.alloc (h : Zs V W l) : Zs V (W.alloc (.cells #[.string ⟨#[]⟩, .string ⟨#[]⟩, .string ⟨#[]⟩, .string ⟨#[]⟩] 44)) (W.heap.size :: l) := by
  have one := one_S W #[.string ⟨#[]⟩, .string ⟨#[]⟩, .string ⟨#[]⟩, .string ⟨#[]⟩] 44
  have hc := h.call one
  refine ⟨hc.bel, List.nodup_cons.2 ⟨fun hm => ?_, h.nd⟩, fun b hm => ?_⟩
  · exact absurd (h.all _ hm).2.lt (Nat.lt_irrefl _)
  · rcases List.mem_cons.1 hm with rfl | hm
    · exact ⟨h.bel.size, heap_alloc_new W _⟩
    · exact hc.all b hm
theorem Zs.alloc2 (h : Zs V W l) : Zs V ((W.alloc (.cells #[.string ⟨#[]⟩, .string ⟨#[]⟩, .string ⟨#[]⟩, .string ⟨#[]⟩] 44)).alloc (.cells #[.string ⟨#[]⟩, .string ⟨#[]⟩, .string ⟨#[]⟩, .string ⟨#[]⟩] 44)) ((W.heap.size + 1) :: W.heap.size :: l) := by
  have := h.alloc.alloc
  rwa [show (W.alloc (.cells #[.string ⟨#[]⟩, .string ⟨#[]⟩, .string ⟨#[]⟩, .string ⟨#[]⟩] 44)).heap.size = W.heap.size + 1 by simp] at this
theorem Zs.drewn (h : Zs V W l) : Zs V W.drew l := ⟨h.bel.drew, h.nd, h.all⟩
theorem Zs.nil (V : World) : Zs V V [] := ⟨Below.refl _ _, List.nodup_nil, fun b h => by cases h⟩
theorem Zs.d1 (V : World) : Zs V (V.alloc (.cells #[.string ⟨#[]⟩, .string ⟨#[]⟩, .string ⟨#[]⟩, .string ⟨#[]⟩] 44)).drew [V.heap.size] := (Zs.nil V).alloc.drewn
theorem Zs.d2 (V : World) : Zs V ((V.alloc (.cells #[.string ⟨#[]⟩, .string ⟨#[]⟩, .string ⟨#[]⟩, .string ⟨#[]⟩] 44)).alloc (.cells #[.string ⟨#[]⟩, .string ⟨#[]⟩, .string ⟨#[]⟩, .string ⟨#[]⟩] 44)).drew [V.heap.size + 1, V.heap.size] := (Zs.nil V).alloc2.drewn
theorem set4_bel {N : Nat} (h : Below N V W) (ha : N ≤ a) (v0 v1 v2 v3 : Value) : Below N V ((((W.setCell ⟨a, 0, none⟩ v0).setCell ⟨a, 1, none⟩ v1).setCell ⟨a, 2, none⟩ v2).setCell ⟨a, 3, none⟩ v3) :=
  (((h.setCell ha _).setCell ha _).setCell ha _).setCell ha _
/-- What a store wants to know of one row, of two. -/
def Fr4 (W : World) (r : Nat) : Prop := W.frozen? ⟨r, 0, none⟩ = false ∧ W.frozen? ⟨r, 1, none⟩ = false ∧ W.frozen? ⟨r, 2, none⟩ = false ∧ W.frozen? ⟨r, 3, none⟩ = false
theorem Z4.free {W : World} {r : Nat} (h : Z4 W r) : Fr4 W r := ⟨free_heap h 0, free_heap h 1, free_heap h 2, free_heap h 3⟩
theorem Zs.one (h : Zs V W [a]) : B4 W a (.string ⟨#[]⟩) (.string ⟨#[]⟩) (.string ⟨#[]⟩) (.string ⟨#[]⟩) ∧ Fr4 W a ∧ a < W.heap.size := by
  have := (h.all a (by simp)).2
  exact ⟨this.cells, this.free, this.lt⟩
theorem Zs.two (h : Zs V W [b, a]) : (B4 W a (.string ⟨#[]⟩) (.string ⟨#[]⟩) (.string ⟨#[]⟩) (.string ⟨#[]⟩) ∧ Fr4 W a ∧ a < W.heap.size) ∧ (B4 W b (.string ⟨#[]⟩) (.string ⟨#[]⟩) (.string ⟨#[]⟩) (.string ⟨#[]⟩) ∧ Fr4 W b ∧ b < W.heap.size) ∧ a ≠ b ∧ b ≠ a := by
  have h1 := (h.all a (by simp)).2
  have h2 := (h.all b (by simp)).2
  have hn : b ≠ a := by have := h.nd; simp at this; exact this
  exact ⟨⟨h1.cells, h1.free, h1.lt⟩, ⟨h2.cells, h2.free, h2.lt⟩, hn.symm, hn⟩

theorem Zs.nm1 (h : Zs V W [a]) : ∃ a', a' = a ∧ Zs V W [a'] := ⟨a, rfl, h⟩
theorem Zs.nm2 (h : Zs V W [b, a]) : ∃ b' a', b' = b ∧ a' = a ∧ Zs V W [b', a'] := ⟨b, a, rfl, rfl, h⟩
/-- Both rows, stored. -/
structure Two (V W : World) (a b : Nat) (x0 x1 x2 x3 y0 y1 y2 y3 : Value) : Prop where
  bel : Below V.heap.size V W
  fst : B4 W a x0 x1 x2 x3
  snd : B4 W b y0 y1 y2 y3
variable {x0 x1 x2 x3 y0 y1 y2 y3 : Value}
theorem off4 (p : Nat) {i j : Nat} (h : i ≠ j) : (⟨p, i, none⟩ : Addr) ≠ ⟨p, j, none⟩ := by intro e; injection e; contradiction
theorem B4.set {c0 c1 c2 c3 : Value} (h : B4 W a c0 c1 c2 c3) : B4 ((((W.setCell ⟨a, 0, none⟩ x0).setCell ⟨a, 1, none⟩ x1).setCell ⟨a, 2, none⟩ x2).setCell ⟨a, 3, none⟩ x3) a x0 x1 x2 x3 := by
  obtain ⟨h0, h1, h2, h3⟩ := h
  refine ⟨?_, ?_, ?_, ?_⟩
  · rw [World.cell?_setCell_other _ _ _ _ (off4 a (by decide)), World.cell?_setCell_other _ _ _ _ (off4 a (by decide)), World.cell?_setCell_other _ _ _ _ (off4 a (by decide))]
    exact World.cell?_setCell_same _ _ _ h0
  · rw [World.cell?_setCell_other _ _ _ _ (off4 a (by decide)), World.cell?_setCell_other _ _ _ _ (off4 a (by decide))]
    exact World.cell?_setCell_same _ _ _ ((World.cell?_setCell_other _ _ _ _ (off4 a (by decide))).trans h1)
  · rw [World.cell?_setCell_other _ _ _ _ (off4 a (by decide))]
    exact World.cell?_setCell_same _ _ _ ((World.cell?_setCell_other _ _ _ _ (off4 a (by decide))).trans ((World.cell?_setCell_other _ _ _ _ (off4 a (by decide))).trans h2))
  · exact World.cell?_setCell_same _ _ _ ((World.cell?_setCell_other _ _ _ _ (off4 a (by decide))).trans ((World.cell?_setCell_other _ _ _ _ (off4 a (by decide))).trans ((World.cell?_setCell_other _ _ _ _ (off4 a (by decide))).trans h3)))
theorem far4 {i j : Nat} (h : a ≠ b) : (⟨a, i, none⟩ : Addr) ≠ ⟨b, j, none⟩ := by intro e; injection e; contradiction
theorem B4.other {c0 c1 c2 c3 : Value} (h : B4 W b c0 c1 c2 c3) (hn : a ≠ b) : B4 ((((W.setCell ⟨a, 0, none⟩ x0).setCell ⟨a, 1, none⟩ x1).setCell ⟨a, 2, none⟩ x2).setCell ⟨a, 3, none⟩ x3) b c0 c1 c2 c3 := by
  obtain ⟨h0, h1, h2, h3⟩ := h
  refine ⟨?_, ?_, ?_, ?_⟩
  all_goals
    rw [World.cell?_setCell_other _ _ _ _ (far4 hn), World.cell?_setCell_other _ _ _ _ (far4 hn), World.cell?_setCell_other _ _ _ _ (far4 hn), World.cell?_setCell_other _ _ _ _ (far4 hn)]
    assumption
theorem size4 (W : World) (v0 v1 v2 v3 : Value) : ((((W.setCell ⟨a, 0, none⟩ v0).setCell ⟨a, 1, none⟩ v1).setCell ⟨a, 2, none⟩ v2).setCell ⟨a, 3, none⟩ v3).heap.size = W.heap.size := by simp [World.setCell]
theorem two_set (h : Zs V W [b, a]) : Two V ((((((((W.setCell ⟨a, 0, none⟩ x0).setCell ⟨a, 1, none⟩ x1).setCell ⟨a, 2, none⟩ x2).setCell ⟨a, 3, none⟩ x3).setCell ⟨b, 0, none⟩ y0).setCell ⟨b, 1, none⟩ y1).setCell ⟨b, 2, none⟩ y2).setCell ⟨b, 3, none⟩ y3) a b x0 x1 x2 x3 y0 y1 y2 y3 := by
  obtain ⟨⟨h1, -, -⟩, ⟨h2, -, -⟩, hn, hn'⟩ := h.two
  exact ⟨set4_bel (set4_bel h.bel (h.all a (by simp)).1 _ _ _ _) (h.all b (by simp)).1 _ _ _ _, (B4.set h1).other hn', B4.set (h2.other hn)⟩
theorem Zs.swap (h : Zs V W [a, b]) : Zs V W [b, a] := ⟨h.bel, by have := h.nd; simp at this ⊢; exact fun e => this e.symm, fun c hc => h.all c (by simp at hc ⊢; exact hc.symm)⟩
theorem two_set' (h : Zs V W [a, b]) : Two V ((((((((W.setCell ⟨a, 0, none⟩ x0).setCell ⟨a, 1, none⟩ x1).setCell ⟨a, 2, none⟩ x2).setCell ⟨a, 3, none⟩ x3).setCell ⟨b, 0, none⟩ y0).setCell ⟨b, 1, none⟩ y1).setCell ⟨b, 2, none⟩ y2).setCell ⟨b, 3, none⟩ y3) a b x0 x1 x2 x3 y0 y1 y2 y3 := two_set h.swap
theorem two_sn (h : Zs V W [a]) : Two V (((((W.setCell ⟨a, 0, none⟩ x0).setCell ⟨a, 1, none⟩ x1).setCell ⟨a, 2, none⟩ x2).setCell ⟨a, 3, none⟩ x3).alloc (.cells #[y0, y1, y2, y3] 44)) a W.heap.size x0 x1 x2 x3 y0 y1 y2 y3 := by
  have h1 := h.one.1
  have hb := set4_bel h.bel (h.all a (by simp)).1 x0 x1 x2 x3
  have one := one_S ((((W.setCell ⟨a, 0, none⟩ x0).setCell ⟨a, 1, none⟩ x1).setCell ⟨a, 2, none⟩ x2).setCell ⟨a, 3, none⟩ x3) #[y0, y1, y2, y3] 44
  have hnew := four_new ((((W.setCell ⟨a, 0, none⟩ x0).setCell ⟨a, 1, none⟩ x1).setCell ⟨a, 2, none⟩ x2).setCell ⟨a, 3, none⟩ x3) y0 y1 y2 y3 44
  rw [size4] at hnew
  exact ⟨hb.trans (one.mono hb.size), (B4.set h1).kept one, hnew⟩
theorem two_ns (h : Zs V W [b]) : Two V (((((W.setCell ⟨b, 0, none⟩ y0).setCell ⟨b, 1, none⟩ y1).setCell ⟨b, 2, none⟩ y2).setCell ⟨b, 3, none⟩ y3).alloc (.cells #[x0, x1, x2, x3] 44)) W.heap.size b x0 x1 x2 x3 y0 y1 y2 y3 := by
  have := two_sn (x0 := y0) (x1 := y1) (x2 := y2) (x3 := y3) (y0 := x0) (y1 := x1) (y2 := x2) (y3 := x3) h
  exact ⟨this.bel, this.snd, this.fst⟩
theorem two_nn (h : Zs V W []) : Two V ((W.alloc (.cells #[x0, x1, x2, x3] 44)).alloc (.cells #[y0, y1, y2, y3] 44)) W.heap.size (W.heap.size + 1) x0 x1 x2 x3 y0 y1 y2 y3 := by
  have one := one_S W #[x0, x1, x2, x3] 44
  have two := one_S (W.alloc (.cells #[x0, x1, x2, x3] 44)) #[y0, y1, y2, y3] 44
  have n1 : B4 _ _ _ _ _ _ := four_new W x0 x1 x2 x3 44
  have n2 : B4 _ _ _ _ _ _ := four_new (W.alloc (.cells #[x0, x1, x2, x3] 44)) y0 y1 y2 y3 44
  rw [show (W.alloc (.cells #[x0, x1, x2, x3] 44)).heap.size = W.heap.size + 1 by simp] at n2
  have hb := h.bel.trans (one.mono h.bel.size)
  exact ⟨hb.trans (two.mono hb.size), n1.kept two, n2⟩
theorem two_nn' (h : Zs V W []) : Two V ((W.alloc (.cells #[y0, y1, y2, y3] 44)).alloc (.cells #[x0, x1, x2, x3] 44)) (W.heap.size + 1) W.heap.size x0 x1 x2 x3 y0 y1 y2 y3 := by
  have := two_nn (x0 := y0) (x1 := y1) (x2 := y2) (x3 := y3) (y0 := x0) (y1 := x1) (y2 := x2) (y3 := x3) h
  exact ⟨this.bel, this.snd, this.fst⟩

/-! What is loaded, at each world on the way. -/
theorem bel1 (h : Zs V W l) (C : Array Value) (t : TypeId) : Below V.heap.size V (W.alloc (.cells C t)) := h.bel.trans ((one_S W C t).mono h.bel.size)
theorem bel2 (h : Zs V W l) (C D : Array Value) (t s : TypeId) : Below V.heap.size V ((W.alloc (.cells C t)).alloc (.cells D s)) := (bel1 h C t).trans ((one_S _ D s).mono (bel1 h C t).size)
theorem belS (h : Zs V W (a :: l)) (v0 v1 v2 v3 : Value) : Below V.heap.size V ((((W.setCell ⟨a, 0, none⟩ v0).setCell ⟨a, 1, none⟩ v1).setCell ⟨a, 2, none⟩ v2).setCell ⟨a, 3, none⟩ v3) := set4_bel h.bel (h.all a (by simp)).1 _ _ _ _
theorem belS' (h : Zs V W [b, a]) (v0 v1 v2 v3 : Value) : Below V.heap.size V ((((W.setCell ⟨a, 0, none⟩ v0).setCell ⟨a, 1, none⟩ v1).setCell ⟨a, 2, none⟩ v2).setCell ⟨a, 3, none⟩ v3) := set4_bel h.bel (h.all a (by simp)).1 _ _ _ _
theorem belS1 (h : Zs V W (a :: l)) (v0 v1 v2 v3 : Value) (C : Array Value) (t : TypeId) : Below V.heap.size V (((((W.setCell ⟨a, 0, none⟩ v0).setCell ⟨a, 1, none⟩ v1).setCell ⟨a, 2, none⟩ v2).setCell ⟨a, 3, none⟩ v3).alloc (.cells C t)) := (belS h v0 v1 v2 v3).trans ((one_S _ C t).mono (belS h v0 v1 v2 v3).size)
theorem belD1 (V : World) (C : Array Value) (t : TypeId) : Below V.heap.size V (V.alloc (.cells C t)).drew := (one_S V C t).drew
theorem belD2 (V : World) (C D : Array Value) (t s : TypeId) : Below V.heap.size V ((V.alloc (.cells C t)).alloc (.cells D s)).drew := ((one_S V C t).trans ((one_S _ D s).mono (one_S V C t).size)).drew
end
end Go.Proofs.Ytbjmdehfdnpljaa.Vm

namespace Go.Proofs.Ytbjmdehfdnpljaa.Vm
open Go.RowKit
open Go.Proofs.Ytbjmdehfdnpljaa.Il hiding Next S S_size S_app S_inj S_list
open Go.Proofs.Ytbjmdehfdnpljaa.Ic Go.Proofs.Ytbjmdehfdnpljaa.Ve
open Oct

def mixL (U : Nat) (a b : Bs) (q : Nat) : Bs := (List.range 64).map fun k => if decide (k < q) && U.testBit k then a.getD k 0 else b.getD k 0
theorem mix_len (U : Nat) (a b : Bs) (q : Nat) : (mixL U a b q).length = 64 := by simp [mixL]
theorem mix_at (U : Nat) (a b : Bs) (q : Nat) {k : Nat} (h : k < 64) : (mixL U a b q).getD k 0 = if decide (k < q) && U.testBit k then a.getD k 0 else b.getD k 0 := by
  unfold mixL
  rw [List.getD_eq_getElem?_getD, List.getElem?_map, List.getElem?_range h]
  rfl
theorem ext64 {a b : Bs} (ha : a.length = 64) (hb : b.length = 64) (h : ∀ k, k < 64 → a.getD k 0 = b.getD k 0) : a = b := by
  apply List.ext_getElem (by omega)
  intro k h1 h2
  have := h k (by omega)
  rw [List.getD_eq_getElem?_getD, List.getD_eq_getElem?_getD, List.getElem?_eq_getElem h1, List.getElem?_eq_getElem h2] at this
  exact this
theorem mix_zero (U : Nat) (a : Bs) {b : Bs} (hb : b.length = 64) : mixL U a b 0 = b := ext64 (mix_len _ _ _ _) hb (fun k hk => by rw [mix_at _ _ _ _ hk, if_neg (by simp)])
theorem mix_no {U q : Nat} (a b : Bs) (h : U.testBit q = false) : mixL U a b (q + 1) = mixL U a b q := ext64 (mix_len _ _ _ _) (mix_len _ _ _ _) (fun k hk => by
  rw [mix_at _ _ _ _ hk, mix_at _ _ _ _ hk]
  by_cases e : k = q
  · subst e; rw [h]; simp
  · have : decide (k < q + 1) = decide (k < q) := by rw [decide_eq_decide]; omega
    rw [this])
theorem mix_yes {U q : Nat} (a b : Bs) (hq : q < 64) (h : U.testBit q = true) : mixL U a b (q + 1) = (mixL U a b q).set q (a.getD q 0) := ext64 (mix_len _ _ _ _) (by rw [List.length_set]; exact mix_len _ _ _ _) (fun k hk => by
  rw [mix_at _ _ _ _ hk]
  have hl := mix_len U a b q
  by_cases e : k = q
  · subst e
    rw [h, List.getD_eq_getElem?_getD (l := List.set _ _ _), List.getElem?_set_self (by rw [hl]; exact hk)]
    simp
  · rw [List.getD_eq_getElem?_getD (l := List.set _ _ _), List.getElem?_set_ne (fun x => e x.symm), ← List.getD_eq_getElem?_getD, mix_at _ _ _ _ hk]
    have : decide (k < q + 1) = decide (k < q) := by rw [decide_eq_decide]; omega
    rw [this])
/-- Where bits are set it is the one, elsewhere the other. -/
theorem mix_bit {U : Nat} {a b : Bs} {k : Nat} (hk : k < 64) (h : U.testBit k = true) : (mixL U a b 64).getD k 0 = a.getD k 0 := by rw [mix_at _ _ _ _ hk, h, decide_eq_true hk]; rfl

/-- Block g holds just these bytes, from its beginning on, and they may be written. -/
def RowB (w : World) (g : Nat) (l : Bs) : Prop := ∀ i, i < l.length → w.cell? ⟨g, i, none⟩ = some (.int .u8 ((l.getD i 0).toNat : Int)) ∧ w.frozen? ⟨g, i, none⟩ = false
theorem RowB.put {w : World} {g : Nat} {l : Bs} (h : RowB w g l) {i : Nat} (hi : i < l.length) (d : UInt8) : RowB (w.setCell ⟨g, i, none⟩ (.int .u8 (d.toNat : Int))) g (l.set i d) := by
  intro j hj
  rw [List.length_set] at hj
  obtain ⟨hc, hz⟩ := h j hj
  refine ⟨?_, (World.frozen?_setCell _ _ _ _).trans hz⟩
  by_cases hij : i = j
  · subst hij
    rw [World.cell?_setCell_same _ _ _ hc, List.getD_eq_getElem?_getD, List.getElem?_set_self hi]
    rfl
  · rw [World.cell?_setCell_other _ _ _ _ (by intro e; injection e with _ e; exact hij e), hc, List.getD_eq_getElem?_getD (l := List.set _ _ _), List.getElem?_set_ne hij, ← List.getD_eq_getElem?_getD]
theorem bytes_below (w : World) (s : ByteArray) : Below w.heap.size w (Lib.bytesWorld w 5 s) := by
  refine ⟨rfl, rfl, rfl, ?_, fun k hk => Lib.bytesWorld_at_old w 5 s k hk⟩
  rw [Lib.bytesWorld_size]; omega
theorem bytes_row (w : World) (l : Bs) : RowB (Lib.bytesWorld w 5 (S l)) w.heap.size l := by
  intro i hi
  have hi' : i < (S l).size := by rw [S_size]; exact hi
  refine ⟨?_, ?_⟩
  · have := Lib.bytesWorld_cell w 5 (S l) i hi'
    rw [this]
    rfl
  · have hle : (S l).size ≤ (Lib.bytesCells w 5 (S l)).size := by simp [Lib.bytesCells]
    simp [World.frozen?, Lib.bytesWorld_at_new]
    omega
/-- Four texts in a block. -/
def Mx (W : World) (m : Nat) (s0 s1 s2 s3 : ByteArray) : Prop := W.heap[m]? = some (.cells #[.string s0, .string s1, .string s2, .string s3] 44 (0, 0))
section
variable {W W' V : World} {m : Nat} {s0 s1 s2 s3 : ByteArray}
theorem Mx.lt (h : Mx W m s0 s1 s2 s3) : m < W.heap.size := by
  unfold Mx at h
  exact (Array.getElem?_eq_some_iff.1 h).1
theorem Mx.cells (h : Mx W m s0 s1 s2 s3) : B4 W m (.string s0) (.string s1) (.string s2) (.string s3) := by
  refine ⟨?_, ?_, ?_, ?_⟩ <;> (rw [cell_of_row _ _ _ _ _ (0, 0) h]; rfl)
theorem Mx.kept {N : Nat} (h : Mx W m s0 s1 s2 s3) (hb : Below N W W') (hm : m < N) : Mx W' m s0 s1 s2 s3 := (hb.block m hm).trans h
theorem Mx.set0 (h : Mx W m s0 s1 s2 s3) (s : ByteArray) : Mx (W.setCell ⟨m, 0, none⟩ (.string s)) m s s1 s2 s3 := heap_setCells [.string s] 0 [.string s0, .string s1, .string s2, .string s3] W h
theorem Mx.set1 (h : Mx W m s0 s1 s2 s3) (s : ByteArray) : Mx (W.setCell ⟨m, 1, none⟩ (.string s)) m s0 s s2 s3 := heap_setCells [.string s] 1 [.string s0, .string s1, .string s2, .string s3] W h
theorem Mx.set2 (h : Mx W m s0 s1 s2 s3) (s : ByteArray) : Mx (W.setCell ⟨m, 2, none⟩ (.string s)) m s0 s1 s s3 := heap_setCells [.string s] 2 [.string s0, .string s1, .string s2, .string s3] W h
theorem Mx.set3 (h : Mx W m s0 s1 s2 s3) (s : ByteArray) : Mx (W.setCell ⟨m, 3, none⟩ (.string s)) m s0 s1 s2 s := heap_setCells [.string s] 3 [.string s0, .string s1, .string s2, .string s3] W h
end
theorem conv_row (W : World) (g cap : Nat) {l : Bs} (hl : l.length = 64) (h : RowB W g l) : (convert 50 9 (.slice (some ⟨g, 0, none⟩) 64 cap)).run Try.prog W = .ok (.string (S l)) W := by
  have := run_convert_bytes_back (P := Try.prog) W 50 9 5 ⟨g, 0, none⟩ cap l Try.underlying50 Try.underlying5 Try.underlying9 (fun j hj => by
    have := (h j hj).1
    rw [List.getD_eq_getElem?_getD, List.getElem?_eq_getElem hj] at this
    have e : (⟨g, 0, none⟩ : Addr).add j = ⟨g, j, none⟩ := by simp [Addr.add]; exact fun e => e.symm
    rw [e]
    exact this)
  rw [hl] at this
  exact this
set_option maxRecDepth 100000 in
set_option maxHeartbeats 4000000 in
/-- Two areas that agree: nothing is made. -/
theorem lsame_q (a b : Bs) (on : Nat) (w : World) (ha : a.length = 64) (hb : b.length = 64) (hon : on < 18446744073709551616) (h : ∀ i, i < 64 → on.testBit i = true → a.getD i 0 = b.getD i 0) :
    Calls Try.prog 19 #[.string (S a), .string (S b), .int .u64 (on : Nat)] w (fun e w' => e = .returned (.bool true) ∧ ∃ m, w' = w.drewN m) := by
  have H := Lib.hid h
  have s0 : (S a).size = 64 := by rw [S_size]; exact ha
  have s1 : (S b).size = 64 := by rw [S_size]; exact hb
  clear h
  go_enter Try.func19, Try.ntmps19
  go_wp2
  go_loopw [8] (fun i W => ∃ (k m : Nat), (k : Int) ≤ 64 ∧ i = .int .i64 k ∧ W = w.drewN m) (fun i _ => 64 - (intOf i).toNat)
  case atStart => exact ⟨0, 0, by omega, rfl, rfl⟩
  case round =>
    obtain ⟨k, m, hk, rfl, rfl⟩ := hrel
    by_cases hlt : (k : Int) < 64
    · have hbk := bit_u64 on k hon
      have hkl : k < 64 := by omega
      cases hbt : on.testBit k
      · rw [hbt] at hbk
        go_wp2_with fail
        go_quiet (fail)
        go_wp2
        exact ⟨⟨k + 1, m + nq, by omega, by go_num, rfl⟩, by simp [intOf]; omega⟩
      · rw [hbt] at hbk
        have hab := H.out k hkl hbt
        have e1 : (S a)[k]'(by rw [s0]; exact hkl) = a.getD k 0 := by rw [List.getD_eq_getElem?_getD, List.getElem?_eq_getElem (by omega)]; rfl
        have e2 : (S b)[k]'(by rw [s1]; exact hkl) = b.getD k 0 := by rw [List.getD_eq_getElem?_getD, List.getElem?_eq_getElem (by omega)]; rfl
        have hne : (((S a)[k]'(by rw [s0]; exact hkl)).toNat : Int) = (((S b)[k]'(by rw [s1]; exact hkl)).toNat : Int) := by rw [e1, e2, hab]
        have hnn : ((((S a)[k]'(by rw [s0]; exact hkl)).toNat : Int) != (((S b)[k]'(by rw [s1]; exact hkl)).toNat : Int)) = false := by rw [hne]; simp
        clear e1 e2 hne hab
        go_wp2_with fail
        go_quiet (fail)
        go_wp2
        exact ⟨⟨k + 1, m + nq, by omega, by go_num, rfl⟩, by simp [intOf]; omega⟩
    · go_wp2
      go_ret
      exact ⟨rfl, _, rfl⟩
end Go.Proofs.Ytbjmdehfdnpljaa.Vm

namespace Go.Proofs.Ytbjmdehfdnpljaa.Vm
open Go.RowKit
open Go.Proofs.Ytbjmdehfdnpljaa.Il hiding Next S S_size S_app S_inj S_list
open Go.Proofs.Ytbjmdehfdnpljaa.Ic Go.Proofs.Ytbjmdehfdnpljaa.Ve
open Oct

theorem fit_64 {l : Bs} (h : l.length = 64) : fitL l = l := by
  unfold fitL
  rw [List.take_of_length_le (by omega), h]
  simp
theorem bit_lt {n i : Nat} (h : n < 18446744073709551616) (hb : n.testBit i = true) : i < 64 := by
  rcases Nat.lt_or_ge i 64 with h1 | h1
  · exact h1
  · have : n.testBit i = false := Nat.testBit_lt_two_pow (Nat.lt_of_lt_of_le (show n < 2 ^ 64 by omega) (Nat.pow_le_pow_right (by decide) h1))
    rw [this] at hb
    cases hb
theorem two_runs {c : List In} {l : List Ah} (h : allB c = .ok l) (hc : c.length ≤ 120) (p : Int) (I Q M R I' Q' M' R' : Bs) : ∃ (x0 x1 x2 x3 y0 y1 y2 y3 : Bs) (T Z : Nat) (KD VA : Int),
    (x0.length = 64 ∧ x1.length = 64 ∧ x2.length = 64 ∧ x3.length = 64) ∧ (y0.length = 64 ∧ y1.length = 64 ∧ y2.length = 64 ∧ y3.length = 64) ∧
    ranV (finM c p [fitL I, fitL Q, fitL M, fitL R]) = .tuple #[.agg #[.string (S x0), .string (S x1), .string (S x2), .string (S x3)], .agg #[.int .i64 (T : Nat), .int .i64 (Z : Nat), .int .i64 KD, .int .i64 VA]] ∧
    ranV (finM c p [mixL (useB false c 0 ||| useB true c 0) (fitL I) (fitL I') 64, mixL (useB false c 1 ||| useB true c 1) (fitL Q) (fitL Q') 64, mixL (useB false c 2 ||| useB true c 2) (fitL M) (fitL M') 64, mixL (useB false c 3 ||| useB true c 3) (fitL R) (fitL R') 64]) = .tuple #[.agg #[.string (S y0), .string (S y1), .string (S y2), .string (S y3)], .agg #[.int .i64 (T : Nat), .int .i64 (Z : Nat), .int .i64 KD, .int .i64 VA]] ∧
    ((Lit.int .i64 ((T : Nat) : Int)).wf = true ∧ (Lit.int .i64 ((Z : Nat) : Int)).wf = true ∧ (Lit.int .i64 KD).wf = true ∧ (Lit.int .i64 VA).wf = true) ∧
    (∀ j i, (useB false c j ||| useB true c j).testBit i = true → byA [x0, x1, x2, x3] j i = byA [y0, y1, y2, y3] j i) ∧
    (∀ j i, (useB true c j).testBit i = false → byA [y0, y1, y2, y3] j i = byA [mixL (useB false c 0 ||| useB true c 0) (fitL I) (fitL I') 64, mixL (useB false c 1 ||| useB true c 1) (fitL Q) (fitL Q') 64, mixL (useB false c 2 ||| useB true c 2) (fitL M) (fitL M') 64, mixL (useB false c 3 ||| useB true c 3) (fitL R) (fitL R') 64] j i) := by
  have hlt : ∀ (bb : Bool) (j : Nat), useB bb c j < 18446744073709551616 := fun bb j => by have := (use_lt bb c j).2; omega
  have hA := aok4 (fit_len I) (fit_len Q) (fit_len M) (fit_len R)
  have hB : AOk [mixL (useB false c 0 ||| useB true c 0) (fitL I) (fitL I') 64, mixL (useB false c 1 ||| useB true c 1) (fitL Q) (fitL Q') 64, mixL (useB false c 2 ||| useB true c 2) (fitL M) (fitL M') 64, mixL (useB false c 3 ||| useB true c 3) (fitL R) (fitL R') 64] := aok4 (mix_len _ _ _ _) (mix_len _ _ _ _) (mix_len _ _ _ _) (mix_len _ _ _ _)
  have hag : Agree (unB c) [fitL I, fitL Q, fitL M, fitL R] [mixL (useB false c 0 ||| useB true c 0) (fitL I) (fitL I') 64, mixL (useB false c 1 ||| useB true c 1) (fitL Q) (fitL Q') 64, mixL (useB false c 2 ||| useB true c 2) (fitL M) (fitL M') 64, mixL (useB false c 3 ||| useB true c 3) (fitL R) (fitL R') 64] := fun j b hu => by
    unfold unB at hu
    rw [← Nat.testBit_or] at hu
    have hb := bit_lt (Nat.or_lt_two_pow (n := 64) (hlt false j) (hlt true j)) hu
    match j with
    | 0 => exact (mix_bit hb hu).symm
    | 1 => exact (mix_bit hb hu).symm
    | 2 => exact (mix_bit hb hu).symm
    | 3 => exact (mix_bit hb hu).symm
    | j + 4 => rfl
  obtain ⟨B', e, ha⟩ := fin_agree (p := p) h hA hB hag
  obtain ⟨g1, -⟩ := fin_good (p := p) h hA
  obtain ⟨g2, -⟩ := fin_good (p := p) h hB
  have hfr := fun j i (hb : (useB true c j).testBit i = false) => fin_frame (p := p) h hB j i hb
  rw [e] at g2
  simp only [e] at hfr
  have k1 := g1.ok.ar
  have k2 : AOk B' := g2.ok.ar
  obtain ⟨x0, x1, x2, x3, hx⟩ := four_is k1.four
  obtain ⟨y0, y1, y2, y3, hy⟩ := four_is k2.four
  have ht := g1.t1
  have hle := g1.le
  have hz := g1.z
  have hv := ok_bd g1.ok
  generalize hm : finM c p [fitL I, fitL Q, fitL M, fitL R] = m at *
  rw [hx] at ha k1
  subst hy
  refine ⟨x0, x1, x2, x3, y0, y1, y2, y3, m.t, m.s.z, m.s.kd, m.s.v, ⟨k1.len 0 (by omega), k1.len 1 (by omega), k1.len 2 (by omega), k1.len 3 (by omega)⟩, ⟨k2.len 0 (by omega), k2.len 1 (by omega), k2.len 2 (by omega), k2.len 3 (by omega)⟩, ?_, ?_, ⟨?_, ?_, ?_, ?_⟩, fun j i hb => ?_, fun j i hb => hfr j i hb⟩
  · unfold ranV imgA scanV
    rw [hx]
    rfl
  · rw [e]
    unfold ranV imgA scanV
    rfl
  · simp [Lit.wf, IntKind.min, IntKind.max, IntKind.signed, IntKind.bits]; omega
  · simp [Lit.wf, IntKind.min, IntKind.max, IntKind.signed, IntKind.bits]; omega
  · simp [Lit.wf, IntKind.min, IntKind.max, IntKind.signed, IntKind.bits]; omega
  · simp [Lit.wf, IntKind.min, IntKind.max, IntKind.signed, IntKind.bits]; omega
  · exact ha j i (by unfold unB; rw [← Nat.testBit_or]; exact hb)
theorem comp_ex (n : Nat) (h : n < 18446744073709551616) : ∃ o, CompU n o ∧ o < 18446744073709551616 ∧ ∀ i, i < 64 → o.testBit i = true → n.testBit i = false := by
  refine ⟨18446744073709551615 - n, CompU.mk (by omega) rfl, by omega, fun i hi ht => ?_⟩
  rw [show 18446744073709551615 - n = 2 ^ 64 - (n + 1) by omega, Nat.testBit_two_pow_sub_succ (by omega)] at ht
  simpa [hi] using ht
theorem quiet_two {P : Program} {f : FuncId} {args : Array Value} {w : World} {d n : Nat} {v : Value} (h : Calls P f args (w.drewN (d + n)) fun e w' => e = .returned v ∧ ∃ m, w' = (w.drewN (d + n)).drewN m) :
    Calls P f args (w.drewN (d + n)) fun e w'' => e = .returned v ∧ ∃ m, w'' = w.drewN (d + m) :=
  h.mono fun _ _ ⟨he, m, hm⟩ => ⟨he, n + m, by rw [hm, World.drewN_drewN, Nat.add_assoc]⟩
end Go.Proofs.Ytbjmdehfdnpljaa.Vm
