/-
  A directory in memory; right, Find, walked. Conditions: none.
-/
import Derived.Test.YtmlopacekoghkaaRows
import Derived.Test.YtmlopacekoghkaaBlMath
import Derived.WalkKit
import Derived.WalkSpells
import Derived.WalkLawsBesides
import Derived.Lib.Hide
import Derived.Below
import Derived.BigQuiet
import Derived.Deep.QuietTactic
import Derived.Deep.AppendLies
import Derived.Lib.Strings
namespace Go.Proofs.Ytmlopacekoghkaa.Bl
open Go.RowKit

def I64 (n : Int) : Prop := -9223372036854775808 ≤ n ∧ n ≤ 9223372036854775807
def Tells (v : Value) (w : World) (e : Ending) (w' : World) : Prop := e = .returned v ∧ Below w.heap.size w w'
def blkV (b : Blk) : Value := .agg #[.int .i64 b.id, .int .i64 b.ad, .int .i64 b.sz, .bool b.hi]
def FitB (b : Blk) : Prop := I64 b.id ∧ I64 b.ad ∧ I64 b.sz
def FitL (l : List Blk) : Prop := ∀ (k : Nat) (x : Blk), l[k]? = some x → FitB x
/-- Four cells of a block. -/
def Cells4 (w : World) (b o : Nat) (x : Blk) : Prop := w.cell? ⟨b, o, none⟩ = some (.int .i64 x.id) ∧ w.cell? ⟨b, o + 1, none⟩ = some (.int .i64 x.ad) ∧ w.cell? ⟨b, o + 2, none⟩ = some (.int .i64 x.sz) ∧ w.cell? ⟨b, o + 3, none⟩ = some (.bool x.hi)
def Items (w : World) (b o : Nat) (xs : List Blk) : Prop := ∀ (i : Nat) (x : Blk), xs[i]? = some x → Cells4 w b (o + i * 4) x
theorem kept_cell {W W' : World} {N : Nat} (hb : Below N W W') {b k : Nat} (hN : b < N) {v : Value} (hc : W.cell? ⟨b, k, none⟩ = some v) : W'.cell? ⟨b, k, none⟩ = some v :=
  (World.cell?_of_block (a := ⟨b, k, none⟩) (hb.block b hN)).trans hc
theorem Cells4.below {w w' : World} {b o : Nat} {x : Blk} (h : Cells4 w b o x) {N : Nat} (hb : Below N w w') (hN : b < N) : Cells4 w' b o x :=
  ⟨kept_cell hb hN h.1, kept_cell hb hN h.2.1, kept_cell hb hN h.2.2.1, kept_cell hb hN h.2.2.2⟩
def Lies (w : World) (N : Nat) (ao : Option Addr) (xs : List Blk) : Prop := 1 ≤ xs.length → ∃ b o, ao = some ⟨b, o, none⟩ ∧ b < N ∧ Items w b o xs
theorem Lies.below {w w' : World} {N : Nat} {ao : Option Addr} {xs : List Blk} (h : Lies w N ao xs) (hb : Below N w w') : Lies w' N ao xs := by
  intro h1
  obtain ⟨b, o, ha, hlt, hI⟩ := h h1
  exact ⟨b, o, ha, hlt, fun i x hx => (hI i x hx).below hb hlt⟩
theorem Lies.more {w : World} {N M : Nat} {ao : Option Addr} {xs : List Blk} (h : Lies w N ao xs) (hm : N ≤ M) : Lies w M ao xs := by
  intro h1
  obtain ⟨b, o, ha, hlt, hI⟩ := h h1
  exact ⟨b, o, ha, by omega, hI⟩
theorem Lies.take {w : World} {N : Nat} {ao : Option Addr} {xs : List Blk} (h : Lies w N ao xs) (k : Nat) : Lies w N ao (xs.take k) := by
  intro h1
  rw [List.length_take] at h1
  obtain ⟨b, o, ha, hlt, hI⟩ := h (by omega)
  refine ⟨b, o, ha, hlt, fun i x hx => hI i x ?_⟩
  rw [List.getElem?_take] at hx
  split at hx
  · exact hx
  · cases hx
theorem FitL.take {xs : List Blk} (h : FitL xs) (k : Nat) : FitL (xs.take k) := fun i x hx => by
  rw [List.getElem?_take] at hx
  split at hx
  · exact h i x hx
  · cases hx
/-- A world behind a call's first one, in which a directory lies. -/
structure At (w wr : World) (ao : Option Addr) (l : List Blk) : Prop where
  lies : Lies wr wr.heap.size ao l
  below : Below w.heap.size w wr
section
variable {w wr w' : World} {ao : Option Addr} {l : List Blk}
theorem At.first (h : Lies w w.heap.size ao l) : At w w ao l := ⟨h, Below.refl _ _⟩
theorem At.next (h : At w wr ao l) (hb : Below wr.heap.size wr w') : At w w' ao l := ⟨(h.lies.below hb).more hb.size, h.below.trans (hb.mono h.below.size)⟩
end
theorem one_S (w : World) (A : Array Value) (t : TypeId) : Below w.heap.size w (w.alloc (.cells A t)) := (Below.refl _ _).alloc (Nat.le_refl _) _
theorem cell_of_row (w : World) (b k : Nat) (a : Array Value) (t : TypeId) (f : Nat × Nat) (h : w.heap[b]? = some (.cells a t f)) : w.cell? ⟨b, k, none⟩ = a[k]? := by
  simp [World.cell?, h]
/-- A block of its own with four cells, as it was laid: nothing frozen. -/
def Own4 (w : World) (b : Nat) (x : Blk) (t : TypeId) : Prop := w.heap[b]? = some (.cells #[.int .i64 x.id, .int .i64 x.ad, .int .i64 x.sz, .bool x.hi] t (0, 0))
theorem Own4.cells {w : World} {b : Nat} {x : Blk} {t : TypeId} (h : Own4 w b x t) : Cells4 w b 0 x := by
  refine ⟨?_, ?_, ?_, ?_⟩ <;> (rw [cell_of_row _ _ _ _ _ _ h]; rfl)
theorem Own4.frozen {w : World} {b : Nat} {x : Blk} {t : TypeId} (h : Own4 w b x t) (j : Nat) : w.frozen? ⟨b, j, none⟩ = false := by
  unfold World.frozen?
  rw [h]
  simp
theorem Own4.kept {w w' : World} {b N : Nat} {x : Blk} {t : TypeId} (h : Own4 w b x t) (hb : Below N w w') (hN : b < N) : Own4 w' b x t := (hb.block b hN).trans h
theorem Own4.new (w : World) (x : Blk) (t : TypeId) : Own4 (w.alloc (.cells #[.int .i64 x.id, .int .i64 x.ad, .int .i64 x.sz, .bool x.hi] t)) w.heap.size x t := heap_alloc_new _ _
theorem Own4.lt {w : World} {b : Nat} {x : Blk} {t : TypeId} (h : Own4 w b x t) : b < w.heap.size := by
  have h' : w.heap[b]? = some _ := h
  exact (Array.getElem?_eq_some_iff.1 h').1

set_option maxRecDepth 100000 in
set_option maxHeartbeats 4000000 in
theorem cRight_any (b : Blk) (w : World) : Calls Try.prog 32 #[blkV b] w (Tells (.bool (rightB b)) w) := by
  obtain ⟨i, a, s, h⟩ := b
  unfold blkV rightB
  dsimp only
  have hb := one_S w #[.int .i64 i, .int .i64 a, .int .i64 s, .bool h] 61
  have ho : Own4 _ w.heap.size ⟨i, a, s, h⟩ 61 := Own4.new w ⟨i, a, s, h⟩ 61
  obtain ⟨c0, c1, c2, c3⟩ := ho.cells
  clear ho
  obtain ⟨R, hR⟩ : ∃ R : Bool, R = decide (0 ≤ i ∧ i ≤ 15 ∧ 0 ≤ a ∧ a ≤ 31 ∧ 1 ≤ s ∧ s ≤ 64) := ⟨_, rfl⟩
  rw [← hR]
  by_cases h1 : 0 ≤ i
  · have e1 : decide (0 ≤ i) = true := decide_eq_true h1
    by_cases h2 : i < 16
    · have e2 : decide (i < 16) = true := decide_eq_true h2
      by_cases h3 : 0 ≤ a
      · have e3 : decide (0 ≤ a) = true := decide_eq_true h3
        by_cases h4 : a < 32
        · have e4 : decide (a < 32) = true := decide_eq_true h4
          by_cases h5 : 1 ≤ s
          · have e5 : decide (1 ≤ s) = true := decide_eq_true h5
            obtain ⟨e6⟩ : Nonempty (decide (s ≤ 64) = R) := ⟨by rw [hR, decide_eq_decide]; omega⟩
            have hH := Lib.hid hb
            clear hb hR h1 h2 h3 h4 h5
            go_enter Try.func32, Try.ntmps32
            go_wp2
            go_ret
            exact ⟨rfl, hH.out⟩
          · have e5 : decide (1 ≤ s) = false := decide_eq_false h5
            obtain rfl : R = false := by rw [hR, decide_eq_false (by omega)]
            have hH := Lib.hid hb
            clear hb hR h1 h2 h3 h4 h5
            go_enter Try.func32, Try.ntmps32
            go_wp2
            go_ret
            exact ⟨rfl, hH.out⟩
        · have e4 : decide (a < 32) = false := decide_eq_false h4
          obtain rfl : R = false := by rw [hR, decide_eq_false (by omega)]
          have hH := Lib.hid hb
          clear hb hR h1 h2 h3 h4
          go_enter Try.func32, Try.ntmps32
          go_wp2
          go_ret
          exact ⟨rfl, hH.out⟩
      · have e3 : decide (0 ≤ a) = false := decide_eq_false h3
        obtain rfl : R = false := by rw [hR, decide_eq_false (by omega)]
        have hH := Lib.hid hb
        clear hb hR h1 h2 h3
        go_enter Try.func32, Try.ntmps32
        go_wp2
        go_ret
        exact ⟨rfl, hH.out⟩
    · have e2 : decide (i < 16) = false := decide_eq_false h2
      obtain rfl : R = false := by rw [hR, decide_eq_false (by omega)]
      have hH := Lib.hid hb
      clear hb hR h1 h2
      go_enter Try.func32, Try.ntmps32
      go_wp2
      go_ret
      exact ⟨rfl, hH.out⟩
  · have e1 : decide (0 ≤ i) = false := decide_eq_false h1
    obtain rfl : R = false := by rw [hR, decide_eq_false (by omega)]
    have hH := Lib.hid hb
    clear hb hR h1
    go_enter Try.func32, Try.ntmps32
    go_wp2
    go_ret
    exact ⟨rfl, hH.out⟩

end Go.Proofs.Ytmlopacekoghkaa.Bl
