/-
  Instructions in memory: where they lie, what calls keep; two new blocks. Conditions: none.
-/
import Derived.Test.YtbejajnhgoejhaaIlRef
import Derived.BigQuiet
import Derived.Deep.QuietTactic
namespace Go.Proofs.Ytbejajnhgoejhaa.Il
open Go.RowKit
open Go.Proofs.Ytbejajnhgoejhaa.Ic

def I64 (n : Int) : Prop := -9223372036854775808 ≤ n ∧ n ≤ 9223372036854775807
theorem there_eq (pl k : Int) : thereI 64 pl k = thereB pl k := by
  unfold thereI thereB
  rw [decide_eq_decide]
  constructor
  · rintro ⟨h1, h2, h3, h4⟩; exact ⟨h1, h2, by omega⟩
  · rintro ⟨h1, h2, h3⟩; exact ⟨h1, h2, by omega, by omega⟩
/-- Two new blocks, and a call behind them that makes memory at most. -/
theorem two_boxes {w w1 : World} {A B : Array Value} {t s : TypeId} (hb : Below ((w.alloc (.cells A t)).alloc (.cells B s)).heap.size ((w.alloc (.cells A t)).alloc (.cells B s)) w1) :
    (∀ j v, A[j]? = some v → w1.cell? ⟨w.heap.size, j, none⟩ = some v) ∧ (∀ j v, B[j]? = some v → w1.cell? ⟨w.heap.size + 1, j, none⟩ = some v) ∧ Below w.heap.size w w1 := by
  have hs : (w.alloc (.cells A t)).heap.size = w.heap.size + 1 := by simp
  have hs2 : ((w.alloc (.cells A t)).alloc (.cells B s)).heap.size = w.heap.size + 2 := by simp
  rw [hs2] at hb
  have e2 : ∀ j v, B[j]? = some v → ((w.alloc (.cells A t)).alloc (.cells B s)).cell? ⟨w.heap.size + 1, j, none⟩ = some v := by
    intro j v hv
    have := cell_of_row ((w.alloc (.cells A t)).alloc (.cells B s)) (w.alloc (.cells A t)).heap.size j B s (0, 0) (heap_alloc_new (w.alloc (.cells A t)) _)
    rw [hs] at this
    rw [this]; exact hv
  have e1 : ∀ j v, A[j]? = some v → ((w.alloc (.cells A t)).alloc (.cells B s)).cell? ⟨w.heap.size, j, none⟩ = some v := by
    intro j v hv
    have hc : (w.alloc (.cells A t)).cell? ⟨w.heap.size, j, none⟩ = some v := by
      rw [cell_of_row _ _ j A t (0, 0) (heap_alloc_new w _)]; exact hv
    have hbl := ((Below.refl (w.alloc (.cells A t)).heap.size (w.alloc (.cells A t))).alloc (Nat.le_refl _) (.cells B s)).block w.heap.size (by rw [hs]; omega)
    exact (World.cell?_of_block (a := ⟨w.heap.size, j, none⟩) hbl).trans hc
  refine ⟨fun j v hv => (World.cell?_of_block (a := ⟨w.heap.size, j, none⟩) (hb.block w.heap.size (by omega))).trans (e1 j v hv), fun j v hv => (World.cell?_of_block (a := ⟨w.heap.size + 1, j, none⟩) (hb.block (w.heap.size + 1) (by omega))).trans (e2 j v hv), ?_⟩
  exact (((Below.refl w.heap.size w).alloc (Nat.le_refl _) _).alloc (by simp) _).trans (hb.mono (by omega))

theorem kept_cell {W W' : World} (hb : Below W.heap.size W W') {b k : Nat} {v : Value} (hc : W.cell? ⟨b, k, none⟩ = some v) : W'.cell? ⟨b, k, none⟩ = some v :=
  (World.cell?_of_block (a := ⟨b, k, none⟩) (hb.block b (World.block_lt_of_cell? W ⟨b, k, none⟩ hc))).trans hc
/-- What a region that calls hands on. -/
def Next (N : Nat) (w W : World) : Prop := Below N w W ∧ N < W.heap.size
@[simp] theorem Next_drew (N : Nat) (w W : World) : Next N w W.drew = Next N w W := propext ⟨fun ⟨b, c⟩ => ⟨⟨b.os, b.tape, b.output, b.size, b.block⟩, c⟩, fun ⟨b, c⟩ => ⟨b.drew, c⟩⟩
theorem Next.next {N : Nat} {w W W' : World} (h : Next N w W) (hb : Below W.heap.size W W') : Next N w W' :=
  ⟨h.1.trans (hb.mono (Nat.le_of_lt h.2)), Nat.lt_of_lt_of_le h.2 hb.size⟩
/-- One new block. -/
theorem one_box (w : World) (A : Array Value) (t : TypeId) :
    (∀ j v, A[j]? = some v → (w.alloc (.cells A t)).cell? ⟨w.heap.size, j, none⟩ = some v) ∧ Next w.heap.size w (w.alloc (.cells A t)) :=
  ⟨fun j v hv => by rw [cell_of_row _ _ j A t (0, 0) (heap_alloc_new w _)]; exact hv, (Below.refl _ _).alloc (Nat.le_refl _) _, by simp⟩

/-- What the calls may stand on: something of the blocks below N. -/
structure Base where
  E : Nat → World → Prop
  next : ∀ {N : Nat} {w w' : World}, E N w → Below N w w' → E N w'
def FitI (i : In) : Prop := I64 i.op ∧ I64 i.kd ∧ I64 i.ar ∧ I64 i.pl ∧ I64 i.n
def FitL (l : List In) : Prop := ∀ (k : Nat) (x : In), l[k]? = some x → FitI x
/-- Instructions, one behind the other, in block b from o on. -/
def Items (w : World) (b o : Nat) (xs : List In) : Prop :=
  ∀ (i : Nat) (x : In), xs[i]? = some x → w.cell? ⟨b, o + i * 5, none⟩ = some (.int .i64 x.op) ∧ w.cell? ⟨b, o + i * 5 + 1, none⟩ = some (.int .i64 x.kd) ∧ w.cell? ⟨b, o + i * 5 + 2, none⟩ = some (.int .i64 x.ar) ∧ w.cell? ⟨b, o + i * 5 + 3, none⟩ = some (.int .i64 x.pl) ∧ w.cell? ⟨b, o + i * 5 + 4, none⟩ = some (.int .i64 x.n)
theorem Items.below {w w' : World} {b o : Nat} {xs : List In} (h : Items w b o xs) {N : Nat} (hb : Below N w w') (hN : b < N) : Items w' b o xs := by
  intro i x hx
  obtain ⟨h1, h2, h3, h4, h5⟩ := h i x hx
  exact ⟨(hb.cell (p := ⟨b, _, none⟩) hN).trans h1, (hb.cell (p := ⟨b, _, none⟩) hN).trans h2, (hb.cell (p := ⟨b, _, none⟩) hN).trans h3, (hb.cell (p := ⟨b, _, none⟩) hN).trans h4, (hb.cell (p := ⟨b, _, none⟩) hN).trans h5⟩
def Lies (w : World) (N : Nat) (ao : Option Addr) (xs : List In) : Prop := 1 ≤ xs.length → ∃ b o, ao = some ⟨b, o, none⟩ ∧ b < N ∧ Items w b o xs
theorem Lies.below {w w' : World} {N : Nat} {ao : Option Addr} {xs : List In} (h : Lies w N ao xs) (hb : Below N w w') : Lies w' N ao xs := by
  intro h1
  obtain ⟨b, o, ha, hlt, hI⟩ := h h1
  exact ⟨b, o, ha, hlt, hI.below hb hlt⟩
theorem Lies.more {w : World} {N M : Nat} {ao : Option Addr} {xs : List In} (h : Lies w N ao xs) (hm : N ≤ M) : Lies w M ao xs := by
  intro h1
  obtain ⟨b, o, ha, hlt, hI⟩ := h h1
  exact ⟨b, o, ha, by omega, hI⟩

/-- How far a law has come: what the calls stand on is as it was. -/
structure Cur (B : Base) (N : Nat) (w0 w : World) : Prop where
  e : B.E N w
  below : Below N w0 w
  size : N ≤ w.heap.size
theorem Cur.next {B : Base} {N : Nat} {w0 w w' : World} (h : Cur B N w0 w) (hb : Below w.heap.size w w') : Cur B N w0 w' :=
  ⟨B.next h.e (hb.mono h.size), h.below.trans (hb.mono h.size), Nat.le_trans h.size hb.size⟩
theorem Cur.first {B : Base} {w : World} (h : B.E w.heap.size w) : Cur B w.heap.size w w := ⟨h, Below.refl _ _, Nat.le_refl _⟩
theorem Cur.drew {B : Base} {N : Nat} {w0 w : World} (h : Cur B N w0 w) : Cur B N w0 w.drew := h.next (Below.refl _ _).drew
theorem Cur.drewN {B : Base} {N : Nat} {w0 w : World} (h : Cur B N w0 w) (n : Nat) : Cur B N w0 (w.drewN n) := h.next ⟨rfl, rfl, rfl, Nat.le_refl _, fun _ _ => rfl⟩
theorem Cur.alloc {B : Base} {N : Nat} {w0 w : World} (h : Cur B N w0 w) (o : Obj) : Cur B N w0 (w.alloc o) := h.next ((Below.refl _ _).alloc (Nat.le_refl _) o)

end Go.Proofs.Ytbejajnhgoejhaa.Il
