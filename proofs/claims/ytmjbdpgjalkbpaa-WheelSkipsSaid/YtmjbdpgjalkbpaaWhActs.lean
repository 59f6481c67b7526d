/-
  The laws' acts, as a slice that lies in memory; two timers' objects side by side; what holds in a region's worlds. Conditions: none.
-/
import Derived.Test.YtmjbdpgjalkbpaaWhLaw
import Derived.Deep.RegionHeld3
namespace Go.Proofs.Ytmjbdpgjalkbpaa.Whl
open Go.RowKit

structure Ac where
  a : Nat
  id : Int
  n : Int

/-- At b, o lie the acts xs. -/
def Items (w : World) (b o : Nat) (xs : List Ac) : Prop :=
  ∀ (i : Nat) (x : Ac), xs[i]? = some x → w.cell? ⟨b, o + i * 3, none⟩ = some (.int .u8 x.a) ∧ w.cell? ⟨b, o + i * 3 + 1, none⟩ = some (.int .i64 x.id) ∧ w.cell? ⟨b, o + i * 3 + 2, none⟩ = some (.int .i64 x.n)
/-- Their numbers are of their kinds. -/
def Fit (xs : List Ac) : Prop := ∀ (i : Nat) (x : Ac), xs[i]? = some x → (x.a : Int) ≤ 255 ∧ I64 x.id ∧ I64 x.n
theorem Items.below {w w' : World} {b o : Nat} {xs : List Ac} (h : Items w b o xs) {N : Nat} (hb : Below N w w') (hN : b < N) : Items w' b o xs := by
  intro i x hx
  obtain ⟨h1, h2, h3⟩ := h i x hx
  exact ⟨(hb.cell (p := ⟨b, _, none⟩) hN).trans h1, (hb.cell (p := ⟨b, _, none⟩) hN).trans h2, (hb.cell (p := ⟨b, _, none⟩) hN).trans h3⟩
/-- Below N, where the slice's head points to, lie the acts xs. -/
def Lies (w : World) (N : Nat) (ao : Option Addr) (xs : List Ac) : Prop := 1 ≤ xs.length → ∃ b o, ao = some ⟨b, o, none⟩ ∧ b < N ∧ Items w b o xs
theorem Lies.below {w w' : World} {N : Nat} {ao : Option Addr} {xs : List Ac} (h : Lies w N ao xs) (hb : Below N w w') : Lies w' N ao xs := by
  intro h1
  obtain ⟨b, o, ha, hlt, hI⟩ := h h1
  exact ⟨b, o, ha, hlt, hI.below hb hlt⟩

/-- Block t is an act. -/
structure ActAt (w : World) (t : Nat) (y : Ac) : Prop where
  c0 : w.cell? ⟨t, 0, none⟩ = some (.int .u8 y.a)
  c1 : w.cell? ⟨t, 1, none⟩ = some (.int .i64 y.id)
  c2 : w.cell? ⟨t, 2, none⟩ = some (.int .i64 y.n)
theorem ActAt.of {w w' : World} {t : Nat} {y : Ac} (h : ActAt w t y) (hb : w'.heap[t]? = w.heap[t]?) : ActAt w' t y :=
  ⟨(World.cell?_of_block (a := ⟨t, 0, none⟩) hb).trans h.c0, (World.cell?_of_block (a := ⟨t, 1, none⟩) hb).trans h.c1, (World.cell?_of_block (a := ⟨t, 2, none⟩) hb).trans h.c2⟩
theorem ActAt.lt {w : World} {t : Nat} {y : Ac} (h : ActAt w t y) : t < w.heap.size := World.block_lt_of_cell? w ⟨t, 0, none⟩ h.c0
theorem ActAt.below {w w' : World} {t : Nat} {y : Ac} (h : ActAt w t y) (hb : Below w.heap.size w w') : ActAt w' t y := h.of (hb.block t h.lt)
theorem ActAt.only {w w' : World} {t p g : Nat} {y : Ac} (h : ActAt w t y) (hb : Only p g w w') (h1 : t ≠ p) (h2 : t ≠ g) : ActAt w' t y := h.of (hb.block t h.lt h1 h2)
theorem ActAt.new (w : World) (y : Ac) (k : TypeId) : ActAt (w.alloc (.cells #[.int .u8 y.a, .int .i64 y.id, .int .i64 y.n] k)) w.heap.size y := by
  have hc : ∀ j v, #[Value.int .u8 y.a, .int .i64 y.id, .int .i64 y.n][j]? = some v → (w.alloc (.cells #[.int .u8 y.a, .int .i64 y.id, .int .i64 y.n] k)).cell? ⟨w.heap.size, j, none⟩ = some v := by
    intro j v hv
    rw [cell_of_row _ _ j _ k (0, 0) (heap_alloc_new w _)]
    exact hv
  exact ⟨hc 0 _ rfl, hc 1 _ rfl, hc 2 _ rfl⟩
theorem ActAt.drew {w : World} {t : Nat} {y : Ac} (h : ActAt w t y) : ActAt w.drew t y := h.of rfl

/-- Two objects of the call's own, apart from one another. -/
structure Two (F : Face) (N : Nat) (w0 w : World) (p g p2 g2 : Nat) (x y : Wh) : Prop where
  r1 : Run F N w0 w p g x
  r2 : Run F N w0 w p2 g2 y
  n1 : p ≠ p2
  n2 : p ≠ g2
  n3 : g ≠ p2
  n4 : g ≠ g2
section
variable {F : Face} {N p g p2 g2 : Nat} {w0 w w' : World} {x y z : Wh}
theorem Two.fst (h : Two F N w0 w p g p2 g2 x y) (hx : F.At w' p g z) (ho : Only p g w w') : Two F N w0 w' p g p2 g2 z y :=
  ⟨h.r1.done hx ho, ⟨Face.only h.r2.at_ ho h.n1.symm h.n3.symm h.n2.symm h.n4.symm, (h.r1.done hx ho).below, h.r2.hp, h.r2.hg, (h.r1.done hx ho).size⟩, h.n1, h.n2, h.n3, h.n4⟩
theorem Two.snd (h : Two F N w0 w p g p2 g2 x y) (hx : F.At w' p2 g2 z) (ho : Only p2 g2 w w') : Two F N w0 w' p g p2 g2 x z :=
  ⟨⟨Face.only h.r1.at_ ho h.n1 h.n2 h.n3 h.n4, (h.r2.done hx ho).below, h.r1.hp, h.r1.hg, (h.r2.done hx ho).size⟩, h.r2.done hx ho, h.n1, h.n2, h.n3, h.n4⟩
theorem Two.more (h : Two F N w0 w p g p2 g2 x y) (hb : Below w.heap.size w w') : Two F N w0 w' p g p2 g2 x y := ⟨h.r1.more hb, h.r2.more hb, h.n1, h.n2, h.n3, h.n4⟩
theorem Two.new (h : Run F N w0 w p g x) (hx : F.At w' p2 g2 y) (hp : w.heap.size ≤ p2) (hg : w.heap.size ≤ g2) (hb : Below w.heap.size w w') : Two F N w0 w' p g p2 g2 x y := by
  have h1 := F.plt h.at_
  have h2 := F.glt h.at_
  have hs := h.size
  exact ⟨h.more hb, ⟨hx, (h.more hb).below, by omega, by omega, (h.more hb).size⟩, by omega, by omega, by omega, by omega⟩
end

theorem Two.drew {F : Face} {N p g p2 g2 : Nat} {w0 w : World} {x y : Wh} (h : Two F N w0 w p g p2 g2 x y) : Two F N w0 w.drew p g p2 g2 x y := h.more (Below.refl _ _).drew
theorem only_cell {p g t o : Nat} {w w' : World} {v : Value} (ho : Only p g w w') (h : w.cell? ⟨t, o, none⟩ = some v) (h1 : t ≠ p) (h2 : t ≠ g) : w'.cell? ⟨t, o, none⟩ = some v :=
  (World.cell?_of_block (a := ⟨t, o, none⟩) (ho.block t (World.block_lt_of_cell? w ⟨t, o, none⟩ h) h1 h2)).trans h

end Go.Proofs.Ytmjbdpgjalkbpaa.Whl
