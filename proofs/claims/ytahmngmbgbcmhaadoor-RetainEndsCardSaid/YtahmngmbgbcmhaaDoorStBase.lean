/-
  A store in memory, and those of its calls that read, or turn its settings, walked. Conditions: none but on sizes.
-/
import Derived.Test.YtahmngmbgbcmhaaDoorRows
import Derived.Test.YtahmngmbgbcmhaaDoorStMath
import Derived.WalkKit
import Derived.WalkSpells
import Derived.WalkLawsBesides
import Derived.Lib.Hide
import Derived.Lib.ConvBytes
import Derived.Lib.LazyBuf
import Derived.Laws.BytesArg
import Derived.Below
import Derived.OwnWalk
import Derived.RegionTactic
import Derived.ChangeAlike
namespace Go.Proofs.YtahmngmbgbcmhaaDoor.Sto
open Go.RowKit

/-- Bytes as cells. -/
def vals (l : List UInt8) : List Value := l.map fun c => Value.int .u8 (c.toNat : Int)
theorem vals_length (l : List UInt8) : (vals l).length = l.length := by simp [vals]

/-- Block g holds just these bytes, from its beginning on, and they may be written. -/
def Row (w : World) (g : Nat) (l : List UInt8) : Prop :=
  ∀ i, i < l.length → w.cell? ⟨g, i, none⟩ = some (.int .u8 ((l.getD i 0).toNat : Int)) ∧ w.frozen? ⟨g, i, none⟩ = false

/-- Nothing but blocks p and g has turned. -/
structure Only (p g : Nat) (w w' : World) : Prop where
  os : w'.os = w.os
  tape : w'.tape = w.tape
  output : w'.output = w.output
  size : w.heap.size ≤ w'.heap.size
  block : ∀ k, k < w.heap.size → k ≠ p → k ≠ g → w'.heap[k]? = w.heap[k]?

theorem Only.refl (p g : Nat) (w : World) : Only p g w w := ⟨rfl, rfl, rfl, Nat.le_refl _, fun _ _ _ _ => rfl⟩
theorem Only.trans {p g : Nat} {a b c : World} (h : Only p g a b) (k : Only p g b c) : Only p g a c :=
  ⟨k.os.trans h.os, k.tape.trans h.tape, k.output.trans h.output, Nat.le_trans h.size k.size, fun i hi h1 h2 => (k.block i (Nat.lt_of_lt_of_le hi h.size) h1 h2).trans (h.block i hi h1 h2)⟩
theorem Only.set {p g : Nat} {a w : World} (h : Only p g a w) (o : Nat) (v : Value) : Only p g a (w.setCell ⟨p, o, none⟩ v) :=
  h.trans ⟨rfl, rfl, rfl, by simp [World.setCell], fun k _ hk _ => Below.heap_setCell _ _ _ _ hk⟩
theorem Only.drew {p g : Nat} {a w : World} (h : Only p g a w) : Only p g a w.drew := ⟨h.os, h.tape, h.output, h.size, h.block⟩
theorem Only.drewN {p g : Nat} {a w : World} (h : Only p g a w) (n : Nat) : Only p g a (w.drewN n) := ⟨h.os, h.tape, h.output, h.size, h.block⟩
theorem Only.cells {p g : Nat} {a w : World} (h : Only p g a w) (vs : List Value) (o : Nat) : Only p g a (w.setCells g o vs) :=
  h.trans (by
    have hk : ∀ (vs : List Value) (o : Nat) (w : World), Only p g w (w.setCells g o vs) := by
      intro vs
      induction vs with
      | nil => intro o w; exact Only.refl _ _ _
      | cons v r ih =>
        intro o w
        have h1 : Only p g w (w.setCell ⟨g, o, none⟩ v) := ⟨rfl, rfl, rfl, by simp [World.setCell], fun k _ _ hk => Below.heap_setCell _ _ _ _ hk⟩
        exact h1.trans (ih (o + 1) _)
    exact hk vs o w)
theorem Only.below {p g N : Nat} {w w' : World} (h : Only p g w w') (hp : N ≤ p) (hg : N ≤ g) (hN : N ≤ w.heap.size) : Below N w w' :=
  ⟨h.os, h.tape, h.output, h.size, fun k hk => h.block k (by omega) (by omega) (by omega)⟩

theorem Row.drewN {w : World} {g : Nat} {l : List UInt8} (h : Row w g l) (n : Nat) : Row (w.drewN n) g l := h
theorem Row.drew {w : World} {g : Nat} {l : List UInt8} (h : Row w g l) : Row w.drew g l := h
theorem Row.at {w w' : World} {g : Nat} {l : List UInt8} (h : Row w g l) (hb : w'.heap[g]? = w.heap[g]?) : Row w' g l :=
  fun i hi => ⟨(World.cell?_of_block (a := ⟨g, i, none⟩) hb).trans (h i hi).1, (World.frozen?_of_block (a := ⟨g, i, none⟩) hb).trans (h i hi).2⟩
theorem Row.set {w : World} {g p : Nat} {l : List UInt8} (h : Row w g l) (hne : p ≠ g) (o : Nat) (v : Value) : Row (w.setCell ⟨p, o, none⟩ v) g l :=
  h.at (Below.heap_setCell _ _ _ _ (fun e => hne e.symm))

theorem vals_getD (l : List UInt8) (j : Nat) (h : j < (vals l).length) : (vals l)[j] = .int .u8 ((l.getD j 0).toNat : Int) := by
  rw [vals_length] at h
  simp [vals, List.getD_eq_getElem?_getD, h]

/-- Bytes laid over a row. -/
theorem Row.laid {w : World} {g : Nat} {l : List UInt8} (h : Row w g l) (a : Nat) (s : List UInt8) (hfit : a + s.length ≤ l.length) : Row (w.setCells g a (vals s)) g (lay l a s) := by
  intro i hi
  rw [lay_length hfit] at hi
  refine ⟨?_, (World.frozen?_setCells _ _ _ _ _).trans (h i hi).2⟩
  rw [lay_getD hfit]
  split
  · rename_i hin
    have := World.cell?_setCells_in g (vals s) a w (fun j hj => by rw [vals_length] at hj; rw [(h (a + j) (by omega)).1]; rfl) (i - a) (by rw [vals_length]; omega)
    rw [show a + (i - a) = i by omega, vals_getD] at this
    exact this
  · rename_i hout
    rw [World.cell?_setCells_out g (vals s) a w ⟨g, i, none⟩ (fun _ _ => by rw [vals_length]; show i < a ∨ a + s.length ≤ i; omega)]
    exact (h i hi).1

/-- Block p is a store whose bytes lie in block g. -/
structure StoreAt (w : World) (p g cap : Nat) (l : List UInt8) (down arm : Bool) (y n : Int) : Prop where
  ne : p ≠ g
  lt : g < w.heap.size
  hcap : l.length ≤ cap
  big : cap ≤ maxLen
  few : l.length ≤ 1000
  c0 : w.cell? ⟨p, 0, none⟩ = some (.slice (some ⟨g, 0, none⟩) l.length cap)
  c1 : w.cell? ⟨p, 1, none⟩ = some (.bool down)
  c2 : w.cell? ⟨p, 2, none⟩ = some (.bool arm)
  c3 : w.cell? ⟨p, 3, none⟩ = some (.int .i64 y)
  c4 : w.cell? ⟨p, 4, none⟩ = some (.int .i64 n)
  f1 : w.frozen? ⟨p, 1, none⟩ = false
  f2 : w.frozen? ⟨p, 2, none⟩ = false
  f3 : w.frozen? ⟨p, 3, none⟩ = false
  f4 : w.frozen? ⟨p, 4, none⟩ = false
  row : Row w g l

theorem off_ne (p : Nat) {i j : Nat} (h : i ≠ j) : (⟨p, i, none⟩ : Addr) ≠ ⟨p, j, none⟩ := by intro e; injection e; contradiction

theorem StoreAt.drewN {w : World} {p g cap : Nat} {l : List UInt8} {d a : Bool} {y n : Int} (h : StoreAt w p g cap l d a y n) (k : Nat) : StoreAt (w.drewN k) p g cap l d a y n :=
  ⟨h.ne, h.lt, h.hcap, h.big, h.few, h.c0, h.c1, h.c2, h.c3, h.c4, h.f1, h.f2, h.f3, h.f4, h.row⟩
theorem StoreAt.drew {w : World} {p g cap : Nat} {l : List UInt8} {d a : Bool} {y n : Int} (h : StoreAt w p g cap l d a y n) : StoreAt w.drew p g cap l d a y n :=
  ⟨h.ne, h.lt, h.hcap, h.big, h.few, h.c0, h.c1, h.c2, h.c3, h.c4, h.f1, h.f2, h.f3, h.f4, h.row⟩
theorem StoreAt.plt {w : World} {p g cap : Nat} {l : List UInt8} {d a : Bool} {y n : Int} (h : StoreAt w p g cap l d a y n) : p < w.heap.size := World.block_lt_of_cell? w ⟨p, 0, none⟩ h.c0

theorem StoreAt.kept {w w' : World} {p g cap : Nat} {l : List UInt8} {d a : Bool} {y n : Int} (h : StoreAt w p g cap l d a y n) (hp : w'.heap[p]? = w.heap[p]?) (hg : w'.heap[g]? = w.heap[g]?) : StoreAt w' p g cap l d a y n := by
  have hc : ∀ o, w'.cell? ⟨p, o, none⟩ = w.cell? ⟨p, o, none⟩ := fun o => World.cell?_of_block (a := ⟨p, o, none⟩) hp
  have hf : ∀ o, w'.frozen? ⟨p, o, none⟩ = w.frozen? ⟨p, o, none⟩ := fun o => World.frozen?_of_block (a := ⟨p, o, none⟩) hp
  have hlt : g < w'.heap.size := by
    have h1 : w.heap[g]? = some (w.heap[g]'h.lt) := Array.getElem?_eq_getElem h.lt
    rw [h1] at hg
    exact (Array.getElem?_eq_some_iff.1 hg).1
  exact ⟨h.ne, hlt, h.hcap, h.big, h.few, (hc 0).trans h.c0, (hc 1).trans h.c1, (hc 2).trans h.c2, (hc 3).trans h.c3, (hc 4).trans h.c4, (hf 1).trans h.f1, (hf 2).trans h.f2, (hf 3).trans h.f3, (hf 4).trans h.f4, h.row.at hg⟩

theorem StoreAt.only {w w' : World} {p g cap q r : Nat} {l : List UInt8} {d a : Bool} {y n : Int} (h : StoreAt w p g cap l d a y n) (ho : Only q r w w') (h1 : p ≠ q) (h2 : p ≠ r) (h3 : g ≠ q) (h4 : g ≠ r) : StoreAt w' p g cap l d a y n :=
  h.kept (ho.block p h.plt h1 h2) (ho.block g h.lt h3 h4)
theorem StoreAt.below {w w' : World} {p g cap N : Nat} {l : List UInt8} {d a : Bool} {y n : Int} (h : StoreAt w p g cap l d a y n) (hb : Below N w w') (hp : p < N) (hg : g < N) : StoreAt w' p g cap l d a y n :=
  h.kept (hb.block p hp) (hb.block g hg)

theorem heap_set_size (w : World) (a : Addr) (v : Value) : (w.setCell a v).heap.size = w.heap.size := by simp [World.setCell]

theorem StoreAt.set1 {w : World} {p g cap : Nat} {l : List UInt8} {d a : Bool} {y n : Int} (h : StoreAt w p g cap l d a y n) (b : Bool) : StoreAt (w.setCell ⟨p, 1, none⟩ (.bool b)) p g cap l b a y n := by
  have hf : ∀ o, (w.setCell ⟨p, 1, none⟩ (.bool b)).frozen? ⟨p, o, none⟩ = w.frozen? ⟨p, o, none⟩ := fun o => World.frozen?_setCell _ _ _ _
  have hc : ∀ o, o ≠ 1 → (w.setCell ⟨p, 1, none⟩ (.bool b)).cell? ⟨p, o, none⟩ = w.cell? ⟨p, o, none⟩ := fun o ho => World.cell?_setCell_other _ _ _ _ (off_ne p (fun e => ho e.symm))
  exact ⟨h.ne, by rw [heap_set_size]; exact h.lt, h.hcap, h.big, h.few, (hc 0 (by decide)).trans h.c0, World.cell?_setCell_same _ _ _ h.c1, (hc 2 (by decide)).trans h.c2, (hc 3 (by decide)).trans h.c3, (hc 4 (by decide)).trans h.c4,
    (hf 1).trans h.f1, (hf 2).trans h.f2, (hf 3).trans h.f3, (hf 4).trans h.f4, h.row.set h.ne _ _⟩

theorem StoreAt.set2 {w : World} {p g cap : Nat} {l : List UInt8} {d a : Bool} {y n : Int} (h : StoreAt w p g cap l d a y n) (b : Bool) : StoreAt (w.setCell ⟨p, 2, none⟩ (.bool b)) p g cap l d b y n := by
  have hf : ∀ o, (w.setCell ⟨p, 2, none⟩ (.bool b)).frozen? ⟨p, o, none⟩ = w.frozen? ⟨p, o, none⟩ := fun o => World.frozen?_setCell _ _ _ _
  have hc : ∀ o, o ≠ 2 → (w.setCell ⟨p, 2, none⟩ (.bool b)).cell? ⟨p, o, none⟩ = w.cell? ⟨p, o, none⟩ := fun o ho => World.cell?_setCell_other _ _ _ _ (off_ne p (fun e => ho e.symm))
  exact ⟨h.ne, by rw [heap_set_size]; exact h.lt, h.hcap, h.big, h.few, (hc 0 (by decide)).trans h.c0, (hc 1 (by decide)).trans h.c1, World.cell?_setCell_same _ _ _ h.c2, (hc 3 (by decide)).trans h.c3, (hc 4 (by decide)).trans h.c4,
    (hf 1).trans h.f1, (hf 2).trans h.f2, (hf 3).trans h.f3, (hf 4).trans h.f4, h.row.set h.ne _ _⟩

theorem StoreAt.set3 {w : World} {p g cap : Nat} {l : List UInt8} {d a : Bool} {y n : Int} (h : StoreAt w p g cap l d a y n) (z : Int) : StoreAt (w.setCell ⟨p, 3, none⟩ (.int .i64 z)) p g cap l d a z n := by
  have hf : ∀ o, (w.setCell ⟨p, 3, none⟩ (.int .i64 z)).frozen? ⟨p, o, none⟩ = w.frozen? ⟨p, o, none⟩ := fun o => World.frozen?_setCell _ _ _ _
  have hc : ∀ o, o ≠ 3 → (w.setCell ⟨p, 3, none⟩ (.int .i64 z)).cell? ⟨p, o, none⟩ = w.cell? ⟨p, o, none⟩ := fun o ho => World.cell?_setCell_other _ _ _ _ (off_ne p (fun e => ho e.symm))
  exact ⟨h.ne, by rw [heap_set_size]; exact h.lt, h.hcap, h.big, h.few, (hc 0 (by decide)).trans h.c0, (hc 1 (by decide)).trans h.c1, (hc 2 (by decide)).trans h.c2, World.cell?_setCell_same _ _ _ h.c3, (hc 4 (by decide)).trans h.c4,
    (hf 1).trans h.f1, (hf 2).trans h.f2, (hf 3).trans h.f3, (hf 4).trans h.f4, h.row.set h.ne _ _⟩

theorem StoreAt.set4 {w : World} {p g cap : Nat} {l : List UInt8} {d a : Bool} {y n : Int} (h : StoreAt w p g cap l d a y n) (z : Int) : StoreAt (w.setCell ⟨p, 4, none⟩ (.int .i64 z)) p g cap l d a y z := by
  have hf : ∀ o, (w.setCell ⟨p, 4, none⟩ (.int .i64 z)).frozen? ⟨p, o, none⟩ = w.frozen? ⟨p, o, none⟩ := fun o => World.frozen?_setCell _ _ _ _
  have hc : ∀ o, o ≠ 4 → (w.setCell ⟨p, 4, none⟩ (.int .i64 z)).cell? ⟨p, o, none⟩ = w.cell? ⟨p, o, none⟩ := fun o ho => World.cell?_setCell_other _ _ _ _ (off_ne p (fun e => ho e.symm))
  exact ⟨h.ne, by rw [heap_set_size]; exact h.lt, h.hcap, h.big, h.few, (hc 0 (by decide)).trans h.c0, (hc 1 (by decide)).trans h.c1, (hc 2 (by decide)).trans h.c2, (hc 3 (by decide)).trans h.c3, World.cell?_setCell_same _ _ _ h.c4,
    (hf 1).trans h.f1, (hf 2).trans h.f2, (hf 3).trans h.f3, (hf 4).trans h.f4, h.row.set h.ne _ _⟩

theorem StoreAt.cells {w : World} {p g cap : Nat} {l : List UInt8} {d a : Bool} {y n : Int} (h : StoreAt w p g cap l d a y n) (o : Nat) (s : List UInt8) (hfit : o + s.length ≤ l.length) : StoreAt (w.setCells g o (vals s)) p g cap (lay l o s) d a y n := by
  have hc : ∀ k, (w.setCells g o (vals s)).cell? ⟨p, k, none⟩ = w.cell? ⟨p, k, none⟩ := fun k => World.cell?_setCells_out g _ o w ⟨p, k, none⟩ (fun e => absurd e h.ne)
  have hf : ∀ k, (w.setCells g o (vals s)).frozen? ⟨p, k, none⟩ = w.frozen? ⟨p, k, none⟩ := fun k => World.frozen?_setCells _ _ _ _ _
  have hlen := lay_length hfit
  have hs : g < (w.setCells g o (vals s)).heap.size := Nat.lt_of_lt_of_le h.lt ((Only.refl p g w).cells (vals s) o).size
  exact ⟨h.ne, hs, by rw [hlen]; exact h.hcap, h.big, by rw [hlen]; exact h.few, by rw [hlen]; exact (hc 0).trans h.c0, (hc 1).trans h.c1, (hc 2).trans h.c2, (hc 3).trans h.c3, (hc 4).trans h.c4, (hf 1).trans h.f1, (hf 2).trans h.f2, (hf 3).trans h.f3, (hf 4).trans h.f4, h.row.laid o s hfit⟩

/-- Block p is the store x, its bytes in block g. -/
def CodeAt (w : World) (p g cap : Nat) (x : St) : Prop := ∃ y : Int, StoreAt w p g cap x.l (!x.up) x.arm.isSome y x.n ∧ ∀ k, x.arm = some k → y = k

theorem CodeAt.drewN {w : World} {p g cap : Nat} {x : St} (h : CodeAt w p g cap x) (k : Nat) : CodeAt (w.drewN k) p g cap x := by
  obtain ⟨y, h, hy⟩ := h
  exact ⟨y, h.drewN k, hy⟩
theorem CodeAt.only {w w' : World} {p g cap q r : Nat} {x : St} (h : CodeAt w p g cap x) (ho : Only q r w w') (h1 : p ≠ q) (h2 : p ≠ r) (h3 : g ≠ q) (h4 : g ≠ r) : CodeAt w' p g cap x := by
  obtain ⟨y, h, hy⟩ := h
  exact ⟨y, h.only ho h1 h2 h3 h4, hy⟩
theorem CodeAt.below {w w' : World} {p g cap N : Nat} {x : St} (h : CodeAt w p g cap x) (hb : Below N w w') (hp : p < N) (hg : g < N) : CodeAt w' p g cap x := by
  obtain ⟨y, h, hy⟩ := h
  exact ⟨y, h.below hb hp hg, hy⟩
theorem CodeAt.plt {w : World} {p g cap : Nat} {x : St} (h : CodeAt w p g cap x) : p < w.heap.size := by
  obtain ⟨y, h, hy⟩ := h
  exact h.plt
theorem CodeAt.glt {w : World} {p g cap : Nat} {x : St} (h : CodeAt w p g cap x) : g < w.heap.size := by
  obtain ⟨y, h, hy⟩ := h
  exact h.lt
theorem CodeAt.pg {w : World} {p g cap : Nat} {x : St} (h : CodeAt w p g cap x) : p ≠ g := by
  obtain ⟨y, h, hy⟩ := h
  exact h.ne

end Go.Proofs.YtahmngmbgbcmhaaDoor.Sto
