/-
  What is asked of the code's calls on values; awake, walked. Conditions: none.
-/
import Derived.Test.YtmlopacekoghkaaIcG
import Derived.Test.YtmlopacekoghkaaIcGet
import Derived.Lib.ConvBytes
import Derived.BigQuiet
import Derived.Deep.QuietTactic
namespace Go.Proofs.Ytmlopacekoghkaa.Ic
open Go.RowKit
open Oct

def I64 (n : Int) : Prop := -9223372036854775808 ≤ n ∧ n ≤ 9223372036854775807
/-- What the calls may stand on: something of the blocks below N. -/
structure Base where
  E : Nat → World → Prop
  next : ∀ {N : Nat} {w w' : World}, E N w → Below N w w' → E N w'
/-- Block g holds just these bytes, from its beginning on, and they may be written. -/
def Row (w : World) (g : Nat) (l : List UInt8) : Prop :=
  ∀ i, i < l.length → w.cell? ⟨g, i, none⟩ = some (.int .u8 ((l.getD i 0).toNat : Int)) ∧ w.frozen? ⟨g, i, none⟩ = false
/-- Nothing but block g has turned. -/
structure Only1 (g : Nat) (w w' : World) : Prop where
  os : w'.os = w.os
  tape : w'.tape = w.tape
  output : w'.output = w.output
  size : w.heap.size ≤ w'.heap.size
  block : ∀ k, k < w.heap.size → k ≠ g → w'.heap[k]? = w.heap[k]?
theorem Only1.below {g N : Nat} {w w' : World} (h : Only1 g w w') (hg : N ≤ g) (hN : N ≤ w.heap.size) : Below N w w' := ⟨h.os, h.tape, h.output, h.size, fun k hk => h.block k (by omega) (by omega)⟩
theorem Row.kept {w w' : World} {g : Nat} {l : List UInt8} (h : Row w g l) (hb : Below w.heap.size w w') : Row w' g l := by
  intro i hi
  obtain ⟨h1, h2⟩ := h i hi
  have e := hb.block g (World.block_lt_of_cell? w ⟨g, i, none⟩ h1)
  exact ⟨(World.cell?_of_block (a := ⟨g, i, none⟩) e).trans h1, (World.frozen?_of_block (a := ⟨g, i, none⟩) e).trans h2⟩
theorem Row.cells {w : World} {g : Nat} {l : List UInt8} (h : Row w g l) : ∀ i, i < l.length → w.cell? ⟨g, 0 + i, none⟩ = some (.int .u8 ((l.map fun c => (c.toNat : Int)).getD i 0)) := by
  intro i hi
  rw [Nat.zero_add, (h i hi).1]
  simp [List.getD_eq_getElem?_getD, hi]
theorem Row.off {w : World} {g : Nat} {l : List UInt8} (h : Row w g l) (o n : Nat) (hn : o + n ≤ l.length) : ∀ i, i < n → w.cell? ⟨g, o + i, none⟩ = some (.int .u8 ((((l.drop o).take n).map fun c => (c.toNat : Int)).getD i 0)) := by
  intro i hi
  rw [(h (o + i) (by omega)).1]
  congr 3
  simp [List.getD_eq_getElem?_getD, hi]
  rw [List.getElem?_eq_getElem (by omega)]
  rfl
theorem bytesWorld_below (w : World) (s : ByteArray) : Below w.heap.size w (Lib.bytesWorld w 5 s) := by
  refine ⟨rfl, rfl, rfl, ?_, fun k hk => Lib.bytesWorld_at_old w 5 s k hk⟩
  rw [Lib.bytesWorld_size]; omega
theorem bytesWorld_row (w : World) (s : ByteArray) : Row (Lib.bytesWorld w 5 s) w.heap.size s.data.toList := by
  intro i hi
  have hi' : i < s.size := by simpa using hi
  refine ⟨Lib.bytesWorld_cell w 5 s i hi', ?_⟩
  have hle : s.size ≤ (Lib.bytesCells w 5 s).size := by simp [Lib.bytesCells]
  simp [World.frozen?, Lib.bytesWorld_at_new]
  omega

/-- What is got, or 0; the bytes behind a value was put, or those that were. -/
def gotR (s : ByteArray) (at_ k : Int) : Int := if thereI s.size at_ k then getI s at_.toNat k else 0
def putR (l : List UInt8) (at_ k v : Int) : List UInt8 := if thereI l.length at_ k then putL l at_.toNat k v else l

/-- How far a law has come: what the calls stand on is as it was. -/
structure Cur (B : Base) (N : Nat) (w0 w : World) : Prop where
  e : B.E N w
  below : Below N w0 w
  size : N ≤ w.heap.size
theorem Cur.next {B : Base} {N : Nat} {w0 w w' : World} (h : Cur B N w0 w) (hb : Below w.heap.size w w') : Cur B N w0 w' :=
  ⟨B.next h.e (hb.mono h.size), h.below.trans (hb.mono h.size), Nat.le_trans h.size hb.size⟩
theorem Cur.one {B : Base} {N g : Nat} {w0 w w' : World} (h : Cur B N w0 w) (hb : Only1 g w w') (hg : N ≤ g) : Cur B N w0 w' :=
  have h1 := hb.below hg h.size
  ⟨B.next h.e h1, h.below.trans h1, Nat.le_trans h.size hb.size⟩
theorem Cur.first {B : Base} {w : World} (h : B.E w.heap.size w) : Cur B w.heap.size w w := ⟨h, Below.refl _ _, Nat.le_refl _⟩
theorem Cur.drew {B : Base} {N : Nat} {w0 w : World} (h : Cur B N w0 w) : Cur B N w0 w.drew := h.next (Below.refl _ _).drew
theorem Cur.drewN {B : Base} {N : Nat} {w0 w : World} (h : Cur B N w0 w) (n : Nat) : Cur B N w0 (w.drewN n) := h.next (below_drewN (Below.refl _ _) n)
theorem Cur.alloc {B : Base} {N : Nat} {w0 w : World} (h : Cur B N w0 w) (o : Obj) : Cur B N w0 (w.alloc o) := h.next ((Below.refl _ _).alloc (Nat.le_refl _) o)

theorem row_new (w : World) (l : List UInt8) : Row (w.alloc (.cells (l.map fun c => Value.int .u8 (c.toNat : Int)).toArray 5)) w.heap.size l := by
  intro i hi
  refine ⟨?_, ?_⟩
  · rw [cell_of_row _ _ _ _ 5 (0, 0) (heap_alloc_new w _)]
    simp [List.getD_eq_getElem?_getD, hi]
  · unfold World.frozen?
    rw [heap_alloc_new]
    simp
theorem conv_row {w : World} {g : Nat} {l : List UInt8} (h : Row w g l) (cap : Nat) : (convert 101 9 (.slice (some ⟨g, 0, none⟩) l.length cap)).run Try.prog w = .ok (.string (S l)) w := by
  have := run_convert_bytes_arg (P := Try.prog) w 101 5 Try.underlying101 Try.underlying5 g 0 l.length cap (l.map fun c => (c.toNat : Int)) (by simp) h.cells 9 Try.underlying9
  rw [this, strOfNums_S]

/-- The world behind '[]byte' of a constant text of three bytes. -/
def litW (w : World) (a b c : Int) : World := (w.alloc (.cells #[.int .u8 a, .int .u8 b, .int .u8 c] 5)).freeze ⟨w.heap.size, 3, none⟩ 1
theorem conv_lit (w : World) (a b c : Int) (n k : Nat) : (convert 101 101 (.slice (some ⟨w.heap.size, 0, none⟩) n k)).run Try.prog (w.alloc (.cells #[.int .u8 a, .int .u8 b, .int .u8 c] 5)) = .ok (.slice (some ⟨w.heap.size, 0, none⟩) n k) (litW w a b c) := by
  have hsh : (w.alloc (.cells #[.int .u8 a, .int .u8 b, .int .u8 c] 5)).shape? w.heap.size = some (5, 3) := by
    simp [World.shape?, World.alloc, -World.alloc_eq]
  simp [convert, run_underlying Try.underlying101, run_underlying Try.underlying5, markStringish, hsh, litW]
theorem lit_at (w : World) (a b c : Int) : (litW w a b c).heap[w.heap.size]? = some (.cells #[.int .u8 a, .int .u8 b, .int .u8 c] 5 (3, 4)) := by
  simp [litW, World.freeze, World.alloc, -World.alloc_eq]
  rw [Array.getElem_modify_self]
  simp
theorem lit_below (w : World) (a b c : Int) : Below w.heap.size w (litW w a b c) := by
  refine ⟨rfl, rfl, rfl, ?_, fun k hk => ?_⟩
  · simp [litW, World.freeze, World.alloc, -World.alloc_eq]
  · have h1 : w.heap.size ≠ k := by omega
    simp [litW, World.freeze, World.alloc, -World.alloc_eq, Array.getElem?_modify, Array.getElem?_push, h1, Ne.symm h1]
theorem lit_row (w : World) (a b c : UInt8) : Row (litW w a.toNat b.toNat c.toNat) w.heap.size [a, b, c] := by
  intro i hi
  have hi3 : i < 3 := by simpa using hi
  refine ⟨?_, ?_⟩
  · rw [cell_of_row _ _ _ _ 5 (3, 4) (lit_at w _ _ _)]
    match i, hi3 with
    | 0, _ => rfl
    | 1, _ => rfl
    | 2, _ => rfl
  · unfold World.frozen?
    rw [lit_at]
    simp
    omega
theorem lit_size (w : World) (a b c : Int) : w.heap.size < (litW w a b c).heap.size := by
  simp [litW, World.freeze, World.alloc, -World.alloc_eq]

end Go.Proofs.Ytmlopacekoghkaa.Ic
