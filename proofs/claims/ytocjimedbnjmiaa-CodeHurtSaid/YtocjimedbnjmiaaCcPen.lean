/-
  The code's writeInstr: an instruction that may be is written behind what the pen has. Conditions: rows of up to 800000 bytes.
-/
import Derived.Test.YtocjimedbnjmiaaCoMath
import Derived.Test.YtocjimedbnjmiaaIlLies
import Derived.Test.YtocjimedbnjmiaaOctPens
import Derived.Deep.RegionHeld3
namespace Go.Proofs.Ytocjimedbnjmiaa.Co
open Go.RowKit
open Go.Proofs.Ytocjimedbnjmiaa.Il hiding S S_size S_app S_list S_inj
open Go.Proofs.Ytocjimedbnjmiaa.Ic Go.Proofs.Ytocjimedbnjmiaa.Oct Sums

/-- A world that is written out is forgotten, but for a fact. -/
theorem world_cut {G : World → Prop} {w : World} (F : World → Prop) (h : F w) (k : ∀ W, F W → G W) : G w := k w h
def cellsA (i : In) : Array Value := #[.int .i64 i.op, .int .i64 i.kd, .int .i64 i.ar, .int .i64 i.pl, .int .i64 i.n]
/-- Block b is an instruction of the call's own. -/
def Mine (w : World) (b : Nat) (i : In) : Prop := w.heap[b]? = some (.cells (cellsA i) 45 (0, 0))
theorem Mine.cells {w : World} {b : Nat} {i : In} (h : Mine w b i) : w.cell? ⟨b, 0, none⟩ = some (.int .i64 i.op) ∧ w.cell? ⟨b, 1, none⟩ = some (.int .i64 i.kd) ∧ w.cell? ⟨b, 2, none⟩ = some (.int .i64 i.ar) ∧ w.cell? ⟨b, 3, none⟩ = some (.int .i64 i.pl) ∧ w.cell? ⟨b, 4, none⟩ = some (.int .i64 i.n) :=
  ⟨cell_of_row _ _ 0 _ 45 (0, 0) h, cell_of_row _ _ 1 _ 45 (0, 0) h, cell_of_row _ _ 2 _ 45 (0, 0) h, cell_of_row _ _ 3 _ 45 (0, 0) h, cell_of_row _ _ 4 _ 45 (0, 0) h⟩
theorem Mine.new (w : World) (i : In) : Mine (w.alloc (.cells #[.int .i64 i.op, .int .i64 i.kd, .int .i64 i.ar, .int .i64 i.pl, .int .i64 i.n] 45)) w.heap.size i := heap_alloc_new w _
theorem Mine.lt {w : World} {b : Nat} {i : In} (h : Mine w b i) : b < w.heap.size := (Array.getElem?_eq_some_iff.1 h).1
/-- How far writeInstr has come. -/
structure Pn (N : Nat) (w0 w : World) (p : Nat) (acc : Bs) (b : Nat) (i : In) : Prop where
  pen : PenAt N w p acc
  below : Below N w0 w
  hN : N ≤ w.heap.size
  mine : Mine w b i
  ne : b ≠ p
section
variable {N p b : Nat} {w0 w w' : World} {acc m : Bs} {i : In} {e : Ending}
theorem Pn.next (h : Pn N w0 w p acc b i) (h1 : PenAt N w' p (acc ++ m)) (h2 : Below N w w') (h3 : Beside w w' p) : Pn N w0 w' p (acc ++ m) b i :=
  ⟨h1, h.below.trans h2, Nat.le_trans h.hN h2.size, h3 b _ _ _ h.ne (by decide) h.mine, h.ne⟩
theorem Pn.drew (h : Pn N w0 w p acc b i) : Pn N w0 w.drew p acc b i := ⟨h.pen, h.below.drew, h.hN, h.mine, h.ne⟩
theorem Pn.new (hp : PenAt N w p acc) (hN : N ≤ w.heap.size) (i : In) : Pn N w (w.alloc (.cells #[.int .i64 i.op, .int .i64 i.kd, .int .i64 i.ar, .int .i64 i.pl, .int .i64 i.n] 45)) p acc w.heap.size i :=
  ⟨hp.below ((Below.refl _ _).alloc (Nat.le_refl _) _), (Below.refl _ _).alloc hN _, by simp; omega, Mine.new w i, by have := hp.lt; omega⟩
end
theorem byte_u8 (z : Int) (h0 : 0 ≤ z) (h1 : z < 256) : IntKind.u8.wrap z = z ∧ z = ((z.toNat % 256 : Nat) : Int) ∧ be z.toNat 1 = [UInt8.ofNat z.toNat] := ⟨by rw [IntKind.wrap_u8]; omega, by omega, by show [UInt8.ofNat (z.toNat / 256 ^ 0)] = _; simp⟩

set_option maxRecDepth 100000 in
set_option maxHeartbeats 4000000 in
theorem cWriteIns_any (N p : Nat) (acc : Bs) (i : In) (h : rightI i = true) (w : World) (hp : PenAt N w p acc) (hN : N ≤ w.heap.size) (hl : acc.length ≤ 800000) :
    Calls Try.prog 33 #[.pointer (some ⟨p, 0, none⟩), insV i] w fun e w' => e = .returned (.tuple #[]) ∧ PenAt N w' p (acc ++ insB i) ∧ Below N w w' ∧ N ≤ w'.heap.size := by
  obtain ⟨h1, h2, h3, h4, h5, h6, h7, h8, h9, h10⟩ := right_bd h
  have HP := Lib.hid (Pn.new hp hN i)
  obtain ⟨o1, o2, o3⟩ := byte_u8 i.op h1 h2
  obtain ⟨k1, k2, k3⟩ := byte_u8 i.kd h3 h4
  obtain ⟨a1, a2, a3⟩ := byte_u8 i.ar h5 h6
  obtain ⟨p1, p2, p3⟩ := byte_u8 i.pl h7 h8
  have n1 : IntKind.u32.wrap i.n = ((i.n % 4294967296).toNat : Nat) := by rw [IntKind.wrap_u32]; omega
  have n2 : (((i.n % 4294967296).toNat : Nat) : Int) ≤ 4294967295 := by omega
  have HE : Hid (insB i = be i.op.toNat 1 ++ be i.kd.toNat 1 ++ be i.ar.toNat 1 ++ be i.pl.toNat 1 ++ be (i.n % 4294967296).toNat 4) := by
    refine Lib.hid ?_
    rw [o3, k3, a3, p3]
    rfl
  generalize (i.n % 4294967296).toNat = m at *
  have HO := Lib.hid (⟨o2, k2, a2, p2, n2⟩ : _ ∧ _ ∧ _ ∧ _ ∧ _)
  have HL := Lib.hid hl
  obtain ⟨op, kd, ar, pl, n⟩ := i
  dsimp only at *
  clear h h1 h2 h3 h4 h5 h6 h7 h8 h9 h10 o2 k2 a2 p2 n2 o3 k3 a3 p3 hl hp hN
  show Calls Try.prog 33 #[.pointer (some ⟨p, 0, none⟩), .agg #[.int .i64 op, .int .i64 kd, .int .i64 ar, .int .i64 pl, .int .i64 n]] w _
  go_enter Try.func33, Try.ntmps33
  go_wp2
  refine world_cut (G := fun W => Code.wp _ _ _ _ W) (fun W => Pn N w W p acc w.heap.size ⟨op, kd, ar, pl, n⟩) (by exact HP.out) ?_
  rintro W hP0
  have hP1 := hP0.drew
  clear hP0 HP
  generalize w.heap.size = b at *
  have hl1 : acc.length ≤ 900000 := by have := HL.out; omega
  have hl2 : (acc ++ be op.toNat 1).length ≤ 900000 := by have := HL.out; simp only [List.length_append, be_length]; omega
  have hl3 : (acc ++ be op.toNat 1 ++ be kd.toNat 1).length ≤ 900000 := by have := HL.out; simp only [List.length_append, be_length]; omega
  have hl4 : (acc ++ be op.toNat 1 ++ be kd.toNat 1 ++ be ar.toNat 1).length ≤ 900000 := by have := HL.out; simp only [List.length_append, be_length]; omega
  have hl5 : (acc ++ be op.toNat 1 ++ be kd.toNat 1 ++ be ar.toNat 1 ++ be pl.toNat 1).length ≤ 900000 := by have := HL.out; simp only [List.length_append, be_length]; omega
  have HL2 := Lib.hid (⟨hl1, hl2, hl3, hl4, hl5⟩ : _ ∧ _ ∧ _ ∧ _ ∧ _)
  clear hl1 hl2 hl3 hl4 hl5
  go_region_held3 (fun W' => W'.cell? ⟨b, 0, none⟩ = some (.int .i64 op) ∧ W'.cell? ⟨b, 1, none⟩ = some (.int .i64 kd) ∧ W'.cell? ⟨b, 2, none⟩ = some (.int .i64 ar) ∧ W'.cell? ⟨b, 3, none⟩ = some (.int .i64 pl) ∧ W'.cell? ⟨b, 4, none⟩ = some (.int .i64 n)) (exact hP1.mine.cells)
    ((first
      | (go_at_call 32; (first
          | (with_reducible refine (byte_any N p acc _ op.toNat HO.out.1 _ hP1.pen hP1.hN HL2.out.1).mono ?_)
          | (with_reducible refine (byte_any N p _ _ kd.toNat HO.out.2.1 _ hP1.pen hP1.hN HL2.out.2.1).mono ?_)
          | (with_reducible refine (byte_any N p _ _ ar.toNat HO.out.2.2.1 _ hP1.pen hP1.hN HL2.out.2.2.1).mono ?_)
          | (with_reducible refine (byte_any N p _ _ pl.toNat HO.out.2.2.2.1 _ hP1.pen hP1.hN HL2.out.2.2.2.1).mono ?_)); rintro e w1 ⟨rfl, x1, x2, x3⟩; have hP2 := Pn.next hP1 x1 x2 x3; clear hP1 x1 x2 x3; have hP1 := hP2; clear hP2)
      | (go_at_call 51; (with_reducible refine (four_any N p _ _ HO.out.2.2.2.2 _ hP1.pen hP1.hN HL2.out.2.2.2.2).mono ?_); rintro e w1 ⟨rfl, x1, x2, x3⟩; have hP2 := Pn.next hP1 x1 x2 x3; clear hP1 x1 x2 x3; have hP1 := hP2; clear hP2)))
  go_wp2
  go_end0
  refine ⟨rfl, ?_, hP1.below, hP1.hN⟩
  rw [HE.out]
  simpa only [List.append_assoc] using hP1.pen

end Go.Proofs.Ytocjimedbnjmiaa.Co
