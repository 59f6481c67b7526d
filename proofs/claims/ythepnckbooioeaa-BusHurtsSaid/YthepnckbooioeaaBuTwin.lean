/-
  What the law BusHurts does to a bus, plainly; a piece that lies in a block. Conditions: none.
-/
import Derived.Test.YthepnckbooioeaaBuDo
namespace Go.Proofs.Ythepnckbooioeaa.Bus
open Go.RowKit

def other : ByteArray := ⟨#[111, 116, 104, 101, 114]⟩
/-- One piece, another one, and the first one's twin. -/
def three (P Q : Pc) : Bs := ⟨[P, Q, P], false⟩
theorem hurts_facts (s : ByteArray) (h2 : 2 ≤ s.size) (h40 : s.size ≤ 40) (at_ : Int) (pat : BitVec 16) :
    sendE Bs.zero 3 s = 0 ∧ sendE (sendX Bs.zero 3 s) 4 other = 0 ∧ hurE (sendX (sendX Bs.zero 3 s) 4 other) 0 = 0 ∧
    shownP (hurX (sendX (sendX Bs.zero 3 s) 4 other) 0 at_ pat) 0 = hurP (sentP 3 s) at_ pat ∧ twiceE (hurX (sendX (sendX Bs.zero 3 s) 4 other) 0 at_ pat) 0 = 0 ∧
    twiceX (hurX (sendX (sendX Bs.zero 3 s) 4 other) 0 at_ pat) 0 = three (hurP (sentP 3 s) at_ pat) (sentP 4 other) := by
  have hs : sendB 3 s = true := by simp [sendB]; omega
  have ho : sendB 4 other = true := by decide
  have e1 : sendX Bs.zero 3 s = ⟨[sentP 3 s], false⟩ := by unfold sendX; rw [if_pos hs]; rfl
  have e2 : sendX (sendX Bs.zero 3 s) 4 other = ⟨[sentP 3 s, sentP 4 other], false⟩ := by rw [e1]; unfold sendX; rw [if_pos ho]; rfl
  have e3 : hurX ⟨[sentP 3 s, sentP 4 other], false⟩ 0 at_ pat = ⟨[hurP (sentP 3 s) at_ pat, sentP 4 other], false⟩ := rfl
  refine ⟨?_, ?_, ?_, ?_, ?_, ?_⟩
  · unfold sendE; rw [if_pos hs]; rfl
  · rw [e1]; unfold sendE; rw [if_pos ho]; rfl
  · rw [e2]; rfl
  · rw [e2, e3]; rfl
  · rw [e2, e3]; rfl
  · rw [e2, e3]; rfl
theorem three_show (P Q : Pc) : shownP (three P Q) 0 = P ∧ shownP (three P Q) 2 = P ∧ shownP (three P Q) 1 = Q ∧ thereB (three P Q) 0 = true ∧ thereB (three P Q) 1 = true ∧ thereB (three P Q) 2 = true := ⟨rfl, rfl, rfl, rfl, rfl, rfl⟩
theorem three_hurt (P Q : Pc) (h : P.hurt = true) (n : Int) : cutE (three P Q) 0 n = 11 ∧ cutE (three P Q) 2 n = 11 ∧ cutX (three P Q) 0 n = three P Q ∧ cutX (three P Q) 2 n = three P Q ∧ hurE (three P Q) 0 = 11 ∧ hurE (three P Q) 2 = 11 := by
  have p0 : pieceOf (three P Q) 0 = P := rfl
  have p2 : pieceOf (three P Q) 2 = P := rfl
  have t0 : thereB (three P Q) 0 = true := rfl
  have t2 : thereB (three P Q) 2 = true := rfl
  refine ⟨?_, ?_, ?_, ?_, ?_, ?_⟩
  · unfold cutE; rw [if_pos t0]; show (if (pieceOf (three P Q) 0).hurt = true then _ else _) = _; rw [p0, if_pos h]
  · unfold cutE; rw [if_pos t2]; show (if (pieceOf (three P Q) 2).hurt = true then _ else _) = _; rw [p2, if_pos h]
  · unfold cutX; show (if (_ && (!(pieceOf (three P Q) 0).hurt && _)) = true then _ else _) = _; rw [p0, h]; simp
  · unfold cutX; show (if (_ && (!(pieceOf (three P Q) 2).hurt && _)) = true then _ else _) = _; rw [p2, h]; simp
  · unfold hurE; rw [if_pos t0]; show (if (pieceOf (three P Q) 0).hurt = true then _ else _) = _; rw [p0, if_pos h]
  · unfold hurE; rw [if_pos t2]; show (if (pieceOf (three P Q) 2).hurt = true then _ else _) = _; rw [p2, if_pos h]
theorem three_cut0 (P Q : Pc) (h : P.hurt = false) (n : Nat) (h1 : 1 ≤ n) (h2 : n < P.b.size) : cutE (three P Q) 0 n = 0 ∧ cutX (three P Q) 0 n = ⟨[cutP P n, Q, P], false⟩ := by
  have hc : cutOk P n = true := by simp [cutOk]; omega
  have p0 : pieceOf (three P Q) 0 = P := rfl
  have t0 : thereB (three P Q) 0 = true := rfl
  constructor
  · unfold cutE; rw [if_pos t0]; show (if (pieceOf (three P Q) 0).hurt = true then _ else if cutOk (pieceOf (three P Q) 0) n = true then _ else _) = _; rw [p0, if_neg (by simp [h]), if_pos hc]
  · unfold cutX; show (if (thereB (three P Q) 0 && (!(pieceOf (three P Q) 0).hurt && cutOk (pieceOf (three P Q) 0) n)) = true then putX (three P Q) 0 (cutP (pieceOf (three P Q) 0) n) else _) = _; rw [p0, h, hc, t0]; rfl
theorem three_cut2 (P Q : Pc) (h : P.hurt = false) (n : Nat) (h1 : 1 ≤ n) (h2 : n < P.b.size) : cutE (three P Q) 2 n = 0 ∧ cutX (three P Q) 2 n = ⟨[P, Q, cutP P n], false⟩ := by
  have hc : cutOk P n = true := by simp [cutOk]; omega
  have p0 : pieceOf (three P Q) 2 = P := rfl
  have t0 : thereB (three P Q) 2 = true := rfl
  constructor
  · unfold cutE; rw [if_pos t0]; show (if (pieceOf (three P Q) 2).hurt = true then _ else if cutOk (pieceOf (three P Q) 2) n = true then _ else _) = _; rw [p0, if_neg (by simp [h]), if_pos hc]
  · unfold cutX; show (if (thereB (three P Q) 2 && (!(pieceOf (three P Q) 2).hurt && cutOk (pieceOf (three P Q) 2) n)) = true then putX (three P Q) 2 (cutP (pieceOf (three P Q) 2) n) else _) = _; rw [p0, h, hc, t0]; rfl
theorem other_show0 (A Q P : Pc) : shownP ⟨[A, Q, P], false⟩ 0 = A ∧ shownP ⟨[A, Q, P], false⟩ 2 = P ∧ shownP ⟨[A, Q, P], false⟩ 1 = Q ∧ thereB ⟨[A, Q, P], false⟩ 0 = true ∧ thereB ⟨[A, Q, P], false⟩ 1 = true ∧ thereB ⟨[A, Q, P], false⟩ 2 = true := ⟨rfl, rfl, rfl, rfl, rfl, rfl⟩
theorem cut_again0 (A Q P : Pc) (h : A.hurt = true) (n : Int) : cutE ⟨[A, Q, P], false⟩ 0 n = 11 := by
  show (if A.hurt = true then _ else _) = _; rw [if_pos h]
theorem cut_again2 (A Q P : Pc) (h : P.hurt = true) (n : Int) : cutE ⟨[A, Q, P], false⟩ 2 n = 11 := by
  show (if P.hurt = true then _ else _) = _; rw [if_pos h]
theorem cutP_eq (P : Pc) (n : Nat) : cutP P n = ⟨P.b.extract 0 (P.b.size - n), P.src, P.to, true⟩ := rfl

theorem BoxP.of {w w' : World} {t : Nat} {p : Pc} (h : BoxP w t p) (hb : w'.heap[t]? = w.heap[t]?) : BoxP w' t p :=
  ⟨(World.cell?_of_block (a := ⟨t, 0, none⟩) hb).trans h.1, (World.cell?_of_block (a := ⟨t, 1, none⟩) hb).trans h.2.1, (World.cell?_of_block (a := ⟨t, 2, none⟩) hb).trans h.2.2.1, (World.cell?_of_block (a := ⟨t, 3, none⟩) hb).trans h.2.2.2⟩
theorem BoxP.lt {w : World} {t : Nat} {p : Pc} (h : BoxP w t p) : t < w.heap.size := World.block_lt_of_cell? w ⟨t, 0, none⟩ h.1
theorem BoxP.below {w w' : World} {t : Nat} {p : Pc} (h : BoxP w t p) (hb : Below w.heap.size w w') : BoxP w' t p := h.of (hb.block t h.lt)
theorem BoxP.only {w w' : World} {t : Nat} {ms : List Nat} {p : Pc} (h : BoxP w t p) (hb : OnlyL ms w w') (h1 : t ∉ ms) : BoxP w' t p := h.of (hb.block t h.lt h1)
theorem notin_next {t : Nat} {w : World} {ms ns : List Nat} (h : t ∉ ms) (hlt : t < w.heap.size) (hn : ∀ j ∈ ns, j ∈ ms ∨ w.heap.size ≤ j) : t ∉ ns := fun hin => (hn t hin).elim h (fun hle => absurd hle (by omega))
theorem notin_new {F : Face} {w : World} {p : Nat} {ms : List Nat} {x : Bs} (h : F.At w p ms x) {t : Nat} (ht : w.heap.size ≤ t) : t ∉ ms := fun hin => by have := F.lt h t hin; omega
/-- A piece put into a block of its own. -/
theorem box_below (w : World) (p : Pc) (k : TypeId) : Below w.heap.size w (w.alloc (.cells #[.string p.b, .int .i64 p.src, .int .u32 (p.to.toNat : Int), .bool p.hurt] k)) := alloc_below w _

end Go.Proofs.Ythepnckbooioeaa.Bus
