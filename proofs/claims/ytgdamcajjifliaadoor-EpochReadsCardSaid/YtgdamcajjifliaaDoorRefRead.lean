/-
  The reference's scan of a text, walked. Conditions: a short text.
-/
import Derived.Test.YtgdamcajjifliaaDoorReadMath
import Derived.Test.YtgdamcajjifliaaDoorAwake
import Derived.Maps.AppendAt
import Derived.Laws.OwnMore
import Derived.OwnWalk
namespace Go.Proofs.YtgdamcajjifliaaDoor
open Go.RowKit

theorem Tryd.info3 : (Tryd.prog.info? 3).map (fun i => (i.zero, i.size, i.bytes)) = some (some (.int .i64 0), 1, 8) := by kernel_rfl

/-- Numbers as cells. -/
def ivals (l : List Nat) : List Value := l.map fun n : Nat => Value.int .i64 (n : Int)
theorem ivals_len (l : List Nat) : (ivals l).length = l.length := by simp [ivals]
theorem ivals_app (a b : List Nat) : ivals (a ++ b) = ivals a ++ ivals b := by simp [ivals]

theorem info_parts {P : Program} {t : TypeId} {z : Option Value} {a b : Nat} (h : (P.info? t).map (fun i => (i.zero, i.size, i.bytes)) = some (z, a, b)) :
    ∃ i, P.info? t = some i ∧ i.zero = z ∧ i.size = a ∧ i.bytes = b := by
  cases h2 : P.info? t with
  | none => simp [h2] at h
  | some i =>
    simp only [h2, Option.map_some, Option.some.injEq, Prod.mk.injEq] at h
    exact ⟨i, rfl, h.1, h.2.1, h.2.2⟩

theorem Tri.grown {W W' : World} {b : Nat} {x y z : Value} {row : Option Nat} (h : Tri W b x y z) (hg : W.grownBy W' row) (hne : some b ≠ row) : Tri W' b x y z := by
  have hl := h.lt
  have hb := hg.block b hl hne
  obtain ⟨⟨h1, h2, h3⟩, h4, h5, h6⟩ := h
  exact ⟨⟨(World.cell?_of_block (w := W) (a := ⟨b, 0, none⟩) hb).trans h1, (World.cell?_of_block (w := W) (a := ⟨b, 1, none⟩) hb).trans h2, (World.cell?_of_block (w := W) (a := ⟨b, 2, none⟩) hb).trans h3⟩,
    (World.frozen?_of_block (w := W) (a := ⟨b, 0, none⟩) hb).trans h4, (World.frozen?_of_block (w := W) (a := ⟨b, 1, none⟩) hb).trans h5, (World.frozen?_of_block (w := W) (a := ⟨b, 2, none⟩) hb).trans h6⟩

/-- What the scan's round stands on: the numbers ahead of the last one, the last one, and the row that holds them. -/
def Scan (N : Nat) (w wr : World) (s : ByteArray) (k : Nat) (p : List Nat) (z g cap : Nat) : Prop :=
  p.length ≤ k ∧ wr.ownsRow (N + 1) 3 1 (.slice (some ⟨g, 0, none⟩) (p.length + 1) cap) (p.length + 1) (ivals (p ++ [z])) ∧
    scan ([], 0) s.data.toList = scan (p, z) (s.data.toList.drop k) ∧ Tri wr N (.int .u16 0) (.int .u8 0) (.int .u16 0) ∧ Below N w wr ∧ N < g

theorem Scan.start (w : World) (s : ByteArray) :
    Scan w.heap.size w ((w.alloc (.cells #[.int .u16 0, .int .u8 0, .int .u16 0] 24)).alloc (.cells #[.int .i64 0] 3)) s 0 [] 0 (w.heap.size + 1) 1 := by
  have hT := (tri_mk w (.int .u16 0) (.int .u8 0) (.int .u16 0) 24).new (.cells #[.int .i64 0] 3)
  have hO := World.ownsRow_lit (base := w.heap.size + 1) (e := 3) (size := 1) (w.alloc (.cells #[.int .u16 0, .int .u8 0, .int .u16 0] 24)) #[.int .i64 0] 1 (by simp) (by unfold maxLen; omega) rfl
  have e : (w.alloc (.cells #[.int .u16 0, .int .u8 0, .int .u16 0] 24)).heap.size = w.heap.size + 1 := by simp
  rw [e] at hO
  exact ⟨Nat.le_refl _, hO, rfl, hT, ((Below.refl _ _).alloc (Nat.le_refl _) _).alloc (by simp) _, Nat.lt_succ_self _⟩

/-- The last number's cell. -/
theorem Scan.last {N : Nat} {w wr : World} {s : ByteArray} {k : Nat} {p : List Nat} {z g cap : Nat} (h : Scan N w wr s k p z g cap) :
    wr.cell? ⟨g, p.length, none⟩ = some (.int .i64 (z : Int)) ∧ wr.frozen? ⟨g, p.length, none⟩ = false := by
  obtain ⟨_, h2, _⟩ := h
  refine ⟨?_, h2.frozenAt _⟩
  rw [h2.cellAt p.length (by omega)]
  simp [ivals]

/-- Nothing is done with a byte. -/
theorem Scan.skip {N : Nat} {w wr : World} {s : ByteArray} {k : Nat} {p : List Nat} {z g cap : Nat} (h : Scan N w wr s k p z g cap) (hk : k < s.size) (he : scan1 (p, z) s[k] = (p, z)) : Scan N w wr s (k + 1) p z g cap := by
  obtain ⟨h1, h2, h3, h4⟩ := h
  refine ⟨by omega, h2, ?_, h4⟩
  rw [h3, scan_drop _ s k hk, he]

/-- A digit is taken in. -/
theorem Scan.digit {N : Nat} {w wr : World} {s : ByteArray} {k : Nat} {p : List Nat} {z g cap y : Nat} (h : Scan N w wr s k p z g cap) (hk : k < s.size) (he : scan1 (p, z) s[k] = (p, y)) :
    Scan N w (wr.setCell ⟨g, p.length, none⟩ (.int .i64 (y : Int))) s (k + 1) p y g cap := by
  obtain ⟨h1, h2, h3, h4, h5, h6⟩ := h
  obtain ⟨k1, k2⟩ := h2.stored p.length (.int .i64 (y : Int))
  refine ⟨by omega, ?_, ?_, h4.grown k2 (by simp; omega), h5.setCell (Nat.le_of_lt h6) _, h6⟩
  · have e : (ivals (p ++ [z])).set p.length (.int .i64 (y : Int)) = ivals (p ++ [y]) := by
      simp [ivals, List.set_append_right]
    rw [e] at k1
    exact k1
  · rw [h3, scan_drop _ s k hk, he]

/-- A point begins a number. -/
theorem Scan.dot {N : Nat} {w wr w1 : World} {s : ByteArray} {k : Nat} {p : List Nat} {z g cap g1 cap1 : Nat} (h : Scan N w wr s k p z g cap) (hk : k < s.size) (he : scan1 (p, z) s[k] = (p ++ [z], 0)) (hN : N < wr.heap.size)
    (hown : w1.ownsRow (N + 1) 3 1 (.slice (some ⟨g1, 0, none⟩) (p.length + 1 + 1) cap1) (p.length + 1 + 1) (ivals (p ++ [z]) ++ [.int .i64 0]))
    (hg : (wr.alloc (.cells #[.int .i64 0] 3)).grownBy w1 (some g)) (hg1 : N + 1 ≤ g1) : Scan N w w1 s (k + 1) (p ++ [z]) 0 g1 cap1 := by
  obtain ⟨h1, h2, h3, h4, h5, h6⟩ := h
  refine ⟨by simp; omega, ?_, ?_, (h4.new _).grown hg (by simp; omega), (h5.alloc (Nat.le_of_lt hN) _).grown hg (by simp; omega) (fun k hk => by injection hk with hk; omega), hg1⟩
  · have e : ivals (p ++ [z]) ++ [.int .i64 0] = ivals (p ++ [z] ++ [0]) := by simp [ivals]
    rw [e] at hown
    simpa using hown
  · rw [h3, scan_drop _ s k hk, he]

end Go.Proofs.YtgdamcajjifliaaDoor
