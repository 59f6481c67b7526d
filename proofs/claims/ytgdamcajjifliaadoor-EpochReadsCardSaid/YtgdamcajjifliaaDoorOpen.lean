/-
  Arguments that are epochs, marks, and pairs, opened. Conditions: none.
-/
import Derived.Test.YtgdamcajjifliaaDoorLaid
import Derived.ChangeSame
import Derived.ProofKit
import Derived.OpenShut
import Derived.ShutString
import Derived.ChangeOld
import Derived.Carry
namespace Go.Proofs.YtgdamcajjifliaaDoor
open Go.RowKit Go.ChangeShapes Go.WideShapes

theorem u16_nat {z : Int} (h : (Lit.int .u16 z).wf = true) : ∃ n : Nat, z = n ∧ n ≤ 65535 := by
  simp [Lit.wf, IntKind.min, IntKind.max, IntKind.signed, IntKind.bits] at h
  exact ⟨z.toNat, by omega, by omega⟩
theorem u8_nat {z : Int} (h : (Lit.int .u8 z).wf = true) : ∃ n : Nat, z = n ∧ n ≤ 255 := by
  simp [Lit.wf, IntKind.min, IntKind.max, IntKind.signed, IntKind.bits] at h
  exact ⟨z.toNat, by omega, by omega⟩

theorem Tryd.c24 : Tryd.prog.cellsOf 24 = 3 := by kernel_rfl
theorem Tryd.c26 : Tryd.prog.cellsOf 26 = 4 := by kernel_rfl
theorem Tryd.c22 : Tryd.prog.cellsOf 22 = 1 := by kernel_rfl
theorem Tryd.c5 : Tryd.prog.cellsOf 5 = 1 := by kernel_rfl
theorem Tryd.c3 : Tryd.prog.cellsOf 3 = 1 := by kernel_rfl
theorem Tryd.c36 : Tryd.prog.cellsOf 36 = 2 := by kernel_rfl
theorem Tryd.c42 : Tryd.prog.cellsOf 42 = 6 := by kernel_rfl

section
variable {H : Type} {enc : TypeId × Value → H} {w : World} {base : Nat} {spare : Nat → Bool} {held : Bool}

theorem some_of_lt {α : Type} {l : List α} {i : Nat} (h : i < l.length) : ∃ x, l[i]? = some x := ⟨l[i], List.getElem?_eq_getElem h⟩

theorem cells_epoch {fuel : Nat} {cs : List Value} {x : DataW H × List MemPlace} (h : DataW.trod enc Tryd.prog w base spare held fuel 24 cs = some x) :
    ∃ e : Ep, e.fit ∧ cs = [.int .u16 e.c, .int .u8 e.a, .int .u16 e.i] := by
  obtain ⟨ys, n, rfl, hx, hlen, hyl, hf⟩ := DataW.trod_struct Tryd.underlying24 h
  rw [Tryd.c24] at hlen
  obtain ⟨y0, e0⟩ := some_of_lt (l := ys) (i := 0) (by rw [hyl]; decide)
  obtain ⟨y1, e1⟩ := some_of_lt (l := ys) (i := 1) (by rw [hyl]; decide)
  obtain ⟨y2, e2⟩ := some_of_lt (l := ys) (i := 2) (by rw [hyl]; decide)
  obtain ⟨z0, h0, -, w0⟩ := DataW.trod_int Tryd.underlying22 ((hf 0 _ rfl).trans e0)
  obtain ⟨z1, h1, -, w1⟩ := DataW.trod_int Tryd.underlying5 ((hf 1 _ rfl).trans e1)
  obtain ⟨z2, h2, -, w2⟩ := DataW.trod_int Tryd.underlying22 ((hf 2 _ rfl).trans e2)
  have k0 : (cs.drop 0).take (Tryd.prog.cellsOf 22) = _ := h0
  have k1 : (cs.drop 1).take (Tryd.prog.cellsOf 5) = _ := h1
  have k2 : (cs.drop 2).take (Tryd.prog.cellsOf 22) = _ := h2
  rw [Tryd.c22] at k0 k2
  rw [Tryd.c5] at k1
  obtain ⟨c, rfl, hc⟩ := u16_nat w0
  obtain ⟨a, rfl, ha⟩ := u8_nat w1
  obtain ⟨i, rfl, hi⟩ := u16_nat w2
  refine ⟨⟨c, a, i⟩, ⟨hc, ha, hi⟩, ?_⟩
  match cs, hlen with
  | [v0, v1, v2], _ =>
    simp at k0 k1 k2
    rw [k0, k1, k2]

theorem cells_mark {fuel : Nat} {cs : List Value} {x : DataW H × List MemPlace} (h : DataW.trod enc Tryd.prog w base spare held fuel 26 cs = some x) :
    ∃ (e : Ep) (n : Nat), e.fit ∧ n ≤ 65535 ∧ cs = [.int .u16 e.c, .int .u8 e.a, .int .u16 e.i, .int .u16 n] := by
  obtain ⟨ys, n, rfl, hx, hlen, hyl, hf⟩ := DataW.trod_struct Tryd.underlying26 h
  rw [Tryd.c26] at hlen
  obtain ⟨y0, e0⟩ := some_of_lt (l := ys) (i := 0) (by rw [hyl]; decide)
  obtain ⟨y1, e1⟩ := some_of_lt (l := ys) (i := 1) (by rw [hyl]; decide)
  obtain ⟨e, he, h0⟩ := cells_epoch ((hf 0 _ rfl).trans e0)
  obtain ⟨z1, h1, -, w1⟩ := DataW.trod_int Tryd.underlying22 ((hf 1 _ rfl).trans e1)
  have k0 : (cs.drop 0).take (Tryd.prog.cellsOf 24) = _ := h0
  have k1 : (cs.drop 3).take (Tryd.prog.cellsOf 22) = _ := h1
  rw [Tryd.c24] at k0
  rw [Tryd.c22] at k1
  obtain ⟨c, rfl, hc⟩ := u16_nat w1
  refine ⟨e, c, he, hc, ?_⟩
  match cs, hlen with
  | [v0, v1, v2, v3], _ =>
    simp at k0 k1
    obtain ⟨r0, r1, r2⟩ := k0
    rw [r0, r1, r2, k1]

theorem cells_pair {fuel : Nat} {cs : List Value} {x : DataW H × List MemPlace} (h : DataW.trod enc Tryd.prog w base spare held fuel 36 cs = some x) :
    ∃ a b : Int, (Lit.int .i64 a).wf = true ∧ (Lit.int .i64 b).wf = true ∧ cs = [.int .i64 a, .int .i64 b] := by
  obtain ⟨ys, n, rfl, hx, hlen, hyl, hf⟩ := DataW.trod_array Tryd.underlying36 h
  rw [Tryd.c36] at hlen
  obtain ⟨y0, e0⟩ := some_of_lt (l := ys) (i := 0) (by rw [hyl]; decide)
  obtain ⟨y1, e1⟩ := some_of_lt (l := ys) (i := 1) (by rw [hyl]; decide)
  obtain ⟨z0, h0, -, w0⟩ := DataW.trod_int Tryd.underlying3 ((hf 0 (by decide)).trans e0)
  obtain ⟨z1, h1, -, w1⟩ := DataW.trod_int Tryd.underlying3 ((hf 1 (by decide)).trans e1)
  rw [Tryd.c3] at h0 h1
  refine ⟨z0, z1, w0, w1, ?_⟩
  match cs, hlen with
  | [v0, v1], _ =>
    simp at h0 h1
    rw [h0, h1]

theorem cells_two {fuel : Nat} {cs : List Value} {x : DataW H × List MemPlace} (h : DataW.trod enc Tryd.prog w base spare held fuel 42 cs = some x) :
    ∃ e f : Ep, e.fit ∧ f.fit ∧ cs = [.int .u16 e.c, .int .u8 e.a, .int .u16 e.i, .int .u16 f.c, .int .u8 f.a, .int .u16 f.i] := by
  obtain ⟨ys, n, rfl, hx, hlen, hyl, hf⟩ := DataW.trod_array Tryd.underlying42 h
  rw [Tryd.c42] at hlen
  obtain ⟨y0, e0⟩ := some_of_lt (l := ys) (i := 0) (by rw [hyl]; decide)
  obtain ⟨y1, e1⟩ := some_of_lt (l := ys) (i := 1) (by rw [hyl]; decide)
  obtain ⟨e, he, h0⟩ := cells_epoch ((hf 0 (by decide)).trans e0)
  obtain ⟨f, hf', h1⟩ := cells_epoch ((hf 1 (by decide)).trans e1)
  rw [Tryd.c24] at h0 h1
  refine ⟨e, f, he, hf', ?_⟩
  match cs, hlen with
  | [v0, v1, v2, v3, v4, v5], _ =>
    simp at h0 h1
    obtain ⟨r0, r1, r2⟩ := h0
    obtain ⟨r3, r4, r5⟩ := h1
    rw [r0, r1, r2, r3, r4, r5]
end

/-- A value that is a row of cells. -/
theorem agg_of {cs : Array Value} {l : List Value} (h : (Value.agg cs).cells.toList = l) : Value.agg cs = .agg l.toArray := by
  have h' : cs.toList = l := h
  subst h'
  rfl

section
variable {H : Type} {enc : TypeId × Value → H} {w : World} {base : Nat} {spare : Nat → Bool} {held : Bool} {v : Value} {d : DataW H} {p : List MemPlace}
theorem open_epoch {b : Nat} (hv : Value.okWide Tryd.prog w .any b 24 v) (h : DataW.Trod enc Tryd.prog w base spare held 24 v d p) :
    ∃ e : Ep, e.fit ∧ v = .agg #[.int .u16 e.c, .int .u8 e.a, .int .u16 e.i] := by
  unfold Value.okWide at hv
  rw [Tryd.underlying24] at hv
  obtain ⟨cs, rfl, -, -⟩ := hv
  obtain ⟨n, h⟩ := h
  obtain ⟨e, he, hc⟩ := cells_epoch h
  exact ⟨e, he, agg_of hc⟩
theorem open_mark {b : Nat} (hv : Value.okWide Tryd.prog w .any b 26 v) (h : DataW.Trod enc Tryd.prog w base spare held 26 v d p) :
    ∃ (e : Ep) (n : Nat), e.fit ∧ n ≤ 65535 ∧ v = .agg #[.int .u16 e.c, .int .u8 e.a, .int .u16 e.i, .int .u16 n] := by
  unfold Value.okWide at hv
  rw [Tryd.underlying26] at hv
  obtain ⟨cs, rfl, -, -⟩ := hv
  obtain ⟨n, h⟩ := h
  obtain ⟨e, k, he, hk, hc⟩ := cells_mark h
  exact ⟨e, k, he, hk, agg_of hc⟩
theorem open_pair {b : Nat} (hv : Value.okWide Tryd.prog w .any b 36 v) (h : DataW.Trod enc Tryd.prog w base spare held 36 v d p) :
    ∃ a c : Int, (Lit.int .i64 a).wf = true ∧ (Lit.int .i64 c).wf = true ∧ v = .agg #[.int .i64 a, .int .i64 c] := by
  unfold Value.okWide at hv
  rw [Tryd.underlying36] at hv
  obtain ⟨cs, rfl, -, -⟩ := hv
  obtain ⟨n, h⟩ := h
  obtain ⟨a, c, ha, hb, hc⟩ := cells_pair h
  exact ⟨a, c, ha, hb, agg_of hc⟩
theorem open_two {b : Nat} (hv : Value.okWide Tryd.prog w .any b 42 v) (h : DataW.Trod enc Tryd.prog w base spare held 42 v d p) :
    ∃ e f : Ep, e.fit ∧ f.fit ∧ v = .agg #[.int .u16 e.c, .int .u8 e.a, .int .u16 e.i, .int .u16 f.c, .int .u8 f.a, .int .u16 f.i] := by
  unfold Value.okWide at hv
  rw [Tryd.underlying42] at hv
  obtain ⟨cs, rfl, -, -⟩ := hv
  obtain ⟨n, h⟩ := h
  obtain ⟨e, f, he, hf, hc⟩ := cells_two h
  exact ⟨e, f, he, hf, agg_of hc⟩
end

end Go.Proofs.YtgdamcajjifliaaDoor
