/-
  The arguments of the laws, opened: a list of instructions, and how much room is behind it. Conditions: none.
-/
import Derived.Test.YtbjmdehfdnpljaaRows
import Derived.Test.YtbjmdehfdnpljaaIlR
import Derived.Deep.Slices
import Derived.Deep.Fields
import Derived.ChangeSame
import Derived.ProofKit
import Derived.OpenShut
import Derived.ShutString
import Derived.ChangeOld
import Derived.Carry
namespace Go.Proofs.Ytbjmdehfdnpljaa.Ve
open Go.RowKit Go.ChangeShapes Go.WideShapes Go.Deep
open Go.Proofs.Ytbjmdehfdnpljaa.Il

theorem u8_nat {z : Int} (h : (Lit.int .u8 z).wf = true) : ∃ n : Nat, z = n ∧ (n : Int) ≤ 255 := by
  simp [Lit.wf, IntKind.min, IntKind.max, IntKind.signed, IntKind.bits] at h
  exact ⟨z.toNat, by omega, by omega⟩
theorem u16_nat {z : Int} (h : (Lit.int .u16 z).wf = true) : ∃ n : BitVec 16, z = (n.toNat : Int) := by
  simp [Lit.wf, IntKind.min, IntKind.max, IntKind.signed, IntKind.bits] at h
  refine ⟨BitVec.ofNat 16 z.toNat, ?_⟩
  rw [BitVec.toNat_ofNat]
  omega
theorem agg_of {cs : Array Value} {l : List Value} (h : (Value.agg cs).cells.toList = l) : Value.agg cs = .agg l.toArray := by
  have h' : cs.toList = l := h
  subst h'
  rfl
theorem some_of_lt {α : Type} {l : List α} {i : Nat} (h : i < l.length) : ∃ x, l[i]? = some x := ⟨l[i], List.getElem?_eq_getElem h⟩
theorem i64_bd {z : Int} (h : (Lit.int .i64 z).wf = true) : I64 z := by
  simp [Lit.wf, IntKind.min, IntKind.max, IntKind.signed, IntKind.bits] at h
  unfold I64
  omega

section
variable {H : Type} {enc : TypeId × Value → H} {P : Program} {w : World} {base : Nat} {spare : Nat → Bool} {held : Bool}
theorem open_slice_fields {t e : TypeId} {fs : Array Field} {fuel : Nat} {cs : List Value} {x : DataW H × List MemPlace} (ht : P.underlying t = some (.slice e)) (he : P.underlying e = some (.struct fs))
    (hone : oneCellFields P fs = true) (hC : P.cellsOf e = fs.size) (h : DataW.trod enc P w base spare held fuel t cs = some x) :
    (cs = [.slice none 0 0] ∧ x = (.nil, [])) ∨
    ∃ (a : Addr) (len cap m : Nat), cs = [.slice (some a) len cap] ∧ len ≤ cap ∧ cap ≤ maxLen ∧ m = (if spare a.block then cap else len) ∧
      ∀ i, i < m → ∃ (n : Nat), ∀ (j : Nat) (f : Field), fs[j]? = some f → ∃ (v : Value) (y : DataW H × List MemPlace), w.cell? (a.add (i * fs.size + j)) = some v ∧ DataW.trod enc P w base spare held n f.type [v] = some y := by
  rcases open_slice ht h with h0 | ⟨a, len, cap, m, n, D, Pl, hcs, hb, hl, hm, hmm, hx, hi⟩
  · exact .inl h0
  · refine .inr ⟨a, len, cap, m, hcs, hl, hm, hmm, fun i him => ?_⟩
    obtain ⟨cs', hc, ht'⟩ := hi i him
    rw [hC] at hc
    obtain ⟨ys, n', hn', hy, hlen, hyl, hf⟩ := DataW.trod_struct he ht'
    obtain ⟨_, hcl, hat⟩ := World.cells?_some hc
    refine ⟨n', fun j f hj => ?_⟩
    obtain ⟨ho, hk⟩ := hone_of hone j f hj
    have hjl : j < fs.size := (Array.getElem?_eq_some_iff.1 hj).1
    have hcell := hat j hjl
    have hv : cs'[j]? = some (cs'[j]'(by omega)) := List.getElem?_eq_getElem (by omega)
    have h1 := hf j f hj
    rw [ho, hk] at h1
    have hone' : (cs'.drop j).take 1 = [cs'[j]'(by omega)] := by
      rw [List.drop_eq_getElem_cons (by omega)]
      rfl
    rw [hone'] at h1
    have hys : ys[j]? = some (ys[j]'(by omega)) := List.getElem?_eq_getElem (by omega)
    refine ⟨_, _, ?_, h1.trans hys⟩
    rw [← Go.Deep.add_add, hcell, hv]

/-- A list of what there is of each number. -/
theorem list_of {α : Type} (n : Nat) (Q : Nat → α → Prop) (h : ∀ i, i < n → ∃ x, Q i x) : ∃ l : List α, l.length = n ∧ ∀ i x, l[i]? = some x → Q i x := by
  induction n with
  | zero => exact ⟨[], rfl, fun i x hx => by simp at hx⟩
  | succ n ih =>
    obtain ⟨l, hl, hq⟩ := ih (fun i hi => h i (by omega))
    obtain ⟨x, hx⟩ := h n (by omega)
    refine ⟨l ++ [x], by simp [hl], fun i y hy => ?_⟩
    rw [List.getElem?_append] at hy
    split at hy
    · exact hq i y hy
    · rename_i hge
      have : i = n := by
        have := (List.getElem?_eq_some_iff.1 hy).1
        simp at this; omega
      subst this
      simp [hl] at hy
      subst hy; exact hx
end

theorem one_ins : ∀ fs, Try.prog.underlying 54 = some (.struct fs) → oneCellFields Try.prog fs = true := by
  intro fs h
  rw [Try.underlying54] at h
  injection h with h
  injection h with h
  subst h
  kernel_rfl
theorem cells_ins : Try.prog.cellsOf 54 = 5 := by kernel_rfl

theorem open_ins {H : Type} {enc : TypeId × Value → H} {w : World} {base : Nat} {held : Bool} {fuel : Nat} {ao : Option Addr} {len cap : Nat} {x : DataW H × List MemPlace}
    (h : DataW.trod enc Try.prog w base (fun _ => true) held fuel 22 (Value.slice ao len cap).cells.toList = some x) :
    ∃ xs : List In, xs.length = len ∧ Lies w w.heap.size ao xs ∧ FitL xs ∧ len ≤ maxLen := by
  rcases open_slice_fields Try.underlying22 Try.underlying54 (one_ins _ Try.underlying54) (by rw [cells_ins]; rfl) h with ⟨hcs, _⟩ | ⟨a, len', cap', m, hcs, hl, hm, hmm, hi⟩
  · simp [Value.cells] at hcs
    obtain ⟨rfl, rfl, rfl⟩ := hcs
    exact ⟨[], rfl, fun h => by simp at h, fun i x hx => by simp at hx, by unfold maxLen; omega⟩
  · simp [Value.cells] at hcs
    obtain ⟨rfl, rfl, rfl⟩ := hcs
    simp only [if_true] at hmm
    obtain ⟨xs, hxl, hq⟩ := list_of len (fun i (x : In) => w.cell? (a.add (i * 5 + 0)) = some (.int .i64 x.op) ∧ w.cell? (a.add (i * 5 + 1)) = some (.int .i64 x.kd) ∧ w.cell? (a.add (i * 5 + 2)) = some (.int .i64 x.ar) ∧ w.cell? (a.add (i * 5 + 3)) = some (.int .i64 x.pl) ∧ w.cell? (a.add (i * 5 + 4)) = some (.int .i64 x.n) ∧ FitI x) (by
      intro i hlt
      obtain ⟨n, hf⟩ := hi i (by omega)
      obtain ⟨v0, y0, c0, r0⟩ := hf 0 _ rfl
      obtain ⟨v1, y1, c1, r1⟩ := hf 1 _ rfl
      obtain ⟨v2, y2, c2, r2⟩ := hf 2 _ rfl
      obtain ⟨v3, y3, c3, r3⟩ := hf 3 _ rfl
      obtain ⟨v4, y4, c4, r4⟩ := hf 4 _ rfl
      obtain ⟨n0, e0, _, w0⟩ := DataW.trod_int Try.underlying3 r0
      obtain ⟨n1, e1, _, w1⟩ := DataW.trod_int Try.underlying3 r1
      obtain ⟨n2, e2, _, w2⟩ := DataW.trod_int Try.underlying3 r2
      obtain ⟨n3, e3, _, w3⟩ := DataW.trod_int Try.underlying3 r3
      obtain ⟨n4, e4, _, w4⟩ := DataW.trod_int Try.underlying2 r4
      injection e0 with e0
      injection e1 with e1
      injection e2 with e2
      injection e3 with e3
      injection e4 with e4
      subst e0 e1 e2 e3 e4
      exact ⟨⟨n0, n1, n2, n3, n4⟩, c0, c1, c2, c3, c4, i64_bd w0, i64_bd w1, i64_bd w2, i64_bd w3, i64_bd w4⟩)
    refine ⟨xs, hxl, fun h1 => ?_, fun i x hx => (hq i x hx).2.2.2.2.2, by omega⟩
    obtain ⟨b, off, spot⟩ := a
    have hx0 : xs[0]? = some (xs[0]'(by omega)) := List.getElem?_eq_getElem (by omega)
    have hspot : spot = none := by simpa [Addr.add] using World.cell?_spot (hq 0 _ hx0).1
    subst hspot
    have hadd : ∀ j, (⟨b, off, none⟩ : Addr).add j = ⟨b, off + j, none⟩ := fun j => by unfold Addr.add; split <;> simp_all
    refine ⟨b, off, rfl, ?_, fun i x hx => ?_⟩
    · exact World.block_lt_of_cell? w _ (by have := (hq 0 _ hx0).1; rw [hadd] at this; exact this)
    · obtain ⟨q0, q1, q2, q3, q4, _⟩ := hq i x hx
      rw [hadd] at q0 q1 q2 q3 q4
      exact ⟨q0, q1, q2, q3, q4⟩

section
variable {H : Type} {enc : TypeId × Value → H} {w : World} {base : Nat} {spare : Nat → Bool} {held : Bool}
set_option maxRecDepth 100000 in
theorem cells_of_ins {fuel : Nat} {cs : List Value} {x : DataW H × List MemPlace} (h : DataW.trod enc Try.prog w base spare held fuel 54 cs = some x) :
    ∃ r : In, FitI r ∧ cs = [.int .i64 r.op, .int .i64 r.kd, .int .i64 r.ar, .int .i64 r.pl, .int .i64 r.n] := by
  obtain ⟨ys, n, rfl, hx, hlen, hyl, hf⟩ := DataW.trod_struct Try.underlying54 h
  rw [cells_ins] at hlen
  obtain ⟨y0, e0⟩ := some_of_lt (l := ys) (i := 0) (by rw [hyl]; decide)
  obtain ⟨y1, e1⟩ := some_of_lt (l := ys) (i := 1) (by rw [hyl]; decide)
  obtain ⟨y2, e2⟩ := some_of_lt (l := ys) (i := 2) (by rw [hyl]; decide)
  obtain ⟨y3, e3⟩ := some_of_lt (l := ys) (i := 3) (by rw [hyl]; decide)
  obtain ⟨y4, e4⟩ := some_of_lt (l := ys) (i := 4) (by rw [hyl]; decide)
  obtain ⟨z0, h0, -, w0⟩ := DataW.trod_int Try.underlying3 ((hf 0 _ rfl).trans e0)
  have k0 : (cs.drop 0).take 1 = _ := h0
  obtain ⟨z1, h1, -, w1⟩ := DataW.trod_int Try.underlying3 ((hf 1 _ rfl).trans e1)
  have k1 : (cs.drop 1).take 1 = _ := h1
  obtain ⟨z2, h2, -, w2⟩ := DataW.trod_int Try.underlying3 ((hf 2 _ rfl).trans e2)
  have k2 : (cs.drop 2).take 1 = _ := h2
  obtain ⟨z3, h3, -, w3⟩ := DataW.trod_int Try.underlying3 ((hf 3 _ rfl).trans e3)
  have k3 : (cs.drop 3).take 1 = _ := h3
  obtain ⟨z4, h4, -, w4⟩ := DataW.trod_int Try.underlying2 ((hf 4 _ rfl).trans e4)
  have k4 : (cs.drop 4).take 1 = _ := h4
  refine ⟨⟨z0, z1, z2, z3, z4⟩, ⟨i64_bd w0, i64_bd w1, i64_bd w2, i64_bd w3, i64_bd w4⟩, ?_⟩
  match cs, hlen with
  | [v0, v1, v2, v3, v4], _ =>
    simp at k0 k1 k2 k3 k4
    simp [*]
set_option maxRecDepth 100000 in
theorem open_in {v : Value} {d : DataW H} {p : List MemPlace} {b : Nat} (hv : Value.okWide Try.prog w .any b 54 v) (h : DataW.Trod enc Try.prog w base spare held 54 v d p) :
    ∃ r : In, FitI r ∧ v = .agg #[.int .i64 r.op, .int .i64 r.kd, .int .i64 r.ar, .int .i64 r.pl, .int .i64 r.n] := by
  unfold Value.okWide at hv
  rw [Try.underlying54] at hv
  obtain ⟨cs, rfl, -, -⟩ := hv
  obtain ⟨n, h⟩ := h
  obtain ⟨f, hf, hc⟩ := cells_of_ins h
  exact ⟨f, hf, agg_of hc⟩
end

end Go.Proofs.Ytbjmdehfdnpljaa.Ve

namespace Go.Proofs.Ytbjmdehfdnpljaa.Ve
open Go.RowKit Go.ChangeShapes Go.WideShapes Go.Deep
open Go.Proofs.Ytbjmdehfdnpljaa.Il

theorem cap_ins {H : Type} {enc : TypeId × Value → H} {w : World} {base : Nat} {held : Bool} {fuel : Nat} {ao : Option Addr} {len cap : Nat} {x : DataW H × List MemPlace}
    (h : DataW.trod enc Try.prog w base (fun _ => true) held fuel 22 (Value.slice ao len cap).cells.toList = some x) : len ≤ cap ∧ cap ≤ maxLen ∧ (ao = none → cap = 0) := by
  rcases open_slice_fields Try.underlying22 Try.underlying54 (one_ins _ Try.underlying54) (by rw [cells_ins]; rfl) h with ⟨hcs, _⟩ | ⟨a, len', cap', m, hcs, hl, hm, hmm, hi⟩
  · simp [Value.cells] at hcs
    obtain ⟨rfl, rfl, rfl⟩ := hcs
    exact ⟨Nat.le_refl _, by unfold maxLen; omega, fun _ => rfl⟩
  · simp [Value.cells] at hcs
    obtain ⟨rfl, rfl, rfl⟩ := hcs
    exact ⟨hl, hm, fun h => by cases h⟩
end Go.Proofs.Ytbjmdehfdnpljaa.Ve
