/-
  The laws' arguments, opened. Conditions: none.
-/
import Derived.Test.YtncodfogioaddaaRows
import Derived.Test.YtncodfogioaddaaImInp
import Derived.Deep.Slices
import Derived.Deep.Fields
import Derived.ChangeSame
import Derived.ProofKit
import Derived.OpenShut
import Derived.ShutString
import Derived.ChangeOld
import Derived.Carry
namespace Go.Proofs.Ytncodfogioaddaa.Bl
open Go.RowKit Go.ChangeShapes Go.WideShapes Go.Deep

theorem agg_of {cs : Array Value} {l : List Value} (h : (Value.agg cs).cells.toList = l) : Value.agg cs = .agg l.toArray := by
  have h' : cs.toList = l := h
  subst h'
  rfl
theorem some_of_lt {α : Type} {l : List α} {i : Nat} (h : i < l.length) : ∃ x, l[i]? = some x := ⟨l[i], List.getElem?_eq_getElem h⟩
theorem i64_bd {z : Int} (h : (Lit.int .i64 z).wf = true) : I64 z := by
  simp [Lit.wf, IntKind.min, IntKind.max, IntKind.signed, IntKind.bits] at h
  unfold I64
  omega

section
variable {H : Type} {enc : TypeId × Value → H} {P : Program} {w : World} {base : Nat} {spare : Nat → Bool} {held : Bool}
theorem open_slice_fields {t e : TypeId} {fs : Array Field} {fuel : Nat} {cs : List Value} {x : DataW H × List MemPlace} (ht : P.underlying t = some (.slice e)) (he : P.underlying e = some (.struct fs))
    (hone : oneCellFields P fs = true) (hC : P.cellsOf e = fs.size) (h : DataW.trod enc P w base spare held fuel t cs = some x) :
    (cs = [.slice none 0 0] ∧ x = (.nil, [])) ∨
    ∃ (a : Addr) (len cap m : Nat), cs = [.slice (some a) len cap] ∧ len ≤ cap ∧ cap ≤ maxLen ∧ m = (if spare a.block then cap else len) ∧
      ∀ i, i < m → ∃ (n : Nat), ∀ (j : Nat) (f : Field), fs[j]? = some f → ∃ (v : Value) (y : DataW H × List MemPlace), w.cell? (a.add (i * fs.size + j)) = some v ∧ DataW.trod enc P w base spare held n f.type [v] = some y := by
  rcases open_slice ht h with h0 | ⟨a, len, cap, m, n, D, Pl, hcs, hb, hl, hm, hmm, hx, hi⟩
  · exact .inl h0
  · refine .inr ⟨a, len, cap, m, hcs, hl, hm, hmm, fun i him => ?_⟩
    obtain ⟨cs', hc, ht'⟩ := hi i him
    rw [hC] at hc
    obtain ⟨ys, n', hn', hy, hlen, hyl, hf⟩ := DataW.trod_struct he ht'
    obtain ⟨_, hcl, hat⟩ := World.cells?_some hc
    refine ⟨n', fun j f hj => ?_⟩
    obtain ⟨ho, hk⟩ := hone_of hone j f hj
    have hjl : j < fs.size := (Array.getElem?_eq_some_iff.1 hj).1
    have hcell := hat j hjl
    have hv : cs'[j]? = some (cs'[j]'(by omega)) := List.getElem?_eq_getElem (by omega)
    have h1 := hf j f hj
    rw [ho, hk] at h1
    have hone' : (cs'.drop j).take 1 = [cs'[j]'(by omega)] := by
      rw [List.drop_eq_getElem_cons (by omega)]
      rfl
    rw [hone'] at h1
    have hys : ys[j]? = some (ys[j]'(by omega)) := List.getElem?_eq_getElem (by omega)
    refine ⟨_, _, ?_, h1.trans hys⟩
    rw [← Go.Deep.add_add, hcell, hv]

theorem open_slice_ones {t e : TypeId} {fuel : Nat} {cs : List Value} {x : DataW H × List MemPlace} (ht : P.underlying t = some (.slice e)) (hC : P.cellsOf e = 1) (h : DataW.trod enc P w base spare held fuel t cs = some x) :
    (cs = [.slice none 0 0] ∧ x = (.nil, [])) ∨
    ∃ (a : Addr) (len cap m : Nat), cs = [.slice (some a) len cap] ∧ len ≤ cap ∧ cap ≤ maxLen ∧ m = (if spare a.block then cap else len) ∧
      ∀ i, i < m → ∃ (n : Nat) (v : Value) (y : DataW H × List MemPlace), w.cell? (a.add i) = some v ∧ DataW.trod enc P w base spare held n e [v] = some y := by
  rcases open_slice ht h with h0 | ⟨a, len, cap, m, n, D, Pl, hcs, hb, hl, hm, hmm, hx, hi⟩
  · exact .inl h0
  · refine .inr ⟨a, len, cap, m, hcs, hl, hm, hmm, fun i him => ?_⟩
    obtain ⟨cs', hc, ht'⟩ := hi i him
    rw [hC] at hc
    obtain ⟨_, hcl, hat⟩ := World.cells?_some hc
    have hcell := hat 0 (by omega)
    match cs', hcl with
    | [v], _ =>
      refine ⟨_, v, _, ?_, ht'⟩
      have e1 : (a.add (i * 1)).add 0 = a.add i := by rw [Go.Deep.add_add]; simp
      rw [e1] at hcell
      simpa using hcell
/-- A list of what there is of each number. -/
theorem list_of {α : Type} (n : Nat) (Q : Nat → α → Prop) (h : ∀ i, i < n → ∃ x, Q i x) : ∃ l : List α, l.length = n ∧ ∀ i x, l[i]? = some x → Q i x := by
  induction n with
  | zero => exact ⟨[], rfl, fun i x hx => by simp at hx⟩
  | succ n ih =>
    obtain ⟨l, hl, hq⟩ := ih (fun i hi => h i (by omega))
    obtain ⟨x, hx⟩ := h n (by omega)
    refine ⟨l ++ [x], by simp [hl], fun i y hy => ?_⟩
    rw [List.getElem?_append] at hy
    split at hy
    · exact hq i y hy
    · rename_i hge
      have : i = n := by
        have := (List.getElem?_eq_some_iff.1 hy).1
        simp at this; omega
      subst this
      simp [hl] at hy
      subst hy; exact hx
end

theorem one_blk : ∀ fs, Try.prog.underlying 38 = some (.struct fs) → oneCellFields Try.prog fs = true := by
  intro fs h
  rw [Try.underlying38] at h
  injection h with h
  injection h with h
  subst h
  kernel_rfl
theorem cells_blk : Try.prog.cellsOf 38 = 4 := by kernel_rfl

theorem open_blks {H : Type} {enc : TypeId × Value → H} {w : World} {base : Nat} {held : Bool} {fuel : Nat} {ao : Option Addr} {len cap : Nat} {x : DataW H × List MemPlace}
    (h : DataW.trod enc Try.prog w base (fun _ => true) held fuel 23 (Value.slice ao len cap).cells.toList = some x) :
    ∃ xs : List Blk, xs.length = len ∧ Lies w w.heap.size ao xs ∧ len ≤ cap ∧ cap ≤ maxLen := by
  rcases open_slice_fields Try.underlying23 Try.underlying38 (one_blk _ Try.underlying38) (by rw [cells_blk]; rfl) h with ⟨hcs, _⟩ | ⟨a, len', cap', m, hcs, hl, hm, hmm, hi⟩
  · simp [Value.cells] at hcs
    obtain ⟨rfl, rfl, rfl⟩ := hcs
    exact ⟨[], rfl, fun h => by simp at h, Nat.le_refl _, by unfold maxLen; omega⟩
  · simp [Value.cells] at hcs
    obtain ⟨rfl, rfl, rfl⟩ := hcs
    simp only [if_true] at hmm
    obtain ⟨xs, hxl, hq⟩ := list_of len (fun i (x : Blk) => w.cell? (a.add (i * 4 + 0)) = some (.int .i64 x.id) ∧ w.cell? (a.add (i * 4 + 1)) = some (.int .i64 x.ad) ∧ w.cell? (a.add (i * 4 + 2)) = some (.int .i64 x.sz) ∧ w.cell? (a.add (i * 4 + 3)) = some (.bool x.hi)) (by
      intro i hlt
      obtain ⟨n, hf⟩ := hi i (by omega)
      obtain ⟨v0, y0, c0, r0⟩ := hf 0 _ rfl
      obtain ⟨v1, y1, c1, r1⟩ := hf 1 _ rfl
      obtain ⟨v2, y2, c2, r2⟩ := hf 2 _ rfl
      obtain ⟨v3, y3, c3, r3⟩ := hf 3 _ rfl
      obtain ⟨n0, e0, _, w0⟩ := DataW.trod_int Try.underlying3 r0
      obtain ⟨n1, e1, _, w1⟩ := DataW.trod_int Try.underlying3 r1
      obtain ⟨n2, e2, _, w2⟩ := DataW.trod_int Try.underlying3 r2
      obtain ⟨q, e3, _⟩ := DataW.trod_bool Try.underlying4 r3
      injection e0 with e0
      injection e1 with e1
      injection e2 with e2
      injection e3 with e3
      subst e0 e1 e2 e3
      exact ⟨⟨n0, n1, n2, q⟩, c0, c1, c2, c3⟩)
    refine ⟨xs, hxl, fun h1 => ?_, hl, hm⟩
    obtain ⟨b, off, spot⟩ := a
    have hx0 : xs[0]? = some (xs[0]'(by omega)) := List.getElem?_eq_getElem (by omega)
    have hspot : spot = none := by simpa [Addr.add] using World.cell?_spot (hq 0 _ hx0).1
    subst hspot
    have hadd : ∀ j, (⟨b, off, none⟩ : Addr).add j = ⟨b, off + j, none⟩ := fun j => by unfold Addr.add; split <;> simp_all
    refine ⟨b, off, rfl, ?_, fun i x hx => ?_⟩
    · exact World.block_lt_of_cell? w _ (by have := (hq 0 _ hx0).1; rw [hadd] at this; exact this)
    · obtain ⟨q0, q1, q2, q3⟩ := hq i x hx
      rw [hadd] at q0 q1 q2 q3
      exact ⟨q0, q1, q2, q3⟩
theorem one_spot : ∀ fs, Try.prog.underlying 36 = some (.struct fs) → oneCellFields Try.prog fs = true := by
  intro fs h
  rw [Try.underlying36] at h
  injection h with h
  injection h with h
  subst h
  kernel_rfl
theorem cells_spot : Try.prog.cellsOf 36 = 2 := by kernel_rfl

theorem open_spots {H : Type} {enc : TypeId × Value → H} {w : World} {base : Nat} {held : Bool} {fuel : Nat} {ao : Option Addr} {len cap : Nat} {x : DataW H × List MemPlace}
    (h : DataW.trod enc Try.prog w base (fun _ => true) held fuel 22 (Value.slice ao len cap).cells.toList = some x) :
    ∃ xs : List Spt, xs.length = len ∧ LiesS w w.heap.size ao xs ∧ (∀ (k : Nat) (x : Spt), xs[k]? = some x → I64 x.a) ∧ (len ≤ cap ∧ cap ≤ maxLen) := by
  rcases open_slice_fields Try.underlying22 Try.underlying36 (one_spot _ Try.underlying36) (by rw [cells_spot]; rfl) h with ⟨hcs, _⟩ | ⟨a, len', cap', m, hcs, hl, hm, hmm, hi⟩
  · simp [Value.cells] at hcs
    obtain ⟨rfl, rfl, rfl⟩ := hcs
    exact ⟨[], rfl, fun h => by simp at h, fun k x hx => by simp at hx, Nat.le_refl _, by unfold maxLen; omega⟩
  · simp [Value.cells] at hcs
    obtain ⟨rfl, rfl, rfl⟩ := hcs
    simp only [if_true] at hmm
    obtain ⟨xs, hxl, hq⟩ := list_of len (fun i (x : Spt) => w.cell? (a.add (i * 2 + 0)) = some (.int .i64 x.b) ∧ w.cell? (a.add (i * 2 + 1)) = some (.int .i64 x.a) ∧ I64 x.a) (by
      intro i hlt
      obtain ⟨n, hf⟩ := hi i (by omega)
      obtain ⟨v0, y0, c0, r0⟩ := hf 0 _ rfl
      obtain ⟨v1, y1, c1, r1⟩ := hf 1 _ rfl
      obtain ⟨n0, e0, _, w0⟩ := DataW.trod_int Try.underlying3 r0
      obtain ⟨n1, e1, _, w1⟩ := DataW.trod_int Try.underlying3 r1
      injection e0 with e0
      injection e1 with e1
      subst e0 e1
      exact ⟨⟨n0, n1⟩, c0, c1, i64_bd w1⟩)
    refine ⟨xs, hxl, fun h1 => ?_, fun k x hx => (hq k x hx).2.2, hl, hm⟩
    obtain ⟨b, off, spot⟩ := a
    have hx0 : xs[0]? = some (xs[0]'(by omega)) := List.getElem?_eq_getElem (by omega)
    have hspot : spot = none := by simpa [Addr.add] using World.cell?_spot (hq 0 _ hx0).1
    subst hspot
    have hadd : ∀ j, (⟨b, off, none⟩ : Addr).add j = ⟨b, off + j, none⟩ := fun j => by unfold Addr.add; split <;> simp_all
    refine ⟨b, off, rfl, ?_, fun i x hx => ?_⟩
    · exact World.block_lt_of_cell? w _ (by have := (hq 0 _ hx0).1; rw [hadd] at this; exact this)
    · obtain ⟨q0, q1, -⟩ := hq i x hx
      rw [hadd] at q0 q1
      exact ⟨q0, q1⟩
theorem cells_str : Try.prog.cellsOf 9 = 1 := by kernel_rfl
theorem open_txts {H : Type} {enc : TypeId × Value → H} {w : World} {base : Nat} {held : Bool} {fuel : Nat} {ao : Option Addr} {len cap : Nat} {x : DataW H × List MemPlace}
    (h : DataW.trod enc Try.prog w base (fun _ => true) held fuel 32 (Value.slice ao len cap).cells.toList = some x) :
    ∃ xs : List Bs, xs.length = len ∧ LiesT w w.heap.size ao xs ∧ True ∧ (len ≤ cap ∧ cap ≤ maxLen) := by
  rcases open_slice_ones Try.underlying32 cells_str h with ⟨hcs, _⟩ | ⟨a, len', cap', m, hcs, hl, hm, hmm, hi⟩
  · simp [Value.cells] at hcs
    obtain ⟨rfl, rfl, rfl⟩ := hcs
    exact ⟨[], rfl, fun h => by simp at h, trivial, Nat.le_refl _, by unfold maxLen; omega⟩
  · simp [Value.cells] at hcs
    obtain ⟨rfl, rfl, rfl⟩ := hcs
    simp only [if_true] at hmm
    obtain ⟨xs, hxl, hq⟩ := list_of len (fun i (x : Bs) => w.cell? (a.add i) = some (.string (S x))) (by
      intro i hlt
      obtain ⟨n, v, y, c0, r0⟩ := hi i (by omega)
      obtain ⟨s, e0, _, w0⟩ := DataW.trod_string Try.underlying9 r0
      injection e0 with e0
      subst e0
      exact ⟨s.data.toList, by rw [S_of]; exact c0⟩)
    refine ⟨xs, hxl, fun h1 => ?_, trivial, hl, hm⟩
    obtain ⟨b, off, spot⟩ := a
    have hx0 : xs[0]? = some (xs[0]'(by omega)) := List.getElem?_eq_getElem (by omega)
    have hspot : spot = none := by simpa [Addr.add] using World.cell?_spot (hq 0 _ hx0)
    subst hspot
    have hadd : ∀ j, (⟨b, off, none⟩ : Addr).add j = ⟨b, off + j, none⟩ := fun j => Addr.add_mid b off j
    refine ⟨b, off, rfl, ?_, fun i x hx => ?_⟩
    · exact World.block_lt_of_cell? w _ (by have := hq 0 _ hx0; rw [hadd] at this; exact this)
    · have := hq i x hx
      rw [hadd] at this
      exact this
end Go.Proofs.Ytncodfogioaddaa.Bl
