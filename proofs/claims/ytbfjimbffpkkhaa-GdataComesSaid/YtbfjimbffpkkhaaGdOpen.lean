/-
  The laws' arguments, opened. Conditions: none.
-/
import Derived.Test.YtbfjimbffpkkhaaGdOpenA
namespace Go.Proofs.Ytbfjimbffpkkhaa.Pa
open Go.RowKit Go.ChangeShapes Go.WideShapes Go.Deep

theorem cells_str : Try.prog.cellsOf 9 = 1 := by kernel_rfl
theorem open_txts {H : Type} {enc : TypeId × Value → H} {w : World} {base : Nat} {held : Bool} {fuel : Nat} {ao : Option Addr} {len cap : Nat} {x : DataW H × List MemPlace}
    (h : DataW.trod enc Try.prog w base (fun _ => true) held fuel 23 (Value.slice ao len cap).cells.toList = some x) :
    ∃ xs : List Bs, xs.length = len ∧ TLies w w.heap.size ao xs ∧ True ∧ len ≤ maxLen := by
  rcases open_slice_ones Try.underlying23 cells_str h with ⟨hcs, _⟩ | ⟨a, len', cap', m, hcs, hl, hm, hmm, hi⟩
  · simp [Value.cells] at hcs
    obtain ⟨rfl, rfl, rfl⟩ := hcs
    exact ⟨[], rfl, fun h => by simp at h, trivial, by unfold maxLen; omega⟩
  · simp [Value.cells] at hcs
    obtain ⟨rfl, rfl, rfl⟩ := hcs
    simp only [if_true] at hmm
    obtain ⟨xs, hxl, hq⟩ := list_of len (fun i (x : Bs) => w.cell? (a.add i) = some (.string (S x))) (by
      intro i hlt
      obtain ⟨n, v, y, c0, r0⟩ := hi i (by omega)
      obtain ⟨s, e0, _, w0⟩ := DataW.trod_string Try.underlying9 r0
      injection e0 with e0
      subst e0
      exact ⟨s.data.toList, by rw [S_of]; exact c0⟩)
    refine ⟨xs, hxl, fun h1 => ?_, trivial, by omega⟩
    obtain ⟨b, off, spot⟩ := a
    have hx0 : xs[0]? = some (xs[0]'(by omega)) := List.getElem?_eq_getElem (by omega)
    have hspot : spot = none := by simpa [Addr.add] using World.cell?_spot (hq 0 _ hx0)
    subst hspot
    have hadd : ∀ j, (⟨b, off, none⟩ : Addr).add j = ⟨b, off + j, none⟩ := fun j => Addr.add_mid b off j
    refine ⟨b, off, rfl, ?_, fun i x hx => ?_⟩
    · exact World.block_lt_of_cell? w _ (by have := hq 0 _ hx0; rw [hadd] at this; exact this)
    · have := hq i x hx
      rw [hadd] at this
      exact this
theorem Try.c57 : Try.prog.cellsOf 57 = 19 := by kernel_rfl
set_option maxRecDepth 100000 in
theorem cells_came {H : Type} {enc : TypeId × Value → H} {w : World} {base : Nat} {spare : Nat → Bool} {held : Bool} {fuel : Nat} {cs : List Value} {x : DataW H × List MemPlace} (h : DataW.trod enc Try.prog w base spare held fuel 57 cs = some x) :
    ∃ f : Fr, FitF f ∧ f.bytes.length ≤ maxLen ∧ cs = frC f := by
  obtain ⟨ys, n, rfl, hx, hlen, hyl, hf⟩ := DataW.trod_struct Try.underlying57 h
  rw [Try.c57] at hlen
  obtain ⟨y0, e0⟩ := some_of_lt (l := ys) (i := 0) (by rw [hyl]; decide)
  obtain ⟨f, h1, h2, h3⟩ := cells_frame ((hf 0 _ rfl).trans e0)
  refine ⟨f, h1, h2, ?_⟩
  have h4 : (cs.drop 0).take 19 = frC f := h3
  rw [List.drop_zero, List.take_of_length_le (by omega)] at h4
  exact h4
theorem open_cames {H : Type} {enc : TypeId × Value → H} {w : World} {base : Nat} {held : Bool} {fuel : Nat} {ao : Option Addr} {len cap : Nat} {x : DataW H × List MemPlace}
    (h : DataW.trod enc Try.prog w base (fun _ => true) held fuel 47 (Value.slice ao len cap).cells.toList = some x) :
    ∃ xs : List Fr, xs.length = len ∧ FLies w w.heap.size ao xs ∧ FitX xs ∧ len ≤ maxLen := by
  rcases open_slice Try.underlying47 h with ⟨hcs, _⟩ | ⟨a, len', cap', m, n, D, Pl, hcs, hb, hl, hm, hmm, hx, hi⟩
  · simp [Value.cells] at hcs
    obtain ⟨rfl, rfl, rfl⟩ := hcs
    exact ⟨[], rfl, fun h => by simp at h, fun i x hx => by simp at hx, by unfold maxLen; omega⟩
  · simp [Value.cells] at hcs
    obtain ⟨rfl, rfl, rfl⟩ := hcs
    simp only [if_true] at hmm
    obtain ⟨xs, hxl, hq⟩ := list_of len (fun i (f : Fr) => (FitF f ∧ f.bytes.length ≤ maxLen) ∧ ∀ j v, (frC f)[j]? = some v → w.cell? ((a.add (i * 19)).add j) = some v) (by
      intro i hlt
      obtain ⟨cs', hc, ht'⟩ := hi i (by omega)
      rw [Try.c57] at hc
      obtain ⟨f, hf, hfl, hcf⟩ := cells_came ht'
      obtain ⟨_, hcl, hat⟩ := World.cells?_some hc
      refine ⟨f, ⟨hf, hfl⟩, fun j v hv => ?_⟩
      have hj : j < 19 := by
        have := (List.getElem?_eq_some_iff.1 hv).1
        rw [frC_len] at this
        exact this
      rw [hat j hj, hcf, hv])
    refine ⟨xs, hxl, fun h1 => ?_, fun k f hk => (hq k f hk).1, by omega⟩
    obtain ⟨b, off, spot⟩ := a
    have hx0 : xs[0]? = some (xs[0]'(by omega)) := List.getElem?_eq_getElem (by omega)
    have hspot : spot = none := by simpa [Addr.add] using World.cell?_spot ((hq 0 _ hx0).2 0 _ rfl)
    subst hspot
    have hadd : ∀ i j, ((⟨b, off, none⟩ : Addr).add i).add j = ⟨b, off + i + j, none⟩ := fun i j => by rw [Addr.add_mid, Addr.add_mid]
    refine ⟨b, off, rfl, ?_, fun k f hk j v hv => ?_⟩
    · exact World.block_lt_of_cell? w _ (by have := (hq 0 _ hx0).2 0 _ rfl; rw [hadd] at this; exact this)
    · have := (hq k f hk).2 j v hv
      rw [hadd] at this
      exact this
end Go.Proofs.Ytbfjimbffpkkhaa.Pa
