/-
  PartsWhole's arguments, opened. Conditions: none.
-/
import Derived.Test.YtcbngcigoncfdaaPaOpen
import Derived.Test.YtcbngcigoncfdaaPaWhole
namespace Go.Proofs.Ytcbngcigoncfdaa.Pa
open Go.RowKit Go.ChangeShapes Go.WideShapes Go.Deep

theorem cells_str : Try.prog.cellsOf 9 = 1 := by kernel_rfl
theorem open_txts {H : Type} {enc : TypeId × Value → H} {w : World} {base : Nat} {held : Bool} {fuel : Nat} {ao : Option Addr} {len cap : Nat} {x : DataW H × List MemPlace}
    (h : DataW.trod enc Try.prog w base (fun _ => true) held fuel 39 (Value.slice ao len cap).cells.toList = some x) :
    ∃ xs : List Bs, xs.length = len ∧ TLies w w.heap.size ao xs ∧ True ∧ len ≤ maxLen := by
  rcases open_slice_ones Try.underlying39 cells_str h with ⟨hcs, _⟩ | ⟨a, len', cap', m, hcs, hl, hm, hmm, hi⟩
  · simp [Value.cells] at hcs
    obtain ⟨rfl, rfl, rfl⟩ := hcs
    exact ⟨[], rfl, fun h => by simp at h, trivial, by unfold maxLen; omega⟩
  · simp [Value.cells] at hcs
    obtain ⟨rfl, rfl, rfl⟩ := hcs
    simp only [if_true] at hmm
    obtain ⟨xs, hxl, hq⟩ := list_of len (fun i (x : Bs) => w.cell? (a.add i) = some (.string (S x))) (by
      intro i hlt
      obtain ⟨n, v, y, c0, r0⟩ := hi i (by omega)
      obtain ⟨s, e0, _, w0⟩ := DataW.trod_string Try.underlying9 r0
      injection e0 with e0
      subst e0
      exact ⟨s.data.toList, by rw [S_of]; exact c0⟩)
    refine ⟨xs, hxl, fun h1 => ?_, trivial, by omega⟩
    obtain ⟨b, off, spot⟩ := a
    have hx0 : xs[0]? = some (xs[0]'(by omega)) := List.getElem?_eq_getElem (by omega)
    have hspot : spot = none := by simpa [Addr.add] using World.cell?_spot (hq 0 _ hx0)
    subst hspot
    have hadd : ∀ j, (⟨b, off, none⟩ : Addr).add j = ⟨b, off + j, none⟩ := fun j => Addr.add_mid b off j
    refine ⟨b, off, rfl, ?_, fun i x hx => ?_⟩
    · exact World.block_lt_of_cell? w _ (by have := hq 0 _ hx0; rw [hadd] at this; exact this)
    · have := hq i x hx
      rw [hadd] at this
      exact this
theorem one_came : ∀ fs, Try.prog.underlying 53 = some (.struct fs) → oneCellFields Try.prog fs = true := by
  intro fs h
  rw [Try.underlying53] at h
  injection h with h
  injection h with h
  subst h
  kernel_rfl
theorem cells_came : Try.prog.cellsOf 53 = 2 := by kernel_rfl
theorem open_cames {H : Type} {enc : TypeId × Value → H} {w : World} {base : Nat} {held : Bool} {fuel : Nat} {ao : Option Addr} {len cap : Nat} {x : DataW H × List MemPlace}
    (h : DataW.trod enc Try.prog w base (fun _ => true) held fuel 50 (Value.slice ao len cap).cells.toList = some x) :
    ∃ xs : List (Nat × Nat), xs.length = len ∧ CLies w w.heap.size ao xs ∧ (∀ (i : Nat) (x : Nat × Nat), xs[i]? = some x → x.1 ≤ 255 ∧ x.2 ≤ 255) ∧ len ≤ maxLen := by
  rcases open_slice_fields Try.underlying50 Try.underlying53 (one_came _ Try.underlying53) (by rw [cells_came]; rfl) h with ⟨hcs, _⟩ | ⟨a, len', cap', m, hcs, hl, hm, hmm, hi⟩
  · simp [Value.cells] at hcs
    obtain ⟨rfl, rfl, rfl⟩ := hcs
    exact ⟨[], rfl, fun h => by simp at h, fun i x hx => by simp at hx, by unfold maxLen; omega⟩
  · simp [Value.cells] at hcs
    obtain ⟨rfl, rfl, rfl⟩ := hcs
    simp only [if_true] at hmm
    obtain ⟨xs, hxl, hq⟩ := list_of len (fun i (x : Nat × Nat) => (x.1 ≤ 255 ∧ x.2 ≤ 255) ∧ w.cell? (a.add (i * 2 + 0)) = some (.int .u8 x.1) ∧ w.cell? (a.add (i * 2 + 1)) = some (.int .u8 x.2)) (by
      intro i hlt
      obtain ⟨n, hf⟩ := hi i (by omega)
      obtain ⟨v0, y0, c0, r0⟩ := hf 0 _ rfl
      obtain ⟨v1, y1, c1, r1⟩ := hf 1 _ rfl
      obtain ⟨n0, e0, _, w0⟩ := DataW.trod_int Try.underlying5 r0
      obtain ⟨n1, e1, _, w1⟩ := DataW.trod_int Try.underlying5 r1
      injection e0 with e0
      injection e1 with e1
      subst e0 e1
      obtain ⟨a0, rfl, b0⟩ := u8_nat w0
      obtain ⟨a1, rfl, b1⟩ := u8_nat w1
      exact ⟨(a0, a1), ⟨by show a0 ≤ 255; omega, by show a1 ≤ 255; omega⟩, c0, c1⟩)
    refine ⟨xs, hxl, fun h1 => ?_, fun i x hx => (hq i x hx).1, by omega⟩
    obtain ⟨b, off, spot⟩ := a
    have hx0 : xs[0]? = some (xs[0]'(by omega)) := List.getElem?_eq_getElem (by omega)
    have hspot : spot = none := by simpa [Addr.add] using World.cell?_spot (hq 0 _ hx0).2.1
    subst hspot
    have hadd : ∀ j, (⟨b, off, none⟩ : Addr).add j = ⟨b, off + j, none⟩ := fun j => Addr.add_mid b off j
    refine ⟨b, off, rfl, ?_, fun i x hx => ?_⟩
    · exact World.block_lt_of_cell? w _ (by have := (hq 0 _ hx0).2.1; rw [hadd] at this; exact this)
    · obtain ⟨-, q0, q1⟩ := hq i x hx
      rw [hadd] at q0 q1
      exact ⟨q0, q1⟩
end Go.Proofs.Ytcbngcigoncfdaa.Pa
