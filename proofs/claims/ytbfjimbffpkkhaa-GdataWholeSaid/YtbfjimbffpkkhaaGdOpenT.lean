/-
  Turns as arguments; texts as arguments of the laws. Conditions: as each states.
-/
import Derived.Test.YtbfjimbffpkkhaaGdWhole
import Derived.Test.YtbfjimbffpkkhaaGdOpen
namespace Go.Proofs.Ytbfjimbffpkkhaa.Pa
open Go.RowKit Go.ChangeShapes Go.WideShapes Go.Deep

theorem one_turn : ∀ fs, Try.prog.underlying 68 = some (.struct fs) → oneCellFields Try.prog fs = true := by
  intro fs h
  rw [Try.underlying68] at h
  injection h with h
  injection h with h
  subst h
  kernel_rfl
theorem cells_turn : Try.prog.cellsOf 68 = 3 := by kernel_rfl
theorem open_turns {H : Type} {enc : TypeId × Value → H} {w : World} {base : Nat} {held : Bool} {fuel : Nat} {ao : Option Addr} {len cap : Nat} {x : DataW H × List MemPlace}
    (h : DataW.trod enc Try.prog w base (fun _ => true) held fuel 65 (Value.slice ao len cap).cells.toList = some x) :
    ∃ xs : List Tn, xs.length = len ∧ XLies w w.heap.size ao xs ∧ FitT xs ∧ len ≤ maxLen := by
  rcases open_slice_fields Try.underlying65 Try.underlying68 (one_turn _ Try.underlying68) (by rw [cells_turn]; rfl) h with ⟨hcs, _⟩ | ⟨a, len', cap', m, hcs, hl, hm, hmm, hi⟩
  · simp [Value.cells] at hcs
    obtain ⟨rfl, rfl, rfl⟩ := hcs
    exact ⟨[], rfl, fun h => by simp at h, fun i x hx => by simp at hx, by unfold maxLen; omega⟩
  · simp [Value.cells] at hcs
    obtain ⟨rfl, rfl, rfl⟩ := hcs
    simp only [if_true] at hmm
    obtain ⟨xs, hxl, hq⟩ := list_of len (fun i (x : Tn) => (x.1 ≤ 255 ∧ x.2.1 ≤ 65535) ∧ w.cell? (a.add (i * 3 + 0)) = some (.int .u8 x.1) ∧ w.cell? (a.add (i * 3 + 1)) = some (.int .u16 x.2.1) ∧ w.cell? (a.add (i * 3 + 2)) = some (.string (S x.2.2))) (by
      intro i hlt
      obtain ⟨n, hf⟩ := hi i (by omega)
      obtain ⟨v0, y0, c0, r0⟩ := hf 0 _ rfl
      obtain ⟨v1, y1, c1, r1⟩ := hf 1 _ rfl
      obtain ⟨v2, y2, c2, r2⟩ := hf 2 _ rfl
      obtain ⟨n0, e0, _, w0⟩ := DataW.trod_int Try.underlying5 r0
      obtain ⟨n1, e1, _, w1⟩ := DataW.trod_int Try.underlying22 r1
      obtain ⟨s2, e2, _, w2⟩ := DataW.trod_string Try.underlying9 r2
      injection e0 with e0
      injection e1 with e1
      injection e2 with e2
      subst e0 e1 e2
      obtain ⟨a0, rfl, b0⟩ := u8_nat w0
      obtain ⟨a1, rfl, b1⟩ := u16_nat w1
      exact ⟨(a0, a1, s2.data.toList), ⟨by show a0 ≤ 255; omega, by show a1 ≤ 65535; omega⟩, c0, c1, by simp only [S_of]; exact c2⟩)
    refine ⟨xs, hxl, fun h1 => ?_, fun i x hx => (hq i x hx).1, by omega⟩
    obtain ⟨b, off, spot⟩ := a
    have hx0 : xs[0]? = some (xs[0]'(by omega)) := List.getElem?_eq_getElem (by omega)
    have hspot : spot = none := by simpa [Addr.add] using World.cell?_spot (hq 0 _ hx0).2.1
    subst hspot
    have hadd : ∀ j, (⟨b, off, none⟩ : Addr).add j = ⟨b, off + j, none⟩ := fun j => Addr.add_mid b off j
    refine ⟨b, off, rfl, ?_, fun i x hx => ?_⟩
    · exact World.block_lt_of_cell? w _ (by have := (hq 0 _ hx0).2.1; rw [hadd] at this; exact this)
    · obtain ⟨-, q0, q1, q2⟩ := hq i x hx
      rw [hadd] at q0 q1 q2
      exact ⟨q0, q1, q2⟩
theorem whole_str (z : Nat) (s : ByteArray) (xs : List Tn) (ao : Option Addr) (cap : Nat) (w : World) (hz : z ≤ 255) (hs : s.size ≤ maxLen) (hx : XLies w w.heap.size ao xs) (hfx : FitT xs) (hl : xs.length ≤ maxLen) :
    Calls Try.prog 5 #[.int .u8 z, .string s, .slice ao xs.length cap] w (Tells (.bool true) w) := by
  have h := whole_walk z s.data.toList xs ao cap w hz hx hfx hl (by rw [← S_size, S_of]; exact hs)
  rwa [S_of] at h
end Go.Proofs.Ytbfjimbffpkkhaa.Pa
