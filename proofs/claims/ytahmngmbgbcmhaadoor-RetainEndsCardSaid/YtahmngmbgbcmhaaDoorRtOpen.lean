/-
  What the rows' listed variables lie as, one start at which they lie so, and the laws' arguments, opened. Conditions: none.
-/
import Derived.Test.YtahmngmbgbcmhaaDoorRows
import Derived.Test.YtahmngmbgbcmhaaDoorRtCode
import Derived.Test.YtahmngmbgbcmhaaDoorRtRuns
import Derived.Test.YtahmngmbgbcmhaaDoorRtTears
import Derived.Stop.LaidErr
import Derived.LaidLaws
import Derived.Lib.LaidTab
import Derived.Deep.Slices
import Derived.Deep.Fields
import Derived.ChangeSame
import Derived.ProofKit
import Derived.OpenShut
import Derived.ShutString
import Derived.ChangeOld
import Derived.Carry
namespace Go.Proofs.YtahmngmbgbcmhaaDoor.Ret
open Go.RowKit Go.ChangeShapes Go.WideShapes Go.Deep

/-! ### One start that fits -/
theorem env_of_laid {W : World} (_ : laidMet Tryd.prog Rows.retainRunsRow.laid W) : True := trivial
def litsOf {H : Type} : DataW H → List Value
  | .agg l => l.flatMap fun d => match d with | .lit (.int k z) => [.int k z] | .agg m => (m.map fun d => match d with | .lit (.int k z) => .int k z | _ => undef) | _ => [undef]
  | _ => []
def layG (g : Nat) (cs : Array Value) (h : Array Obj) : Array Obj := h.modify g fun
  | .cells _ t frozen => .cells cs t frozen
  | o => o
noncomputable def laidWorld (os : Os) : World :=
  let w0 := World.holding Tryd.prog os ⟨#[], #[], []⟩
  { w0 with heap := layG 1 (litsOf (H := Unit) Rows.laid_unicode_utf8_acceptRanges).toArray (layG 0 (litsOf (H := Unit) Rows.laid_unicode_utf8_first).toArray w0.heap) }
theorem laidWorld_met (os : Os) (args : Array Value) : laidMet Tryd.prog Rows.retainRunsRow.laid ((laidWorld os).forCall (fun _ _ => 0) ⟨#[], args, []⟩).memory :=
  laidMet_of_run' 8 (by kernel_rfl) (by kernel_rfl)

/-! ### Arguments -/
theorem u16_nat {z : Int} (h : (Lit.int .u16 z).wf = true) : ∃ n : Nat, z = n ∧ (n : Int) ≤ 65535 := by
  simp [Lit.wf, IntKind.min, IntKind.max, IntKind.signed, IntKind.bits] at h
  exact ⟨z.toNat, by omega, by omega⟩
theorem u8_nat {z : Int} (h : (Lit.int .u8 z).wf = true) : ∃ n : Nat, z = n ∧ (n : Int) ≤ 255 := by
  simp [Lit.wf, IntKind.min, IntKind.max, IntKind.signed, IntKind.bits] at h
  exact ⟨z.toNat, by omega, by omega⟩
theorem u32_nat {z : Int} (h : (Lit.int .u32 z).wf = true) : ∃ n : Nat, z = n ∧ (n : Int) ≤ 4294967295 := by
  simp [Lit.wf, IntKind.min, IntKind.max, IntKind.signed, IntKind.bits] at h
  exact ⟨z.toNat, by omega, by omega⟩
theorem agg_of {cs : Array Value} {l : List Value} (h : (Value.agg cs).cells.toList = l) : Value.agg cs = .agg l.toArray := by
  have h' : cs.toList = l := h
  subst h'
  rfl
theorem some_of_lt {α : Type} {l : List α} {i : Nat} (h : i < l.length) : ∃ x, l[i]? = some x := ⟨l[i], List.getElem?_eq_getElem h⟩

section
variable {H : Type} {enc : TypeId × Value → H} {P : Program} {w : World} {base : Nat} {spare : Nat → Bool} {held : Bool}
theorem open_slice_fields {t e : TypeId} {fs : Array Field} {fuel : Nat} {cs : List Value} {x : DataW H × List MemPlace} (ht : P.underlying t = some (.slice e)) (he : P.underlying e = some (.struct fs))
    (hone : oneCellFields P fs = true) (hC : P.cellsOf e = fs.size) (h : DataW.trod enc P w base spare held fuel t cs = some x) :
    (cs = [.slice none 0 0] ∧ x = (.nil, [])) ∨
    ∃ (a : Addr) (len cap m : Nat), cs = [.slice (some a) len cap] ∧ len ≤ cap ∧ cap ≤ maxLen ∧ m = (if spare a.block then cap else len) ∧
      ∀ i, i < m → ∃ (n : Nat), ∀ (j : Nat) (f : Field), fs[j]? = some f → ∃ (v : Value) (y : DataW H × List MemPlace), w.cell? (a.add (i * fs.size + j)) = some v ∧ DataW.trod enc P w base spare held n f.type [v] = some y := by
  rcases open_slice ht h with h0 | ⟨a, len, cap, m, n, D, Pl, hcs, hb, hl, hm, hmm, hx, hi⟩
  · exact .inl h0
  · refine .inr ⟨a, len, cap, m, hcs, hl, hm, hmm, fun i him => ?_⟩
    obtain ⟨cs', hc, ht'⟩ := hi i him
    rw [hC] at hc
    obtain ⟨ys, n', hn', hy, hlen, hyl, hf⟩ := DataW.trod_struct he ht'
    obtain ⟨_, hcl, hat⟩ := World.cells?_some hc
    refine ⟨n', fun j f hj => ?_⟩
    obtain ⟨ho, hk⟩ := hone_of hone j f hj
    have hjl : j < fs.size := (Array.getElem?_eq_some_iff.1 hj).1
    have hcell := hat j hjl
    have hv : cs'[j]? = some (cs'[j]'(by omega)) := List.getElem?_eq_getElem (by omega)
    have h1 := hf j f hj
    rw [ho, hk] at h1
    have hone' : (cs'.drop j).take 1 = [cs'[j]'(by omega)] := by
      rw [List.drop_eq_getElem_cons (by omega)]
      rfl
    rw [hone'] at h1
    have hys : ys[j]? = some (ys[j]'(by omega)) := List.getElem?_eq_getElem (by omega)
    refine ⟨_, _, ?_, h1.trans hys⟩
    rw [← Go.Deep.add_add, hcell, hv]

/-- A list of what there is of each number. -/
theorem list_of {α : Type} (n : Nat) (Q : Nat → α → Prop) (h : ∀ i, i < n → ∃ x, Q i x) : ∃ l : List α, l.length = n ∧ ∀ i x, l[i]? = some x → Q i x := by
  induction n with
  | zero => exact ⟨[], rfl, fun i x hx => by simp at hx⟩
  | succ n ih =>
    obtain ⟨l, hl, hq⟩ := ih (fun i hi => h i (by omega))
    obtain ⟨x, hx⟩ := h n (by omega)
    refine ⟨l ++ [x], by simp [hl], fun i y hy => ?_⟩
    rw [List.getElem?_append] at hy
    split at hy
    · exact hq i y hy
    · rename_i hge
      have : i = n := by
        have := (List.getElem?_eq_some_iff.1 hy).1
        simp at this; omega
      subst this
      simp [hl] at hy
      subst hy; exact hx

theorem open_slice_ones {t e : TypeId} {fuel : Nat} {cs : List Value} {x : DataW H × List MemPlace} (ht : P.underlying t = some (.slice e)) (hC : P.cellsOf e = 1) (h : DataW.trod enc P w base spare held fuel t cs = some x) :
    (cs = [.slice none 0 0] ∧ x = (.nil, [])) ∨
    ∃ (a : Addr) (len cap m : Nat), cs = [.slice (some a) len cap] ∧ len ≤ cap ∧ cap ≤ maxLen ∧ m = (if spare a.block then cap else len) ∧
      ∀ i, i < m → ∃ (n : Nat) (v : Value) (y : DataW H × List MemPlace), w.cell? (a.add i) = some v ∧ DataW.trod enc P w base spare held n e [v] = some y := by
  rcases open_slice ht h with h0 | ⟨a, len, cap, m, n, D, Pl, hcs, hb, hl, hm, hmm, hx, hi⟩
  · exact .inl h0
  · refine .inr ⟨a, len, cap, m, hcs, hl, hm, hmm, fun i him => ?_⟩
    obtain ⟨cs', hc, ht'⟩ := hi i him
    rw [hC] at hc
    obtain ⟨_, hcl, hat⟩ := World.cells?_some hc
    have hcell := hat 0 (by omega)
    match cs', hcl with
    | [v], _ =>
      refine ⟨_, v, _, ?_, ht'⟩
      have e1 : (a.add (i * 1)).add 0 = a.add i := by rw [Go.Deep.add_add]; simp
      rw [e1] at hcell
      simpa using hcell
end


theorem one_act : ∀ fs, Tryd.prog.underlying 28 = some (.struct fs) → oneCellFields Tryd.prog fs = true := by
  intro fs h
  rw [Tryd.underlying28] at h
  injection h with h
  injection h with h
  subst h
  kernel_rfl
theorem cells_act : Tryd.prog.cellsOf 28 = 4 := by kernel_rfl
theorem cells_u8 : Tryd.prog.cellsOf 5 = 1 := by kernel_rfl
theorem cells_str : Tryd.prog.cellsOf 9 = 1 := by kernel_rfl
theorem cells_rec : Tryd.prog.cellsOf 39 = 3 := by kernel_rfl

theorem open_acts {H : Type} {enc : TypeId × Value → H} {w : World} {base : Nat} {held : Bool} {fuel : Nat} {ao : Option Addr} {len cap : Nat} {x : DataW H × List MemPlace}
    (h : DataW.trod enc Tryd.prog w base (fun _ => true) held fuel 22 (Value.slice ao len cap).cells.toList = some x) :
    ∃ xs : List Ac, xs.length = len ∧ Lies w w.heap.size ao xs ∧ Fit xs ∧ len ≤ maxLen := by
  rcases open_slice_fields Tryd.underlying22 Tryd.underlying28 (one_act _ Tryd.underlying28) (by rw [cells_act]; rfl) h with ⟨hcs, _⟩ | ⟨a, len', cap', m, hcs, hl, hm, hmm, hi⟩
  · simp [Value.cells] at hcs
    obtain ⟨rfl, rfl, rfl⟩ := hcs
    exact ⟨[], rfl, fun h => by simp at h, fun i x hx => by simp at hx, by unfold maxLen; omega⟩
  · simp [Value.cells] at hcs
    obtain ⟨rfl, rfl, rfl⟩ := hcs
    simp only [if_true] at hmm
    obtain ⟨xs, hxl, hq⟩ := list_of len (fun i (x : Ac) => w.cell? (a.add (i * 4 + 0)) = some (.int .u8 x.a) ∧ w.cell? (a.add (i * 4 + 1)) = some (.int .u16 x.inc) ∧ w.cell? (a.add (i * 4 + 2)) = some (.string x.d) ∧ w.cell? (a.add (i * 4 + 3)) = some (.int .u8 x.n) ∧ (x.a : Int) ≤ 255 ∧ (x.inc : Int) ≤ 65535 ∧ x.d.size ≤ maxLen ∧ (x.n : Int) ≤ 255) (by
      intro i hlt
      obtain ⟨n, hf⟩ := hi i (by omega)
      obtain ⟨v0, y0, c0, r0⟩ := hf 0 _ rfl
      obtain ⟨v1, y1, c1, r1⟩ := hf 1 _ rfl
      obtain ⟨v2, y2, c2, r2⟩ := hf 2 _ rfl
      obtain ⟨v3, y3, c3, r3⟩ := hf 3 _ rfl
      obtain ⟨n0, e0, _, w0⟩ := DataW.trod_int Tryd.underlying5 r0
      obtain ⟨n1, e1, _, w1⟩ := DataW.trod_int Tryd.underlying26 r1
      obtain ⟨s, e2, _, w2⟩ := DataW.trod_string Tryd.underlying9 r2
      obtain ⟨n3, e3, _, w3⟩ := DataW.trod_int Tryd.underlying5 r3
      injection e0 with e0
      injection e1 with e1
      injection e2 with e2
      injection e3 with e3
      subst e0 e1 e2 e3
      obtain ⟨a0, rfl, b0⟩ := u8_nat w0
      obtain ⟨a1, rfl, b1⟩ := u16_nat w1
      obtain ⟨a3, rfl, b3⟩ := u8_nat w3
      exact ⟨⟨a0, a1, s, a3⟩, c0, c1, c2, c3, b0, b1, w2, b3⟩)
    refine ⟨xs, hxl, fun h1 => ?_, fun i x hx => (hq i x hx).2.2.2.2, by omega⟩
    obtain ⟨b, off, spot⟩ := a
    have hx0 : xs[0]? = some (xs[0]'(by omega)) := List.getElem?_eq_getElem (by omega)
    have hspot : spot = none := by simpa [Addr.add] using World.cell?_spot (hq 0 _ hx0).1
    subst hspot
    have hadd : ∀ j, (⟨b, off, none⟩ : Addr).add j = ⟨b, off + j, none⟩ := fun j => by unfold Addr.add; split <;> simp_all
    refine ⟨b, off, rfl, ?_, fun i x hx => ?_⟩
    · exact World.block_lt_of_cell? w _ (by have := (hq 0 _ hx0).1; rw [hadd] at this; exact this)
    · obtain ⟨q0, q1, q2, q3, _⟩ := hq i x hx
      rw [hadd] at q0 q1 q2 q3
      exact ⟨q0, q1, q2, q3⟩

theorem open_u8s {H : Type} {enc : TypeId × Value → H} {w : World} {base : Nat} {held : Bool} {fuel : Nat} {ao : Option Addr} {len cap : Nat} {x : DataW H × List MemPlace}
    (h : DataW.trod enc Tryd.prog w base (fun _ => true) held fuel 44 (Value.slice ao len cap).cells.toList = some x) :
    ∃ xs : List Nat, xs.length = len ∧ BLies w w.heap.size ao xs ∧ BFit xs ∧ len ≤ maxLen := by
  rcases open_slice_ones Tryd.underlying44 cells_u8 h with ⟨hcs, _⟩ | ⟨a, len', cap', m, hcs, hl, hm, hmm, hi⟩
  · simp [Value.cells] at hcs
    obtain ⟨rfl, rfl, rfl⟩ := hcs
    exact ⟨[], rfl, fun h => by simp at h, fun i x hx => by simp at hx, by unfold maxLen; omega⟩
  · simp [Value.cells] at hcs
    obtain ⟨rfl, rfl, rfl⟩ := hcs
    simp only [if_true] at hmm
    obtain ⟨xs, hxl, hq⟩ := list_of len (fun i (x : Nat) => w.cell? (a.add i) = some (.int .u8 x) ∧ (x : Int) ≤ 255) (by
      intro i hlt
      obtain ⟨n, v, y, c0, r0⟩ := hi i (by omega)
      obtain ⟨n0, e0, _, w0⟩ := DataW.trod_int Tryd.underlying5 r0
      injection e0 with e0
      subst e0
      obtain ⟨a0, rfl, b0⟩ := u8_nat w0
      exact ⟨a0, c0, b0⟩)
    refine ⟨xs, hxl, fun h1 => ?_, fun i x hx => (hq i x hx).2, by omega⟩
    obtain ⟨b, off, spot⟩ := a
    have hx0 : xs[0]? = some (xs[0]'(by omega)) := List.getElem?_eq_getElem (by omega)
    have hspot : spot = none := by simpa [Addr.add] using World.cell?_spot (hq 0 _ hx0).1
    subst hspot
    have hadd : ∀ j, (⟨b, off, none⟩ : Addr).add j = ⟨b, off + j, none⟩ := fun j => by unfold Addr.add; split <;> simp_all
    refine ⟨b, off, rfl, ?_, fun i x hx => ?_⟩
    · exact World.block_lt_of_cell? w _ (by have := (hq 0 _ hx0).1; rw [hadd] at this; exact this)
    · have := (hq i x hx).1
      rw [hadd] at this
      exact this

theorem open_strs {H : Type} {enc : TypeId × Value → H} {w : World} {base : Nat} {held : Bool} {fuel : Nat} {ao : Option Addr} {len cap : Nat} {x : DataW H × List MemPlace}
    (h : DataW.trod enc Tryd.prog w base (fun _ => true) held fuel 32 (Value.slice ao len cap).cells.toList = some x) :
    ∃ xs : List ByteArray, xs.length = len ∧ SLies w w.heap.size ao xs ∧ SFit xs ∧ len ≤ maxLen := by
  rcases open_slice_ones Tryd.underlying32 cells_str h with ⟨hcs, _⟩ | ⟨a, len', cap', m, hcs, hl, hm, hmm, hi⟩
  · simp [Value.cells] at hcs
    obtain ⟨rfl, rfl, rfl⟩ := hcs
    exact ⟨[], rfl, fun h => by simp at h, fun i x hx => by simp at hx, by unfold maxLen; omega⟩
  · simp [Value.cells] at hcs
    obtain ⟨rfl, rfl, rfl⟩ := hcs
    simp only [if_true] at hmm
    obtain ⟨xs, hxl, hq⟩ := list_of len (fun i (x : ByteArray) => w.cell? (a.add i) = some (.string x) ∧ x.size ≤ maxLen) (by
      intro i hlt
      obtain ⟨n, v, y, c0, r0⟩ := hi i (by omega)
      obtain ⟨s, e0, _, w0⟩ := DataW.trod_string Tryd.underlying9 r0
      injection e0 with e0
      subst e0
      exact ⟨s, c0, w0⟩)
    refine ⟨xs, hxl, fun h1 => ?_, fun i x hx => (hq i x hx).2, by omega⟩
    obtain ⟨b, off, spot⟩ := a
    have hx0 : xs[0]? = some (xs[0]'(by omega)) := List.getElem?_eq_getElem (by omega)
    have hspot : spot = none := by simpa [Addr.add] using World.cell?_spot (hq 0 _ hx0).1
    subst hspot
    have hadd : ∀ j, (⟨b, off, none⟩ : Addr).add j = ⟨b, off + j, none⟩ := fun j => by unfold Addr.add; split <;> simp_all
    refine ⟨b, off, rfl, ?_, fun i x hx => ?_⟩
    · exact World.block_lt_of_cell? w _ (by have := (hq 0 _ hx0).1; rw [hadd] at this; exact this)
    · have := (hq i x hx).1
      rw [hadd] at this
      exact this

section
variable {H : Type} {enc : TypeId × Value → H} {w : World} {base : Nat} {spare : Nat → Bool} {held : Bool}
set_option maxRecDepth 100000 in
theorem cells_record {fuel : Nat} {cs : List Value} {x : DataW H × List MemPlace} (h : DataW.trod enc Tryd.prog w base spare held fuel 39 cs = some x) :
    ∃ r : Rc, ((r.q : Int) ≤ 4294967295 ∧ (r.i : Int) ≤ 65535 ∧ r.d.size ≤ maxLen) ∧ cs = [.int .u32 r.q, .int .u16 r.i, .string r.d] := by
  obtain ⟨ys, n, rfl, hx, hlen, hyl, hf⟩ := DataW.trod_struct Tryd.underlying39 h
  rw [cells_rec] at hlen
  obtain ⟨y0, e0⟩ := some_of_lt (l := ys) (i := 0) (by rw [hyl]; decide)
  obtain ⟨y1, e1⟩ := some_of_lt (l := ys) (i := 1) (by rw [hyl]; decide)
  obtain ⟨y2, e2⟩ := some_of_lt (l := ys) (i := 2) (by rw [hyl]; decide)
  obtain ⟨z0, h0, -, w0⟩ := DataW.trod_int Tryd.underlying37 ((hf 0 _ rfl).trans e0)
  have k0 : (cs.drop 0).take 1 = _ := h0
  obtain ⟨q, rfl, bq⟩ := u32_nat w0
  obtain ⟨z1, h1, -, w1⟩ := DataW.trod_int Tryd.underlying26 ((hf 1 _ rfl).trans e1)
  have k1 : (cs.drop 1).take 1 = _ := h1
  obtain ⟨i, rfl, bi⟩ := u16_nat w1
  obtain ⟨s, h2, -, w2⟩ := DataW.trod_string Tryd.underlying9 ((hf 2 _ rfl).trans e2)
  have k2 : (cs.drop 2).take 1 = _ := h2
  refine ⟨⟨q, i, s⟩, ⟨bq, bi, w2⟩, ?_⟩
  match cs, hlen with
  | [v0, v1, v2], _ =>
    simp at k0 k1 k2
    simp [*]
set_option maxRecDepth 100000 in
theorem open_record {v : Value} {d : DataW H} {p : List MemPlace} {b : Nat} (hv : Value.okWide Tryd.prog w .any b 39 v) (h : DataW.Trod enc Tryd.prog w base spare held 39 v d p) :
    ∃ r : Rc, ((r.q : Int) ≤ 4294967295 ∧ (r.i : Int) ≤ 65535 ∧ r.d.size ≤ maxLen) ∧ v = .agg #[.int .u32 r.q, .int .u16 r.i, .string r.d] := by
  unfold Value.okWide at hv
  rw [Tryd.underlying39] at hv
  obtain ⟨cs, rfl, -, -⟩ := hv
  obtain ⟨n, h⟩ := h
  obtain ⟨f, hf, hc⟩ := cells_record h
  exact ⟨f, hf, agg_of hc⟩
end
end Go.Proofs.YtahmngmbgbcmhaaDoor.Ret
