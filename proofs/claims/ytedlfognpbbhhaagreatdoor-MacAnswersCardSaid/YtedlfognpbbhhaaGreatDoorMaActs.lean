/-
  Acts as an argument of a law: each has four numbers and a frame. Conditions: none.
-/
import Derived.Test.YtedlfognpbbhhaaGreatDoorMaOpen
import Derived.Deep.Slices
namespace Go.Proofs.YtedlfognpbbhhaaGreatDoor.Ma
open Go.RowKit Go.ChangeShapes Go.WideShapes Go.Deep
open Go.Proofs.YtedlfognpbbhhaaGreatDoor.Epo (Ep)
open Go.Proofs.YtedlfognpbbhhaaGreatDoor.Mem (Tz)
open Go.Proofs.YtedlfognpbbhhaaGreatDoor.Frm (Fr)

structure Ac where
  wh : Nat
  n : Int
  hi : Int
  lo : Int
  f : Fr
def actC (a : Ac) : List Value := .int .u8 a.wh :: .int .i64 a.n :: .int .i64 a.hi :: .int .i64 a.lo :: frC a.f
theorem actC_len (a : Ac) : (actC a).length = 23 := rfl
def FitA (xs : List Ac) : Prop := ∀ (k : Nat) (a : Ac), xs[k]? = some a → a.wh ≤ 255 ∧ (-9223372036854775808 ≤ a.n ∧ a.n ≤ 9223372036854775807) ∧ a.f.fit
/-- They lie one behind the other. -/
def ALies (w : World) (N : Nat) (ao : Option Addr) (xs : List Ac) : Prop :=
  0 < xs.length → ∃ b off, ao = some ⟨b, off, none⟩ ∧ b < N ∧ ∀ k a, xs[k]? = some a → ∀ j v, (actC a)[j]? = some v → w.cell? ⟨b, off + k * 23 + j, none⟩ = some v
theorem ALies.below {w w' : World} {N : Nat} {ao : Option Addr} {xs : List Ac} (h : ALies w N ao xs) (hb : Below N w w') : ALies w' N ao xs := fun h0 => by
  obtain ⟨b, off, e, hlt, hq⟩ := h h0
  exact ⟨b, off, e, hlt, fun k a hk j v hv => (World.cell?_of_block (hb.block b hlt)).trans (hq k a hk j v hv)⟩
theorem Tryz.cAct : Tryz.prog.cellsOf 40 = 23 := by kernel_rfl
theorem int_bd {z : Int} (h : (Lit.int .i64 z).wf = true) : -9223372036854775808 ≤ z ∧ z ≤ 9223372036854775807 := by
  simp [Lit.wf, IntKind.min, IntKind.max, IntKind.signed, IntKind.bits] at h
  omega
/-- A list of what there is of each number. -/
theorem list_of {α : Type} (n : Nat) (Q : Nat → α → Prop) (h : ∀ i, i < n → ∃ x, Q i x) : ∃ l : List α, l.length = n ∧ ∀ i x, l[i]? = some x → Q i x := by
  induction n with
  | zero => exact ⟨[], rfl, fun i x hx => by simp at hx⟩
  | succ n ih =>
    obtain ⟨l, hl, hq⟩ := ih (fun i hi => h i (by omega))
    obtain ⟨x, hx⟩ := h n (by omega)
    refine ⟨l ++ [x], by simp [hl], fun i y hy => ?_⟩
    rw [List.getElem?_append] at hy
    split at hy
    · exact hq i y hy
    · rename_i hge
      have : i = n := by
        have := (List.getElem?_eq_some_iff.1 hy).1
        simp at this; omega
      subst this
      simp [hl] at hy
      subst hy; exact hx
section
variable {H : Type} {enc : TypeId × Value → H} {w : World} {base : Nat} {spare : Nat → Bool} {held : Bool}
set_option maxRecDepth 100000 in
theorem cells_act {fuel : Nat} {cs : List Value} {x : DataW H × List MemPlace} (h : DataW.trod enc Tryz.prog w base spare held fuel 40 cs = some x) :
    ∃ a : Ac, (a.wh ≤ 255 ∧ (-9223372036854775808 ≤ a.n ∧ a.n ≤ 9223372036854775807) ∧ a.f.fit) ∧ cs = actC a := by
  obtain ⟨ys, n, rfl, hx, hlen, hyl, hf⟩ := DataW.trod_struct Tryz.underlying40 h
  rw [Tryz.cAct] at hlen
  obtain ⟨y0, e0⟩ := some_of_lt (l := ys) (i := 0) (by rw [hyl]; decide)
  obtain ⟨y1, e1⟩ := some_of_lt (l := ys) (i := 1) (by rw [hyl]; decide)
  obtain ⟨y2, e2⟩ := some_of_lt (l := ys) (i := 2) (by rw [hyl]; decide)
  obtain ⟨y3, e3⟩ := some_of_lt (l := ys) (i := 3) (by rw [hyl]; decide)
  obtain ⟨y4, e4⟩ := some_of_lt (l := ys) (i := 4) (by rw [hyl]; decide)
  obtain ⟨z0, h0, -, w0⟩ := DataW.trod_int Tryz.underlying5 ((hf 0 _ rfl).trans e0)
  have k0 : (cs.drop 0).take 1 = _ := h0
  obtain ⟨wh, rfl, bwh⟩ := u8_nat w0
  obtain ⟨z1, h1, -, w1⟩ := DataW.trod_int Tryz.underlying3 ((hf 1 _ rfl).trans e1)
  have k1 : (cs.drop 1).take 1 = _ := h1
  obtain ⟨z2, h2, -, w2⟩ := DataW.trod_int Tryz.underlying3 ((hf 2 _ rfl).trans e2)
  have k2 : (cs.drop 2).take 1 = _ := h2
  obtain ⟨z3, h3, -, w3⟩ := DataW.trod_int Tryz.underlying3 ((hf 3 _ rfl).trans e3)
  have k3 : (cs.drop 3).take 1 = _ := h3
  obtain ⟨f, ff, h4⟩ := cells_frame ((hf 4 _ rfl).trans e4)
  have k4 : (cs.drop 4).take 19 = _ := h4
  refine ⟨⟨wh, z1, z2, z3, f⟩, ⟨by show wh ≤ 255; omega, int_bd w1, ff⟩, ?_⟩
  match cs, hlen with
  | v0 :: v1 :: v2 :: v3 :: r, hl =>
    have hr : r.length = 19 := by simp at hl; omega
    have k4' : r.take 19 = frC f := by simpa [frC] using k4
    rw [List.take_of_length_le (by omega)] at k4'
    simp at k0 k1 k2 k3
    rw [k0, k1, k2, k3, k4']
    rfl
theorem open_acts {fuel : Nat} {ao : Option Addr} {len cap : Nat} {x : DataW H × List MemPlace}
    (h : DataW.trod enc Tryz.prog w base (fun _ => true) held fuel 23 (Value.slice ao len cap).cells.toList = some x) :
    ∃ xs : List Ac, xs.length = len ∧ ALies w w.heap.size ao xs ∧ FitA xs ∧ len ≤ maxLen := by
  rcases open_slice Tryz.underlying23 h with ⟨hcs, _⟩ | ⟨a, len', cap', m, n, D, Pl, hcs, hb, hl, hm, hmm, hx, hi⟩
  · simp [Value.cells] at hcs
    obtain ⟨rfl, rfl, rfl⟩ := hcs
    exact ⟨[], rfl, fun h => by simp at h, fun i x hx => by simp at hx, by unfold maxLen; omega⟩
  · simp [Value.cells] at hcs
    obtain ⟨rfl, rfl, rfl⟩ := hcs
    simp only [if_true] at hmm
    obtain ⟨xs, hxl, hq⟩ := list_of len (fun i (c : Ac) => (c.wh ≤ 255 ∧ (-9223372036854775808 ≤ c.n ∧ c.n ≤ 9223372036854775807) ∧ c.f.fit) ∧ ∀ j v, (actC c)[j]? = some v → w.cell? ((a.add (i * 23)).add j) = some v) (by
      intro i hlt
      obtain ⟨cs', hc, ht'⟩ := hi i (by omega)
      rw [Tryz.cAct] at hc
      obtain ⟨c, hf, hcf⟩ := cells_act ht'
      obtain ⟨_, hcl, hat⟩ := World.cells?_some hc
      refine ⟨c, hf, fun j v hv => ?_⟩
      have hj : j < 23 := by
        have := (List.getElem?_eq_some_iff.1 hv).1
        rw [actC_len] at this
        exact this
      rw [hat j hj, hcf, hv])
    refine ⟨xs, hxl, fun h1 => ?_, fun k f hk => (hq k f hk).1, by omega⟩
    obtain ⟨b, off, spot⟩ := a
    have hx0 : xs[0]? = some (xs[0]'(by omega)) := List.getElem?_eq_getElem (by omega)
    have hspot : spot = none := by simpa [Addr.add] using World.cell?_spot ((hq 0 _ hx0).2 0 _ rfl)
    subst hspot
    have hadd : ∀ i j, ((⟨b, off, none⟩ : Addr).add i).add j = ⟨b, off + i + j, none⟩ := fun i j => by rw [Addr.add_mid, Addr.add_mid]
    refine ⟨b, off, rfl, ?_, fun k f hk j v hv => ?_⟩
    · exact World.block_lt_of_cell? w _ (by have := (hq 0 _ hx0).2 0 _ rfl; rw [hadd] at this; exact this)
    · have := (hq k f hk).2 j v hv
      rw [hadd] at this
      exact this
end
end Go.Proofs.YtedlfognpbbhhaaGreatDoor.Ma
