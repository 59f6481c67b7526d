/-
  The laws' arguments, opened. Conditions: none.
-/
import Derived.Test.YtbfjimbffpkkhaaRows
import Derived.Test.YtbfjimbffpkkhaaGdSubs
import Derived.Deep.Slices
import Derived.Deep.Fields
import Derived.ChangeSame
import Derived.ProofKit
import Derived.OpenShut
import Derived.ShutString
import Derived.ChangeOld
import Derived.Carry
namespace Go.Proofs.Ytbfjimbffpkkhaa.Pa
open Go.RowKit Go.ChangeShapes Go.WideShapes Go.Deep

/-! ### An argument that is a frame -/
theorem u16_nat {z : Int} (h : (Lit.int .u16 z).wf = true) : ∃ n : Nat, z = n ∧ (n : Int) ≤ 65535 := by
  simp [Lit.wf, IntKind.min, IntKind.max, IntKind.signed, IntKind.bits] at h
  exact ⟨z.toNat, by omega, by omega⟩
theorem u8_nat {z : Int} (h : (Lit.int .u8 z).wf = true) : ∃ n : Nat, z = n ∧ (n : Int) ≤ 255 := by
  simp [Lit.wf, IntKind.min, IntKind.max, IntKind.signed, IntKind.bits] at h
  exact ⟨z.toNat, by omega, by omega⟩
theorem u32_nat {z : Int} (h : (Lit.int .u32 z).wf = true) : ∃ n : Nat, z = n ∧ (n : Int) ≤ 4294967295 := by
  simp [Lit.wf, IntKind.min, IntKind.max, IntKind.signed, IntKind.bits] at h
  exact ⟨z.toNat, by omega, by omega⟩
theorem Try.c29 : Try.prog.cellsOf 33 = 19 := by kernel_rfl
theorem Try.c27 : Try.prog.cellsOf 31 = 2 := by kernel_rfl
theorem Try.c24 : Try.prog.cellsOf 28 = 3 := by kernel_rfl
theorem Try.c25 : Try.prog.cellsOf 29 = 1 := by kernel_rfl
theorem Try.c22 : Try.prog.cellsOf 22 = 1 := by kernel_rfl
theorem Try.c9 : Try.prog.cellsOf 9 = 1 := by kernel_rfl
theorem Try.c5 : Try.prog.cellsOf 5 = 1 := by kernel_rfl
theorem Try.c4 : Try.prog.cellsOf 4 = 1 := by kernel_rfl
theorem Try.c3 : Try.prog.cellsOf 3 = 1 := by kernel_rfl
theorem agg_of {cs : Array Value} {l : List Value} (h : (Value.agg cs).cells.toList = l) : Value.agg cs = .agg l.toArray := by
  have h' : cs.toList = l := h
  subst h'
  rfl
theorem some_of_lt {α : Type} {l : List α} {i : Nat} (h : i < l.length) : ∃ x, l[i]? = some x := ⟨l[i], List.getElem?_eq_getElem h⟩
section
variable {H : Type} {enc : TypeId × Value → H} {w : World} {base : Nat} {spare : Nat → Bool} {held : Bool}
set_option maxRecDepth 100000 in
theorem cells_epoch {fuel : Nat} {cs : List Value} {x : DataW H × List MemPlace} (h : DataW.trod enc Try.prog w base spare held fuel 28 cs = some x) :
    ∃ e : Nat × Nat × Nat, cs = [.int .u16 e.1, .int .u8 e.2.1, .int .u16 e.2.2] := by
  obtain ⟨ys, n, rfl, hx, hlen, hyl, hf⟩ := DataW.trod_struct Try.underlying28 h
  rw [Try.c24] at hlen
  obtain ⟨y0, e0⟩ := some_of_lt (l := ys) (i := 0) (by rw [hyl]; decide)
  obtain ⟨y1, e1⟩ := some_of_lt (l := ys) (i := 1) (by rw [hyl]; decide)
  obtain ⟨y2, e2⟩ := some_of_lt (l := ys) (i := 2) (by rw [hyl]; decide)
  obtain ⟨z0, h0, -, w0⟩ := DataW.trod_int Try.underlying22 ((hf 0 _ rfl).trans e0)
  have k0 : (cs.drop 0).take 1 = _ := h0
  obtain ⟨c, rfl, -⟩ := u16_nat w0
  obtain ⟨z1, h1, -, w1⟩ := DataW.trod_int Try.underlying5 ((hf 1 _ rfl).trans e1)
  have k1 : (cs.drop 1).take 1 = _ := h1
  obtain ⟨a, rfl, -⟩ := u8_nat w1
  obtain ⟨z2, h2, -, w2⟩ := DataW.trod_int Try.underlying22 ((hf 2 _ rfl).trans e2)
  have k2 : (cs.drop 2).take 1 = _ := h2
  obtain ⟨i, rfl, -⟩ := u16_nat w2
  refine ⟨(c, a, i), ?_⟩
  match cs, hlen with
  | [v0, v1, v2], _ =>
    simp at k0 k1 k2
    simp [*]
set_option maxRecDepth 100000 in
theorem cells_version {fuel : Nat} {cs : List Value} {x : DataW H × List MemPlace} (h : DataW.trod enc Try.prog w base spare held fuel 31 cs = some x) :
    ∃ i s : Nat, (i : Int) ≤ 65535 ∧ (s : Int) ≤ 4294967295 ∧ cs = [.int .u16 i, .int .u32 s] := by
  obtain ⟨ys, n, rfl, hx, hlen, hyl, hf⟩ := DataW.trod_struct Try.underlying31 h
  rw [Try.c27] at hlen
  obtain ⟨y0, e0⟩ := some_of_lt (l := ys) (i := 0) (by rw [hyl]; decide)
  obtain ⟨y1, e1⟩ := some_of_lt (l := ys) (i := 1) (by rw [hyl]; decide)
  obtain ⟨z0, h0, -, w0⟩ := DataW.trod_int Try.underlying22 ((hf 0 _ rfl).trans e0)
  have k0 : (cs.drop 0).take 1 = _ := h0
  obtain ⟨i, rfl, bi⟩ := u16_nat w0
  obtain ⟨z1, h1, -, w1⟩ := DataW.trod_int Try.underlying29 ((hf 1 _ rfl).trans e1)
  have k1 : (cs.drop 1).take 1 = _ := h1
  obtain ⟨s, rfl, bs⟩ := u32_nat w1
  refine ⟨i, s, bi, bs, ?_⟩
  match cs, hlen with
  | [v0, v1], _ =>
    simp at k0 k1
    simp [*]
set_option maxRecDepth 100000 in
theorem cells_frame {fuel : Nat} {cs : List Value} {x : DataW H × List MemPlace} (h : DataW.trod enc Try.prog w base spare held fuel 33 cs = some x) :
    ∃ f : Fr, FitF f ∧ f.bytes.length ≤ maxLen ∧ cs = frC f := by
  obtain ⟨ys, n, rfl, hx, hlen, hyl, hf⟩ := DataW.trod_struct Try.underlying33 h
  rw [Try.c29] at hlen
  obtain ⟨y0, e0⟩ := some_of_lt (l := ys) (i := 0) (by rw [hyl]; decide)
  obtain ⟨y1, e1⟩ := some_of_lt (l := ys) (i := 1) (by rw [hyl]; decide)
  obtain ⟨y2, e2⟩ := some_of_lt (l := ys) (i := 2) (by rw [hyl]; decide)
  obtain ⟨y3, e3⟩ := some_of_lt (l := ys) (i := 3) (by rw [hyl]; decide)
  obtain ⟨y4, e4⟩ := some_of_lt (l := ys) (i := 4) (by rw [hyl]; decide)
  obtain ⟨y5, e5⟩ := some_of_lt (l := ys) (i := 5) (by rw [hyl]; decide)
  obtain ⟨y6, e6⟩ := some_of_lt (l := ys) (i := 6) (by rw [hyl]; decide)
  obtain ⟨y7, e7⟩ := some_of_lt (l := ys) (i := 7) (by rw [hyl]; decide)
  obtain ⟨y8, e8⟩ := some_of_lt (l := ys) (i := 8) (by rw [hyl]; decide)
  obtain ⟨y9, e9⟩ := some_of_lt (l := ys) (i := 9) (by rw [hyl]; decide)
  obtain ⟨y10, e10⟩ := some_of_lt (l := ys) (i := 10) (by rw [hyl]; decide)
  obtain ⟨y11, e11⟩ := some_of_lt (l := ys) (i := 11) (by rw [hyl]; decide)
  obtain ⟨y12, e12⟩ := some_of_lt (l := ys) (i := 12) (by rw [hyl]; decide)
  obtain ⟨y13, e13⟩ := some_of_lt (l := ys) (i := 13) (by rw [hyl]; decide)
  obtain ⟨z0, h0, -, w0⟩ := DataW.trod_int Try.underlying3 ((hf 0 _ rfl).trans e0)
  have k0 : (cs.drop 0).take 1 = _ := h0
  obtain ⟨z1, h1, -, w1⟩ := DataW.trod_int Try.underlying5 ((hf 1 _ rfl).trans e1)
  have k1 : (cs.drop 1).take 1 = _ := h1
  obtain ⟨src, rfl, -⟩ := u8_nat w1
  obtain ⟨z2, h2, -, w2⟩ := DataW.trod_int Try.underlying5 ((hf 2 _ rfl).trans e2)
  have k2 : (cs.drop 2).take 1 = _ := h2
  obtain ⟨dst, rfl, -⟩ := u8_nat w2
  obtain ⟨z3, h3, -, w3⟩ := DataW.trod_int Try.underlying22 ((hf 3 _ rfl).trans e3)
  have k3 : (cs.drop 3).take 1 = _ := h3
  obtain ⟨sinc, rfl, -⟩ := u16_nat w3
  obtain ⟨z4, h4, -, w4⟩ := DataW.trod_int Try.underlying22 ((hf 4 _ rfl).trans e4)
  have k4 : (cs.drop 4).take 1 = _ := h4
  obtain ⟨dinc, rfl, -⟩ := u16_nat w4
  obtain ⟨p5, h5⟩ := cells_epoch ((hf 5 _ rfl).trans e5)
  have k5 : (cs.drop 5).take 3 = _ := h5
  obtain ⟨z6, h6, -, w6⟩ := DataW.trod_int Try.underlying22 ((hf 6 _ rfl).trans e6)
  have k6 : (cs.drop 8).take 1 = _ := h6
  obtain ⟨hop, rfl, -⟩ := u16_nat w6
  obtain ⟨p7, h7⟩ := cells_epoch ((hf 7 _ rfl).trans e7)
  have k7 : (cs.drop 9).take 3 = _ := h7
  obtain ⟨b8, h8, -⟩ := DataW.trod_bool Try.underlying4 ((hf 8 _ rfl).trans e8)
  have k8 : (cs.drop 12).take 1 = _ := h8
  obtain ⟨z9, h9, -, w9⟩ := DataW.trod_int Try.underlying5 ((hf 9 _ rfl).trans e9)
  have k9 : (cs.drop 13).take 1 = _ := h9
  obtain ⟨blk, rfl, -⟩ := u8_nat w9
  obtain ⟨p10, p10', q10, q10', h10⟩ := cells_version ((hf 10 _ rfl).trans e10)
  have k10 : (cs.drop 14).take 2 = _ := h10
  obtain ⟨z11, h11, -, w11⟩ := DataW.trod_int Try.underlying5 ((hf 11 _ rfl).trans e11)
  have k11 : (cs.drop 16).take 1 = _ := h11
  obtain ⟨part, rfl, bpart⟩ := u8_nat w11
  obtain ⟨z12, h12, -, w12⟩ := DataW.trod_int Try.underlying5 ((hf 12 _ rfl).trans e12)
  have k12 : (cs.drop 17).take 1 = _ := h12
  obtain ⟨parts, rfl, bparts⟩ := u8_nat w12
  obtain ⟨s13, h13, -, w13⟩ := DataW.trod_string Try.underlying9 ((hf 13 _ rfl).trans e13)
  have k13 : (cs.drop 18).take 1 = _ := h13
  refine ⟨⟨z0, src, dst, sinc, dinc, p5.1, p5.2.1, p5.2.2, hop, p7.1, p7.2.1, p7.2.2, b8, blk, p10, p10', part, parts, s13.data.toList⟩, ⟨by show p10 ≤ 65535; omega, by show p10' ≤ 4294967295; omega, by show part ≤ 255; omega, by show parts ≤ 255; omega⟩, by rw [← Lib.size_eq]; exact w13, ?_⟩
  unfold frC
  rw [S_of]
  match cs, hlen with
  | [v0, v1, v2, v3, v4, v5, v6, v7, v8, v9, v10, v11, v12, v13, v14, v15, v16, v17, v18], _ =>
    simp at k0 k1 k2 k3 k4 k5 k6 k7 k8 k9 k10 k11 k12 k13
    simp [*]


set_option maxRecDepth 100000 in
theorem open_frame {v : Value} {d : DataW H} {p : List MemPlace} {b : Nat} (hv : Value.okWide Try.prog w .any b 33 v) (h : DataW.Trod enc Try.prog w base spare held 33 v d p) :
    ∃ f : Fr, FitF f ∧ f.bytes.length ≤ maxLen ∧ v = .agg (frA f) := by
  unfold Value.okWide at hv
  rw [Try.underlying33] at hv
  obtain ⟨cs, rfl, -, -⟩ := hv
  obtain ⟨n, h⟩ := h
  obtain ⟨f, hf, hl, hc⟩ := cells_frame h
  exact ⟨f, hf, hl, agg_of hc⟩
end
section
variable {H : Type} {enc : TypeId × Value → H} {P : Program} {w : World} {base : Nat} {spare : Nat → Bool} {held : Bool}
theorem open_slice_fields {t e : TypeId} {fs : Array Field} {fuel : Nat} {cs : List Value} {x : DataW H × List MemPlace} (ht : P.underlying t = some (.slice e)) (he : P.underlying e = some (.struct fs))
    (hone : oneCellFields P fs = true) (hC : P.cellsOf e = fs.size) (h : DataW.trod enc P w base spare held fuel t cs = some x) :
    (cs = [.slice none 0 0] ∧ x = (.nil, [])) ∨
    ∃ (a : Addr) (len cap m : Nat), cs = [.slice (some a) len cap] ∧ len ≤ cap ∧ cap ≤ maxLen ∧ m = (if spare a.block then cap else len) ∧
      ∀ i, i < m → ∃ (n : Nat), ∀ (j : Nat) (f : Field), fs[j]? = some f → ∃ (v : Value) (y : DataW H × List MemPlace), w.cell? (a.add (i * fs.size + j)) = some v ∧ DataW.trod enc P w base spare held n f.type [v] = some y := by
  rcases open_slice ht h with h0 | ⟨a, len, cap, m, n, D, Pl, hcs, hb, hl, hm, hmm, hx, hi⟩
  · exact .inl h0
  · refine .inr ⟨a, len, cap, m, hcs, hl, hm, hmm, fun i him => ?_⟩
    obtain ⟨cs', hc, ht'⟩ := hi i him
    rw [hC] at hc
    obtain ⟨ys, n', hn', hy, hlen, hyl, hf⟩ := DataW.trod_struct he ht'
    obtain ⟨_, hcl, hat⟩ := World.cells?_some hc
    refine ⟨n', fun j f hj => ?_⟩
    obtain ⟨ho, hk⟩ := hone_of hone j f hj
    have hjl : j < fs.size := (Array.getElem?_eq_some_iff.1 hj).1
    have hcell := hat j hjl
    have hv : cs'[j]? = some (cs'[j]'(by omega)) := List.getElem?_eq_getElem (by omega)
    have h1 := hf j f hj
    rw [ho, hk] at h1
    have hone' : (cs'.drop j).take 1 = [cs'[j]'(by omega)] := by
      rw [List.drop_eq_getElem_cons (by omega)]
      rfl
    rw [hone'] at h1
    have hys : ys[j]? = some (ys[j]'(by omega)) := List.getElem?_eq_getElem (by omega)
    refine ⟨_, _, ?_, h1.trans hys⟩
    rw [← Go.Deep.add_add, hcell, hv]

theorem open_slice_ones {t e : TypeId} {fuel : Nat} {cs : List Value} {x : DataW H × List MemPlace} (ht : P.underlying t = some (.slice e)) (hC : P.cellsOf e = 1) (h : DataW.trod enc P w base spare held fuel t cs = some x) :
    (cs = [.slice none 0 0] ∧ x = (.nil, [])) ∨
    ∃ (a : Addr) (len cap m : Nat), cs = [.slice (some a) len cap] ∧ len ≤ cap ∧ cap ≤ maxLen ∧ m = (if spare a.block then cap else len) ∧
      ∀ i, i < m → ∃ (n : Nat) (v : Value) (y : DataW H × List MemPlace), w.cell? (a.add i) = some v ∧ DataW.trod enc P w base spare held n e [v] = some y := by
  rcases open_slice ht h with h0 | ⟨a, len, cap, m, n, D, Pl, hcs, hb, hl, hm, hmm, hx, hi⟩
  · exact .inl h0
  · refine .inr ⟨a, len, cap, m, hcs, hl, hm, hmm, fun i him => ?_⟩
    obtain ⟨cs', hc, ht'⟩ := hi i him
    rw [hC] at hc
    obtain ⟨_, hcl, hat⟩ := World.cells?_some hc
    have hcell := hat 0 (by omega)
    match cs', hcl with
    | [v], _ =>
      refine ⟨_, v, _, ?_, ht'⟩
      have e1 : (a.add (i * 1)).add 0 = a.add i := by rw [Go.Deep.add_add]; simp
      rw [e1] at hcell
      simpa using hcell
/-- A list of what there is of each number. -/
theorem list_of {α : Type} (n : Nat) (Q : Nat → α → Prop) (h : ∀ i, i < n → ∃ x, Q i x) : ∃ l : List α, l.length = n ∧ ∀ i x, l[i]? = some x → Q i x := by
  induction n with
  | zero => exact ⟨[], rfl, fun i x hx => by simp at hx⟩
  | succ n ih =>
    obtain ⟨l, hl, hq⟩ := ih (fun i hi => h i (by omega))
    obtain ⟨x, hx⟩ := h n (by omega)
    refine ⟨l ++ [x], by simp [hl], fun i y hy => ?_⟩
    rw [List.getElem?_append] at hy
    split at hy
    · exact hq i y hy
    · rename_i hge
      have : i = n := by
        have := (List.getElem?_eq_some_iff.1 hy).1
        simp at this; omega
      subst this
      simp [hl] at hy
      subst hy; exact hx
end


theorem open_frs {H : Type} {enc : TypeId × Value → H} {w : World} {base : Nat} {held : Bool} {fuel : Nat} {ao : Option Addr} {len cap : Nat} {x : DataW H × List MemPlace}
    (h : DataW.trod enc Try.prog w base (fun _ => true) held fuel 40 (Value.slice ao len cap).cells.toList = some x) :
    ∃ xs : List Fr, xs.length = len ∧ FLies w w.heap.size ao xs ∧ FitX xs ∧ len ≤ maxLen := by
  rcases open_slice Try.underlying40 h with ⟨hcs, _⟩ | ⟨a, len', cap', m, n, D, Pl, hcs, hb, hl, hm, hmm, hx, hi⟩
  · simp [Value.cells] at hcs
    obtain ⟨rfl, rfl, rfl⟩ := hcs
    exact ⟨[], rfl, fun h => by simp at h, fun i x hx => by simp at hx, by unfold maxLen; omega⟩
  · simp [Value.cells] at hcs
    obtain ⟨rfl, rfl, rfl⟩ := hcs
    simp only [if_true] at hmm
    obtain ⟨xs, hxl, hq⟩ := list_of len (fun i (f : Fr) => (FitF f ∧ f.bytes.length ≤ maxLen) ∧ ∀ j v, (frC f)[j]? = some v → w.cell? ((a.add (i * 19)).add j) = some v) (by
      intro i hlt
      obtain ⟨cs', hc, ht'⟩ := hi i (by omega)
      rw [Try.c29] at hc
      obtain ⟨f, hf, hfl, hcf⟩ := cells_frame ht'
      obtain ⟨_, hcl, hat⟩ := World.cells?_some hc
      refine ⟨f, ⟨hf, hfl⟩, fun j v hv => ?_⟩
      have hj : j < 19 := by
        have := (List.getElem?_eq_some_iff.1 hv).1
        rw [frC_len] at this
        exact this
      rw [hat j hj, hcf, hv])
    refine ⟨xs, hxl, fun h1 => ?_, fun k f hk => (hq k f hk).1, by omega⟩
    obtain ⟨b, off, spot⟩ := a
    have hx0 : xs[0]? = some (xs[0]'(by omega)) := List.getElem?_eq_getElem (by omega)
    have hspot : spot = none := by simpa [Addr.add] using World.cell?_spot ((hq 0 _ hx0).2 0 _ rfl)
    subst hspot
    have hadd : ∀ i j, ((⟨b, off, none⟩ : Addr).add i).add j = ⟨b, off + i + j, none⟩ := fun i j => by rw [Addr.add_mid, Addr.add_mid]
    refine ⟨b, off, rfl, ?_, fun k f hk j v hv => ?_⟩
    · exact World.block_lt_of_cell? w _ (by have := (hq 0 _ hx0).2 0 _ rfl; rw [hadd] at this; exact this)
    · have := (hq k f hk).2 j v hv
      rw [hadd] at this
      exact this
def BLies (w : World) (N : Nat) (ao : Option Addr) (xs : List Nat) : Prop := 1 ≤ xs.length → ∃ (b o : Nat), ao = some ⟨b, o, none⟩ ∧ b < N ∧ ∀ (i x : Nat), xs[i]? = some x → w.cell? ⟨b, o + i, none⟩ = some (.int .u8 x)
theorem cells_u8 : Try.prog.cellsOf 5 = 1 := by kernel_rfl
theorem open_u8s {H : Type} {enc : TypeId × Value → H} {w : World} {base : Nat} {held : Bool} {fuel : Nat} {ao : Option Addr} {len cap : Nat} {x : DataW H × List MemPlace}
    (h : DataW.trod enc Try.prog w base (fun _ => true) held fuel 69 (Value.slice ao len cap).cells.toList = some x) :
    ∃ xs : List Nat, xs.length = len ∧ BLies w w.heap.size ao xs ∧ (∀ (i x : Nat), xs[i]? = some x → x ≤ 255) ∧ len ≤ maxLen := by
  rcases open_slice_ones Try.underlying69 cells_u8 h with ⟨hcs, _⟩ | ⟨a, len', cap', m, hcs, hl, hm, hmm, hi⟩
  · simp [Value.cells] at hcs
    obtain ⟨rfl, rfl, rfl⟩ := hcs
    exact ⟨[], rfl, fun h => by simp at h, fun i x hx => by simp at hx, by unfold maxLen; omega⟩
  · simp [Value.cells] at hcs
    obtain ⟨rfl, rfl, rfl⟩ := hcs
    simp only [if_true] at hmm
    obtain ⟨xs, hxl, hq⟩ := list_of len (fun i (x : Nat) => w.cell? (a.add i) = some (.int .u8 x) ∧ (x : Int) ≤ 255) (by
      intro i hlt
      obtain ⟨n, v, y, c0, r0⟩ := hi i (by omega)
      obtain ⟨n0, e0, _, w0⟩ := DataW.trod_int Try.underlying5 r0
      injection e0 with e0
      subst e0
      obtain ⟨a0, rfl, b0⟩ := u8_nat w0
      exact ⟨a0, c0, b0⟩)
    refine ⟨xs, hxl, fun h1 => ?_, fun i x hx => (by have := (hq i x hx).2; omega), by omega⟩
    obtain ⟨b, off, spot⟩ := a
    have hx0 : xs[0]? = some (xs[0]'(by omega)) := List.getElem?_eq_getElem (by omega)
    have hspot : spot = none := by simpa [Addr.add] using World.cell?_spot (hq 0 _ hx0).1
    subst hspot
    have hadd : ∀ j, (⟨b, off, none⟩ : Addr).add j = ⟨b, off + j, none⟩ := fun j => by unfold Addr.add; split <;> simp_all
    refine ⟨b, off, rfl, ?_, fun i x hx => ?_⟩
    · exact World.block_lt_of_cell? w _ (by have := (hq 0 _ hx0).1; rw [hadd] at this; exact this)
    · have := (hq i x hx).1
      rw [hadd] at this
      exact this


theorem i64_bd {z : Int} (h : (Lit.int .i64 z).wf = true) : I64 z := by
  simp [Lit.wf, IntKind.min, IntKind.max, IntKind.signed, IntKind.bits] at h
  unfold I64
  omega
end Go.Proofs.Ytbfjimbffpkkhaa.Pa
