/-
  The laws' argument, opened: a cluster. Conditions: none.
-/
import Derived.Test.YtmlopacekoghkaaRows
import Derived.Test.YtmlopacekoghkaaCfBase
import Derived.Deep.Slices
import Derived.Deep.Fields
import Derived.ChangeSame
import Derived.ProofKit
import Derived.OpenShut
import Derived.ShutString
import Derived.ChangeOld
import Derived.Carry
namespace Go.Proofs.Ytmlopacekoghkaa.Cf
open Go.RowKit Go.ChangeShapes Go.WideShapes Go.Deep
open Go.Proofs.Ytmlopacekoghkaa.Bl (Blk Spt I64)
open Go.Proofs.Ytmlopacekoghkaa.Il (In)

theorem agg_of {cs : Array Value} {l : List Value} (h : (Value.agg cs).cells.toList = l) : Value.agg cs = .agg l.toArray := by
  have h' : cs.toList = l := h
  subst h'
  rfl
theorem some_of_lt {α : Type} {l : List α} {i : Nat} (h : i < l.length) : ∃ x, l[i]? = some x := ⟨l[i], List.getElem?_eq_getElem h⟩
theorem i64_bd {z : Int} (h : (Lit.int .i64 z).wf = true) : I64 z := by
  simp [Lit.wf, IntKind.min, IntKind.max, IntKind.signed, IntKind.bits] at h
  unfold I64
  omega

section
variable {H : Type} {enc : TypeId × Value → H} {P : Program} {w : World} {base : Nat} {spare : Nat → Bool} {held : Bool}
theorem open_slice_fields {t e : TypeId} {fs : Array Field} {fuel : Nat} {cs : List Value} {x : DataW H × List MemPlace} (ht : P.underlying t = some (.slice e)) (he : P.underlying e = some (.struct fs))
    (hone : oneCellFields P fs = true) (hC : P.cellsOf e = fs.size) (h : DataW.trod enc P w base spare held fuel t cs = some x) :
    (cs = [.slice none 0 0] ∧ x = (.nil, [])) ∨
    ∃ (a : Addr) (len cap m : Nat), cs = [.slice (some a) len cap] ∧ len ≤ cap ∧ cap ≤ maxLen ∧ m = (if spare a.block then cap else len) ∧
      ∀ i, i < m → ∃ (n : Nat), ∀ (j : Nat) (f : Field), fs[j]? = some f → ∃ (v : Value) (y : DataW H × List MemPlace), w.cell? (a.add (i * fs.size + j)) = some v ∧ DataW.trod enc P w base spare held n f.type [v] = some y := by
  rcases open_slice ht h with h0 | ⟨a, len, cap, m, n, D, Pl, hcs, hb, hl, hm, hmm, hx, hi⟩
  · exact .inl h0
  · refine .inr ⟨a, len, cap, m, hcs, hl, hm, hmm, fun i him => ?_⟩
    obtain ⟨cs', hc, ht'⟩ := hi i him
    rw [hC] at hc
    obtain ⟨ys, n', hn', hy, hlen, hyl, hf⟩ := DataW.trod_struct he ht'
    obtain ⟨_, hcl, hat⟩ := World.cells?_some hc
    refine ⟨n', fun j f hj => ?_⟩
    obtain ⟨ho, hk⟩ := hone_of hone j f hj
    have hjl : j < fs.size := (Array.getElem?_eq_some_iff.1 hj).1
    have hcell := hat j hjl
    have hv : cs'[j]? = some (cs'[j]'(by omega)) := List.getElem?_eq_getElem (by omega)
    have h1 := hf j f hj
    rw [ho, hk] at h1
    have hone' : (cs'.drop j).take 1 = [cs'[j]'(by omega)] := by
      rw [List.drop_eq_getElem_cons (by omega)]
      rfl
    rw [hone'] at h1
    have hys : ys[j]? = some (ys[j]'(by omega)) := List.getElem?_eq_getElem (by omega)
    refine ⟨_, _, ?_, h1.trans hys⟩
    rw [← Go.Deep.add_add, hcell, hv]
/-- A list of what there is of each number. -/
theorem list_of {α : Type} (n : Nat) (Q : Nat → α → Prop) (h : ∀ i, i < n → ∃ x, Q i x) : ∃ l : List α, l.length = n ∧ ∀ i x, l[i]? = some x → Q i x := by
  induction n with
  | zero => exact ⟨[], rfl, fun i x hx => by simp at hx⟩
  | succ n ih =>
    obtain ⟨l, hl, hq⟩ := ih (fun i hi => h i (by omega))
    obtain ⟨x, hx⟩ := h n (by omega)
    refine ⟨l ++ [x], by simp [hl], fun i y hy => ?_⟩
    rw [List.getElem?_append] at hy
    split at hy
    · exact hq i y hy
    · rename_i hge
      have : i = n := by
        have := (List.getElem?_eq_some_iff.1 hy).1
        simp at this; omega
      subst this
      simp [hl] at hy
      subst hy; exact hx
end
theorem mid_of {w : World} {a : Addr} {n : Nat} {v : Value} (h : w.cell? (a.add (0 * n + 0)) = some v) : ∃ b o, a = ⟨b, o, none⟩ ∧ b < w.heap.size := by
  obtain ⟨b, off, spot⟩ := a
  have hspot : spot = none := by simpa [Addr.add] using World.cell?_spot h
  subst hspot
  refine ⟨b, off, rfl, ?_⟩
  have := World.block_lt_of_cell? w _ h
  rw [Addr.add_mid] at this
  exact this

theorem one_ins : ∀ fs, Try.prog.underlying 55 = some (.struct fs) → oneCellFields Try.prog fs = true := by
  intro fs h
  rw [Try.underlying55] at h
  injection h with h
  injection h with h
  subst h
  kernel_rfl
theorem cells_ins : Try.prog.cellsOf 55 = 5 := by kernel_rfl
theorem open_ins {H : Type} {enc : TypeId × Value → H} {w : World} {base : Nat} {held : Bool} {fuel : Nat} {cs : List Value} {x : DataW H × List MemPlace}
    (h : DataW.trod enc Try.prog w base (fun _ => true) held fuel 33 cs = some x) :
    ∃ (k : Hd) (xs : List In), cs = [.slice k.ao xs.length k.cap] ∧ FitH k xs.length ∧ Il.Lies w w.heap.size k.ao xs ∧ Il.FitL xs := by
  rcases open_slice_fields Try.underlying33 Try.underlying55 (one_ins _ Try.underlying55) (by rw [cells_ins]; rfl) h with ⟨rfl, _⟩ | ⟨a, len, cap, m, rfl, hl, hm, hmm, hi⟩
  · exact ⟨noH, [], rfl, ⟨Nat.le_refl _, Nat.zero_le _, fun _ => rfl⟩, fun h => by simp at h, fun i x hx => by simp at hx⟩
  · simp only [if_true] at hmm
    obtain ⟨xs, hxl, hq⟩ := list_of len (fun i (x : In) => w.cell? (a.add (i * 5 + 0)) = some (.int .i64 x.op) ∧ w.cell? (a.add (i * 5 + 1)) = some (.int .i64 x.kd) ∧ w.cell? (a.add (i * 5 + 2)) = some (.int .i64 x.ar) ∧ w.cell? (a.add (i * 5 + 3)) = some (.int .i64 x.pl) ∧ w.cell? (a.add (i * 5 + 4)) = some (.int .i64 x.n) ∧ Il.FitI x) (by
      intro i hlt
      obtain ⟨n, hf⟩ := hi i (by omega)
      obtain ⟨v0, y0, c0, r0⟩ := hf 0 _ rfl
      obtain ⟨v1, y1, c1, r1⟩ := hf 1 _ rfl
      obtain ⟨v2, y2, c2, r2⟩ := hf 2 _ rfl
      obtain ⟨v3, y3, c3, r3⟩ := hf 3 _ rfl
      obtain ⟨v4, y4, c4, r4⟩ := hf 4 _ rfl
      obtain ⟨n0, e0, _, w0⟩ := DataW.trod_int Try.underlying3 r0
      obtain ⟨n1, e1, _, w1⟩ := DataW.trod_int Try.underlying3 r1
      obtain ⟨n2, e2, _, w2⟩ := DataW.trod_int Try.underlying3 r2
      obtain ⟨n3, e3, _, w3⟩ := DataW.trod_int Try.underlying3 r3
      obtain ⟨n4, e4, _, w4⟩ := DataW.trod_int Try.underlying2 r4
      injection e0 with e0
      injection e1 with e1
      injection e2 with e2
      injection e3 with e3
      injection e4 with e4
      subst e0 e1 e2 e3 e4
      exact ⟨⟨n0, n1, n2, n3, n4⟩, c0, c1, c2, c3, c4, i64_bd w0, i64_bd w1, i64_bd w2, i64_bd w3, i64_bd w4⟩)
    subst hxl
    refine ⟨⟨some a, cap⟩, xs, rfl, ⟨hl, hm, fun e => by cases e⟩, fun h1 => ?_, fun i x hx => (hq i x hx).2.2.2.2.2⟩
    obtain ⟨b, off, rfl, hb⟩ := mid_of (hq 0 _ (List.getElem?_eq_getElem (by omega))).1
    refine ⟨b, off, rfl, hb, fun i x hx => ?_⟩
    obtain ⟨q0, q1, q2, q3, q4, -⟩ := hq i x hx
    rw [Addr.add_mid] at q0 q1 q2 q3 q4
    exact ⟨q0, q1, q2, q3, q4⟩

theorem one_spots : ∀ fs, Try.prog.underlying 57 = some (.struct fs) → oneCellFields Try.prog fs = true := by
  intro fs h
  rw [Try.underlying57] at h
  injection h with h
  injection h with h
  subst h
  kernel_rfl
theorem cells_spots : Try.prog.cellsOf 57 = 2 := by kernel_rfl
theorem open_spots {H : Type} {enc : TypeId × Value → H} {w : World} {base : Nat} {held : Bool} {fuel : Nat} {cs : List Value} {x : DataW H × List MemPlace}
    (h : DataW.trod enc Try.prog w base (fun _ => true) held fuel 34 cs = some x) :
    ∃ (k : Hd) (xs : List Spt), cs = [.slice k.ao xs.length k.cap] ∧ FitH k xs.length ∧ Bl.LiesS w w.heap.size k.ao xs := by
  rcases open_slice_fields Try.underlying34 Try.underlying57 (one_spots _ Try.underlying57) (by rw [cells_spots]; rfl) h with ⟨rfl, _⟩ | ⟨a, len, cap, m, rfl, hl, hm, hmm, hi⟩
  · exact ⟨noH, [], rfl, ⟨Nat.le_refl _, Nat.zero_le _, fun _ => rfl⟩, fun h => by simp at h⟩
  · simp only [if_true] at hmm
    obtain ⟨xs, hxl, hq⟩ := list_of len (fun i (x : Spt) => w.cell? (a.add (i * 2 + 0)) = some (.int .i64 x.b) ∧ w.cell? (a.add (i * 2 + 1)) = some (.int .i64 x.a)) (by
      intro i hlt
      obtain ⟨n, hf⟩ := hi i (by omega)
      obtain ⟨v0, y0, c0, r0⟩ := hf 0 _ rfl
      obtain ⟨v1, y1, c1, r1⟩ := hf 1 _ rfl
      obtain ⟨n0, e0, _, w0⟩ := DataW.trod_int Try.underlying3 r0
      obtain ⟨n1, e1, _, w1⟩ := DataW.trod_int Try.underlying3 r1
      injection e0 with e0
      injection e1 with e1
      subst e0 e1
      exact ⟨⟨n0, n1⟩, c0, c1⟩)
    subst hxl
    refine ⟨⟨some a, cap⟩, xs, rfl, ⟨hl, hm, fun e => by cases e⟩, fun h1 => ?_⟩
    obtain ⟨b, off, rfl, hb⟩ := mid_of (hq 0 _ (List.getElem?_eq_getElem (by omega))).1
    refine ⟨b, off, rfl, hb, fun i x hx => ?_⟩
    obtain ⟨q0, q1⟩ := hq i x hx
    rw [Addr.add_mid] at q0 q1
    exact ⟨q0, q1⟩

theorem one_blks : ∀ fs, Try.prog.underlying 61 = some (.struct fs) → oneCellFields Try.prog fs = true := by
  intro fs h
  rw [Try.underlying61] at h
  injection h with h
  injection h with h
  subst h
  kernel_rfl
theorem cells_blks : Try.prog.cellsOf 61 = 4 := by kernel_rfl
theorem open_blks {H : Type} {enc : TypeId × Value → H} {w : World} {base : Nat} {held : Bool} {fuel : Nat} {cs : List Value} {x : DataW H × List MemPlace}
    (h : DataW.trod enc Try.prog w base (fun _ => true) held fuel 22 cs = some x) :
    ∃ (k : Hd) (xs : List Blk), cs = [.slice k.ao xs.length k.cap] ∧ FitH k xs.length ∧ Bl.Lies w w.heap.size k.ao xs := by
  rcases open_slice_fields Try.underlying22 Try.underlying61 (one_blks _ Try.underlying61) (by rw [cells_blks]; rfl) h with ⟨rfl, _⟩ | ⟨a, len, cap, m, rfl, hl, hm, hmm, hi⟩
  · exact ⟨noH, [], rfl, ⟨Nat.le_refl _, Nat.zero_le _, fun _ => rfl⟩, fun h => by simp at h⟩
  · simp only [if_true] at hmm
    obtain ⟨xs, hxl, hq⟩ := list_of len (fun i (x : Blk) => w.cell? (a.add (i * 4 + 0)) = some (.int .i64 x.id) ∧ w.cell? (a.add (i * 4 + 1)) = some (.int .i64 x.ad) ∧ w.cell? (a.add (i * 4 + 2)) = some (.int .i64 x.sz) ∧ w.cell? (a.add (i * 4 + 3)) = some (.bool x.hi)) (by
      intro i hlt
      obtain ⟨n, hf⟩ := hi i (by omega)
      obtain ⟨v0, y0, c0, r0⟩ := hf 0 _ rfl
      obtain ⟨v1, y1, c1, r1⟩ := hf 1 _ rfl
      obtain ⟨v2, y2, c2, r2⟩ := hf 2 _ rfl
      obtain ⟨v3, y3, c3, r3⟩ := hf 3 _ rfl
      obtain ⟨n0, e0, _, w0⟩ := DataW.trod_int Try.underlying3 r0
      obtain ⟨n1, e1, _, w1⟩ := DataW.trod_int Try.underlying3 r1
      obtain ⟨n2, e2, _, w2⟩ := DataW.trod_int Try.underlying3 r2
      obtain ⟨n3, e3, _⟩ := DataW.trod_bool Try.underlying4 r3
      injection e0 with e0
      injection e1 with e1
      injection e2 with e2
      injection e3 with e3
      subst e0 e1 e2 e3
      exact ⟨⟨n0, n1, n2, n3⟩, c0, c1, c2, c3⟩)
    subst hxl
    refine ⟨⟨some a, cap⟩, xs, rfl, ⟨hl, hm, fun e => by cases e⟩, fun h1 => ?_⟩
    obtain ⟨b, off, rfl, hb⟩ := mid_of (hq 0 _ (List.getElem?_eq_getElem (by omega))).1
    refine ⟨b, off, rfl, hb, fun i x hx => ?_⟩
    obtain ⟨q0, q1, q2, q3⟩ := hq i x hx
    rw [Addr.add_mid] at q0 q1 q2 q3
    exact ⟨q0, q1, q2, q3⟩

theorem one_sta : ∀ fs, Try.prog.underlying 36 = some (.struct fs) → oneCellFields Try.prog fs = true := by
  intro fs h
  rw [Try.underlying36] at h
  injection h with h
  injection h with h
  subst h
  kernel_rfl
theorem cells_sta : Try.prog.cellsOf 36 = 6 := by kernel_rfl
theorem open_stas {H : Type} {enc : TypeId × Value → H} {w : World} {base : Nat} {held : Bool} {fuel : Nat} {cs : List Value} {x : DataW H × List MemPlace}
    (h : DataW.trod enc Try.prog w base (fun _ => true) held fuel 23 cs = some x) :
    ∃ (k : Hd) (xs : List Sta), cs = [.slice k.ao xs.length k.cap] ∧ FitH k xs.length ∧ RowT w w.heap.size k.ao xs ∧ (∀ (i : Nat) (x : Sta), xs[i]? = some x → StaL w w.heap.size x) ∧ ∀ (i : Nat) (x : Sta), xs[i]? = some x → FitS x := by
  rcases open_slice_fields Try.underlying23 Try.underlying36 (one_sta _ Try.underlying36) (by rw [cells_sta]; rfl) h with ⟨rfl, _⟩ | ⟨a, len, cap, m, rfl, hl, hm, hmm, hi⟩
  · exact ⟨noH, [], rfl, ⟨Nat.le_refl _, Nat.zero_le _, fun _ => rfl⟩, fun h => by simp at h, fun i x hx => by simp at hx, fun i x hx => by simp at hx⟩
  · simp only [if_true] at hmm
    obtain ⟨xs, hxl, hq⟩ := list_of len (fun i (x : Sta) => (w.cell? (a.add (i * 6 + 0)) = some (.int .i64 x.ad) ∧ w.cell? (a.add (i * 6 + 1)) = some (.int .i64 x.sc) ∧ w.cell? (a.add (i * 6 + 2)) = some (.int .i64 x.lo) ∧ w.cell? (a.add (i * 6 + 3)) = some (.slice x.co.ao x.cd.length x.co.cap) ∧ w.cell? (a.add (i * 6 + 4)) = some (.slice x.so.ao x.sb.length x.so.cap) ∧ w.cell? (a.add (i * 6 + 5)) = some (.slice x.po.ao x.pb.length x.po.cap)) ∧ StaL w w.heap.size x ∧ FitS x) (by
      intro i hlt
      obtain ⟨n, hf⟩ := hi i (by omega)
      obtain ⟨v0, y0, c0, r0⟩ := hf 0 _ rfl
      obtain ⟨v1, y1, c1, r1⟩ := hf 1 _ rfl
      obtain ⟨v2, y2, c2, r2⟩ := hf 2 _ rfl
      obtain ⟨v3, y3, c3, r3⟩ := hf 3 _ rfl
      obtain ⟨v4, y4, c4, r4⟩ := hf 4 _ rfl
      obtain ⟨v5, y5, c5, r5⟩ := hf 5 _ rfl
      obtain ⟨n0, e0, _, w0⟩ := DataW.trod_int Try.underlying3 r0
      obtain ⟨n1, e1, _, w1⟩ := DataW.trod_int Try.underlying3 r1
      obtain ⟨n2, e2, _, w2⟩ := DataW.trod_int Try.underlying3 r2
      obtain ⟨k3, l3, e3, f3, i3, j3⟩ := open_ins r3
      obtain ⟨k4, l4, e4, f4, i4⟩ := open_spots r4
      obtain ⟨k5, l5, e5, f5, i5⟩ := open_spots r5
      injection e0 with e0
      injection e1 with e1
      injection e2 with e2
      injection e3 with e3
      injection e4 with e4
      injection e5 with e5
      subst e0 e1 e2 e3 e4 e5
      exact ⟨⟨n0, n1, n2, l3, l4, l5, k3, k4, k5⟩, ⟨c0, c1, c2, c3, c4, c5⟩, ⟨i3, i4, i5⟩, ⟨f3, f4, f5, j3⟩⟩)
    subst hxl
    refine ⟨⟨some a, cap⟩, xs, rfl, ⟨hl, hm, fun e => by cases e⟩, fun h1 => ?_, fun i x hx => (hq i x hx).2.1, fun i x hx => (hq i x hx).2.2⟩
    obtain ⟨b, off, rfl, hb⟩ := mid_of (hq 0 _ (List.getElem?_eq_getElem (by omega))).1.1
    refine ⟨b, off, rfl, hb, fun i x hx => ?_⟩
    obtain ⟨⟨q0, q1, q2, q3, q4, q5⟩, -⟩ := hq i x hx
    rw [Addr.add_mid] at q0 q1 q2 q3 q4 q5
    exact ⟨q0, q1, q2, q3, q4, q5⟩
theorem cells_clu : Try.prog.cellsOf 25 = 8 := by kernel_rfl
section
variable {H : Type} {enc : TypeId × Value → H} {w : World} {base : Nat} {held : Bool}
set_option maxRecDepth 100000 in
theorem cells_of_clu {fuel : Nat} {cs : List Value} {x : DataW H × List MemPlace} (h : DataW.trod enc Try.prog w base (fun _ => true) held fuel 25 cs = some x) :
    ∃ c : Clu, FitC c ∧ CluL w w.heap.size c ∧ cs = (cluC c).toList := by
  obtain ⟨ys, n, rfl, hx, hlen, hyl, hf⟩ := DataW.trod_struct Try.underlying25 h
  rw [cells_clu] at hlen
  obtain ⟨y0, e0⟩ := some_of_lt (l := ys) (i := 0) (by rw [hyl]; decide)
  obtain ⟨y1, e1⟩ := some_of_lt (l := ys) (i := 1) (by rw [hyl]; decide)
  obtain ⟨y2, e2⟩ := some_of_lt (l := ys) (i := 2) (by rw [hyl]; decide)
  obtain ⟨y3, e3⟩ := some_of_lt (l := ys) (i := 3) (by rw [hyl]; decide)
  obtain ⟨y4, e4⟩ := some_of_lt (l := ys) (i := 4) (by rw [hyl]; decide)
  obtain ⟨y5, e5⟩ := some_of_lt (l := ys) (i := 5) (by rw [hyl]; decide)
  obtain ⟨y6, e6⟩ := some_of_lt (l := ys) (i := 6) (by rw [hyl]; decide)
  obtain ⟨y7, e7⟩ := some_of_lt (l := ys) (i := 7) (by rw [hyl]; decide)
  obtain ⟨z0, h0, -, w0⟩ := DataW.trod_int Try.underlying3 ((hf 0 _ rfl).trans e0)
  have k0 : (cs.drop 0).take 1 = _ := h0
  obtain ⟨z1, h1, -, w1⟩ := DataW.trod_int Try.underlying3 ((hf 1 _ rfl).trans e1)
  have k1 : (cs.drop 1).take 1 = _ := h1
  obtain ⟨z2, h2, -, w2⟩ := DataW.trod_int Try.underlying3 ((hf 2 _ rfl).trans e2)
  have k2 : (cs.drop 2).take 1 = _ := h2
  obtain ⟨z3, h3, -, w3⟩ := DataW.trod_int Try.underlying3 ((hf 3 _ rfl).trans e3)
  have k3 : (cs.drop 3).take 1 = _ := h3
  obtain ⟨z4, h4, -, w4⟩ := DataW.trod_int Try.underlying3 ((hf 4 _ rfl).trans e4)
  have k4 : (cs.drop 4).take 1 = _ := h4
  obtain ⟨z5, h5, -, w5⟩ := DataW.trod_int Try.underlying3 ((hf 5 _ rfl).trans e5)
  have k5 : (cs.drop 5).take 1 = _ := h5
  obtain ⟨k6, l6, h6, f6, i6⟩ := open_blks ((hf 6 _ rfl).trans e6)
  have k6' : (cs.drop 6).take 1 = _ := h6
  obtain ⟨k7, l7, h7, f7, i7, j7, g7⟩ := open_stas ((hf 7 _ rfl).trans e7)
  have k7' : (cs.drop 7).take 1 = _ := h7
  refine ⟨⟨z0, z1, z2, z3, z4, z5, l6, l7, k6, k7⟩, ⟨f6, f7, g7⟩, ⟨i6, i7, j7⟩, ?_⟩
  match cs, hlen with
  | [v0, v1, v2, v3, v4, v5, v6, v7], _ =>
    simp at k0 k1 k2 k3 k4 k5 k6' k7'
    simp [cluC, *]
set_option maxRecDepth 100000 in
theorem open_clu {v : Value} {d : DataW H} {p : List MemPlace} {b : Nat} (hv : Value.okWide Try.prog w .any b 25 v) (h : DataW.Trod enc Try.prog w base (fun _ => true) held 25 v d p) :
    ∃ c : Clu, FitC c ∧ CluL w w.heap.size c ∧ v = .agg (cluC c) := by
  unfold Value.okWide at hv
  rw [Try.underlying25] at hv
  obtain ⟨cs, rfl, -, -⟩ := hv
  obtain ⟨n, h⟩ := h
  obtain ⟨c, h1, h2, hc⟩ := cells_of_clu h
  refine ⟨c, h1, h2, ?_⟩
  rw [agg_of hc]
end

end Go.Proofs.Ytmlopacekoghkaa.Cf
