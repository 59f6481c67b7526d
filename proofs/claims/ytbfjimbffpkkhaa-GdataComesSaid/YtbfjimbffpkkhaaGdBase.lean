/-
  A publisher in memory; what the calls share. Conditions: as each states.
-/
import Derived.Test.YtbfjimbffpkkhaaGdMath
import Derived.Test.YtbfjimbffpkkhaaPaWp
import Derived.Lib.UnsafeStr
import Derived.Lib.Walk
namespace Go.Proofs.Ytbfjimbffpkkhaa.Pa
open Go.RowKit

theorem results_F {fn : Func} {p q : Tmp} (h : fn.results = #[.cell p 33, .tmp q]) (tmps : Array Value) (w : World) (b : Nat) (f : Fr) (v : Value)
    (hp : tmps.getD p undef = .pointer (some ⟨b, 0, none⟩)) (hq : tmps.getD q undef = v) (hr : FrAt w b 0 f) : (results fn tmps).run Try.prog w = .ok (.tuple #[.agg (frA f), v]) w := by
  have hp' : tmps[p]?.getD undef = .pointer (some ⟨b, 0, none⟩) := by simpa using hp
  have hq' : tmps[q]?.getD undef = v := by simpa using hq
  have hl : (loadVar 33 ⟨b, 0, none⟩).run Try.prog w = .ok (.agg (frC f).toArray) w :=
    run_loadVar_mid (P := Try.prog) w b 0 33 (frC f) _ hr Try.underlying33 rfl (by rw [frC_len]; exact Try.sizeF)
  simp [results, h, hp', hq', asAddr, hl, frA]
/-- The parts that are still to go: where they lie. -/
def Way (W : World) (g : Nat) (v : Value) (l : List Fr) : Prop := ∃ (a : Option Addr) (cap : Nat), v = .slice a l.length cap ∧ l.length ≤ cap ∧ (l ≠ [] → ∃ o, a = some ⟨g, o, none⟩ ∧ W.rangeAt g o (frs l))
section
variable {W W' : World} {g : Nat} {v : Value} {l : List Fr}
theorem Way.nil (W : World) (g : Nat) : Way W g (.slice none 0 0) [] := ⟨none, 0, rfl, Nat.le_refl _, fun h => absurd rfl h⟩
theorem Way.only {ms : List Nat} (h : Way W g v l) (hb : OnlyL ms W W') (hn : g ∉ ms) : Way W' g v l := by
  obtain ⟨a, cap, h1, h2, h3⟩ := h
  exact ⟨a, cap, h1, h2, fun hl => (h3 hl).imp fun o ho => ⟨ho.1, fun j u hu => hb.cell hn (ho.2 j u hu)⟩⟩
theorem Way.below (h : Way W g v l) (hb : Below W.heap.size W W') : Way W' g v l := h.only (OnlyL.of_below hb) (List.not_mem_nil)
theorem Way.of_row {N : Nat} (h : FRow N W v l) : ∃ g, Way W g v l ∧ N ≤ g := by
  rcases h.2 with ⟨rfl, h0⟩ | ⟨g, cap, cur, rfl, hN, hg, h1, h2, h3, h4⟩
  · have : l = [] := List.length_eq_zero_iff.1 h0
    subst this
    exact ⟨N, Way.nil W N, Nat.le_refl _⟩
  · refine ⟨g, ⟨some ⟨g, 0, none⟩, cap, rfl, h1, fun _ => ⟨0, rfl, fun j u hu => ?_⟩⟩, hN⟩
    rw [Nat.zero_add, cell_of_row _ _ _ _ _ _ hg, ← Array.getElem?_toList]
    rw [← h4] at hu
    rw [List.getElem?_take] at hu
    split at hu
    · exact hu
    · cases hu
theorem Way.head {x : Fr} (h : Way W g v (x :: l)) : ∃ (o cap : Nat), v = .slice (some ⟨g, o, none⟩) (l.length + 1) cap ∧ l.length + 1 ≤ cap ∧ FrAt W g o x ∧
    Way W g (.slice (if cap = 1 then some ⟨g, o, none⟩ else some ⟨g, o + 19, none⟩) l.length (cap - 1)) l := by
  obtain ⟨a, cap, rfl, h2, h3⟩ := h
  obtain ⟨o, rfl, h5⟩ := h3 (by simp)
  rw [List.length_cons] at h2
  refine ⟨o, cap, rfl, h2, fun j u hu => h5 j u ?_, ?_⟩
  · show (frC x ++ frs l)[j]? = _
    rw [List.getElem?_append_left (List.getElem?_eq_some_iff.1 hu).1]
    exact hu
  · refine ⟨_, _, rfl, by omega, fun hl => ⟨o + 19, ?_, fun j u hu => ?_⟩⟩
    · have : 0 < l.length := List.length_pos_iff.2 hl
      rw [if_neg (by omega)]
    · have := h5 (19 + j) u (by
        show (frC x ++ frs l)[19 + j]? = _
        rw [List.getElem?_append_right (by rw [frC_len]; omega), frC_len, show 19 + j - 19 = j by omega]
        exact hu)
      rwa [← Nat.add_assoc] at this
end
set_option maxRecDepth 100000 in
theorem sl_1 (g o m cap : Nat) (h1 : 1 ≤ m) (h2 : m ≤ cap) (W : World) : (Instr.sliceAt 40 (.slice (some ⟨g, o, none⟩) m cap) (some (.int .i64 1)) none none).run Try.prog W = .ok (.slice (if cap = 1 then some ⟨g, o, none⟩ else some ⟨g, o + 19, none⟩) (m - 1) (cap - 1)) W := by
  rw [run_sliceAt_slice (P := Try.prog) W 40 _ _ _ _ Try.underlying40, run_slice_l (P := Try.prog) W 40 (some ⟨g, o, none⟩) m cap Try.underlying40 .i64 1 (by omega) (by omega)]
  have hs : (sizeOf (Try.prog.elem 40)).run Try.prog W = .ok 19 W := by go_simp
  rw [hs]
  show Result.ok (sliced _ _ _ _ 19) W = _
  unfold sliced
  by_cases e : cap = 1
  · subst e; simp
  · simp [e, Addr.add_mid]

/-! ### A publisher -/
structure PubV (W : World) (b g n inc : Nat) (P : Pb) (v : Value) : Prop where
  head : W.heap[b]? = some (.cells #[.int .i64 n, .string (S P.last), .int .u16 inc, .int .u32 P.seq, v] 80 (0, 0))
  way : Way W g v P.way
  ne : g ≠ b
def PubAt (W : World) (b g n inc : Nat) (P : Pb) : Prop := ∃ v, PubV W b g n inc P v
section
variable {W W' : World} {b g n inc : Nat} {P : Pb} {v : Value}
theorem PubV.lt (h : PubV W b g n inc P v) : b < W.heap.size := lt_of_heap h.head
theorem PubV.c0 (h : PubV W b g n inc P v) : W.cell? ⟨b, 0, none⟩ = some (.int .i64 n) := by rw [cell_of_row _ _ _ _ _ _ h.head]; rfl
theorem PubV.c1 (h : PubV W b g n inc P v) : W.cell? ⟨b, 1, none⟩ = some (.string (S P.last)) := by rw [cell_of_row _ _ _ _ _ _ h.head]; rfl
theorem PubV.c2 (h : PubV W b g n inc P v) : W.cell? ⟨b, 2, none⟩ = some (.int .u16 inc) := by rw [cell_of_row _ _ _ _ _ _ h.head]; rfl
theorem PubV.c3 (h : PubV W b g n inc P v) : W.cell? ⟨b, 3, none⟩ = some (.int .u32 P.seq) := by rw [cell_of_row _ _ _ _ _ _ h.head]; rfl
theorem PubV.c4 (h : PubV W b g n inc P v) : W.cell? ⟨b, 4, none⟩ = some v := by rw [cell_of_row _ _ _ _ _ _ h.head]; rfl
theorem PubV.free (h : PubV W b g n inc P v) (j : Nat) : W.frozen? ⟨b, j, none⟩ = false := frozen_of _ _ _ _ _ h.head
theorem PubV.only {ms : List Nat} (h : PubV W b g n inc P v) (hb : OnlyL ms W W') (h1 : b ∉ ms) (h2 : g ∉ ms) : PubV W' b g n inc P v :=
  ⟨(hb.block b h.lt h1).trans h.head, h.way.only hb h2, h.ne⟩
theorem PubV.below (h : PubV W b g n inc P v) (hb : Below W.heap.size W W') : PubV W' b g n inc P v := h.only (OnlyL.of_below hb) (List.not_mem_nil) (List.not_mem_nil)
theorem PubV.drew (h : PubV W b g n inc P v) : PubV W.drew b g n inc P v := ⟨h.head, h.way, h.ne⟩
theorem PubV.com (h : PubV W b g n inc P v) (l : Bs) (m : Nat) : PubV ((W.setCell ⟨b, 1, none⟩ (.string (S l))).setCell ⟨b, 3, none⟩ (.int .u32 m)) b g n inc ⟨m, l, P.way⟩ v :=
  ⟨heap_setCell_same _ b 3 _ _ (.int .u32 m) (heap_setCell_same _ b 1 _ _ (.string (S l)) h.head), h.way.only (ms := [b]) ((OnlyL.set (by simp) _ _).tr (OnlyL.set (by simp) _ _)) (by simpa using h.ne), h.ne⟩
theorem PubV.turn {g' : Nat} {u : Value} {l : List Fr} (h : PubV W b g n inc P v) (hw : Way W g' u l) (hne : g' ≠ b) : PubV (W.setCell ⟨b, 4, none⟩ u) b g' n inc ⟨P.seq, P.last, l⟩ u :=
  ⟨heap_setCell_same _ b 4 _ _ u h.head, hw.only (ms := [b]) (OnlyL.set (by simp) _ _) (by simpa using hne), hne⟩
theorem PubAt.only {ms : List Nat} (h : PubAt W b g n inc P) (hb : OnlyL ms W W') (h1 : b ∉ ms) (h2 : g ∉ ms) : PubAt W' b g n inc P := h.imp fun _ k => k.only hb h1 h2
theorem PubAt.below (h : PubAt W b g n inc P) (hb : Below W.heap.size W W') : PubAt W' b g n inc P := h.imp fun _ k => k.below hb
theorem PubAt.lt (h : PubAt W b g n inc P) : b < W.heap.size := by obtain ⟨_, k⟩ := h; exact k.lt
theorem PubAt.drew (h : PubAt W b g n inc P) : PubAt W.drew b g n inc P := h.imp fun _ k => k.drew
end

/-! ### A text's twin -/
theorem pad_self (v : Bs) : padV v.length v = v := by unfold padV; simp
end Go.Proofs.Ytbfjimbffpkkhaa.Pa
