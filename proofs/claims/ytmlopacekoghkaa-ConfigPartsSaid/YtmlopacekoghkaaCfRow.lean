/-
  Stations appended to a row of the call's own; a cluster without one of its stations. Conditions: up to 40 of them.
-/
import Derived.Test.YtmlopacekoghkaaCfLaw
import Derived.Laws.AppendOwnNone
import Derived.OwnWalk
import Derived.Deep.RegionHeld3
namespace Go.Proofs.Ytmlopacekoghkaa.Cf
open Go.RowKit
open Go.Proofs.Ytmlopacekoghkaa.Bl (Blk Spt findB layO noS Tells I64 one_S cell_of_row kept_own blkV spV Own2 Own4)
open Go.Proofs.Ytmlopacekoghkaa.Il (In)

def flT (l : List Sta) : List Value := l.flatMap fun s => (staC s).toList
theorem celT_len (s : Sta) : (staC s).toList.length = 6 := rfl
theorem flT_len (l : List Sta) : (flT l).length = l.length * 6 := by
  unfold flT
  induction l with
  | nil => rfl
  | cons x l ih => rw [List.flatMap_cons, List.length_append, ih, List.length_cons, celT_len]; omega
theorem flT_app (a b : List Sta) : flT (a ++ b) = flT a ++ flT b := by unfold flT; rw [List.flatMap_append]
theorem flT_at : ∀ (l : List Sta) (i : Nat) (x : Sta), l[i]? = some x → ∀ j, j < 6 → (flT l)[i * 6 + j]? = (staC x).toList[j]?
  | [], i, x, h, _, _ => by simp at h
  | y :: l, 0, x, h, j, hj => by
    have : y = x := by simpa using h
    subst this
    show ((staC y).toList ++ flT l)[0 * 6 + j]? = _
    rw [List.getElem?_append_left (by rw [celT_len]; omega), Nat.zero_mul, Nat.zero_add]
  | y :: l, i + 1, x, h, j, hj => by
    have ih := flT_at l i x (by simpa using h) j hj
    show ((staC y).toList ++ flT l)[(i + 1) * 6 + j]? = _
    rw [List.getElem?_append_right (by rw [celT_len]; omega), ← ih, celT_len]
    congr 1
    omega
theorem flT_one : ∀ (l : List Sta), ∀ u ∈ flT l, u.oneCell' = true := fun l u hu => by
  unfold flT at hu
  obtain ⟨x, _, hx⟩ := List.mem_flatMap.1 hu
  simp [staC] at hx
  rcases hx with rfl | rfl | rfl | rfl | rfl | rfl <;> rfl
theorem itemsT {w : World} {b o : Nat} {xs : List Sta} (h : ∀ (i : Nat) (x : Sta), xs[i]? = some x → Cells6 w b (o + i * 6) x) : ∀ j u, (flT xs)[j]? = some u → w.cell? ⟨b, o + j, none⟩ = some u := by
  intro j u hj
  have hjl : j < xs.length * 6 := by
    have := (List.getElem?_eq_some_iff.1 hj).1
    rw [flT_len] at this
    exact this
  obtain ⟨x, hx⟩ : ∃ x, xs[j / 6]? = some x := ⟨_, List.getElem?_eq_getElem (by omega)⟩
  have e := flT_at xs (j / 6) x hx (j % 6) (by omega)
  rw [show j / 6 * 6 + j % 6 = j by omega, hj] at e
  obtain ⟨c0, c1, c2, c3, c4, c5⟩ := h (j / 6) x hx
  have hr : j % 6 = 0 ∨ j % 6 = 1 ∨ j % 6 = 2 ∨ j % 6 = 3 ∨ j % 6 = 4 ∨ j % 6 = 5 := by omega
  rcases hr with hr | hr | hr | hr | hr | hr <;> rw [hr] at e <;> injection e with e <;> subst e
  · rw [show o + j = o + j / 6 * 6 by omega]; exact c0
  · rw [show o + j = o + j / 6 * 6 + 1 by omega]; exact c1
  · rw [show o + j = o + j / 6 * 6 + 2 by omega]; exact c2
  · rw [show o + j = o + j / 6 * 6 + 3 by omega]; exact c3
  · rw [show o + j = o + j / 6 * 6 + 4 by omega]; exact c4
  · rw [show o + j = o + j / 6 * 6 + 5 by omega]; exact c5
theorem infoT : (Try.prog.info? 36).map (fun i => (i.zero, i.size, i.bytes)) = some (some (.agg #[.int .i64 0, .int .i64 0, .int .i64 0, .slice none 0 0, .slice none 0 0, .slice none 0 0]), 6, 96) := by kernel_rfl
def OwnT (w : World) (N : Nat) (v : Value) (l : List Sta) : Prop := w.ownsRow N 36 6 v l.length (flT l)
theorem OwnT.empty (w : World) : OwnT (w.alloc (.cells #[] 36)) w.heap.size (.slice (some ⟨w.heap.size, 0, none⟩) 0 0) [] :=
  World.ownsRow_lit w #[] 0 (Nat.le_refl _) (by unfold maxLen; omega) rfl
theorem OwnT.head {w : World} {N : Nat} {v : Value} {l : List Sta} (h : OwnT w N v l) : ∃ k : Hd, v = .slice k.ao l.length k.cap ∧ FitH k l.length ∧ RowT w w.heap.size k.ao l ∧ ∀ p, k.ao = some p → N ≤ p.block := by
  have hcells := fun (g cap : Nat) (i : Nat) (x : Sta) (hv : v = .slice (some ⟨g, 0, none⟩) l.length cap) (hx : l[i]? = some x) (j : Nat) (hj : j < 6) => (show w.cell? ⟨g, i * 6 + j, none⟩ = (staC x).toList[j]? by
    have hi := (List.getElem?_eq_some_iff.1 hx).1
    subst hv
    rw [World.ownsRow.cellAt h (i * 6 + j) (by omega), flT_at l i x hx j hj])
  rcases h.2 with ⟨rfl, h0⟩ | ⟨g, cap, cur, rfl, hN, hg, h1, h2, h3, h4⟩
  · exact ⟨⟨none, 0⟩, by rw [h0], ⟨by show l.length ≤ 0; omega, Nat.zero_le _, fun _ => rfl⟩, fun h1 => by omega, fun p e => by cases e⟩
  · refine ⟨⟨some ⟨g, 0, none⟩, cap⟩, rfl, ⟨h1, h2, fun e => by cases e⟩, fun _ => ⟨g, 0, rfl, (Array.getElem?_eq_some_iff.1 hg).1, fun i x hx => ?_⟩, fun p e => by injection e with e; subst e; exact hN⟩
    have hc := hcells g cap i x rfl hx
    rw [Nat.zero_add]
    exact ⟨hc 0 (by omega), hc 1 (by omega), hc 2 (by omega), hc 3 (by omega), hc 4 (by omega), hc 5 (by omega)⟩
set_option maxRecDepth 100000 in
/-- A list of stations appended to a row of the call's own, as one step of a region that draws. -/
theorem step_apT {w : World} {ops : Array Oper} {o : Oper} {a : Act} {K : Act → World → Prop} {Q : Exit → Act → World → Prop} {E : Prop} (hgd : o.guard = none) (s x : Operand)
    (ho : o.op = .call { callee := .builtin .append, args := #[s, x], argTypes := #[23, 23] })
    (N : Nat) (v : Value) (la lb : List Sta) (n : Nat) (hs : a.eval s = v) (hown : OwnT w N v la) (ad : Addr) (c : Nat) (hx : a.eval x = .slice (some ad) n c) (hn : n = lb.length) (hu : RowT w w.heap.size (some ad) lb)
    (hlen : la.length + lb.length ≤ 1000) (hN : N ≤ w.heap.size)
    (h : ∀ v' w', OwnT w' N v' (la ++ lb) → Below N w w' → K (a.put o.dst v') w') :
    if Region.wanted o (yielded ops a.tmps) = true then Oper.wp Try.prog o a w K Q else E := by
  have hw : Region.wanted o (yielded ops a.tmps) = true := by simp [Region.wanted, hgd]
  rw [if_pos hw]
  obtain ⟨i0, hi, hz0, hz1, hz2⟩ := Bl.info_parts infoT
  subst hn
  have hcells : ∀ j u, (flT lb)[j]? = some u → w.cell? (ad.add j) = some u := fun j u hj => by
    have h1 : 1 ≤ lb.length := by
      have := (List.getElem?_eq_some_iff.1 hj).1
      rw [flT_len] at this
      omega
    obtain ⟨b, o, e, _, hI⟩ := hu h1
    injection e with e
    subst e
    rw [Addr.add_mid b o j]
    exact itemsT hI j u hj
  obtain ⟨v', w', hr, h4, h5, -⟩ := run_append_own (P := Try.prog) (w := w) N 23 o.type 36 i0 _ 6 96 Try.underlying23 hi hz0 hz1 hz2 rfl (by decide) v la.length (flT la) hown ad lb.length c (flT lb) (flT_len lb) hcells (flT_one lb) (by unfold maxLen; omega) (by omega) hN
  unfold Oper.wp execOp
  simp only [ho, resolve, invoke, builtin, Sem.run_bind, Sem.run_pure, Result.andThen_ok, List.map_toArray, List.map_cons, List.map_nil, hs, hx, hr]
  refine h v' w' ?_ ⟨h5.os, h5.tape, h5.output, h5.size, fun k hk => h5.block k (by omega) (fun e => by have := (World.ownsRow.lt hown k e.symm).1; omega)⟩
  unfold OwnT
  rw [List.length_append, flT_app]
  exact h4
end Go.Proofs.Ytmlopacekoghkaa.Cf
