/-
  Instructions appended to a row of the call's own; jumps beyond a place; what is cut off, and what is added. Conditions: none.
-/
import Derived.Test.YtbejajnhgoejhaaVwAwake
import Derived.Laws.AppendOwnNone
import Derived.OwnWalk
import Derived.Deep.AppendLies
import Derived.Test.YtbejajnhgoejhaaVeCut
namespace Go.Proofs.Ytbejajnhgoejhaa.Ve
open Go.RowKit
open Go.Proofs.Ytbejajnhgoejhaa.Il hiding Next
open Go.Proofs.Ytbejajnhgoejhaa.Ic

def flatI (l : List In) : List Value := l.flatMap insC
theorem flatI_len (l : List In) : (flatI l).length = l.length * 5 := by
  unfold flatI
  induction l with
  | nil => rfl
  | cons x l ih => rw [List.flatMap_cons, List.length_append, ih, List.length_cons]; simp [insC]; omega
theorem flatI_app (a b : List In) : flatI (a ++ b) = flatI a ++ flatI b := by unfold flatI; rw [List.flatMap_append]
theorem flatI_at : ∀ (l : List In) (i : Nat) (x : In), l[i]? = some x → ∀ j, j < 5 → (flatI l)[i * 5 + j]? = (insC x)[j]?
  | [], i, x, h, _, _ => by simp at h
  | y :: l, 0, x, h, j, hj => by
    have : y = x := by simpa using h
    subst this
    show (insC y ++ flatI l)[0 * 5 + j]? = _
    rw [List.getElem?_append_left (by simp [insC]; omega), Nat.zero_mul, Nat.zero_add]
  | y :: l, i + 1, x, h, j, hj => by
    have ih := flatI_at l i x (by simpa using h) j hj
    show (insC y ++ flatI l)[(i + 1) * 5 + j]? = _
    rw [List.getElem?_append_right (by simp [insC]; omega), ← ih]
    congr 1
    simp [insC]; omega
theorem flatI_one : ∀ (l : List In), ∀ u ∈ flatI l, u.oneCell' = true := fun l u hu => by
  unfold flatI at hu
  obtain ⟨x, _, hx⟩ := List.mem_flatMap.1 hu
  simp [insC] at hx
  rcases hx with rfl | rfl | rfl | rfl | rfl <;> rfl
theorem items_flat {w : World} {b o : Nat} {xs : List In} (h : Items w b o xs) : ∀ j u, (flatI xs)[j]? = some u → w.cell? ⟨b, o + j, none⟩ = some u := by
  intro j u hj
  have hjl : j < xs.length * 5 := by
    have := (List.getElem?_eq_some_iff.1 hj).1
    rw [flatI_len] at this
    exact this
  obtain ⟨x, hx⟩ : ∃ x, xs[j / 5]? = some x := ⟨_, List.getElem?_eq_getElem (by omega)⟩
  have e := flatI_at xs (j / 5) x hx (j % 5) (by omega)
  rw [show j / 5 * 5 + j % 5 = j by omega, hj] at e
  obtain ⟨c0, c1, c2, c3, c4⟩ := h (j / 5) x hx
  have hr : j % 5 = 0 ∨ j % 5 = 1 ∨ j % 5 = 2 ∨ j % 5 = 3 ∨ j % 5 = 4 := by omega
  rcases hr with hr | hr | hr | hr | hr <;> rw [hr] at e <;> injection e with e <;> subst e
  · rw [show o + j = o + j / 5 * 5 by omega]; exact c0
  · rw [show o + j = o + j / 5 * 5 + 1 by omega]; exact c1
  · rw [show o + j = o + j / 5 * 5 + 2 by omega]; exact c2
  · rw [show o + j = o + j / 5 * 5 + 3 by omega]; exact c3
  · rw [show o + j = o + j / 5 * 5 + 4 by omega]; exact c4
theorem infoIns : (Try.prog.info? 41).map (fun i => (i.zero, i.size, i.bytes)) = some (some (.agg #[.int .i64 0, .int .i64 0, .int .i64 0, .int .i64 0, .int .i64 0]), 5, 40) := by kernel_rfl

/-- A row of instructions that the call itself made. -/
def OwnI (w : World) (N : Nat) (v : Value) (l : List In) : Prop := w.ownsRow N 41 5 v l.length (flatI l)
theorem OwnI.empty (w : World) : OwnI (w.alloc (.cells #[] 41)) w.heap.size (.slice (some ⟨w.heap.size, 0, none⟩) 0 0) [] :=
  World.ownsRow_lit w #[] 0 (Nat.le_refl _) (by unfold maxLen; omega) rfl
theorem OwnI.alloc {w : World} {N : Nat} {v : Value} {l : List In} (h : OwnI w N v l) (ob : Obj) : OwnI (w.alloc ob) N v l := World.ownsRow.alloc h ob
theorem OwnI.lies {w : World} {N : Nat} {v : Value} {l : List In} (h : OwnI w N v l) (h1 : 0 < l.length) : ∃ g cap, v = .slice (some ⟨g, 0, none⟩) l.length cap ∧ Lies w w.heap.size (some ⟨g, 0, none⟩) l := by
  obtain ⟨g, cap, hv, hN, hg⟩ := World.ownsRow.form h h1
  subst hv
  refine ⟨g, cap, rfl, fun _ => ⟨g, 0, rfl, hg, fun i x hx => ?_⟩⟩
  have hi := (List.getElem?_eq_some_iff.1 hx).1
  have hc : ∀ j, j < 5 → w.cell? ⟨g, i * 5 + j, none⟩ = (insC x)[j]? := fun j hj => by
    rw [World.ownsRow.cellAt h (i * 5 + j) (by omega), flatI_at l i x hx j hj]
  rw [Nat.zero_add]
  exact ⟨hc 0 (by omega), hc 1 (by omega), hc 2 (by omega), hc 3 (by omega), hc 4 (by omega)⟩
/-- A list appended to a row of the call's own, nil or not. -/
theorem wpList_append_ins {w : World} {ops : Array Oper} {rest : List Oper} {o : Oper} {a : Act} {Q : Exit → Act → World → Prop} (hgd : o.guard = none) (s x : Operand)
    (ho : o.op = .call { callee := .builtin .append, args := #[s, x], argTypes := #[22, 22] })
    (N : Nat) (v : Value) (la lb : List In) (hs : a.eval s = v) (hown : OwnI w N v la) (ao : Option Addr) (c : Nat) (hx : a.eval x = .slice ao lb.length c) (hu : Lies w w.heap.size ao lb) (hc : ao = none → c = 0)
    (hlen : la.length + lb.length ≤ 1000) (hN : N ≤ w.heap.size)
    (h : ∀ v' w', OwnI w' N v' (la ++ lb) → Below N w w' → wpList Try.prog ops Q rest (a.put o.dst v') w') : wpList Try.prog ops Q (o :: rest) a w := by
  obtain ⟨i0, hi, hz0, hz1, hz2⟩ := info_parts infoIns
  cases ao with
  | none =>
    have hl : lb.length = 0 := by
      by_cases h1 : 1 ≤ lb.length
      · obtain ⟨b, o, e, _⟩ := hu h1
        cases e
      · omega
    have hb : lb = [] := List.eq_nil_of_length_eq_zero hl
    subst hb
    have hc0 := hc rfl
    subst hc0
    refine wpList_append_own_none hgd s x 22 ho N 41 i0 5 Try.underlying22 hi v la.length (flatI la) hs hown hx ?_
    refine h v w ?_ (Below.refl _ _)
    rw [List.append_nil]
    exact hown
  | some ad =>
    have hcells : ∀ j u, (flatI lb)[j]? = some u → w.cell? (ad.add j) = some u := fun j u hj => by
      have h1 : 1 ≤ lb.length := by
        have := (List.getElem?_eq_some_iff.1 hj).1
        rw [flatI_len] at this
        omega
      obtain ⟨b, o, e, _, hI⟩ := hu h1
      injection e with e
      subst e
      have hadd : (⟨b, o, none⟩ : Addr).add j = ⟨b, o + j, none⟩ := by unfold Addr.add; split <;> simp_all
      rw [hadd]
      exact items_flat hI j u hj
    refine wpList_append_own w hgd s x 22 ho N 41 i0 _ 5 40 Try.underlying22 hi hz0 hz1 hz2 rfl (by decide) v la.length (flatI la) hs hown ad lb.length c (flatI lb) hx (flatI_len lb) hcells (flatI_one lb) (by unfold maxLen; omega) (by omega) hN (fun v' w' h4 h5 _ => h v' w' ?_ ?_)
    · unfold OwnI
      rw [List.length_append, flatI_app]
      exact h4
    · exact ⟨h5.os, h5.tape, h5.output, h5.size, fun k hk => h5.block k (by omega) (fun e => by have := (World.ownsRow.lt hown k e.symm).1; omega)⟩

/-! ### What is cut off, and what is added -/
theorem lies_take {w : World} {N : Nat} {ao : Option Addr} {l : List In} (h : Lies w N ao l) (j : Nat) : Lies w N ao (l.take j) := fun h1 => by
  rw [List.length_take] at h1
  obtain ⟨b, o, e, hlt, hI⟩ := h (by omega)
  refine ⟨b, o, e, hlt, fun i x hx => hI i x ?_⟩
  rw [List.getElem?_take] at hx
  split at hx
  · exact hx
  · cases hx
theorem fit_take {l : List In} (h : FitL l) (j : Nat) : FitL (l.take j) := fun i x hx => h i x (by
  rw [List.getElem?_take] at hx
  split at hx
  · exact hx
  · cases hx)
theorem At.cell {w W : World} {b o k : Nat} {l : List In} {x : In} (h : At w W (some ⟨b, o, none⟩) l) (hx : l[k]? = some x) :
    W.cell? ⟨b, o + k * 5, none⟩ = some (.int .i64 x.op) ∧ W.cell? ⟨b, o + k * 5 + 1, none⟩ = some (.int .i64 x.kd) ∧ W.cell? ⟨b, o + k * 5 + 2, none⟩ = some (.int .i64 x.ar) ∧ W.cell? ⟨b, o + k * 5 + 3, none⟩ = some (.int .i64 x.pl) ∧ W.cell? ⟨b, o + k * 5 + 4, none⟩ = some (.int .i64 x.n) := by
  have := (List.getElem?_eq_some_iff.1 hx).1
  obtain ⟨b', o', e, _, hI⟩ := h.lies (by omega)
  injection e with e
  injection e with e1 e2
  subst e1 e2
  exact hI k x hx
theorem At.alloc {w W : World} {ao : Option Addr} {l : List In} (h : At w W ao l) (ob : Obj) : At w (W.alloc ob) ao l := h.next ((Below.refl _ _).alloc (Nat.le_refl _) _)
theorem At.take {w W : World} {ao : Option Addr} {l : List In} (h : At w W ao l) (j : Nat) : At w W ao (l.take j) := ⟨lies_take h.lies j, h.below⟩

def farJ (k : Nat) (x : In) : Bool := jumpB x.op && decide ((k : Int) + 1 < x.pl)
/-- Is one of the first j a jump beyond k + 1? -/
def anyJ (l : List In) (k j : Nat) : Bool := (l.take j).any (farJ k)
theorem anyJ_zero (l : List In) (k : Nat) : anyJ l k 0 = false := rfl
theorem anyJ_next {l : List In} {k j : Nat} {x : In} (h : l[j]? = some x) : anyJ l k (j + 1) = (anyJ l k j || farJ k x) := by
  unfold anyJ
  rw [List.take_add_one, h, List.any_append]
  simp
theorem anyJ_no {l : List In} {k : Nat} (h : anyJ l k k = false) : ∀ (j : Nat) (x : In), j < k → l[j]? = some x → jumpB x.op = true → x.pl ≤ k + 1 := fun j x hj hx hjb => by
  unfold anyJ at h
  rw [List.any_eq_false] at h
  have hm : x ∈ l.take k := List.mem_of_getElem? (i := j) (by rw [List.getElem?_take, if_pos hj]; exact hx)
  have := h x hm
  unfold farJ at this
  rw [hjb] at this
  simp at this
  omega
theorem cut_chk {l : List In} {r k : Nat} {x : In} (h : allB l = .error (r, k)) (hk : k < l.length) (hl : l.length ≤ 200) (hx : l[k]? = some x) (hj : jumpB x.op = false) (ha : anyJ l k k = false) : chkB (l.take (k + 1)) = (r, k) :=
  chk_err (all_cut h hk hl (fun y hy => by rw [hx] at hy; injection hy with hy; rw [← hy]; exact hj) (anyJ_no ha))
def retI : In := ⟨28, 0, 0, 0, 0⟩
theorem more_chk {l m : List In} {s : List Ah} (h : allB l = .ok s) (hl : l.length + 1 + m.length ≤ 200) (hm : ∀ (j : Nat) (x : In), j < m.length → m[j]? = some x → rightI x = true) : chkB (l ++ [retI] ++ m) = (0, 0) := by
  obtain ⟨s2, h2⟩ := all_more (r := retI) h hl rfl (by decide) (fun x hx => by
    obtain ⟨j, hj, e⟩ := List.getElem_of_mem hx
    exact hm j x hj (by rw [List.getElem?_eq_getElem hj, e]))
  exact chk_ok h2
theorem fit_more {l m : List In} (hl : FitL l) (hm : FitL m) : FitL (l ++ [retI] ++ m) := fun k x hx => by
  have hmem := List.mem_of_getElem? hx
  rw [List.mem_append, List.mem_append] at hmem
  rcases hmem with (h | h) | h
  · obtain ⟨j, hj, e⟩ := List.getElem_of_mem h
    exact hl j x (by rw [List.getElem?_eq_getElem hj, e])
  · rw [List.mem_singleton] at h
    subst h
    unfold FitI I64 retI
    dsimp only
    omega
  · obtain ⟨j, hj, e⟩ := List.getElem_of_mem h
    exact hm j x (by rw [List.getElem?_eq_getElem hj, e])
theorem lies_one (W : World) (x : In) : Lies (W.alloc (.cells (insC x).toArray 41)) (W.alloc (.cells (insC x).toArray 41)).heap.size (some ⟨W.heap.size, 0, none⟩) [x] := fun _ => by
  refine ⟨W.heap.size, 0, rfl, by simp, fun i z hz => ?_⟩
  have hc : ∀ j v, (insC x).toArray[j]? = some v → (W.alloc (.cells (insC x).toArray 41)).cell? ⟨W.heap.size, j, none⟩ = some v := fun j v hv => by rw [World.cell?_alloc_new]; exact hv
  match i with
  | 0 => injection hz with hz; subst hz; exact ⟨hc 0 _ rfl, hc 1 _ rfl, hc 2 _ rfl, hc 3 _ rfl, hc 4 _ rfl⟩
  | i + 1 => simp at hz
end Go.Proofs.Ytbejajnhgoejhaa.Ve
