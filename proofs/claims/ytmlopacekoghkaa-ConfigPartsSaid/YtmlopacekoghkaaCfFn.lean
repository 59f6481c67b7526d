/-
  Lists of instructions and of spots, cloned; alone and Find, walked. Conditions: up to 1000 of them.
-/
import Derived.Test.YtmlopacekoghkaaCfBase
import Derived.Laws.AppendOwnNone
import Derived.OwnWalk
import Derived.Lib.LazyBuf
import Derived.Deep.AppendLies
import Derived.Test.YtmlopacekoghkaaCfFault
import Derived.Test.YtmlopacekoghkaaBlRefC
namespace Go.Proofs.Ytmlopacekoghkaa.Cf
open Go.RowKit
open Go.Proofs.Ytmlopacekoghkaa.Bl (Blk Spt findB layO noS Tells I64 one_S cell_of_row kept_own blkV spV Own2 Own4)
open Go.Proofs.Ytmlopacekoghkaa.Il (In)

/-! ### Rows of In -/
def celI (x : In) : List Value := [.int .i64 x.op, .int .i64 x.kd, .int .i64 x.ar, .int .i64 x.pl, .int .i64 x.n]
def flI (l : List In) : List Value := l.flatMap celI
theorem flI_len (l : List In) : (flI l).length = l.length * 5 := by
  unfold flI
  induction l with
  | nil => rfl
  | cons x l ih => rw [List.flatMap_cons, List.length_append, ih, List.length_cons]; simp [celI]; omega
theorem flI_app (a b : List In) : flI (a ++ b) = flI a ++ flI b := by unfold flI; rw [List.flatMap_append]
theorem flI_at : ∀ (l : List In) (i : Nat) (x : In), l[i]? = some x → ∀ j, j < 5 → (flI l)[i * 5 + j]? = (celI x)[j]?
  | [], i, x, h, _, _ => by simp at h
  | y :: l, 0, x, h, j, hj => by
    have : y = x := by simpa using h
    subst this
    show (celI y ++ flI l)[0 * 5 + j]? = _
    rw [List.getElem?_append_left (by simp [celI]; omega), Nat.zero_mul, Nat.zero_add]
  | y :: l, i + 1, x, h, j, hj => by
    have ih := flI_at l i x (by simpa using h) j hj
    show (celI y ++ flI l)[(i + 1) * 5 + j]? = _
    rw [List.getElem?_append_right (by simp [celI]; omega), ← ih]
    congr 1
    simp [celI]; omega
theorem flI_one : ∀ (l : List In), ∀ u ∈ flI l, u.oneCell' = true := fun l u hu => by
  unfold flI at hu
  obtain ⟨x, _, hx⟩ := List.mem_flatMap.1 hu
  simp [celI] at hx
  rcases hx with rfl | rfl | rfl | rfl | rfl <;> rfl
theorem itemsI {w : World} {b o : Nat} {xs : List In} (h : ∀ (i : Nat) (x : In), xs[i]? = some x → w.cell? ⟨b, o + i * 5, none⟩ = some (.int .i64 x.op) ∧ w.cell? ⟨b, o + i * 5 + 1, none⟩ = some (.int .i64 x.kd) ∧ w.cell? ⟨b, o + i * 5 + 2, none⟩ = some (.int .i64 x.ar) ∧ w.cell? ⟨b, o + i * 5 + 3, none⟩ = some (.int .i64 x.pl) ∧ w.cell? ⟨b, o + i * 5 + 4, none⟩ = some (.int .i64 x.n)) : ∀ j u, (flI xs)[j]? = some u → w.cell? ⟨b, o + j, none⟩ = some u := by
  intro j u hj
  have hjl : j < xs.length * 5 := by
    have := (List.getElem?_eq_some_iff.1 hj).1
    rw [flI_len] at this
    exact this
  obtain ⟨x, hx⟩ : ∃ x, xs[j / 5]? = some x := ⟨_, List.getElem?_eq_getElem (by omega)⟩
  have e := flI_at xs (j / 5) x hx (j % 5) (by omega)
  rw [show j / 5 * 5 + j % 5 = j by omega, hj] at e
  obtain ⟨c0, c1, c2, c3, c4⟩ := h (j / 5) x hx
  have hr : j % 5 = 0 ∨ j % 5 = 1 ∨ j % 5 = 2 ∨ j % 5 = 3 ∨ j % 5 = 4 := by omega
  rcases hr with hr | hr | hr | hr | hr <;> rw [hr] at e <;> injection e with e <;> subst e
  · rw [show o + j = o + j / 5 * 5 by omega]; exact c0
  · rw [show o + j = o + j / 5 * 5 + 1 by omega]; exact c1
  · rw [show o + j = o + j / 5 * 5 + 2 by omega]; exact c2
  · rw [show o + j = o + j / 5 * 5 + 3 by omega]; exact c3
  · rw [show o + j = o + j / 5 * 5 + 4 by omega]; exact c4
theorem infoI : (Try.prog.info? 55).map (fun i => (i.zero, i.size, i.bytes)) = some (some (.agg #[.int .i64 0, .int .i64 0, .int .i64 0, .int .i64 0, .int .i64 0]), 5, 40) := by kernel_rfl
theorem setI {w : World} {N b j : Nat} {v : Value} {ao : Option Addr} {l : List In} (h : Il.Lies w N ao l) (hne : 1 ≤ l.length → ∀ p, ao = some p → b ≠ p.block) : Il.Lies (w.setCell ⟨b, j, none⟩ v) N ao l := fun h1 => by
  obtain ⟨c, o, e, hlt, hI⟩ := h h1
  have hn : ∀ k, (⟨b, j, none⟩ : Addr) ≠ ⟨c, k, none⟩ := fun k e2 => hne h1 _ e (by injection e2)
  refine ⟨c, o, e, hlt, fun i x hx => ?_⟩
  obtain ⟨q0, q1, q2, q3, q4⟩ := hI i x hx
  exact ⟨(World.cell?_setCell_other _ _ _ _ (hn _)).trans q0, (World.cell?_setCell_other _ _ _ _ (hn _)).trans q1, (World.cell?_setCell_other _ _ _ _ (hn _)).trans q2, (World.cell?_setCell_other _ _ _ _ (hn _)).trans q3, (World.cell?_setCell_other _ _ _ _ (hn _)).trans q4⟩
def OwnI (w : World) (N : Nat) (v : Value) (l : List In) : Prop := w.ownsRow N 55 5 v l.length (flI l)
theorem OwnI.empty (w : World) : OwnI (w.alloc (.cells #[] 55)) w.heap.size (.slice (some ⟨w.heap.size, 0, none⟩) 0 0) [] :=
  World.ownsRow_lit w #[] 0 (Nat.le_refl _) (by unfold maxLen; omega) rfl
theorem OwnI.head {w : World} {N : Nat} {v : Value} {l : List In} (h : OwnI w N v l) : ∃ k : Hd, v = .slice k.ao l.length k.cap ∧ FitH k l.length ∧ Il.Lies w w.heap.size k.ao l ∧ ∀ p, k.ao = some p → N ≤ p.block := by
  have hcells := fun (g cap : Nat) (i : Nat) (x : In) (hv : v = .slice (some ⟨g, 0, none⟩) l.length cap) (hx : l[i]? = some x) (j : Nat) (hj : j < 5) => (show w.cell? ⟨g, i * 5 + j, none⟩ = (celI x)[j]? by
    have hi := (List.getElem?_eq_some_iff.1 hx).1
    subst hv
    rw [World.ownsRow.cellAt h (i * 5 + j) (by omega), flI_at l i x hx j hj])
  rcases h.2 with ⟨rfl, h0⟩ | ⟨g, cap, cur, rfl, hN, hg, h1, h2, h3, h4⟩
  · exact ⟨⟨none, 0⟩, by rw [h0], ⟨by show l.length ≤ 0; omega, Nat.zero_le _, fun _ => rfl⟩, fun h1 => by omega, fun p e => by cases e⟩
  · refine ⟨⟨some ⟨g, 0, none⟩, cap⟩, rfl, ⟨h1, h2, fun e => by cases e⟩, fun _ => ⟨g, 0, rfl, (Array.getElem?_eq_some_iff.1 hg).1, fun i x hx => ?_⟩, fun p e => by injection e with e; subst e; exact hN⟩
    have hc := hcells g cap i x rfl hx
    rw [Nat.zero_add]
    exact ⟨hc 0 (by omega), hc 1 (by omega), hc 2 (by omega), hc 3 (by omega), hc 4 (by omega)⟩
set_option maxRecDepth 100000 in
theorem appendI {w : World} {ops : Array Oper} {rest : List Oper} {o : Oper} {a : Act} {Q : Exit → Act → World → Prop} (hgd : o.guard = none) (s x : Operand)
    (ho : o.op = .call { callee := .builtin .append, args := #[s, x], argTypes := #[33, 33] })
    (N : Nat) (v : Value) (la lb : List In) (hs : a.eval s = v) (hown : OwnI w N v la) (ao : Option Addr) (c : Nat) (hx : a.eval x = .slice ao lb.length c) (hu : Il.Lies w w.heap.size ao lb) (hc : ao = none → c = 0)
    (hlen : la.length + lb.length ≤ 1000) (hN : N ≤ w.heap.size)
    (h : ∀ v' w', OwnI w' N v' (la ++ lb) → Below N w w' → wpList Try.prog ops Q rest (a.put o.dst v') w') : wpList Try.prog ops Q (o :: rest) a w := by
  obtain ⟨i0, hi, hz0, hz1, hz2⟩ := Bl.info_parts infoI
  cases ao with
  | none =>
    have hl : lb.length = 0 := by
      by_cases h1 : 1 ≤ lb.length
      · obtain ⟨b, o, e, _⟩ := hu h1
        cases e
      · omega
    have hb : lb = [] := List.eq_nil_of_length_eq_zero hl
    subst hb
    have hc0 := hc rfl
    subst hc0
    refine wpList_append_own_none hgd s x 33 ho N 55 i0 5 Try.underlying33 hi v la.length (flI la) hs hown hx ?_
    refine h v w ?_ (Below.refl _ _)
    rw [List.append_nil]
    exact hown
  | some ad =>
    have hcells : ∀ j u, (flI lb)[j]? = some u → w.cell? (ad.add j) = some u := fun j u hj => by
      have h1 : 1 ≤ lb.length := by
        have := (List.getElem?_eq_some_iff.1 hj).1
        rw [flI_len] at this
        omega
      obtain ⟨b, o, e, _, hI⟩ := hu h1
      injection e with e
      subst e
      have hadd : (⟨b, o, none⟩ : Addr).add j = ⟨b, o + j, none⟩ := Addr.add_mid b o j
      rw [hadd]
      exact itemsI hI j u hj
    refine wpList_append_own w hgd s x 33 ho N 55 i0 _ 5 40 Try.underlying33 hi hz0 hz1 hz2 rfl (by decide) v la.length (flI la) hs hown ad lb.length c (flI lb) hx (flI_len lb) hcells (flI_one lb) (by unfold maxLen; omega) (by omega) hN (fun v' w' h4 h5 _ => h v' w' ?_ ?_)
    · unfold OwnI
      rw [List.length_append, flI_app]
      exact h4
    · exact ⟨h5.os, h5.tape, h5.output, h5.size, fun k hk => h5.block k (by omega) (fun e => by have := (World.ownsRow.lt hown k e.symm).1; omega)⟩

set_option maxRecDepth 100000 in
set_option maxHeartbeats 4000000 in
theorem cloneI_any (l : List In) (h : Hd) (w : World) (hI : Il.Lies w w.heap.size h.ao l) (hF : FitH h l.length) (hl : l.length ≤ 1000) :
    Calls Try.prog 38 #[.slice h.ao l.length h.cap] w fun e w' => ∃ k : Hd, e = .returned (.slice k.ao l.length k.cap) ∧ FitH k l.length ∧ Il.Lies w' w'.heap.size k.ao l ∧ (∀ p, k.ao = some p → w.heap.size ≤ p.block) ∧ Below w.heap.size w w' := by
  obtain ⟨ao, cap⟩ := h
  dsimp only at *
  cases ao with
  | none =>
    have h0 : l.length = 0 := by
      by_cases h1 : 1 ≤ l.length
      · obtain ⟨b, o, e, _⟩ := hI h1
        cases e
      · omega
    have hc0 : cap = 0 := hF.2.2 rfl
    rw [h0, hc0]
    have hq := fun (W : World) => (run_eql_slice_nil (P := Try.prog) W 33 55 none 0 0 Try.underlying33 : (binOp .eql 33 (.slice none 0 0) (.slice none 0 0)).run Try.prog W = .ok (.bool true) W)
    clear hI hF
    go_enter Try.func38, Try.ntmps38
    go_wp2
    go_ret
    exact ⟨⟨none, 0⟩, rfl, ⟨Nat.le_refl _, Nat.zero_le _, fun _ => rfl⟩, fun h1 => by omega, fun p e => by (cases e), Below.refl _ _⟩
  | some ad =>
    have HE := Lib.hid (OwnI.empty w)
    have hb := one_S w #[] 55
    have HI := Lib.hid ((hI.below hb).more hb.size)
    have HB := Lib.hid hb
    clear hI hb
    have hq := fun (W : World) => (run_eql_slice_nil (P := Try.prog) W 33 55 (some ad) l.length cap Try.underlying33 : (binOp .eql 33 (.slice (some ad) l.length cap) (.slice none 0 0)).run Try.prog W = .ok (.bool false) W)
    go_enter Try.func38, Try.ntmps38
    have hlen : ([] : List In).length + l.length ≤ 1000 := by simpa using hl
    have hsz : w.heap.size ≤ (w.alloc (.cells #[] 55)).heap.size := HB.out.size
    go_wp2_with (at_builtin; refine appendI rfl (.tmp 5) (.tmp 6) rfl w.heap.size _ [] l rfl HE.out (some ad) cap rfl HI.out (fun h => by cases h) hlen hsz ?_)
    intro v' w' hO hb
    obtain ⟨k, rfl, hk, hL, hq⟩ := OwnI.head hO
    have HK := Lib.hid (⟨hk, hL, hq, HB.out.trans hb⟩ : _ ∧ _ ∧ _ ∧ _)
    clear hO hb hk hL hF HI HE hq
    go_wp2
    go_ret
    exact ⟨k, rfl, HK.out⟩

/-! ### Rows of Spt -/
def celS (x : Spt) : List Value := [.int .i64 x.b, .int .i64 x.a]
def flS (l : List Spt) : List Value := l.flatMap celS
theorem flS_len (l : List Spt) : (flS l).length = l.length * 2 := by
  unfold flS
  induction l with
  | nil => rfl
  | cons x l ih => rw [List.flatMap_cons, List.length_append, ih, List.length_cons]; simp [celS]; omega
theorem flS_app (a b : List Spt) : flS (a ++ b) = flS a ++ flS b := by unfold flS; rw [List.flatMap_append]
theorem flS_at : ∀ (l : List Spt) (i : Nat) (x : Spt), l[i]? = some x → ∀ j, j < 2 → (flS l)[i * 2 + j]? = (celS x)[j]?
  | [], i, x, h, _, _ => by simp at h
  | y :: l, 0, x, h, j, hj => by
    have : y = x := by simpa using h
    subst this
    show (celS y ++ flS l)[0 * 2 + j]? = _
    rw [List.getElem?_append_left (by simp [celS]; omega), Nat.zero_mul, Nat.zero_add]
  | y :: l, i + 1, x, h, j, hj => by
    have ih := flS_at l i x (by simpa using h) j hj
    show (celS y ++ flS l)[(i + 1) * 2 + j]? = _
    rw [List.getElem?_append_right (by simp [celS]; omega), ← ih]
    congr 1
    simp [celS]; omega
theorem flS_one : ∀ (l : List Spt), ∀ u ∈ flS l, u.oneCell' = true := fun l u hu => by
  unfold flS at hu
  obtain ⟨x, _, hx⟩ := List.mem_flatMap.1 hu
  simp [celS] at hx
  rcases hx with rfl | rfl <;> rfl
theorem itemsS {w : World} {b o : Nat} {xs : List Spt} (h : ∀ (i : Nat) (x : Spt), xs[i]? = some x → w.cell? ⟨b, o + i * 2, none⟩ = some (.int .i64 x.b) ∧ w.cell? ⟨b, o + i * 2 + 1, none⟩ = some (.int .i64 x.a)) : ∀ j u, (flS xs)[j]? = some u → w.cell? ⟨b, o + j, none⟩ = some u := by
  intro j u hj
  have hjl : j < xs.length * 2 := by
    have := (List.getElem?_eq_some_iff.1 hj).1
    rw [flS_len] at this
    exact this
  obtain ⟨x, hx⟩ : ∃ x, xs[j / 2]? = some x := ⟨_, List.getElem?_eq_getElem (by omega)⟩
  have e := flS_at xs (j / 2) x hx (j % 2) (by omega)
  rw [show j / 2 * 2 + j % 2 = j by omega, hj] at e
  obtain ⟨c0, c1⟩ := h (j / 2) x hx
  have hr : j % 2 = 0 ∨ j % 2 = 1 := by omega
  rcases hr with hr | hr <;> rw [hr] at e <;> injection e with e <;> subst e
  · rw [show o + j = o + j / 2 * 2 by omega]; exact c0
  · rw [show o + j = o + j / 2 * 2 + 1 by omega]; exact c1
theorem infoS : (Try.prog.info? 57).map (fun i => (i.zero, i.size, i.bytes)) = some (some (.agg #[.int .i64 0, .int .i64 0]), 2, 16) := by kernel_rfl
theorem setS {w : World} {N b j : Nat} {v : Value} {ao : Option Addr} {l : List Spt} (h : Bl.LiesS w N ao l) (hne : 1 ≤ l.length → ∀ p, ao = some p → b ≠ p.block) : Bl.LiesS (w.setCell ⟨b, j, none⟩ v) N ao l := fun h1 => by
  obtain ⟨c, o, e, hlt, hI⟩ := h h1
  have hn : ∀ k, (⟨b, j, none⟩ : Addr) ≠ ⟨c, k, none⟩ := fun k e2 => hne h1 _ e (by injection e2)
  refine ⟨c, o, e, hlt, fun i x hx => ?_⟩
  obtain ⟨q0, q1⟩ := hI i x hx
  exact ⟨(World.cell?_setCell_other _ _ _ _ (hn _)).trans q0, (World.cell?_setCell_other _ _ _ _ (hn _)).trans q1⟩
def OwnS (w : World) (N : Nat) (v : Value) (l : List Spt) : Prop := w.ownsRow N 57 2 v l.length (flS l)
theorem OwnS.empty (w : World) : OwnS (w.alloc (.cells #[] 57)) w.heap.size (.slice (some ⟨w.heap.size, 0, none⟩) 0 0) [] :=
  World.ownsRow_lit w #[] 0 (Nat.le_refl _) (by unfold maxLen; omega) rfl
theorem OwnS.head {w : World} {N : Nat} {v : Value} {l : List Spt} (h : OwnS w N v l) : ∃ k : Hd, v = .slice k.ao l.length k.cap ∧ FitH k l.length ∧ Bl.LiesS w w.heap.size k.ao l ∧ ∀ p, k.ao = some p → N ≤ p.block := by
  have hcells := fun (g cap : Nat) (i : Nat) (x : Spt) (hv : v = .slice (some ⟨g, 0, none⟩) l.length cap) (hx : l[i]? = some x) (j : Nat) (hj : j < 2) => (show w.cell? ⟨g, i * 2 + j, none⟩ = (celS x)[j]? by
    have hi := (List.getElem?_eq_some_iff.1 hx).1
    subst hv
    rw [World.ownsRow.cellAt h (i * 2 + j) (by omega), flS_at l i x hx j hj])
  rcases h.2 with ⟨rfl, h0⟩ | ⟨g, cap, cur, rfl, hN, hg, h1, h2, h3, h4⟩
  · exact ⟨⟨none, 0⟩, by rw [h0], ⟨by show l.length ≤ 0; omega, Nat.zero_le _, fun _ => rfl⟩, fun h1 => by omega, fun p e => by cases e⟩
  · refine ⟨⟨some ⟨g, 0, none⟩, cap⟩, rfl, ⟨h1, h2, fun e => by cases e⟩, fun _ => ⟨g, 0, rfl, (Array.getElem?_eq_some_iff.1 hg).1, fun i x hx => ?_⟩, fun p e => by injection e with e; subst e; exact hN⟩
    have hc := hcells g cap i x rfl hx
    rw [Nat.zero_add]
    exact ⟨hc 0 (by omega), hc 1 (by omega)⟩
set_option maxRecDepth 100000 in
theorem appendS {w : World} {ops : Array Oper} {rest : List Oper} {o : Oper} {a : Act} {Q : Exit → Act → World → Prop} (hgd : o.guard = none) (s x : Operand)
    (ho : o.op = .call { callee := .builtin .append, args := #[s, x], argTypes := #[34, 34] })
    (N : Nat) (v : Value) (la lb : List Spt) (hs : a.eval s = v) (hown : OwnS w N v la) (ao : Option Addr) (c : Nat) (hx : a.eval x = .slice ao lb.length c) (hu : Bl.LiesS w w.heap.size ao lb) (hc : ao = none → c = 0)
    (hlen : la.length + lb.length ≤ 1000) (hN : N ≤ w.heap.size)
    (h : ∀ v' w', OwnS w' N v' (la ++ lb) → Below N w w' → wpList Try.prog ops Q rest (a.put o.dst v') w') : wpList Try.prog ops Q (o :: rest) a w := by
  obtain ⟨i0, hi, hz0, hz1, hz2⟩ := Bl.info_parts infoS
  cases ao with
  | none =>
    have hl : lb.length = 0 := by
      by_cases h1 : 1 ≤ lb.length
      · obtain ⟨b, o, e, _⟩ := hu h1
        cases e
      · omega
    have hb : lb = [] := List.eq_nil_of_length_eq_zero hl
    subst hb
    have hc0 := hc rfl
    subst hc0
    refine wpList_append_own_none hgd s x 34 ho N 57 i0 2 Try.underlying34 hi v la.length (flS la) hs hown hx ?_
    refine h v w ?_ (Below.refl _ _)
    rw [List.append_nil]
    exact hown
  | some ad =>
    have hcells : ∀ j u, (flS lb)[j]? = some u → w.cell? (ad.add j) = some u := fun j u hj => by
      have h1 : 1 ≤ lb.length := by
        have := (List.getElem?_eq_some_iff.1 hj).1
        rw [flS_len] at this
        omega
      obtain ⟨b, o, e, _, hI⟩ := hu h1
      injection e with e
      subst e
      have hadd : (⟨b, o, none⟩ : Addr).add j = ⟨b, o + j, none⟩ := Addr.add_mid b o j
      rw [hadd]
      exact itemsS hI j u hj
    refine wpList_append_own w hgd s x 34 ho N 57 i0 _ 2 16 Try.underlying34 hi hz0 hz1 hz2 rfl (by decide) v la.length (flS la) hs hown ad lb.length c (flS lb) hx (flS_len lb) hcells (flS_one lb) (by unfold maxLen; omega) (by omega) hN (fun v' w' h4 h5 _ => h v' w' ?_ ?_)
    · unfold OwnS
      rw [List.length_append, flS_app]
      exact h4
    · exact ⟨h5.os, h5.tape, h5.output, h5.size, fun k hk => h5.block k (by omega) (fun e => by have := (World.ownsRow.lt hown k e.symm).1; omega)⟩

set_option maxRecDepth 100000 in
set_option maxHeartbeats 4000000 in
theorem cloneS_any (l : List Spt) (h : Hd) (w : World) (hI : Bl.LiesS w w.heap.size h.ao l) (hF : FitH h l.length) (hl : l.length ≤ 1000) :
    Calls Try.prog 39 #[.slice h.ao l.length h.cap] w fun e w' => ∃ k : Hd, e = .returned (.slice k.ao l.length k.cap) ∧ FitH k l.length ∧ Bl.LiesS w' w'.heap.size k.ao l ∧ (∀ p, k.ao = some p → w.heap.size ≤ p.block) ∧ Below w.heap.size w w' := by
  obtain ⟨ao, cap⟩ := h
  dsimp only at *
  cases ao with
  | none =>
    have h0 : l.length = 0 := by
      by_cases h1 : 1 ≤ l.length
      · obtain ⟨b, o, e, _⟩ := hI h1
        cases e
      · omega
    have hc0 : cap = 0 := hF.2.2 rfl
    rw [h0, hc0]
    have hq := fun (W : World) => (run_eql_slice_nil (P := Try.prog) W 34 57 none 0 0 Try.underlying34 : (binOp .eql 34 (.slice none 0 0) (.slice none 0 0)).run Try.prog W = .ok (.bool true) W)
    clear hI hF
    go_enter Try.func39, Try.ntmps39
    go_wp2
    go_ret
    exact ⟨⟨none, 0⟩, rfl, ⟨Nat.le_refl _, Nat.zero_le _, fun _ => rfl⟩, fun h1 => by omega, fun p e => by (cases e), Below.refl _ _⟩
  | some ad =>
    have HE := Lib.hid (OwnS.empty w)
    have hb := one_S w #[] 57
    have HI := Lib.hid ((hI.below hb).more hb.size)
    have HB := Lib.hid hb
    clear hI hb
    have hq := fun (W : World) => (run_eql_slice_nil (P := Try.prog) W 34 57 (some ad) l.length cap Try.underlying34 : (binOp .eql 34 (.slice (some ad) l.length cap) (.slice none 0 0)).run Try.prog W = .ok (.bool false) W)
    go_enter Try.func39, Try.ntmps39
    have hlen : ([] : List Spt).length + l.length ≤ 1000 := by simpa using hl
    have hsz : w.heap.size ≤ (w.alloc (.cells #[] 57)).heap.size := HB.out.size
    go_wp2_with (at_builtin; refine appendS rfl (.tmp 5) (.tmp 6) rfl w.heap.size _ [] l rfl HE.out (some ad) cap rfl HI.out (fun h => by cases h) hlen hsz ?_)
    intro v' w' hO hb
    obtain ⟨k, rfl, hk, hL, hq⟩ := OwnS.head hO
    have HK := Lib.hid (⟨hk, hL, hq, HB.out.trans hb⟩ : _ ∧ _ ∧ _ ∧ _)
    clear hO hb hk hL hF HI HE hq
    go_wp2
    go_ret
    exact ⟨k, rfl, HK.out⟩
end Go.Proofs.Ytmlopacekoghkaa.Cf

namespace Go.Proofs.Ytmlopacekoghkaa.Cf
open Go.RowKit
open Go.Proofs.Ytmlopacekoghkaa.Bl (Blk Spt findB layO noS Tells I64 one_S cell_of_row kept_own blkV spV Own2 Own4)
open Go.Proofs.Ytmlopacekoghkaa.Il (In)

/-- A station whose lists lie elsewhere. -/
def withH (s : Sta) (a b c : Hd) : Sta := ⟨s.ad, s.sc, s.lo, s.cd, s.sb, s.pb, a, b, c⟩
/-- A station's cells, which may be written. -/
def Box6 (W : World) (b : Nat) (s : Sta) : Prop := Cells6 W b 0 s ∧ ∀ j, W.frozen? ⟨b, j, none⟩ = false
theorem Own6.box {W : World} {b : Nat} {s : Sta} {t : TypeId} (h : Own6 W b s t) : Box6 W b s := ⟨h.cells, fun j => by
  unfold World.frozen?
  rw [show W.heap[b]? = _ from h]
  simp⟩
theorem Box6.kept {W W' : World} {b N : Nat} {s : Sta} (h : Box6 W b s) (hb : Below N W W') (hN : b < N) : Box6 W' b s := ⟨h.1.below hb hN, fun j => (Bl.frozen_kept hb hN).trans (h.2 j)⟩
theorem Box6.lt {W : World} {b : Nat} {s : Sta} (h : Box6 W b s) : b < W.heap.size := World.block_lt_of_cell? W _ h.1.1
theorem set_at {W : World} {b i j : Nat} {v x : Value} (hc : W.cell? ⟨b, j, none⟩ = some x) (h : i ≠ j) : (W.setCell ⟨b, i, none⟩ v).cell? ⟨b, j, none⟩ = some x :=
  (World.cell?_setCell_other _ _ _ _ (Bl.off_ne b h)).trans hc
section
variable {W : World} {b : Nat} {s : Sta}
theorem Box6.set3 (h : Box6 W b s) (k : Hd) : Box6 (W.setCell ⟨b, 3, none⟩ (.slice k.ao s.cd.length k.cap)) b (withH s k s.so s.po) := by
  obtain ⟨⟨c0, c1, c2, c3, c4, c5⟩, hf⟩ := h
  exact ⟨⟨set_at c0 (by decide), set_at c1 (by decide), set_at c2 (by decide), World.cell?_setCell_same _ _ _ c3, set_at c4 (by decide), set_at c5 (by decide)⟩, fun j => by rw [World.frozen?_setCell]; exact hf j⟩
theorem Box6.set4 (h : Box6 W b s) (k : Hd) : Box6 (W.setCell ⟨b, 4, none⟩ (.slice k.ao s.sb.length k.cap)) b (withH s s.co k s.po) := by
  obtain ⟨⟨c0, c1, c2, c3, c4, c5⟩, hf⟩ := h
  exact ⟨⟨set_at c0 (by decide), set_at c1 (by decide), set_at c2 (by decide), set_at c3 (by decide), World.cell?_setCell_same _ _ _ c4, set_at c5 (by decide)⟩, fun j => by rw [World.frozen?_setCell]; exact hf j⟩
theorem Box6.set5 (h : Box6 W b s) (k : Hd) : Box6 (W.setCell ⟨b, 5, none⟩ (.slice k.ao s.pb.length k.cap)) b (withH s s.co s.so k) := by
  obtain ⟨⟨c0, c1, c2, c3, c4, c5⟩, hf⟩ := h
  exact ⟨⟨set_at c0 (by decide), set_at c1 (by decide), set_at c2 (by decide), set_at c3 (by decide), set_at c4 (by decide), World.cell?_setCell_same _ _ _ c5⟩, fun j => by rw [World.frozen?_setCell]; exact hf j⟩
end
/-- Another block's cell set. -/
theorem Box6.other {W : World} {b c j : Nat} {s : Sta} {v : Value} (h : Box6 W c s) (hne : b ≠ c) : Box6 (W.setCell ⟨b, j, none⟩ v) c s := by
  obtain ⟨⟨c0, c1, c2, c3, c4, c5⟩, hf⟩ := h
  have hn : ∀ k, (⟨b, j, none⟩ : Addr) ≠ ⟨c, k, none⟩ := fun k e => hne (by injection e)
  exact ⟨⟨(World.cell?_setCell_other _ _ _ _ (hn _)).trans c0, (World.cell?_setCell_other _ _ _ _ (hn _)).trans c1, (World.cell?_setCell_other _ _ _ _ (hn _)).trans c2, (World.cell?_setCell_other _ _ _ _ (hn _)).trans c3, (World.cell?_setCell_other _ _ _ _ (hn _)).trans c4, (World.cell?_setCell_other _ _ _ _ (hn _)).trans c5⟩, fun k => by rw [World.frozen?_setCell]; exact hf k⟩
/-- Six cells stored. -/
def putT (W : World) (b : Nat) (s : Sta) : World := ((((((W.setCell ⟨b, 0, none⟩ (.int .i64 s.ad)).setCell ⟨b, 1, none⟩ (.int .i64 s.sc)).setCell ⟨b, 2, none⟩ (.int .i64 s.lo)).setCell ⟨b, 3, none⟩ (.slice s.co.ao s.cd.length s.co.cap)).setCell ⟨b, 4, none⟩ (.slice s.so.ao s.sb.length s.so.cap)).setCell ⟨b, 5, none⟩ (.slice s.po.ao s.pb.length s.po.cap))
theorem Box6.put {W : World} {b : Nat} {r : Sta} (h : Box6 W b r) (s : Sta) : Box6 (putT W b s) b s := by
  obtain ⟨⟨c0, c1, c2, c3, c4, c5⟩, hf⟩ := h
  unfold putT
  refine ⟨⟨?_, ?_, ?_, ?_, ?_, ?_⟩, fun j => by simp only [World.frozen?_setCell]; exact hf j⟩
  · exact set_at (set_at (set_at (set_at (set_at (World.cell?_setCell_same _ _ _ c0) (by decide)) (by decide)) (by decide)) (by decide)) (by decide)
  · exact set_at (set_at (set_at (set_at (World.cell?_setCell_same _ _ _ (set_at c1 (by decide))) (by decide)) (by decide)) (by decide)) (by decide)
  · exact set_at (set_at (set_at (World.cell?_setCell_same _ _ _ (set_at (set_at c2 (by decide)) (by decide))) (by decide)) (by decide)) (by decide)
  · exact set_at (set_at (World.cell?_setCell_same _ _ _ (set_at (set_at (set_at c3 (by decide)) (by decide)) (by decide))) (by decide)) (by decide)
  · exact set_at (World.cell?_setCell_same _ _ _ (set_at (set_at (set_at (set_at c4 (by decide)) (by decide)) (by decide)) (by decide))) (by decide)
  · exact World.cell?_setCell_same _ _ _ (set_at (set_at (set_at (set_at (set_at c5 (by decide)) (by decide)) (by decide)) (by decide)) (by decide))
theorem put_below {W : World} {b N : Nat} (hb : N ≤ b) (s : Sta) : Below N W (putT W b s) := by
  unfold putT
  exact ((((((Below.refl N W).setCell hb _).setCell hb _).setCell hb _).setCell hb _).setCell hb _).setCell hb _
/-- Lists that aren't too long to be cloned. -/
def ShortS (s : Sta) : Prop := s.cd.length ≤ 1000 ∧ s.sb.length ≤ 1000 ∧ s.pb.length ≤ 1000
def Off (w : World) (h : Hd) (n : Nat) : Prop := 1 ≤ n → ∀ p, h.ao = some p → w.heap.size ≠ p.block ∧ w.heap.size + 1 ≠ p.block
/-- A station's lists lie in a world, none of them in the two blocks behind w. -/
structure StaN (w W : World) (s : Sta) : Prop where
  li : StaL W W.heap.size s
  oc : Off w s.co s.cd.length
  os : Off w s.so s.sb.length
  op : Off w s.po s.pb.length
section
variable {w W W' : World} {s r : Sta}
theorem StaN.first (h : StaL w w.heap.size s) (hb : Below w.heap.size w W) : StaN w W s :=
  ⟨(h.below hb).more hb.size, fun h1 p e => (by obtain ⟨b, o, e2, hlt, -⟩ := h.cd h1; rw [e] at e2; injection e2 with e2; subst e2; exact ⟨by show _ ≠ b; omega, by show _ ≠ b; omega⟩),
   fun h1 p e => (by obtain ⟨b, o, e2, hlt, -⟩ := h.sb h1; rw [e] at e2; injection e2 with e2; subst e2; exact ⟨by show _ ≠ b; omega, by show _ ≠ b; omega⟩),
   fun h1 p e => (by obtain ⟨b, o, e2, hlt, -⟩ := h.pb h1; rw [e] at e2; injection e2 with e2; subst e2; exact ⟨by show _ ≠ b; omega, by show _ ≠ b; omega⟩)⟩
theorem StaN.next (h : StaN w W s) (hb : Below W.heap.size W W') : StaN w W' s := ⟨(h.li.below hb).more hb.size, h.oc, h.os, h.op⟩
theorem StaN.set0 (h : StaN w W s) (j : Nat) (v : Value) : StaN w (W.setCell ⟨w.heap.size, j, none⟩ v) s := by
  have e : (W.setCell ⟨w.heap.size, j, none⟩ v).heap.size = W.heap.size := by simp [World.setCell]
  refine ⟨?_, h.oc, h.os, h.op⟩
  rw [e]
  exact ⟨setI h.li.cd fun h1 p hp => (h.oc h1 p hp).1, setS h.li.sb fun h1 p hp => (h.os h1 p hp).1, setS h.li.pb fun h1 p hp => (h.op h1 p hp).1⟩
theorem StaN.set1 (h : StaN w W s) (j : Nat) (v : Value) : StaN w (W.setCell ⟨w.heap.size + 1, j, none⟩ v) s := by
  have e : (W.setCell ⟨w.heap.size + 1, j, none⟩ v).heap.size = W.heap.size := by simp [World.setCell]
  refine ⟨?_, h.oc, h.os, h.op⟩
  rw [e]
  exact ⟨setI h.li.cd fun h1 p hp => (h.oc h1 p hp).2, setS h.li.sb fun h1 p hp => (h.os h1 p hp).2, setS h.li.pb fun h1 p hp => (h.op h1 p hp).2⟩
theorem StaN.put (h : StaN w W s) (x : Sta) : StaN w (putT W (w.heap.size + 1) x) s := by
  unfold putT
  exact (((((h.set1 _ _).set1 _ _).set1 _ _).set1 _ _).set1 _ _).set1 _ _
end
def NewS (N : Nat) (s : Sta) : Prop := (∀ p, s.co.ao = some p → N ≤ p.block) ∧ (∀ p, s.so.ao = some p → N ≤ p.block) ∧ (∀ p, s.po.ao = some p → N ≤ p.block)
theorem StaL.set {W : World} {M N b j : Nat} {v : Value} {s : Sta} (h : StaL W M s) (hn : NewS N s) (hb : b < N) : StaL (W.setCell ⟨b, j, none⟩ v) M s :=
  ⟨setI h.cd fun _ p e => by have := hn.1 p e; omega, setS h.sb fun _ p e => by have := hn.2.1 p e; omega, setS h.pb fun _ p e => by have := hn.2.2 p e; omega⟩
theorem put_size (W : World) (b : Nat) (x : Sta) : (putT W b x).heap.size = W.heap.size := by unfold putT; simp [World.setCell]
theorem StaL.put {W : World} {N b : Nat} {s : Sta} (h : StaL W W.heap.size s) (hn : NewS N s) (hb : b < N) (x : Sta) : StaL (putT W b x) (putT W b x).heap.size s := by
  rw [put_size]
  unfold putT
  exact (((((h.set hn hb).set hn hb).set hn hb).set hn hb).set hn hb).set hn hb
theorem off_new {w : World} {k : Hd} {n N : Nat} (h : ∀ p, k.ao = some p → N ≤ p.block) (hN : w.heap.size + 2 ≤ N) : Off w k n := fun _ p e => by
  have := h p e
  exact ⟨by omega, by omega⟩
/-- A world of alone: the station's box, the result's. -/
structure Al (w W : World) (s r : Sta) : Prop where
  below : Below w.heap.size w W
  bx : Box6 W w.heap.size s
  rs : Box6 W (w.heap.size + 1) r
  n : StaN w W s
  fit : FitS s
  short : ShortS s
section
variable {w W W' : World} {s r : Sta}
theorem Al.first (w : World) (s : Sta) (hL : StaL w w.heap.size s) (hF : FitS s) (hS : ShortS s) : Al w ((w.alloc (.cells (staC s) 36)).alloc (.cells (staC noT) 36)) s noT := by
  have h1 := one_S w (staC s) 36
  have h2 := one_S (w.alloc (.cells (staC s) 36)) (staC noT) 36
  have hb := h1.trans (h2.mono h1.size)
  refine ⟨hb, (Own6.new w s 36).box.kept h2 (Own6.new w s 36).lt, ?_, StaN.first hL hb, hF, hS⟩
  have := (Own6.new (w.alloc (.cells (staC s) 36)) noT 36).box
  rwa [show (w.alloc (.cells (staC s) 36)).heap.size = w.heap.size + 1 by simp] at this
theorem Al.next (h : Al w W s r) (hb : Below W.heap.size W W') : Al w W' s r := ⟨h.below.trans (hb.mono h.below.size), h.bx.kept hb h.bx.lt, h.rs.kept hb h.rs.lt, h.n.next hb, h.fit, h.short⟩
theorem Al.size (h : Al w W s r) : w.heap.size + 2 ≤ W.heap.size := h.rs.lt
theorem Al.set3 (h0 : Al w W s r) (hb : Below W.heap.size W W') {k : Hd} (hk : FitH k s.cd.length) (hl : Il.Lies W' W'.heap.size k.ao s.cd) (hq : ∀ p, k.ao = some p → W.heap.size ≤ p.block) : Al w (W'.setCell ⟨w.heap.size, 3, none⟩ (.slice k.ao s.cd.length k.cap)) (withH s k s.so s.po) r :=
  have h := h0.next hb
  have n1 : StaN w W' (withH s k s.so s.po) := ⟨⟨hl, h.n.li.sb, h.n.li.pb⟩, off_new hq h0.size, h.n.os, h.n.op⟩
  ⟨h.below.setCell (Nat.le_refl _) _, h.bx.set3 k, h.rs.other (by omega), n1.set0 _ _, ⟨hk, h.fit.2⟩, h.short⟩
theorem Al.set4 (h0 : Al w W s r) (hb : Below W.heap.size W W') {k : Hd} (hk : FitH k s.sb.length) (hl : Bl.LiesS W' W'.heap.size k.ao s.sb) (hq : ∀ p, k.ao = some p → W.heap.size ≤ p.block) : Al w (W'.setCell ⟨w.heap.size, 4, none⟩ (.slice k.ao s.sb.length k.cap)) (withH s s.co k s.po) r :=
  have h := h0.next hb
  have n1 : StaN w W' (withH s s.co k s.po) := ⟨⟨h.n.li.cd, hl, h.n.li.pb⟩, h.n.oc, off_new hq h0.size, h.n.op⟩
  ⟨h.below.setCell (Nat.le_refl _) _, h.bx.set4 k, h.rs.other (by omega), n1.set0 _ _, ⟨h.fit.1, hk, h.fit.2.2⟩, h.short⟩
theorem Al.set5 (h0 : Al w W s r) (hb : Below W.heap.size W W') {k : Hd} (hk : FitH k s.pb.length) (hl : Bl.LiesS W' W'.heap.size k.ao s.pb) (hq : ∀ p, k.ao = some p → W.heap.size ≤ p.block) : Al w (W'.setCell ⟨w.heap.size, 5, none⟩ (.slice k.ao s.pb.length k.cap)) (withH s s.co s.so k) r :=
  have h := h0.next hb
  have n1 : StaN w W' (withH s s.co s.so k) := ⟨⟨h.n.li.cd, h.n.li.sb, hl⟩, h.n.oc, h.n.os, off_new hq h0.size⟩
  ⟨h.below.setCell (Nat.le_refl _) _, h.bx.set5 k, h.rs.other (by omega), n1.set0 _ _, ⟨h.fit.1, h.fit.2.1, hk, h.fit.2.2.2⟩, h.short⟩
theorem Al.cI (h : Al w W s r) : Calls Try.prog 38 #[.slice s.co.ao s.cd.length s.co.cap] W fun e w' => ∃ k : Hd, e = .returned (.slice k.ao s.cd.length k.cap) ∧ FitH k s.cd.length ∧ Il.Lies w' w'.heap.size k.ao s.cd ∧ (∀ p, k.ao = some p → W.heap.size ≤ p.block) ∧ Below W.heap.size W w' := cloneI_any s.cd s.co W h.n.li.cd h.fit.1 h.short.1
theorem Al.cS (h : Al w W s r) : Calls Try.prog 39 #[.slice s.so.ao s.sb.length s.so.cap] W fun e w' => ∃ k : Hd, e = .returned (.slice k.ao s.sb.length k.cap) ∧ FitH k s.sb.length ∧ Bl.LiesS w' w'.heap.size k.ao s.sb ∧ (∀ p, k.ao = some p → W.heap.size ≤ p.block) ∧ Below W.heap.size W w' := cloneS_any s.sb s.so W h.n.li.sb h.fit.2.1 h.short.2.1
theorem Al.cP (h : Al w W s r) : Calls Try.prog 39 #[.slice s.po.ao s.pb.length s.po.cap] W fun e w' => ∃ k : Hd, e = .returned (.slice k.ao s.pb.length k.cap) ∧ FitH k s.pb.length ∧ Bl.LiesS w' w'.heap.size k.ao s.pb ∧ (∀ p, k.ao = some p → W.heap.size ≤ p.block) ∧ Below W.heap.size W w' := cloneS_any s.pb s.po W h.n.li.pb h.fit.2.2.1 h.short.2.2
end

set_option maxRecDepth 100000 in
set_option maxHeartbeats 8000000 in
theorem alone_any (s : Sta) (w : World) (hL : StaL w w.heap.size s) (hF : FitS s) (hS : ShortS s) :
    Calls Try.prog 25 #[.agg (staC s)] w fun e w' => ∃ a b c, e = .returned (.agg (staC (withH s a b c))) ∧ FitS (withH s a b c) ∧ StaL w' w'.heap.size (withH s a b c) ∧ Below w.heap.size w w' ∧ NewS w.heap.size (withH s a b c) := by
  have hA := Al.first w s hL hF hS
  obtain ⟨d0, d1, d2, d3, d4, d5⟩ := hA.bx.1
  have HA := Lib.hid hA
  clear hA hL hF hS
  unfold staC noT noH at *
  go_enter Try.func25, Try.ntmps25
  go_wp2_with fail
  refine (HA.out.cI).mono ?_
  rintro e w1 ⟨a, rfl, hk, hl, hq, hb⟩
  have HQa := Lib.hid (fun p (e : a.ao = some p) => (show w.heap.size ≤ p.block by have h1 := hq p e; have h2 := HA.out.size; omega))
  have hA1 := HA.out.next hb
  have f3 := hA1.bx.2 3
  obtain ⟨d0, d1, d2, d3, d4, d5⟩ := hA1.bx.1
  try dsimp only at d0 d1 d2 d3 d4 d5
  have HA2 := Lib.hid (HA.out.set3 hb hk hl hq)
  clear hA1 hb hk hl hq HA
  have HA := HA2
  clear HA2
  unfold withH at HA
  go_wp2_with fail
  refine (HA.out.cS).mono ?_
  rintro e w2 ⟨b, rfl, hk, hl, hq, hb⟩
  have HQb := Lib.hid (fun p (e : b.ao = some p) => (show w.heap.size ≤ p.block by have h1 := hq p e; have h2 := HA.out.size; omega))
  have hA1 := HA.out.next hb
  have f3 := hA1.bx.2 4
  obtain ⟨d0, d1, d2, d3, d4, d5⟩ := hA1.bx.1
  try dsimp only at d0 d1 d2 d3 d4 d5
  have HA2 := Lib.hid (HA.out.set4 hb hk hl hq)
  clear hA1 hb hk hl hq HA
  have HA := HA2
  clear HA2
  unfold withH at HA
  go_wp2_with fail
  refine (HA.out.cP).mono ?_
  rintro e w3 ⟨c, rfl, hk, hl, hq, hb⟩
  have HQc := Lib.hid (fun p (e : c.ao = some p) => (show w.heap.size ≤ p.block by have h1 := hq p e; have h2 := HA.out.size; omega))
  have hA1 := HA.out.next hb
  have f3 := hA1.bx.2 5
  obtain ⟨d0, d1, d2, d3, d4, d5⟩ := hA1.bx.1
  try dsimp only at d0 d1 d2 d3 d4 d5
  have HA2 := Lib.hid (HA.out.set5 hb hk hl hq)
  clear hA1 hb hk hl hq HA
  have HA := HA2
  clear HA2
  unfold withH at HA
  obtain ⟨d0, d1, d2, d3, d4, d5⟩ := HA.out.bx.1
  dsimp only at d0 d1 d2 d3 d4 d5
  obtain ⟨r0, r1, r2, r3, r4, r5⟩ := HA.out.rs.1
  have rf := HA.out.rs.2
  have g0 := rf 0
  have g1 := rf 1
  have g2 := rf 2
  have g3 := rf 3
  have g4 := rf 4
  have g5 := rf 5
  clear rf
  have HE := Lib.hid (⟨HA.out.fit, (HA.out.n.put ⟨s.ad, s.sc, s.lo, s.cd, s.sb, s.pb, a, b, c⟩).li, HA.out.below.trans (put_below (Nat.le_succ _) ⟨s.ad, s.sc, s.lo, s.cd, s.sb, s.pb, a, b, c⟩), ⟨HQa.out, HQb.out, HQc.out⟩⟩ : _ ∧ _ ∧ _ ∧ NewS w.heap.size ⟨s.ad, s.sc, s.lo, s.cd, s.sb, s.pb, a, b, c⟩)
  obtain ⟨q0, q1, q2, q3, q4, q5⟩ := (HA.out.rs.put ⟨s.ad, s.sc, s.lo, s.cd, s.sb, s.pb, a, b, c⟩).1
  unfold putT at HE q0 q1 q2 q3 q4 q5
  dsimp only at HE q0 q1 q2 q3 q4 q5
  clear HA
  go_wp2
  refine bodyPost_ret (v := .agg #[.int .i64 s.ad, .int .i64 s.sc, .int .i64 s.lo, .slice a.ao s.cd.length a.cap, .slice b.ao s.sb.length b.cap, .slice c.ao s.pb.length c.cap]) (by simp [results, Try.results25, go_sem, q0, q1, q2, q3, q4, q5]) rfl ?_
  exact ⟨a, b, c, rfl, HE.out⟩

def ShortC (c : Clu) : Prop := ∀ (k : Nat) (x : Sta), c.st[k]? = some x → ShortS x
theorem fit_no : FitS noT := ⟨⟨Nat.le_refl _, Nat.zero_le _, fun _ => rfl⟩, ⟨Nat.le_refl _, Nat.zero_le _, fun _ => rfl⟩, ⟨Nat.le_refl _, Nat.zero_le _, fun _ => rfl⟩, fun k x hx => by simp [noT] at hx⟩
/-- What a Find answers. -/
def Found (w : World) (r : Sta × Bool) (e : Ending) (w' : World) : Prop := ∃ a b c, e = .returned (.tuple #[.agg (staC (withH r.1 a b c)), .bool r.2]) ∧ FitS (withH r.1 a b c) ∧ StaL w' w'.heap.size (withH r.1 a b c) ∧ Below w.heap.size w w'
/-- A world of Find: a cluster, the result's box. -/
structure Fw (w W : World) (c : Clu) : Prop where
  cw : Cw w W c w.heap.size
  rs : Box6 W (w.heap.size + 1) noT
section
variable {w W W' : World} {c : Clu}
theorem Fw.first (h : CluL w w.heap.size c) : Fw w ((w.alloc (.cells (cluC c) 25)).alloc (.cells (staC noT) 36)) c := by
  refine ⟨(Cw.first h).next (one_S _ _ _), ?_⟩
  have := (Own6.new (w.alloc (.cells (cluC c) 25)) noT 36).box
  rwa [show (w.alloc (.cells (cluC c) 25)).heap.size = w.heap.size + 1 by simp] at this
theorem Fw.next (h : Fw w W c) (hb : Below W.heap.size W W') : Fw w W' c := ⟨h.cw.next hb, h.rs.kept hb h.rs.lt⟩
end

set_option maxRecDepth 100000 in
set_option maxHeartbeats 8000000 in
theorem cFind_any (c : Clu) (addr : Int) (w : World) (hL : CluL w w.heap.size c) (hF : FitC c) (hS : ShortC c) :
    Calls Try.prog 10 #[.agg (cluC c), .int .i64 addr] w (Found w (findC c.st addr)) := by
  have hml : (c.st.length : Int) ≤ 9223372036854775807 := by have h1 := hF.2.1.1; have := hF.2.1.2.1; unfold maxLen at this; omega
  have hA := Fw.first hL
  obtain ⟨g0, g1, g2, g3, g4, g5, g6, g7⟩ := hA.cw.ow.cells
  have HA := Lib.hid hA
  have HF := Lib.hid (⟨hF, hS⟩ : _ ∧ _)
  have hlc : c.st.length ≤ c.sh.cap := hF.2.1.1
  obtain ⟨r, hr⟩ : ∃ r, r = findC c.st addr := ⟨_, rfl⟩
  rw [← hr]
  have HR := Lib.hid hr
  clear hA hL hF hS hr
  unfold cluC staC noT noH at *
  go_enter Try.func10, Try.ntmps10
  go_wp2
  clear g0 g1 g2 g3 g4 g5 g6 g7
  generalize hN : w.heap.size = N at *
  go_loopw [11] (fun j W => ∃ k : Nat, k ≤ c.st.length ∧ j = .int .i64 k ∧ Hid (r = findC (c.st.drop k) addr) ∧ Hid (Fw w W c)) (fun j _ => c.st.length - (intOf j).toNat)
  case atStart => exact ⟨0, Nat.zero_le _, rfl, HR, HA⟩
  case round =>
    obtain ⟨k, hk, rfl, hR, hA⟩ := hrel
    clear HR HA
    obtain ⟨r0, r1, r2, r3, r4, r5⟩ := hA.out.rs.1
    have rf := hA.out.rs.2
    have f0 := rf 0
    have f1 := rf 1
    have f2 := rf 2
    have f3 := rf 3
    have f4 := rf 4
    have f5 := rf 5
    clear rf
    rw [hN] at r0 r1 r2 r3 r4 r5 f0 f1 f2 f3 f4 f5
    by_cases hlt : k < c.st.length
    · have e1 : decide ((k : Int) < (c.st.length : Int)) = true := by simp; omega
      obtain ⟨y, hy⟩ : ∃ y, c.st[k]? = some y := ⟨_, List.getElem?_eq_getElem (by omega)⟩
      obtain ⟨b1, o1, hbo, hb1, hcs⟩ := hA.out.cw.ca.lies.row (by omega)
      obtain ⟨c0, c1, c2, c3, c4, c5⟩ := hcs k y hy
      have o2 := one_S wr (staC y) 36
      have hA2 := Lib.hid (hA.out.next o2)
      obtain ⟨d0, d1, d2, d3, d4, d5⟩ := (Own6.new wr y 36).cells
      have hlt2 := hA.out.rs.lt
      rw [hN] at hlt2
      have hfi := findC_at hy addr
      have HAl := Lib.hid (fun W (h : Ca w W c) => alone_any y W (h.self.lies.st k y hy) (HF.out.1.2.2 k y hy) (HF.out.2 k y hy))
      unfold staC at *
      clear hcs o2 hy hA
      by_cases he : y.ad = addr
      · have e2 : (y.ad == addr) = true := beq_iff_eq.2 he
        have hr : r = (y, true) := by rw [hR.out, hfi, if_pos he]
        clear hR he hfi
        subst hr
        go_wp2_with fail
        refine (HAl.out _ hA2.out.cw.ca).mono ?_
        rintro e w1 ⟨a, b, d, rfl, hf, hl, hb, hn⟩
        have hA3 := hA2.out.next hb
        obtain ⟨r0, r1, r2, r3, r4, r5⟩ := hA3.rs.1
        have rf := hA3.rs.2
        have f0 := rf 0
        have f1 := rf 1
        have f2 := rf 2
        have f3 := rf 3
        have f4 := rf 4
        have f5 := rf 5
        clear rf
        rw [hN] at r0 r1 r2 r3 r4 r5 f0 f1 f2 f3 f4 f5
        have HE := Lib.hid (⟨hf, hl.put hn hA2.out.rs.lt (withH y a b d), hA3.cw.ca.below.trans (put_below (Nat.le_succ _) (withH y a b d))⟩ : _ ∧ _ ∧ _)
        obtain ⟨q0, q1, q2, q3, q4, q5⟩ := (hA3.rs.put (withH y a b d)).1
        unfold putT at HE q0 q1 q2 q3 q4 q5
        unfold withH at HE q0 q1 q2 q3 q4 q5 ⊢
        dsimp only at HE q0 q1 q2 q3 q4 q5
        rw [hN] at q0 q1 q2 q3 q4 q5
        clear hf hl hb hn hA2 hA3 HAl
        go_wp2
        refine bodyPost_ret (v := .tuple #[.agg #[.int .i64 y.ad, .int .i64 y.sc, .int .i64 y.lo, .slice a.ao y.cd.length a.cap, .slice b.ao y.sb.length b.cap, .slice d.ao y.pb.length d.cap], .bool true]) (by simp [results, Try.results10, go_sem, q0, q1, q2, q3, q4, q5]) rfl ?_
        subst hN
        exact ⟨a, b, d, rfl, HE.out⟩
      · have e2 : (y.ad == addr) = false := beq_eq_false_iff_ne.2 he
        have hR1 := Lib.hid (show r = findC (c.st.drop (k + 1)) addr by rw [hR.out, hfi, if_neg he])
        clear hR he hfi HAl
        go_wp2
        exact ⟨⟨k + 1, by omega, by go_num, hR1, hA2⟩, by simp [intOf]; omega⟩
    · obtain rfl : k = c.st.length := by omega
      have hr : r = (noT, false) := by rw [hR.out, List.drop_eq_nil_of_le (Nat.le_refl _)]; rfl
      clear hR
      subst hr
      have HE := Lib.hid (⟨fit_no, StaL.no _ _, hA.out.cw.ca.below.trans (put_below (Nat.le_succ _) noT)⟩ : FitS noT ∧ StaL (putT wr (w.heap.size + 1) noT) (putT wr (w.heap.size + 1) noT).heap.size noT ∧ _)
      obtain ⟨q0, q1, q2, q3, q4, q5⟩ := (hA.out.rs.put noT).1
      unfold putT noT noH at HE q0 q1 q2 q3 q4 q5
      dsimp only [List.length_nil] at HE q0 q1 q2 q3 q4 q5
      rw [hN] at q0 q1 q2 q3 q4 q5
      clear hA
      unfold noT noH at r0 r1 r2 r3 r4 r5
      go_wp2
      refine bodyPost_ret (v := .tuple #[.agg #[.int .i64 0, .int .i64 0, .int .i64 0, .slice none 0 0, .slice none 0 0, .slice none 0 0], .bool false]) (by simp [results, Try.results10, go_sem, q0, q1, q2, q3, q4, q5]) rfl ?_
      subst hN
      exact ⟨noH, noH, noH, rfl, HE.out⟩
end Go.Proofs.Ytmlopacekoghkaa.Cf
