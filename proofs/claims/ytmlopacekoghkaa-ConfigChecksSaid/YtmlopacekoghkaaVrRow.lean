/-
  Rows of what is ahead, as the reference has them: three cells each. Conditions: as each states.
-/
import Derived.Test.YtmlopacekoghkaaVrBehind
import Derived.Test.YtmlopacekoghkaaVeC
namespace Go.Proofs.Ytmlopacekoghkaa.Ve
open Go.RowKit
open Go.Proofs.Ytmlopacekoghkaa.Il hiding Next
open Go.Proofs.Ytmlopacekoghkaa.Ic hiding I64

def ahC (a : Ah) : List Value := [.bool a.on, .int .i64 a.kd, .string (S (brS a.br))]
def flatR (l : List Ah) : List Value := l.flatMap ahC
theorem flatR_len (l : List Ah) : (flatR l).length = l.length * 3 := by
  induction l with
  | nil => rfl
  | cons a l ih =>
    show (ahC a ++ flatR l).length = _
    rw [List.length_append, ih, List.length_cons]
    simp [ahC]; omega
theorem flatR_at : ∀ {l : List Ah} {k j : Nat} {a : Ah}, l[k]? = some a → j < 3 → (flatR l)[k * 3 + j]? = (ahC a)[j]?
  | [], _, _, _, h, _ => by simp at h
  | b :: l, 0, j, a, h, hj => by
    injection h with h
    subst h
    show (ahC b ++ flatR l)[0 * 3 + j]? = _
    rw [Nat.zero_mul, Nat.zero_add, List.getElem?_append_left hj]
  | b :: l, k + 1, j, a, h, hj => by
    have ih := flatR_at (l := l) (k := k) (a := a) (by simpa using h) hj
    show (ahC b ++ flatR l)[(k + 1) * 3 + j]? = _
    rw [List.getElem?_append_right (by simp [ahC]; omega), show (k + 1) * 3 + j - (ahC b).length = k * 3 + j by simp [ahC]; omega]
    exact ih
theorem flatR_ext {m : List Ah} {xs : List Value} (hx : xs.length = m.length * 3) (h : ∀ k j a, m[k]? = some a → j < 3 → xs[k * 3 + j]? = (ahC a)[j]?) : xs = flatR m := by
  apply List.ext_getElem?
  intro t
  by_cases ht : t < m.length * 3
  · obtain ⟨a, ha⟩ : ∃ a, m[t / 3]? = some a := ⟨_, List.getElem?_eq_getElem (by omega)⟩
    have e : t = t / 3 * 3 + t % 3 := by omega
    have h1 := h (t / 3) (t % 3) a ha (Nat.mod_lt _ (by omega))
    have h2 := flatR_at ha (Nat.mod_lt t (show 0 < 3 by omega))
    rw [← e] at h1 h2
    rw [h1, h2]
  · rw [List.getElem?_eq_none (by omega), List.getElem?_eq_none (by rw [flatR_len]; omega)]
theorem flatR_put {l : List Ah} {b : Ah} {k : Nat} (hk : k < l.length) : (((flatR l).set (k * 3) (.bool b.on)).set (k * 3 + 1) (.int .i64 b.kd)).set (k * 3 + 2) (.string (S (brS b.br))) = flatR (l.set k b) := by
  refine flatR_ext (by simp [flatR_len]) fun i j a ha hj => ?_
  rw [List.getElem?_set] at ha
  rw [List.getElem?_set, List.getElem?_set, List.getElem?_set]
  simp only [List.length_set, flatR_len]
  by_cases e : k = i
  · subst e
    rw [if_pos rfl, if_pos hk] at ha
    injection ha with ha
    subst ha
    match j, hj with
    | 0, _ => rw [if_neg (by omega), if_neg (by omega), if_pos (by omega), if_pos (by omega)]; rfl
    | 1, _ => rw [if_neg (by omega), if_pos rfl, if_pos (by omega)]; rfl
    | 2, _ => rw [if_pos rfl, if_pos (by omega)]; rfl
  · rw [if_neg e] at ha
    rw [if_neg (by omega), if_neg (by omega), if_neg (by omega)]
    exact flatR_at ha hj

structure RRow (W : World) (N g n : Nat) (l : List Ah) : Prop where
  own : W.ownsRow N 85 3 (.slice (some ⟨g, 0, none⟩) n n) n (flatR l)
  len : l.length = n
  wf : WfL l
section
variable {W W' : World} {N g n k : Nat} {l : List Ah} {a b : Ah}
theorem RRow.lt (h : RRow W N g n l) : N ≤ g ∧ g < W.heap.size := World.ownsRow.lt h.own g rfl
theorem RRow.cell (h : RRow W N g n l) (hk : k < n) {j : Nat} (hj : j < 3) {v : Value} (hv : (ahC (gt l k))[j]? = some v) : W.cell? ⟨g, k * 3 + j, none⟩ = some v := by
  rw [World.ownsRow.cellAt h.own _ (by omega), flatR_at (gt_some (by rw [h.len]; exact hk)) hj]
  exact hv
theorem RRow.cells (h : RRow W N g n l) (hk : k < n) : W.cell? ⟨g, k * 3, none⟩ = some (.bool (gt l k).on) ∧ W.cell? ⟨g, k * 3 + 1, none⟩ = some (.int .i64 (gt l k).kd) ∧ W.cell? ⟨g, k * 3 + 2, none⟩ = some (.string (S (brS (gt l k).br))) ∧
    W.frozen? ⟨g, k * 3, none⟩ = false ∧ W.frozen? ⟨g, k * 3 + 1, none⟩ = false ∧ W.frozen? ⟨g, k * 3 + 2, none⟩ = false :=
  ⟨h.cell hk (by omega) (j := 0) rfl, h.cell hk (by omega) (j := 1) rfl, h.cell hk (by omega) (j := 2) rfl, World.ownsRow.frozenAt h.own _, World.ownsRow.frozenAt h.own _, World.ownsRow.frozenAt h.own _⟩
theorem RRow.put (h : RRow W N g n l) (hb : Wf b) (hk : k < n) : RRow (((W.setCell ⟨g, k * 3, none⟩ (.bool b.on)).setCell ⟨g, k * 3 + 1, none⟩ (.int .i64 b.kd)).setCell ⟨g, k * 3 + 2, none⟩ (.string (S (brS b.br)))) N g n (l.set k b) := by
  refine ⟨?_, by rw [List.length_set]; exact h.len, fun j => ?_⟩
  · rw [← flatR_put (by rw [h.len]; exact hk)]
    exact (World.ownsRow.stored (World.ownsRow.stored (World.ownsRow.stored h.own _ _).1 _ _).1 _ _).1
  · rw [gt_set]
    split
    · exact hb
    · exact h.wf j
theorem RRow.kept (h : RRow W N g n l) (hb : Below W.heap.size W W') : RRow W' N g n l :=
  ⟨World.ownsRow.kept h.own (only_bel hb none) (.inr (by simp [Value.ownBlock])), h.len, h.wf⟩
theorem RRow.alloc (h : RRow W N g n l) (o : Obj) : RRow (W.alloc o) N g n l := ⟨h.own.alloc o, h.len, h.wf⟩
theorem RRow.drew (h : RRow W N g n l) : RRow W.drew N g n l := ⟨h.own.drew, h.len, h.wf⟩
theorem RRow.other (h : RRow W N g n l) {p j : Nat} (hne : g ≠ p) (v : Value) : RRow (W.setCell ⟨p, j, none⟩ v) N g n l :=
  ⟨World.ownsRow.kept h.own (only_setv W p j v) (.inr (fun e => hne (by simpa [Value.ownBlock] using e))), h.len, h.wf⟩
end
def zero3 : Array Value := #[.bool false, .int .i64 0, .string ⟨#[]⟩]
theorem Try.infoR : (Try.prog.info? 85).map (fun i => (i.zero, i.size, i.bytes)) = some (some (.agg zero3), 3, 32) := by kernel_rfl
theorem mkR (n : Nat) (hn : n ≤ 4000) (w : World) : (Instr.makeSlice 69 (.int .i64 ((n : Int) + 1)) (.int .i64 ((n : Int) + 1))).run Try.prog w = .ok (.slice (some ⟨w.heap.size, 0, none⟩) (n + 1) (n + 1)) (w.alloc (.cells (madeCells zero3 ((n + 1) * 3)) 85)) := by
  obtain ⟨i0, hi0, hi1, hi2, hi3⟩ := info_parts Try.infoR
  have h := run_make (P := Try.prog) w 69 85 i0 _ Try.underlying69 hi0 hi1 .i64 .i64 ((n : Int) + 1) ((n : Int) + 1) (by omega) (by omega) (by rw [hi3]; omega) (by omega)
  rw [hi2, show ((n : Int) + 1).toNat = n + 1 by omega] at h
  exact h
theorem made3_list (n : Nat) : (madeCells zero3 (n * 3)).toList = flatR (List.replicate n ah0) := by
  refine flatR_ext (by unfold madeCells; simp) fun k j a ha hj => ?_
  rw [List.getElem?_replicate] at ha
  split at ha
  · next hk =>
    injection ha with ha
    subst ha
    unfold madeCells
    rw [Array.toList_map, Array.toList_range, List.getElem?_map, List.getElem?_range (by omega)]
    show some (zero3[(k * 3 + j) % 3]!) = _
    rw [show (k * 3 + j) % 3 = j by omega]
    match j, hj with
    | 0, _ => rfl
    | 1, _ => rfl
    | 2, _ => rfl
  · cases ha
theorem first_rrow (w : World) (n : Nat) (hn : n ≤ 4000) : RRow (w.alloc (.cells ((madeCells zero3 ((n + 1) * 3)).setIfInBounds 0 (.bool true)) 85)) w.heap.size w.heap.size (n + 1) (firstB n) := by
  have h := World.ownsRow_lit (base := w.heap.size) (e := 85) (size := 3) w ((madeCells zero3 ((n + 1) * 3)).setIfInBounds 0 (.bool true)) (n + 1) (Nat.le_refl _) (by unfold maxLen; omega) (by rw [Array.size_setIfInBounds]; unfold madeCells; simp)
  refine ⟨?_, first_len n, wf_first n⟩
  have e : ((madeCells zero3 ((n + 1) * 3)).setIfInBounds 0 (.bool true)).toList = flatR (firstB n) := by
    rw [Array.toList_setIfInBounds, made3_list]
    rfl
  rw [e] at h
  exact h
/-- What All answers. -/
def Alls (w : World) (c : List In) (e : Ending) (w' : World) : Prop :=
  match allB c with
  | .error (r, k) => e = .returned (.tuple #[.slice none 0 0, .int .i64 (r : Nat), .int .i64 (k : Nat)]) ∧ Below w.heap.size w w'
  | .ok l => ∃ g, e = .returned (.tuple #[.slice (some ⟨g, 0, none⟩) (c.length + 1) (c.length + 1), .int .i64 0, .int .i64 0]) ∧ RRow w' w.heap.size g (c.length + 1) l ∧ Below w.heap.size w w'
theorem alls_err {w w' : World} {c : List In} {r k : Nat} (h : allB c = .error (r, k)) (hb : Below w.heap.size w w') : Alls w c (.returned (.tuple #[.slice none 0 0, .int .i64 (r : Nat), .int .i64 (k : Nat)])) w' := by
  unfold Alls
  rw [h]
  exact ⟨rfl, hb⟩
theorem alls_ok {w w' : World} {c : List In} {l : List Ah} {g : Nat} (h : allB c = .ok l) (hR : RRow w' w.heap.size g (c.length + 1) l) (hb : Below w.heap.size w w') : Alls w c (.returned (.tuple #[.slice (some ⟨g, 0, none⟩) (c.length + 1) (c.length + 1), .int .i64 0, .int .i64 0])) w' := by
  unfold Alls
  rw [h]
  exact ⟨g, rfl, hR, hb⟩
/-- How far All has come. -/
structure Ro (w W : World) (g n : Nat) (l : List Ah) : Prop where
  row : RRow W w.heap.size g (n + 1) l
  below : Below w.heap.size w W
/-- .. with an instruction in block b. -/
structure Ri (w W : World) (g n : Nat) (l : List Ah) (b : Nat) (i : In) : Prop where
  ro : Ro w W g n l
  ins : W.rangeAt b 0 (insC i)
  nb : b ≠ g
/-- .. and what is behind it in block p. -/
structure Rp (w W : World) (g n : Nat) (l : List Ah) (b : Nat) (i : In) (p : Nat) (a : Ah) : Prop where
  ri : Ri w W g n l b i
  st : W.rangeAt p 0 (ahC a)
  np : p ≠ g
section
variable {w W W' : World} {g n b p k : Nat} {l : List Ah} {i : In} {a c : Ah}
theorem Ro.kept (h : Ro w W g n l) (hb : Below W.heap.size W W') : Ro w W' g n l := ⟨h.row.kept hb, h.below.trans (hb.mono h.below.size)⟩
theorem Ro.drew (h : Ro w W g n l) : Ro w W.drew g n l := ⟨h.row.drew, h.below.drew⟩
theorem Ro.with (h : Ro w W g n l) (i : In) : Ri w (W.alloc (.cells (insC i).toArray 55)) g n l W.heap.size i :=
  ⟨h.kept ((Below.refl _ _).alloc (Nat.le_refl _) _), range_new _ _ _, Nat.ne_of_gt h.row.lt.2⟩
theorem Ri.kept (h : Ri w W g n l b i) (hb : Below W.heap.size W W') : Ri w W' g n l b i := ⟨h.ro.kept hb, range_below h.ins hb, h.nb⟩
theorem Ri.drew (h : Ri w W g n l b i) : Ri w W.drew g n l b i := ⟨h.ro.drew, h.ins, h.nb⟩
theorem Ri.alloc (h : Ri w W g n l b i) (o : Obj) : Ri w (W.alloc o) g n l b i := h.kept ((Below.refl _ _).alloc (Nat.le_refl _) _)
theorem Ri.cells (h : Ri w W g n l b i) : W.cell? ⟨b, 0, none⟩ = some (.int .i64 i.op) ∧ W.cell? ⟨b, 1, none⟩ = some (.int .i64 i.kd) ∧ W.cell? ⟨b, 2, none⟩ = some (.int .i64 i.ar) ∧ W.cell? ⟨b, 3, none⟩ = some (.int .i64 i.pl) ∧ W.cell? ⟨b, 4, none⟩ = some (.int .i64 i.n) :=
  ⟨h.ins 0 _ rfl, h.ins 1 _ rfl, h.ins 2 _ rfl, h.ins 3 _ rfl, h.ins 4 _ rfl⟩
theorem range_set {W : World} {b o p j : Nat} {cs : List Value} (h : W.rangeAt b o cs) (hne : b ≠ p) (v : Value) : (W.setCell ⟨p, j, none⟩ v).rangeAt b o cs := fun t u hu => by
  rw [World.cell?_setCell_other _ _ _ _ (by intro e; injection e with e _; exact hne e.symm)]
  exact h t u hu
theorem Ri.other (h : Ri w W g n l b i) (hp : w.heap.size ≤ p) (hg : g ≠ p) (hb : b ≠ p) (j : Nat) (v : Value) : Ri w (W.setCell ⟨p, j, none⟩ v) g n l b i :=
  ⟨⟨h.ro.row.other hg v, h.ro.below.setCell hp v⟩, range_set h.ins hb v, h.nb⟩
/-- A block of its own, made new. -/
theorem Ri.new (h : Ri w W g n l b i) (a : Ah) : Rp w (W.alloc (.cells (ahC a).toArray 85)) g n l b i W.heap.size a :=
  ⟨h.alloc _, range_new _ _ _, Nat.ne_of_gt h.ro.row.lt.2⟩
/-- .. or stored. -/
theorem Ri.store (h : Ri w W g n l b i) (hp : w.heap.size ≤ p) (hg : g ≠ p) (hb : b ≠ p) (h0 : (W.cell? ⟨p, 0, none⟩).isSome = true) (h1 : (W.cell? ⟨p, 1, none⟩).isSome = true) (h2 : (W.cell? ⟨p, 2, none⟩).isSome = true) (a : Ah) :
    Rp w (((W.setCell ⟨p, 0, none⟩ (.bool a.on)).setCell ⟨p, 1, none⟩ (.int .i64 a.kd)).setCell ⟨p, 2, none⟩ (.string (S (brS a.br)))) g n l b i p a := by
  refine ⟨((h.other hp hg hb 0 _).other hp hg hb 1 _).other hp hg hb 2 _, fun j v hv => ?_, fun e => hg e.symm⟩
  have some_set : ∀ (W : World) (j t : Nat) (v : Value), (W.cell? ⟨p, t, none⟩).isSome = true → ((W.setCell ⟨p, j, none⟩ v).cell? ⟨p, t, none⟩).isSome = true := fun W j t v hv => by
    obtain ⟨u, hu⟩ := Option.isSome_iff_exists.1 hv
    obtain ⟨u', hu'⟩ := RowKit.cell?_setCell_some (p := ⟨p, j, none⟩) (x := v) hu
    rw [hu']; rfl
  have ne : ∀ (s t : Nat), s ≠ t → (⟨p, s, none⟩ : Addr) ≠ ⟨p, t, none⟩ := fun s t hst e => hst (by injection e)
  rw [Nat.zero_add]
  match j with
  | 0 =>
    injection hv with hv
    subst hv
    rw [World.cell?_setCell_other _ _ _ _ (ne 2 0 (by omega)), World.cell?_setCell_other _ _ _ _ (ne 1 0 (by omega))]
    exact World.cell?_setCell_same' _ _ _ h0
  | 1 =>
    injection hv with hv
    subst hv
    rw [World.cell?_setCell_other _ _ _ _ (ne 2 1 (by omega))]
    exact World.cell?_setCell_same' _ _ _ (some_set _ 0 1 _ h1)
  | 2 =>
    injection hv with hv
    subst hv
    exact World.cell?_setCell_same' _ _ _ (some_set _ 1 2 _ (some_set _ 0 2 _ h2))
  | j + 3 => simp [ahC] at hv
theorem Rp.kept (h : Rp w W g n l b i p a) (hb : Below W.heap.size W W') : Rp w W' g n l b i p a := ⟨h.ri.kept hb, range_below h.st hb, h.np⟩
theorem Rp.drew (h : Rp w W g n l b i p a) : Rp w W.drew g n l b i p a := ⟨h.ri.drew, h.st, h.np⟩
theorem Rp.cells (h : Rp w W g n l b i p a) : W.cell? ⟨p, 0, none⟩ = some (.bool a.on) ∧ W.cell? ⟨p, 1, none⟩ = some (.int .i64 a.kd) ∧ W.cell? ⟨p, 2, none⟩ = some (.string (S (brS a.br))) := ⟨h.st 0 _ rfl, h.st 1 _ rfl, h.st 2 _ rfl⟩
theorem Rp.put (h : Rp w W g n l b i p a) (hc : Wf c) (hk : k < n + 1) : Rp w (((W.setCell ⟨g, k * 3, none⟩ (.bool c.on)).setCell ⟨g, k * 3 + 1, none⟩ (.int .i64 c.kd)).setCell ⟨g, k * 3 + 2, none⟩ (.string (S (brS c.br)))) g n (l.set k c) b i p a := by
  have hg : w.heap.size ≤ g := h.ri.ro.row.lt.1
  exact ⟨⟨⟨h.ri.ro.row.put hc hk, ((h.ri.ro.below.setCell hg _).setCell hg _).setCell hg _⟩, range_set (range_set (range_set h.ri.ins h.ri.nb _) h.ri.nb _) h.ri.nb _, h.ri.nb⟩, range_set (range_set (range_set h.st h.np _) h.np _) h.np _, h.np⟩
end
end Go.Proofs.Ytmlopacekoghkaa.Ve
