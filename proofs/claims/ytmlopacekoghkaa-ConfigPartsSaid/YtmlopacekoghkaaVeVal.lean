/-
  What is ahead of an instruction, as cells; rows of these in memory; the operations that read and write one whole. Conditions: as each states.
-/
import Derived.Test.YtmlopacekoghkaaVeMath
import Derived.Test.YtmlopacekoghkaaIlR
import Derived.Deep.MidRow
import Derived.DeepKeys
namespace Go.Proofs.Ytmlopacekoghkaa.Ve
open Go.RowKit
open Go.Proofs.Ytmlopacekoghkaa.Il hiding Next
open Go.Proofs.Ytmlopacekoghkaa.Ic

def pairC (x : Int × Int) : List Value := [.int .i64 x.1, .int .i64 x.2]
def brC (l : Br) : List Value := l.flatMap pairC
def padB (l : Br) : Br := l ++ List.replicate (8 - l.length) (0, 0)
/-- The open brackets' sixteen cells. -/
def openC (l : Br) : List Value := brC (padB l)
/-- The nineteen cells. -/
def stC (a : Ah) : List Value := .bool a.on :: .int .i64 a.kd :: .int .i64 (a.br.length : Nat) :: openC a.br
def stA (a : Ah) : Array Value := (stC a).toArray
def flatS (l : List Ah) : List Value := l.flatMap stC

theorem brC_len (l : Br) : (brC l).length = 2 * l.length := by
  induction l with
  | nil => rfl
  | cons x l ih =>
    show (pairC x ++ brC l).length = _
    rw [List.length_append, ih]
    simp [pairC]; omega
theorem brC_at : ∀ (l : Br) (k : Nat) (x : Int × Int), l[k]? = some x → (brC l)[2 * k]? = some (.int .i64 x.1) ∧ (brC l)[2 * k + 1]? = some (.int .i64 x.2)
  | [], _, _, h => by simp at h
  | y :: l, 0, x, h => by
    injection h with h
    subst h
    exact ⟨rfl, rfl⟩
  | y :: l, k + 1, x, h => by
    have := brC_at l k x (by simpa using h)
    show (pairC y ++ brC l)[2 * (k + 1)]? = _ ∧ (pairC y ++ brC l)[2 * (k + 1) + 1]? = _
    rw [List.getElem?_append_right (by simp [pairC]; omega), List.getElem?_append_right (by simp [pairC]; omega)]
    have e1 : 2 * (k + 1) - (pairC y).length = 2 * k := by simp [pairC]; omega
    have e2 : 2 * (k + 1) + 1 - (pairC y).length = 2 * k + 1 := by simp [pairC]; omega
    rw [e1, e2]
    exact this
theorem brC_set : ∀ (l : Br) (k : Nat) (x : Int × Int), ((brC l).set (2 * k) (.int .i64 x.1)).set (2 * k + 1) (.int .i64 x.2) = brC (l.set k x)
  | [], _, _ => rfl
  | y :: l, 0, x => rfl
  | y :: l, k + 1, x => by
    have ih := brC_set l k x
    show (((pairC y ++ brC l).set (2 * (k + 1)) _).set (2 * (k + 1) + 1) _) = pairC y ++ brC (l.set k x)
    rw [← ih]
    rfl
theorem pad_len {l : Br} (h : l.length ≤ 8) : (padB l).length = 8 := by unfold padB; simp; omega
theorem open_len {l : Br} (h : l.length ≤ 8) : (openC l).length = 16 := by unfold openC; rw [brC_len, pad_len h]
theorem stC_len {a : Ah} (h : a.br.length ≤ 8) : (stC a).length = 19 := by unfold stC; simp [open_len h]
theorem stA_size {a : Ah} (h : a.br.length ≤ 8) : (stA a).size = 19 := by unfold stA; simp [stC_len h]
theorem stA_list (a : Ah) : (stA a).toList = stC a := rfl
theorem brC_one (l : Br) : ∀ v ∈ brC l, v.oneCell' = true := by
  intro v hv
  unfold brC at hv
  rw [List.mem_flatMap] at hv
  obtain ⟨x, _, hx⟩ := hv
  simp [pairC] at hx
  rcases hx with rfl | rfl <;> rfl
theorem stC_one (a : Ah) : ∀ v ∈ stC a, v.oneCell' = true := by
  intro v hv
  simp only [stC, List.mem_cons] at hv
  rcases hv with rfl | rfl | rfl | hv
  · rfl
  · rfl
  · rfl
  · exact brC_one _ v hv
theorem stA_one (a : Ah) : (stA a).all (·.oneCell') = true := by
  rw [Array.all_eq_true_iff_forall_mem]
  intro v hv
  exact stC_one a v (by simpa [stA] using hv)
theorem stA_0 (a : Ah) : (stA a)[0]? = some (.bool a.on) := rfl
theorem stA_1 (a : Ah) : (stA a)[1]? = some (.int .i64 a.kd) := rfl
theorem stA_2 (a : Ah) : (stA a)[2]? = some (.int .i64 (a.br.length : Nat)) := rfl
theorem stA_open (a : Ah) (j : Nat) : (stA a)[3 + j]? = (openC a.br)[j]? := by
  unfold stA stC
  rw [List.getElem?_toArray, Nat.add_comm]
  rfl
theorem stC0 : stC ah0 = [.bool false, .int .i64 0, .int .i64 0, .int .i64 0, .int .i64 0, .int .i64 0, .int .i64 0, .int .i64 0, .int .i64 0, .int .i64 0, .int .i64 0, .int .i64 0, .int .i64 0, .int .i64 0, .int .i64 0, .int .i64 0, .int .i64 0, .int .i64 0, .int .i64 0] := rfl

/-! ### Rows -/
def Short (l : List Ah) : Prop := ∀ a ∈ l, a.br.length ≤ 8
theorem short_of {l : List Ah} (h : WfL l) : Short l := fun a ha => by
  obtain ⟨k, hk⟩ := List.getElem?_of_mem ha
  have hlt := (List.getElem?_eq_some_iff.1 hk).1
  rw [gt_some hlt] at hk
  injection hk with hk
  rw [← hk]
  exact (h k).len
theorem flat_len : ∀ {l : List Ah}, Short l → (flatS l).length = l.length * 19
  | [], _ => rfl
  | a :: l, h => by
    show (stC a ++ flatS l).length = _
    rw [List.length_append, flat_len (fun b hb => h b (List.mem_cons_of_mem _ hb)), stC_len (h a (List.mem_cons_self ..)), List.length_cons]
    omega
theorem flat_at : ∀ {l : List Ah} {k j : Nat} {a : Ah}, Short l → l[k]? = some a → j < 19 → (flatS l)[k * 19 + j]? = (stC a)[j]?
  | [], _, _, _, _, h, _ => by simp at h
  | b :: l, 0, j, a, hs, h, hj => by
    injection h with h
    subst h
    show (stC b ++ flatS l)[0 * 19 + j]? = _
    rw [Nat.zero_mul, Nat.zero_add, List.getElem?_append_left (by rw [stC_len (hs b (List.mem_cons_self ..))]; exact hj)]
  | b :: l, k + 1, j, a, hs, h, hj => by
    have ih := flat_at (l := l) (k := k) (a := a) (fun b hb => hs b (List.mem_cons_of_mem _ hb)) (by simpa using h) hj
    show (stC b ++ flatS l)[(k + 1) * 19 + j]? = _
    have hl := stC_len (hs b (List.mem_cons_self ..))
    rw [List.getElem?_append_right (by rw [hl]; omega), hl, show (k + 1) * 19 + j - 19 = k * 19 + j by omega]
    exact ih
def setL : List Value → Nat → List Value → List Value
  | xs, _, [] => xs
  | xs, o, v :: vs => setL (xs.set o v) (o + 1) vs
theorem setL_len : ∀ (vs xs : List Value) (o : Nat), (setL xs o vs).length = xs.length
  | [], _, _ => rfl
  | v :: vs, xs, o => by rw [setL, setL_len]; simp
theorem setL_at : ∀ (vs xs : List Value) (o j : Nat), o + vs.length ≤ xs.length → (setL xs o vs)[j]? = if o ≤ j ∧ j < o + vs.length then vs[j - o]? else xs[j]?
  | [], xs, o, j, _ => by rw [setL, if_neg (by simp)]
  | v :: vs, xs, o, j, h => by
    simp only [List.length_cons] at h
    rw [setL, setL_at vs _ _ _ (by simp; omega), List.getElem?_set]
    by_cases h1 : j = o
    · subst h1
      rw [if_neg (by omega), if_pos rfl, if_pos (by omega), if_pos (by simp)]
      simp
    · by_cases h2 : o + 1 ≤ j ∧ j < o + 1 + vs.length
      · rw [if_pos h2, if_pos (by simp; omega), show j - o = (j - (o + 1)) + 1 by omega, List.getElem?_cons_succ]
      · rw [if_neg h2, if_neg (by omega), if_neg (by simp; omega)]
theorem flat_ext {m : List Ah} {xs : List Value} (hs : Short m) (hx : xs.length = m.length * 19)
    (h : ∀ k j a, m[k]? = some a → j < 19 → xs[k * 19 + j]? = (stC a)[j]?) : xs = flatS m := by
  apply List.ext_getElem?
  intro t
  by_cases ht : t < m.length * 19
  · have hk : t / 19 < m.length := by omega
    obtain ⟨a, ha⟩ : ∃ a, m[t / 19]? = some a := ⟨_, List.getElem?_eq_getElem hk⟩
    have e : t = t / 19 * 19 + t % 19 := by omega
    have h1 := h (t / 19) (t % 19) a ha (Nat.mod_lt _ (by omega))
    have h2 := flat_at hs ha (Nat.mod_lt t (show 0 < 19 by omega))
    rw [← e] at h1 h2
    rw [h1, h2]
  · rw [List.getElem?_eq_none (by omega), List.getElem?_eq_none (by rw [flat_len hs]; omega)]
theorem short_set {l : List Ah} {b : Ah} {k : Nat} (hl : Short l) (hb : b.br.length ≤ 8) : Short (l.set k b) := fun a ha => by
  rcases List.mem_or_eq_of_mem_set ha with h | rfl
  · exact hl a h
  · exact hb
theorem flat_put {l : List Ah} {b : Ah} {k : Nat} (hl : Short l) (hb : b.br.length ≤ 8) (hk : k < l.length) : setL (flatS l) (k * 19) (stC b) = flatS (l.set k b) := by
  refine flat_ext (short_set hl hb) (by rw [setL_len, flat_len hl, List.length_set]) fun i j a ha hj => ?_
  rw [setL_at _ _ _ _ (by rw [stC_len hb, flat_len hl]; omega), stC_len hb]
  rw [List.getElem?_set] at ha
  by_cases e : k = i
  · subst e
    rw [if_pos rfl, if_pos hk] at ha
    injection ha with ha
    subst ha
    rw [if_pos (by omega), show k * 19 + j - k * 19 = j by omega]
  · rw [if_neg e] at ha
    rw [if_neg (by omega)]
    exact flat_at hl ha hj
theorem flat_zero {l : List Ah} {k : Nat} {a : Ah} (hl : Short l) (ha : l[k]? = some a) : (flatS l).set (k * 19 + 1) (.int .i64 0) = flatS (l.set k ⟨a.on, 0, a.br⟩) := by
  have hk : k < l.length := (List.getElem?_eq_some_iff.1 ha).1
  have hb : a.br.length ≤ 8 := hl a (List.mem_of_getElem? ha)
  refine flat_ext (m := l.set k ⟨a.on, 0, a.br⟩) (short_set hl hb) (by rw [List.length_set, flat_len hl, List.length_set]) fun i j x hx hj => ?_
  rw [List.getElem?_set] at hx ⊢
  rw [flat_len hl]
  by_cases e : k = i
  · subst e
    rw [if_pos rfl, if_pos hk] at hx
    injection hx with hx
    subst hx
    by_cases ej : j = 1
    · subst ej
      rw [if_pos rfl, if_pos (by omega)]
      rfl
    · rw [if_neg (by omega), flat_at hl ha hj]
      match j, ej with
      | 0, _ => rfl
      | j + 2, _ => rfl
  · rw [if_neg e] at hx
    rw [if_neg (by omega)]
    exact flat_at hl hx hj

/-- A row of what is ahead, in block g. -/
structure SRow (W : World) (N g n : Nat) (l : List Ah) : Prop where
  own : W.ownsRow N 96 19 (.slice (some ⟨g, 0, none⟩) n n) n (flatS l)
  len : l.length = n
  wf : WfL l
section
variable {W W' : World} {N g n k : Nat} {l : List Ah} {a b : Ah}
theorem SRow.lt (h : SRow W N g n l) : N ≤ g ∧ g < W.heap.size := World.ownsRow.lt h.own g rfl
theorem SRow.range (h : SRow W N g n l) (hk : k < n) : W.rangeAt g (k * 19) (stC (gt l k)) := fun j v hv => by
  have hs := short_of h.wf
  have hj : j < 19 := by
    have := (List.getElem?_eq_some_iff.1 hv).1
    rw [stC_len (h.wf k).len] at this
    exact this
  rw [World.ownsRow.cellAt h.own _ (by omega), flat_at hs (gt_some (by rw [h.len]; exact hk)) hj]
  exact hv
theorem SRow.cell (h : SRow W N g n l) (hk : k < n) {j : Nat} {v : Value} (hv : (stC (gt l k))[j]? = some v) : W.cell? ⟨g, k * 19 + j, none⟩ = some v := h.range hk j v hv
theorem SRow.free (h : SRow W N g n l) (j : Nat) : W.frozen? ⟨g, j, none⟩ = false := World.ownsRow.frozenAt h.own j
theorem SRow.there (h : SRow W N g n l) (hk : k < n) : W.there g (k * 19) 19 := fun j hj => by
  refine ⟨?_, h.free _⟩
  have hl := stC_len (h.wf k).len
  rw [h.cell hk (List.getElem?_eq_getElem (by rw [hl]; exact hj))]
  rfl
theorem own_cells {e : TypeId} {s cap : Nat} : ∀ (vs xs : List Value) (o : Nat) (w : World), w.ownsRow N e s (.slice (some ⟨g, 0, none⟩) n cap) n xs → (w.setCells g o vs).ownsRow N e s (.slice (some ⟨g, 0, none⟩) n cap) n (setL xs o vs)
  | [], _, _, _, h => h
  | v :: vs, xs, o, w, h => own_cells vs (xs.set o v) (o + 1) (w.setCell ⟨g, o, none⟩ v) (World.ownsRow.stored h o v).1
theorem only_refl (w : World) (row : Option Nat) : w.grownBy w row := ⟨rfl, rfl, rfl, Nat.le_refl _, fun _ _ _ => rfl⟩
theorem only_setv (w : World) (p o : Nat) (u : Value) : w.grownBy (w.setCell ⟨p, o, none⟩ u) (some p) :=
  ⟨rfl, rfl, rfl, by simp, fun k _ hk => heap_setCell_other w ⟨p, o, none⟩ k u (fun e => hk (by simp [e]))⟩
theorem only_tr {a b c : World} {row : Option Nat} (h : a.grownBy b row) (k : b.grownBy c row) : a.grownBy c row :=
  ⟨k.os.trans h.os, k.tape.trans h.tape, k.output.trans h.output, Nat.le_trans h.size k.size, fun i hi hne => (k.block i (Nat.lt_of_lt_of_le hi h.size) hne).trans (h.block i hi hne)⟩
theorem only_bel {w w' : World} (h : Below w.heap.size w w') (row : Option Nat) : w.grownBy w' row := ⟨h.os, h.tape, h.output, h.size, fun i hi _ => h.block i hi⟩
theorem bel_only {p : Nat} {w w' : World} (h : w.grownBy w' (some p)) (hp : N ≤ p) (hN : N ≤ w.heap.size) : Below N w w' :=
  ⟨h.os, h.tape, h.output, h.size, fun k hk => h.block k (by omega) (fun e => by injection e with e; omega)⟩
theorem only_setCells : ∀ (vs : List Value) (o : Nat) (w : World), w.grownBy (w.setCells g o vs) (some g)
  | [], _, w => only_refl w _
  | v :: vs, o, w => only_tr (only_setv w g o v) (only_setCells vs (o + 1) _)
theorem SRow.put (h : SRow W N g n l) (hb : Wf b) (hk : k < n) : SRow (W.setCells g (k * 19) (stC b)) N g n (l.set k b) := by
  refine ⟨?_, by rw [List.length_set]; exact h.len, fun j => ?_⟩
  · rw [← flat_put (short_of h.wf) hb.len (by rw [h.len]; exact hk)]
    exact own_cells _ _ _ _ h.own
  · rw [gt_set]
    split
    · exact hb
    · exact h.wf j
theorem SRow.zero (h : SRow W N g n l) (hk : k < n) (hon : (gt l k).on = true) : SRow (W.setCell ⟨g, k * 19 + 1, none⟩ (.int .i64 0)) N g n (l.set k ⟨true, 0, (gt l k).br⟩) := by
  have ha := gt_some (l := l) (k := k) (by rw [h.len]; exact hk)
  have e := flat_zero (short_of h.wf) ha
  rw [hon] at e
  refine ⟨?_, by rw [List.length_set]; exact h.len, fun j => ?_⟩
  · rw [← e]
    exact (World.ownsRow.stored h.own _ _).1
  · rw [gt_set]
    split
    · exact ⟨(h.wf k).len, (h.wf k).br, fun h => by simp at h, by dsimp only; omega⟩
    · exact h.wf j
theorem SRow.kept (h : SRow W N g n l) (hb : Below W.heap.size W W') : SRow W' N g n l :=
  ⟨World.ownsRow.kept h.own (only_bel hb none) (.inr (by simp [Value.ownBlock])), h.len, h.wf⟩
theorem SRow.alloc (h : SRow W N g n l) (o : Obj) : SRow (W.alloc o) N g n l := ⟨h.own.alloc o, h.len, h.wf⟩
end

/-! ### The operations that read and write one whole -/
noncomputable def ldS (v : Value) (W : World) : Result Next := (do pure (Next.value (← Instr.loadAt 96 v)) : Sem Next).run Try.prog W
noncomputable def stS (p v : Value) (W : World) : Result Next := (do Instr.storeAt 96 p v; pure Next.skip : Sem Next).run Try.prog W
noncomputable def ldO (v : Value) (W : World) : Result Next := (do pure (Next.value (← Instr.loadAt 94 v)) : Sem Next).run Try.prog W
theorem exec_ldS (ρ : Operand → Value) (d : Option Tmp) (x : Operand) (t : TypeId) (pos : String) (af : _) (g : _) (W : World) :
    (execOp ρ ⟨d, .load 96 x, t, pos, af, g⟩).run Try.prog W = ldS (ρ x) W := rfl
theorem exec_stS (ρ : Operand → Value) (d : Option Tmp) (x y : Operand) (t : TypeId) (pos : String) (af : _) (g : _) (W : World) :
    (execOp ρ ⟨d, .store 96 x y, t, pos, af, g⟩).run Try.prog W = stS (ρ x) (ρ y) W := rfl
theorem exec_ldO (ρ : Operand → Value) (d : Option Tmp) (x : Operand) (t : TypeId) (pos : String) (af : _) (g : _) (W : World) :
    (execOp ρ ⟨d, .load 94 x, t, pos, af, g⟩).run Try.prog W = ldO (ρ x) W := rfl
theorem Try.sizeS : (Try.prog.info? 96).map (·.size) = some 19 := by kernel_rfl
theorem Try.sizeO : (Try.prog.info? 94).map (·.size) = some 16 := by kernel_rfl
theorem load_S (W : World) (b o : Nat) (c : List Value) (h : W.rangeAt b o c) (hc : c.length = 19) : (Instr.loadAt 96 (.pointer (some ⟨b, o, none⟩))).run Try.prog W = .ok (.agg c.toArray) W :=
  run_loadAt_mid (P := Try.prog) W b o 96 c _ h Try.underlying96 rfl (by rw [hc]; exact Try.sizeS)
theorem loadVar_S (W : World) (b o : Nat) (c : List Value) (h : W.rangeAt b o c) (hc : c.length = 19) : (loadVar 96 ⟨b, o, none⟩).run Try.prog W = .ok (.agg c.toArray) W :=
  run_loadVar_mid (P := Try.prog) W b o 96 c _ h Try.underlying96 rfl (by rw [hc]; exact Try.sizeS)
theorem load_O (W : World) (b o : Nat) (c : List Value) (h : W.rangeAt b o c) (hc : c.length = 16) : (Instr.loadAt 94 (.pointer (some ⟨b, o, none⟩))).run Try.prog W = .ok (.agg c.toArray) W :=
  run_loadAt_mid (P := Try.prog) W b o 94 c _ h Try.underlying94 rfl (by rw [hc]; exact Try.sizeO)
theorem ldS_of (W : World) (b o : Nat) (c : List Value) (h : W.rangeAt b o c) (hc : c.length = 19) : ldS (.pointer (some ⟨b, o, none⟩)) W = .ok (.value (.agg c.toArray)) W := by
  unfold ldS
  rw [Sem.run_bind, load_S W b o c h hc]
  rfl
theorem ldO_of (W : World) (b o : Nat) (c : List Value) (h : W.rangeAt b o c) (hc : c.length = 16) : ldO (.pointer (some ⟨b, o, none⟩)) W = .ok (.value (.agg c.toArray)) W := by
  unfold ldO
  rw [Sem.run_bind, load_O W b o c h hc]
  rfl
theorem stS_of (W : World) (b o : Nat) (c : Array Value) (h : W.there b o 19) (hc : c.size = 19) (h1 : c.all (·.oneCell') = true) :
    stS (.pointer (some ⟨b, o, none⟩)) (.agg c) W = .ok .skip (W.setCells b o c.toList) := by
  unfold stS
  rw [Sem.run_bind, run_storeAt_mid (P := Try.prog) W b o 96 c (by rw [hc]; exact h) (by rw [hc]; exact Try.sizeS) h1]
  rfl
theorem set_new (t : TypeId) : ∀ (vs : List Value) (o : Nat) (c : Array Value) (W : World), (W.alloc (.cells c t)).setCells W.heap.size o vs = W.alloc (.cells (setL c.toList o vs).toArray t)
  | [], _, _, _ => rfl
  | v :: vs, o, c, W => by
    rw [World.setCells, World.setCell_alloc_at (hn := rfl), set_new t vs, setL, Array.toList_setIfInBounds]
theorem there_new (W : World) (c : Array Value) (t : TypeId) : (W.alloc (.cells c t)).there W.heap.size 0 c.size := fun j hj => by
  rw [Nat.zero_add]
  refine ⟨?_, World.frozen?_alloc_new _ _ _ _⟩
  rw [World.cell?_alloc_new]
  simp [hj]
/-- A new one, and then stored whole. -/
theorem stS_new (W : World) (n : Nat) (z c : Array Value) (t : TypeId) (hn : n = W.heap.size) (hz : z.size = 19) (hc : c.size = 19) (h1 : c.all (·.oneCell') = true) :
    stS (.pointer (some ⟨n, 0, none⟩)) (.agg c) (W.alloc (.cells z t)) = .ok .skip (W.alloc (.cells c t)) := by
  subst hn
  rw [stS_of _ _ _ _ (by have := there_new W z t; rw [hz] at this; exact this) hc h1, set_new]
  congr 3
  apply Array.ext'
  apply List.ext_getElem?
  intro j
  show (setL z.toList 0 c.toList)[j]? = _
  rw [setL_at _ _ _ _ (by simp [hz, hc])]
  by_cases h : j < 19
  · rw [if_pos (by simp [hc, h])]; simp
  · rw [if_neg (by simp [hc]; omega), List.getElem?_eq_none (by simp [hz]; omega), List.getElem?_eq_none (by simp [hc]; omega)]
theorem range_new (W : World) (c : Array Value) (t : TypeId) : (W.alloc (.cells c t)).rangeAt W.heap.size 0 c.toList := fun j v hv => by
  rw [Nat.zero_add, World.cell?_alloc_new]
  simpa using hv
theorem range_below {W W' : World} {b o : Nat} {c : List Value} (h : W.rangeAt b o c) (hb : Below W.heap.size W W') : W'.rangeAt b o c := fun j v hv => kept_cell hb (h j v hv)

/-! ### Two brackets' lists held against one another -/
theorem Try.cellsBr : Try.prog.cellsOf 93 = 2 := by kernel_rfl
theorem Try.cellsArr : Try.prog.cellsOf 94 = 16 := by kernel_rfl
theorem key_pair (d : Nat) (a b : Int) (ha : I64 a) (hb : I64 b) : Try.prog.keyLits (d + 2) 93 [.int .i64 a, .int .i64 b] = some [.int .i64 a, .int .i64 b] := by
  have wa : (Lit.int .i64 a).wf = true := by
    unfold I64 at ha
    simp [Lit.wf, IntKind.min, IntKind.max, IntKind.signed, IntKind.bits]; omega
  have wb : (Lit.int .i64 b).wf = true := by
    unfold I64 at hb
    simp [Lit.wf, IntKind.min, IntKind.max, IntKind.signed, IntKind.bits]; omega
  simp [Program.keyLits, Try.underlying93, Try.cellsBr, Try.underlying3, wa, wb, show Try.prog.cellsOf 3 = 1 from by kernel_rfl]
def litB (l : Br) : List Lit := l.flatMap fun x => [.int .i64 x.1, .int .i64 x.2]
def FitBr (l : Br) : Prop := ∀ x ∈ l, I64 x.1 ∧ I64 x.2
theorem key_arr (d : Nat) : ∀ (l : Br), l.length = 8 → FitBr l → Try.prog.keyLits (d + 3) 94 (brC l) = some (litB l)
  | [x0, x1, x2, x3, x4, x5, x6, x7], _, h => by
    have h0 := h x0 (by simp)
    have h1 := h x1 (by simp)
    have h2 := h x2 (by simp)
    have h3 := h x3 (by simp)
    have h4 := h x4 (by simp)
    have h5 := h x5 (by simp)
    have h6 := h x6 (by simp)
    have h7 := h x7 (by simp)
    have e : ∀ cs, Try.prog.keyLits (d + 3) 94 cs = if cs.length = Try.prog.cellsOf 94 then ((List.range 8).mapM fun i => Try.prog.keyLits (d + 2) 93 ((cs.drop (i * Try.prog.cellsOf 93)).take (Try.prog.cellsOf 93))).map List.flatten else none := fun cs => by
      conv => lhs; unfold Program.keyLits
      rw [Try.underlying94]
    rw [e, Try.cellsArr, Try.cellsBr, if_pos (show (brC [x0, x1, x2, x3, x4, x5, x6, x7]).length = 16 from rfl), show List.range 8 = [0, 1, 2, 3, 4, 5, 6, 7] from rfl]
    simp only [List.mapM_cons, List.mapM_nil, brC, pairC, List.flatMap_cons, List.flatMap_nil, List.cons_append, List.nil_append, List.drop, List.take,
      key_pair d _ _ h0.1 h0.2, key_pair d _ _ h1.1 h1.2, key_pair d _ _ h2.1 h2.2, key_pair d _ _ h3.1 h3.2, key_pair d _ _ h4.1 h4.2, key_pair d _ _ h5.1 h5.2, key_pair d _ _ h6.1 h6.2, key_pair d _ _ h7.1 h7.2]
    rfl
theorem litB_inj : ∀ (l m : Br), litB l = litB m → l = m
  | [], [], _ => rfl
  | [], y :: m, h => by simp [litB] at h
  | x :: l, [], h => by simp [litB] at h
  | x :: l, y :: m, h => by
    have h' : Lit.int .i64 x.1 :: Lit.int .i64 x.2 :: litB l = Lit.int .i64 y.1 :: Lit.int .i64 y.2 :: litB m := h
    injection h' with h1 h'
    injection h' with h2 h'
    injection h1 with _ h1
    injection h2 with _ h2
    rw [litB_inj l m h', Prod.ext h1 h2]
theorem pad_inj {l m : Br} (hl : ∀ x ∈ l, x.1 ≠ 0) (hm : ∀ x ∈ m, x.1 ≠ 0) (h : padB l = padB m) : l = m := by
  have key : ∀ l : Br, (∀ x ∈ l, x.1 ≠ 0) → (padB l).filter (fun x => decide (x.1 ≠ 0)) = l := fun l hl => by
    unfold padB
    rw [List.filter_append, List.filter_eq_self.2 (fun x hx => by simpa using hl x hx), List.filter_eq_nil_iff.2, List.append_nil]
    intro x hx
    rw [List.mem_replicate] at hx
    rw [hx.2]
    simp
  rw [← key l hl, ← key m hm, h]
theorem fit_pad {l : Br} (h : ∀ x ∈ l, (7 ≤ x.1 ∧ x.1 ≤ 24) ∧ (1 ≤ x.2 ∧ x.2 ≤ 7)) : FitBr (padB l) := fun x hx => by
  unfold padB at hx
  rw [List.mem_append, List.mem_replicate] at hx
  rcases hx with hx | ⟨_, rfl⟩
  · have := h x hx
    unfold I64
    omega
  · unfold I64
    dsimp only
    omega
theorem open_run (a b : Ah) (ha : Wf a) (hb : Wf b) (W : World) :
    (Op.equalIn 10000 94 (.agg (openC a.br).toArray) (.agg (openC b.br).toArray)).run Try.prog W = .ok (decide (a.br = b.br)) W := by
  have hka := key_arr 3 (padB a.br) (pad_len ha.len) (fit_pad ha.br)
  have hkb := key_arr 3 (padB b.br) (pad_len hb.len) (fit_pad hb.br)
  have hf : ∀ a : Ah, Wf a → (Value.agg (openC a.br).toArray).formed Try.prog 94 = true := fun a ha => by
    unfold Value.formed
    rw [Try.underlying94, Try.cellsArr]
    simp [open_len ha.len]
  obtain ⟨r, hr, hiff⟩ := run_equalIn_deep (P := Try.prog) 9990 10 94 (by kernel_rfl) W _ _ _ _ _ _ (hf a ha) (hf b hb) hka hkb
  have e : r = decide (a.br = b.br) := by
    rw [Bool.eq_iff_iff, hiff, decide_eq_true_iff]
    constructor
    · intro h
      exact pad_inj (fun x hx => by have := ha.br x hx; omega) (fun x hx => by have := hb.br x hx; omega) (litB_inj _ _ h)
    · intro h
      rw [h]
  rw [← e]
  exact hr
theorem Try.guardArr : Try.prog.eqGuardType Try.prog.depth 94 = false := by kernel_rfl

end Go.Proofs.Ytmlopacekoghkaa.Ve
