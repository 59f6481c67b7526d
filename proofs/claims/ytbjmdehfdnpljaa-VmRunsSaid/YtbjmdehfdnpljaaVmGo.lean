/-
  The landed code's Run, walked. Conditions: as each states.
-/
import Derived.Test.YtbjmdehfdnpljaaVmLd
import Derived.Test.YtbjmdehfdnpljaaVmDoe
namespace Go.Proofs.Ytbjmdehfdnpljaa.Vm
open Go.RowKit
open Go.Proofs.Ytbjmdehfdnpljaa.Il hiding Next S S_size S_app S_inj S_list
open Go.Proofs.Ytbjmdehfdnpljaa.Ic Go.Proofs.Ytbjmdehfdnpljaa.Ve
open Oct

def scanV (t z : Nat) (k v : Int) : Value := .agg #[.int .i64 (t : Nat), .int .i64 (z : Nat), .int .i64 k, .int .i64 v]
theorem fold_list : ∀ (l : List Value) (k : Nat) (Z : Array Value), k + l.length ≤ Z.size → ((l.zipIdx k).foldl (fun (cs : Array Value) (x : Value × Nat) => cs.setIfInBounds x.2 x.1) Z).toList = Z.toList.take k ++ l ++ Z.toList.drop (k + l.length)
  | [], k, Z, _ => by simp
  | v :: l, k, Z, h => by
    simp only [List.length_cons] at h
    rw [List.zipIdx_cons, List.foldl_cons, fold_list l (k + 1) _ (by simp; omega)]
    simp only [Array.toList_setIfInBounds]
    have hk : k < Z.toList.length := by simp; omega
    rw [List.drop_set, if_pos (by omega), List.length_cons, show k + 1 + l.length = k + (l.length + 1) by omega]
    have : (Z.toList.set k v).take (k + 1) = Z.toList.take k ++ [v] := by
      rw [List.take_succ_eq_append_getElem (by simpa using hk), List.take_set, List.set_eq_of_length_le (by rw [List.length_take]; omega)]
      simp
    rw [this]
    simp
def tail0 (p : Int) : List Value := [.int .i64 p, .int .i64 0, .int .i64 0, .slice none 0 0, .int .i64 0]
theorem zero75 : Try.zeroCells75.toList = arC [z64, z64, z64, z64] ++ tail0 0 := by kernel_rfl
/-- A run at its beginning, as it is built. -/
theorem built_run (X : Array Value) (hX : X.size = 256) (p : Int) : ((Array.foldl (fun (cs : Array Value) (x : Value × Nat) => cs.setIfInBounds x.snd x.fst) Try.zeroCells75 X.zipIdx 0 256).setIfInBounds 256 (.int .i64 p)) = (X.toList ++ tail0 p).toArray := by
  have e256 : (Array.foldl (fun (cs : Array Value) (x : Value × Nat) => cs.setIfInBounds x.snd x.fst) Try.zeroCells75 X.zipIdx 0 256) = Array.foldl (fun (cs : Array Value) (x : Value × Nat) => cs.setIfInBounds x.snd x.fst) Try.zeroCells75 X.zipIdx 0 X.size := by rw [hX]
  rw [e256]
  have hz : Try.zeroCells75.size = 261 := by
    kernel_rfl
  have e : Array.foldl (fun (cs : Array Value) (x : Value × Nat) => cs.setIfInBounds x.snd x.fst) Try.zeroCells75 X.zipIdx 0 X.size = (X.toList.zipIdx 0).foldl (fun (cs : Array Value) (x : Value × Nat) => cs.setIfInBounds x.2 x.1) Try.zeroCells75 := by
    have h1 : X.size = X.zipIdx.size := by simp
    rw [h1, ← Array.foldl_toList, Array.toList_zipIdx]
  rw [e]
  apply Array.toList_inj.1
  rw [Array.toList_setIfInBounds, fold_list _ _ _ (by simp; omega), zero75]
  have hl : X.toList.length = 256 := by simp [hX]
  have ha := ar_256 (aok4 z_len z_len z_len z_len)
  rw [List.take_zero, List.nil_append, Nat.zero_add, hl, List.drop_left' ha, List.set_append_right _ _ (by omega), hl, Nat.sub_self]
  first | done | rfl
noncomputable def stR (p v : Value) (W : World) : Result Next := (do Instr.storeAt 75 p v; pure Next.skip : Sem Next).run Try.prog W
theorem exec_stR (ρ : Operand → Value) (d : Option Tmp) (x y : Operand) (t : TypeId) (pos : String) (af : _) (g : _) (W : World) :
    (execOp ρ ⟨d, .store 75 x y, t, pos, af, g⟩).run Try.prog W = stR (ρ x) (ρ y) W := rfl
theorem stR_new (W : World) (z c : Array Value) (t : TypeId) (hz : z.size = 261) (hc : c.size = 261) (h1 : c.all (·.oneCell') = true) :
    stR (.pointer (some ⟨W.heap.size, 0, none⟩)) (.agg c) (W.alloc (.cells z t)) = .ok .skip (W.alloc (.cells c t)) := by
  have hh := heap_alloc_new W (.cells z t)
  unfold stR
  rw [Sem.run_bind, run_storeAt_mid (P := Try.prog) (W.alloc (.cells z t)) W.heap.size 0 75 c (by rw [hc]; exact there_heap hh 261 (by omega)) (by rw [hc]; exact Try.sizeRu) h1]
  show Result.ok _ _ = _
  rw [set_new, setL_full (by simp [hz, hc])]
theorem runC_0 (A : List Bs) (p : Int) : runC p (st0 A) (.slice none 0 0) = arC A ++ tail0 p := rfl
/-- How much time a run takes notice of. -/
def pcl (x : Int) : Int := max 0 (min x 10000)
theorem run_first (w : World) (A : List Bs) (hA : AOk A) (p : Int) : RunAt (w.alloc (.cells (arC A ++ tail0 p).toArray 75)) w.heap.size w.heap.size p (st0 A) (.slice none 0 0) :=
  ⟨Nat.le_refl _, by rw [← runC_0]; exact heap_alloc_new _ _, World.ownsRow_nil _ _ _ _, hA⟩
def imgA (A : List Bs) : Value := .agg #[.string (S (A.getD 0 [])), .string (S (A.getD 1 [])), .string (S (A.getD 2 [])), .string (S (A.getD 3 []))]
def ranV (m : Mc) : Value := .tuple #[imgA m.s.A, scanV m.t m.s.z m.s.kd m.s.v]
/-- What is behind a run's beginning. -/
structure Rg (w W : World) (g : Nat) (p : Int) (s : St) (ov : Value) : Prop where
  at_ : RunAt W g g p s ov
  img : Rz W (w.heap.size + 1)
  scan : W.heap[w.heap.size + 1 + 1]? = some (.cells #[.int .i64 0, .int .i64 0, .int .i64 0, .int .i64 0] 34 (0, 0))
  below : Below w.heap.size w W
  lo : w.heap.size + 2 < g
section
variable {w W W' : World} {g : Nat} {p : Int} {s s' : St} {ov ov' : Value}
theorem Rg.kept (h : Rg w W g p s ov) (hb : Below W.heap.size W W') : Rg w W' g p s ov :=
  ⟨h.at_.kept hb, h.img.kept hb, (hb.block _ (Array.getElem?_eq_some_iff.1 h.scan).1).trans h.scan, h.below.trans (hb.mono h.below.size), h.lo⟩
theorem Rg.drew (h : Rg w W g p s ov) : Rg w W.drew g p s ov := ⟨h.at_.drew, h.img, h.scan, h.below.drew, h.lo⟩
theorem Rg.step (h : Rg w W g p s ov) (hn : Now g g p s' ov W W' ov') : Rg w W' g p s' ov' := by
  have hlo := h.lo
  have hov : ∀ k, ov.ownBlock = some k → g ≤ k := fun k hk => (World.ownsRow.lt h.at_.own k hk).1
  have hs := h.below.size
  refine ⟨hn.at_, ?_, ?_, h.below.trans (hn.kp.below (by omega) (fun k hk => by have := hov k hk; omega) hs), hlo⟩
  · exact (hn.kp.block _ (Array.getElem?_eq_some_iff.1 h.img).1 (by omega) (fun e => by have := hov _ e; omega)).trans h.img
  · exact (hn.kp.block _ (Array.getElem?_eq_some_iff.1 h.scan).1 (by omega) (fun e => by have := hov _ e; omega)).trans h.scan
end
theorem cNext2 {N g : Nat} {p : Int} {s : St} {ov : Value} (w : World) (h : RunAt w N g p s ov) (i : In) (k m : Nat) (hk : k < 100000) (hbool : i.op = 26 ∨ i.op = 27 ∨ i.op = 29 ∨ i.op = 30 → s.v = 0 ∨ s.v = 1) (hj : jumpB i.op = true → 0 ≤ i.pl) :
    Calls Try.prog 28 #[.pointer (some ⟨g, 0, none⟩), .int .i64 k, insV i, .int .i64 m] w (Tells (.int .i64 (nxI i k m s : Nat)) w) := by
  obtain ⟨op, kd, ar, pl, n⟩ := i
  dsimp only at *
  have hk' : (k : Int) < 100000 := by omega
  have hpl : jumpB op = true → ((pl.toNat : Nat) : Int) = pl := fun e => Int.toNat_of_nonneg (hj e)
  unfold nxI
  dsimp only
  by_cases h25 : op = 25
  · subst h25
    rw [if_pos (.inl rfl), hpl (by decide)]
    exact next_25 w h kd ar pl n k m hk'
  by_cases h28 : op = 28
  · subst h28
    rw [if_neg (by omega), if_pos (.inl rfl)]
    exact next_28 w h kd ar pl n k m hk'
  by_cases h26 : op = 26
  · subst h26
    rcases hbool (by omega) with hv | hv
    · rw [if_neg (by omega), if_neg (by omega)]
      exact next_26b w h kd ar pl n k m hk' (by rw [hv]; rfl)
    · rw [if_pos (by omega), hpl (by decide)]
      exact next_26a w h kd ar pl n k m hk' (by rw [hv]; rfl)
  by_cases h27 : op = 27
  · subst h27
    rcases hbool (by omega) with hv | hv
    · rw [if_pos (by omega), hpl (by decide)]
      exact next_27a w h kd ar pl n k m hk' (by rw [hv]; rfl)
    · rw [if_neg (by omega), if_neg (by omega)]
      exact next_27b w h kd ar pl n k m hk' (by rw [hv]; rfl)
  by_cases h29 : op = 29
  · subst h29
    rcases hbool (by omega) with hv | hv
    · rw [if_neg (by omega), if_neg (by omega)]
      exact next_29b w h kd ar pl n k m hk' (by rw [hv]; rfl)
    · rw [if_neg (by omega), if_pos (by omega)]
      exact next_29a w h kd ar pl n k m hk' (by rw [hv]; rfl)
  by_cases h30 : op = 30
  · subst h30
    rcases hbool (by omega) with hv | hv
    · rw [if_neg (by omega), if_pos (by omega)]
      exact next_30a w h kd ar pl n k m hk' (by rw [hv]; rfl)
    · rw [if_neg (by omega), if_neg (by omega)]
      exact next_30b w h kd ar pl n k m hk' (by rw [hv]; rfl)
  rw [if_neg (by omega), if_neg (by omega)]
  exact next_else w h kd ar pl n k m hk' op (by simpa using h25) (by simpa using h26) (by simpa using h27) (by simpa using h28) (by simpa using h29) (by simpa using h30)
/-- An instruction that only leads elsewhere does nothing; another one leads on, whatever the result is. -/
theorem nx_do (p : Int) (i : In) (k n : Nat) (s : St) : nxI i k n (doI p i s) = nxI i k n s ∧ (25 ≤ i.op → i.op ≤ 30 → doI p i s = s) := by
  have hd : 25 ≤ i.op → i.op ≤ 30 → doI p i s = s := fun h1 h2 => by
    unfold doI
    rw [if_neg (by omega), if_neg (by omega), if_neg (by omega), if_neg (by omega), if_neg (by omega), if_neg (by omega), if_pos ⟨h1, h2⟩]
  refine ⟨?_, hd⟩
  by_cases h : 25 ≤ i.op ∧ i.op ≤ 30
  · rw [hd h.1 h.2]
  · unfold nxI
    rw [if_neg (by omega), if_neg (by omega), if_neg (by omega), if_neg (by omega)]
theorem Try.sizeScan : (Try.prog.info? 34).map (·.size) = some 4 := by kernel_rfl
/-- What a run's end reads of the run. -/
theorem end_cells {W : World} {g : Nat} {p : Int} {s : St} {ov : Value} (h : W.heap[g]? = some (.cells (runC p s ov).toArray 75 (0, 0))) (hA : AOk s.A) :
    ldA (.pointer (some ⟨g, 0, none⟩)) W = .ok (.value (.agg (arC s.A).toArray)) W ∧ W.cell? ⟨g, 260, none⟩ = some (.int .i64 (s.z : Nat)) ∧ W.cell? ⟨g, 257, none⟩ = some (.int .i64 s.kd) ∧ W.cell? ⟨g, 258, none⟩ = some (.int .i64 s.v) := by
  have ht : ∀ j v, [Value.int .i64 p, .int .i64 s.kd, .int .i64 s.v, ov, .int .i64 (s.z : Nat)][j]? = some v → W.cell? ⟨g, 256 + j, none⟩ = some v := fun j v hv => by
    rw [cell_of_row _ _ _ _ _ (0, 0) h, List.getElem?_toArray]
    unfold runC
    rw [List.getElem?_append_right (by rw [ar_256 hA]; omega), ar_256 hA, Nat.add_sub_cancel_left]
    exact hv
  refine ⟨?_, ht 4 _ rfl, ht 1 _ rfl, ht 2 _ rfl⟩
  have hr := range_heap h 0 256
  have e : ((runC p s ov).toArray.toList.drop 0).take 256 = arC s.A := by
    show (runC p s ov).take 256 = arC s.A
    unfold runC
    rw [List.take_append_of_le_length (by rw [ar_256 hA]; omega), List.take_of_length_le (by rw [ar_256 hA]; omega)]
  rw [e] at hr
  unfold ldA
  rw [Sem.run_bind, run_loadAt_mid (P := Try.prog) W g 0 71 (arC s.A) _ hr Try.underlying71 rfl (by rw [ar_256 hA]; exact Try.sizeA)]
  rfl
theorem four_same (W : World) {r g : Nat} (hne : g ≠ r) (a b c d : Value) : ((((W.setCell ⟨r, 0, none⟩ a).setCell ⟨r, 1, none⟩ b).setCell ⟨r, 2, none⟩ c).setCell ⟨r, 3, none⟩ d).heap[g]? = W.heap[g]? := by
  have hs : ∀ (Y : World) (j : Nat) (v : Value), (Y.setCell ⟨r, j, none⟩ v).heap[g]? = Y.heap[g]? := fun Y j v => heap_setCell_other _ _ _ _ (by simpa using hne)
  rw [hs, hs, hs, hs]
theorem four_range {W : World} {b : Nat} {v0 v1 v2 v3 : Value} (h : W.cell? ⟨b, 0, none⟩ = some v0 ∧ W.cell? ⟨b, 1, none⟩ = some v1 ∧ W.cell? ⟨b, 2, none⟩ = some v2 ∧ W.cell? ⟨b, 3, none⟩ = some v3) : W.rangeAt b 0 [v0, v1, v2, v3] := fun j v hv => by
  rw [Nat.zero_add]
  match j, hv with
  | 0, hv => exact h.1.trans hv
  | 1, hv => exact h.2.1.trans hv
  | 2, hv => exact h.2.2.1.trans hv
  | 3, hv => exact h.2.2.2.trans hv
  | j + 4, hv => simp at hv
theorem ran_cells {W : World} {r q : Nat} {u u' : Array Value} {t t' : TypeId} (hr : W.heap[r]? = some (.cells u t (0, 0))) (hu : u.size = 4) (hq : W.heap[q]? = some (.cells u' t' (0, 0))) (hu' : u'.size = 4) (hne : r ≠ q) (a b c d a' b' c' d' : Value) :
    let Y := ((((((((W.setCell ⟨r, 0, none⟩ a).setCell ⟨r, 1, none⟩ b).setCell ⟨r, 2, none⟩ c).setCell ⟨r, 3, none⟩ d).setCell ⟨q, 0, none⟩ a').setCell ⟨q, 1, none⟩ b').setCell ⟨q, 2, none⟩ c').setCell ⟨q, 3, none⟩ d')
    (Y.cell? ⟨r, 0, none⟩ = some a ∧ Y.cell? ⟨r, 1, none⟩ = some b ∧ Y.cell? ⟨r, 2, none⟩ = some c ∧ Y.cell? ⟨r, 3, none⟩ = some d) ∧
    (Y.cell? ⟨q, 0, none⟩ = some a' ∧ Y.cell? ⟨q, 1, none⟩ = some b' ∧ Y.cell? ⟨q, 2, none⟩ = some c' ∧ Y.cell? ⟨q, 3, none⟩ = some d') := by
  intro Y
  have e := heap_set (o := 3) (v := d) (heap_set (o := 2) (v := c) (heap_set (o := 1) (v := b) (heap_set (o := 0) (v := a) hr)))
  have e2 : Y.heap[r]? = _ := (four_same _ hne a' b' c' d').trans e
  refine ⟨?_, img_cells ((four_same W (Ne.symm hne) a b c d).trans hq) hu' a' b' c' d'⟩
  refine ⟨?_, ?_, ?_, ?_⟩ <;> (rw [cell_of_row _ _ _ _ _ (0, 0) e2]; simp [hu])
theorem results_ran {fn : Func} {q q' : Tmp} (h : fn.results = #[.cell q 32, .cell q' 34]) (tmps : Array Value) (W : World) (b b' : Nat) (x0 x1 x2 x3 : ByteArray) (y0 y1 y2 y3 : Int)
    (hp : tmps.getD q undef = .pointer (some ⟨b, 0, none⟩)) (hp2 : tmps.getD q' undef = .pointer (some ⟨b', 0, none⟩))
    (h0 : W.cell? ⟨b, 0, none⟩ = some (.string x0) ∧ W.cell? ⟨b, 1, none⟩ = some (.string x1) ∧ W.cell? ⟨b, 2, none⟩ = some (.string x2) ∧ W.cell? ⟨b, 3, none⟩ = some (.string x3))
    (k0 : W.cell? ⟨b', 0, none⟩ = some (.int .i64 y0) ∧ W.cell? ⟨b', 1, none⟩ = some (.int .i64 y1) ∧ W.cell? ⟨b', 2, none⟩ = some (.int .i64 y2) ∧ W.cell? ⟨b', 3, none⟩ = some (.int .i64 y3)) :
    (results fn tmps).run Try.prog W = .ok (.tuple #[.agg #[.string x0, .string x1, .string x2, .string x3], .agg #[.int .i64 y0, .int .i64 y1, .int .i64 y2, .int .i64 y3]]) W := by
  have hp' : tmps[q]?.getD undef = .pointer (some ⟨b, 0, none⟩) := by simpa using hp
  have hp2' : tmps[q']?.getD undef = .pointer (some ⟨b', 0, none⟩) := by simpa using hp2
  have hl := run_loadVar_mid (P := Try.prog) W b 0 32 [.string x0, .string x1, .string x2, .string x3] _ (four_range h0) Try.underlying32 rfl Try.sizeImg
  have hl2 := run_loadVar_mid (P := Try.prog) W b' 0 34 [.int .i64 y0, .int .i64 y1, .int .i64 y2, .int .i64 y3] _ (four_range k0) Try.underlying34 rfl Try.sizeScan
  simp [results, h, hp', hp2', asAddr, hl, hl2]
theorem four_is {A : List Bs} (h : A.length = 4) : ∃ a b c d, A = [a, b, c, d] := by
  match A, h with
  | [a, b, c, d], _ => exact ⟨a, b, c, d, rfl⟩
section
attribute [local go_sem ↓] exec_stR exec_ldA
set_option maxRecDepth 100000 in
set_option maxHeartbeats 4000000 in
theorem run_go (c : List In) (l : List Ah) (hall : allB c = .ok l) (pb : Nat) (ao : Option Addr) (cap : Nat) (I Q M R : Bs) (x p : Int) (w : World) (hP : PAt w 0 pb (.slice ao c.length cap) c) (hx : (p = 0 ∧ x ≤ 0) ∨ (p = x ∧ 0 < x ∧ x ≤ 10000) ∨ (p = 10000 ∧ 10000 < x)) :
    Calls Try.prog 11 #[.pointer (some ⟨pb, 0, none⟩), imgV I Q M R, .int .i64 x] w (Tells (ranV (finM c p [fitL I, fitL Q, fitL M, fitL R])) w) := by
  have HS := Lib.hid (fun W => cSpread_any I Q M R W)
  have hA := aok4 (fit_len I) (fit_len Q) (fit_len M) (fit_len R)
  have hX : (arC [fitL I, fitL Q, fitL M, fitL R]).toArray.size = 256 := by rw [List.size_toArray]; exact ar_256 hA
  have hb := built_run _ hX p
  have h1 : ((arC [fitL I, fitL Q, fitL M, fitL R]).toArray.toList ++ tail0 p).toArray.all (·.oneCell') = true := by
    rw [Array.all_eq_true_iff_forall_mem]
    intro v hv
    simp only [List.mem_toArray, List.mem_append] at hv
    rcases hv with hv | hv
    · exact arC_one _ v hv
    · simp only [tail0, List.mem_cons, List.not_mem_nil, or_false] at hv
      rcases hv with rfl | rfl | rfl | rfl | rfl <;> rfl
  have hz : Try.zeroCells75.size = 261 := by
    kernel_rfl
  have hc : ((arC [fitL I, fitL Q, fitL M, fitL R]).toArray.toList ++ tail0 p).toArray.size = 261 := by simp [tail0, ar_256 hA]
  have hst := fun W => stR_new W _ _ 75 hz hc h1
  have HF := Lib.hid (fun W => run_first W _ hA p)
  have hxx : (arC [fitL I, fitL Q, fitL M, fitL R]).toArray.toList = arC [fitL I, fitL Q, fitL M, fitL R] := rfl
  rw [hxx] at hb hst
  unfold imgV at *
  have hY : ((arC [fitL I, fitL Q, fitL M, fitL R]) ++ tail0 p).toArray.size = 261 := hc
  generalize ((arC [fitL I, fitL Q, fitL M, fitL R]) ++ tail0 p).toArray = Y at *
  generalize (arC [fitL I, fitL Q, fitL M, fitL R]).toArray = X at *
  clear hc h1 hxx
  have hfs : (Array.foldl (fun (cs : Array Value) (x : Value × Nat) => cs.setIfInBounds x.snd x.fst) Try.zeroCells75 X.zipIdx 0 256).size = 261 := by
    have := congrArg Array.size hb
    rw [Array.size_setIfInBounds] at this
    rw [this, hY]
  obtain ⟨P, hPp⟩ : ∃ P, P = p := ⟨_, rfl⟩
  rw [← hPp] at HF ⊢
  have HPB := Lib.hid (show 0 ≤ P ∧ P ≤ 10000 by omega)
  replace hPp := Lib.hid hPp
  have HW := Lib.hid hP
  have hpbl : pb < w.heap.size := (Array.getElem?_eq_some_iff.1 hP.blk).1
  obtain ⟨fin, hfin⟩ : ∃ fin, finM c P [fitL I, fitL Q, fitL M, fitL R] = fin := ⟨_, rfl⟩
  rw [hfin]
  replace hfin := Lib.hid hfin
  have hlen := (all_ok hall).1
  have HA := Lib.hid hall
  have HG := Lib.hid (good_first hall hA)
  rcases hx with ⟨rfl, hx⟩ | ⟨rfl, hx, hx'⟩ | ⟨rfl, hx⟩
  all_goals
    go_enter Try.func11, Try.ntmps11
    go_wp2_with fail
    with_reducible refine (HS.out _).mono ?_
    rintro e w1 ⟨rfl, hb1⟩
    have hz1 := Rz.new (w.alloc (.cells #[.string (S I), .string (S Q), .string (S M), .string (S R)] 32))
    rw [show (w.alloc (.cells #[.string (S I), .string (S Q), .string (S M), .string (S R)] 32)).heap.size = w.heap.size + 1 by simp] at hz1
    have hz2 := hz1.kept (one_S _ #[.int .i64 0, .int .i64 0, .int .i64 0, .int .i64 0] 34)
    have hs2 := heap_alloc_new ((w.alloc (.cells #[.string (S I), .string (S Q), .string (S M), .string (S R)] 32)).alloc (.cells #[.string ⟨#[]⟩, .string ⟨#[]⟩, .string ⟨#[]⟩, .string ⟨#[]⟩] 32)) (.cells #[.int .i64 0, .int .i64 0, .int .i64 0, .int .i64 0] 34)
    rw [show ((w.alloc (.cells #[.string (S I), .string (S Q), .string (S M), .string (S R)] 32)).alloc (.cells #[.string ⟨#[]⟩, .string ⟨#[]⟩, .string ⟨#[]⟩, .string ⟨#[]⟩] 32)).heap.size = w.heap.size + 1 + 1 by simp] at hs2
    have hlt := hb1.size
    simp at hlt
    have hr0 := Rg.mk (w := w) (HF.out w1) ((hz2.kept hb1).kept (one_S _ _ _)) (((one_S w1 Y 75).block _ (by omega)).trans ((hb1.block _ (by simp)).trans hs2)) (((box_two w _ _ _ _).trans ((one_S _ _ _).mono (by simp; omega))).trans ((hb1.mono (by simp; omega)).trans ((one_S _ _ _).mono (by omega)))) (by omega)
    replace hr0 := Lib.hid hr0
    have hgl := Lib.hid (show w.heap.size ≤ w1.heap.size by omega)
    clear hz1 hz2 hs2 hb1 hlt
    go_wp2_with fail

    clear hP hA hz hst hY hX hfs hb hall HS HF
    try clear hx
    try clear hx'
    go_loopw [9, 10] (fun t k wr => ∃ m : Mc, t = .int .i64 (m.t : Nat) ∧ k = .int .i64 (m.k : Nat) ∧ Hid (Good c l m) ∧ Hid (itM c P (c.length - m.k) m = fin) ∧ Hid (∃ ov, Rg w wr w1.heap.size P m.s ov)) (fun _ k _ => c.length - (intOf k).toNat)
    case atStart => exact ⟨mc0 [fitL I, fitL Q, fitL M, fitL R], rfl, rfl, HG, hfin, Lib.hid ⟨_, hr0.out⟩⟩
    case round =>
      obtain ⟨m, rfl, rfl, hg, hit, hrg⟩ := hrel
      obtain ⟨ov, hrg'⟩ := hrg.out
      have hR := Lib.hid hrg'
      clear hrg
      have hPW := hrg'.below
      have hPA := HW.out.kept hPW
      have kp := hPA.cell
      by_cases hk : m.k < c.length
      · obtain ⟨i, hh⟩ := good_here HA.out hg.out hk
        obtain ⟨go, cp', e', hL⟩ := OwnI.lies hPA.own (by omega)
        injection e' with e1 e2 e3
        subst e1
        obtain ⟨b', o', e4, _, hI⟩ := hL (by omega)
        injection e4 with e4
        injection e4 with e4 e5
        subst e4 e5
        obtain ⟨k0, k1, k2, k3, k4⟩ := hI m.k i hh.at_
        rw [Nat.zero_add] at k0 k1 k2 k3 k4
        have hkI : (m.k : Int) < (c.length : Int) := by omega
        have hlenI : (c.length : Int) ≤ 200 := by omega
        have hgd := hg.out
        have hc8 : m.s.op.length ≤ 8 := by
          have h1 := (hgd.conf hk).br
          have h2 := ((run_ok (all_ok HA.out).2.1).1 m.k).len
          rw [← h1] at h2
          unfold kbs at h2
          simpa using h2
        have hz1 : m.s.z < 1000 := by have := hgd.z; have := hgd.t1; omega
        have HDO := Lib.hid (fun W ov (h : RunAt W w1.heap.size w1.heap.size P m.s ov) => cDo_run W h i hh.right hh.ty hgd.ok hc8 hz1 HPB.out.1 HPB.out.2)
        have hnd := nx_do P i m.k c.length m.s
        have HNX := Lib.hid (fun W ov (h : RunAt W w1.heap.size w1.heap.size P (doI P i m.s) ov) => cNext2 W h i m.k c.length (by omega) (fun e => by
          rw [hnd.2 (by omega) (by omega)]
          exact is_bool (hh.ty.t1 (by omega)).2) (fun hj => by have := hh.far hj; omega))
        rw [hnd.1] at HNX
        have hst := step_at (p := P) hh.at_
        obtain ⟨sg1, sg2⟩ := step_good (p := P) HA.out hgd hk
        have hsi := it_step (p := P) HA.out hgd hk
        rw [hit.out] at hsi
        rw [hst] at sg1 sg2 hsi
        have HM := Lib.hid (⟨sg1, sg2, hsi⟩ : _ ∧ _ ∧ _)
        have hmt : (m.t : Int) ≤ 200 := by have := hgd.t1; omega
        clear hgd hc8 hz1 hnd hst sg1 sg2 hsi hh hPA hL hI hPW hrg' hg hit
        unfold insV at HDO HNX
        generalize nxI i m.k c.length m.s = nx at *
        generalize doI P i m.s = s2 at *
        have hlr := hR.out.at_.lt
        have hovl := fun k (hk : ov.ownBlock = some k) => (World.ownsRow.lt hR.out.at_.own k hk).2
        have HR1 := Lib.hid (hR.out.kept (one_S wr #[.int .i64 i.op, .int .i64 i.kd, .int .i64 i.ar, .int .i64 i.pl, .int .i64 i.n] 54))
        have HBI := Lib.hid (Bi.new wr i 54)
        have HL := Lib.hid (⟨hlr, hovl⟩ : _ ∧ _)
        clear hlr hovl
        go_wp2_with fail
        with_reducible refine (HDO.out _ ov HR1.out.at_).mono ?_
        rintro e w2 ⟨rfl, ov2, hn2⟩
        have hR2 := HR1.out.step hn2
        have hbx := hn2.kp.block wr.heap.size (by simp) (by have := HL.out.1; omega) (fun e => by have := HL.out.2 _ e; omega)
        have hbi : Bi w2 wr.heap.size i := by
          have hc : ∀ j, w2.cell? ⟨wr.heap.size, j, none⟩ = _ := fun j => World.cell?_of_block (a := ⟨wr.heap.size, j, none⟩) hbx
          obtain ⟨b0, b1, b2, b3, b4⟩ := HBI.out
          exact ⟨(hc 0).trans b0, (hc 1).trans b1, (hc 2).trans b2, (hc 3).trans b3, (hc 4).trans b4⟩
        have kp2 := (HW.out.kept hR2.below).cell
        have hP1 := (⟨hR2.drew, hbi⟩ : Rg w w2.drew w1.heap.size P s2 ov2 ∧ Bi w2.drew wr.heap.size i)
        obtain ⟨c0, c1, c2, c3, c4⟩ := hbi
        clear hn2 hR2 hbx HR1 HBI HL HDO hR kp k0 k1 k2 k3 k4
        replace hP1 := Lib.hid hP1
        generalize hbb : wr.heap.size = b at *
        go_wp2_with fail
        go_region_held3 (fun W' => W'.cell? ⟨b, 0, none⟩ = some (.int .i64 i.op) ∧ W'.cell? ⟨b, 1, none⟩ = some (.int .i64 i.kd) ∧ W'.cell? ⟨b, 2, none⟩ = some (.int .i64 i.ar) ∧ W'.cell? ⟨b, 3, none⟩ = some (.int .i64 i.pl) ∧ W'.cell? ⟨b, 4, none⟩ = some (.int .i64 i.n) ∧ W'.cell? ⟨pb, 0, none⟩ = some (.slice (some ⟨go, 0, none⟩) c.length cap))
          (exact ⟨hP1.out.2.1, hP1.out.2.2.1, hP1.out.2.2.2.1, hP1.out.2.2.2.2.1, hP1.out.2.2.2.2.2, (HW.out.kept hP1.out.1.below).cell⟩)
          ((first | (go_at_call 28; (with_reducible refine (HNX.out _ _ hP1.out.1.at_).mono ?_); rintro e w3 ⟨rfl, hb3⟩; have hP2 := Lib.hid (⟨hP1.out.1.kept hb3, hP1.out.2.next hb3⟩ : Rg w w3 w1.heap.size P s2 ov2 ∧ Bi w3 b i); clear hb3 hP1; have hP1 := hP2; clear hP2)))
        all_goals
          go_wp2
          go_roundw
          case rel => exact ⟨⟨nx, m.t + 1, s2⟩, by simp, rfl, Lib.hid HM.out.1, Lib.hid HM.out.2.2, Lib.hid ⟨ov2, hP1.out.1⟩⟩
          case measure => have := HM.out.2.1; simp [intOf] at *; omega
      · have hkn : m.k = c.length := by have := hg.out.le; omega
        have hfm : m = fin := by
          have := hit.out
          rw [hkn, Nat.sub_self] at this
          exact this
        subst hfm
        clear hit
        have hcl : ((m.k : Int) < (c.length : Int)) = False := by simp; omega
        have hok := hrg'.at_.ok
        obtain ⟨A0, A1, A2, A3, hAe⟩ := four_is hok.four
        have HI := Lib.hid (fun W => cImage_any A0 A1 A2 A3 W (by have := hok.len 0 (by omega); rwa [hAe] at this) (by have := hok.len 1 (by omega); rwa [hAe] at this) (by have := hok.len 2 (by omega); rwa [hAe] at this) (by have := hok.len 3 (by omega); rwa [hAe] at this))
        have HE := Lib.hid (fun (W : World) (h : W.heap[w1.heap.size]? = some (.cells (runC P m.s ov).toArray 75 (0, 0))) => end_cells h hok)
        have hran : ranV m = .tuple #[.agg #[.string (S A0), .string (S A1), .string (S A2), .string (S A3)], .agg #[.int .i64 (m.t : Nat), .int .i64 (m.s.z : Nat), .int .i64 m.s.kd, .int .i64 m.s.v]] := by
          unfold ranV imgA scanV
          rw [hAe]
          rfl
        rw [hAe] at HE
        replace hran := Lib.hid hran
        clear hok hAe hk hkn hfin hPW hPA hg HW HA HG
        generalize (arC [A0, A1, A2, A3]).toArray = XA at *
        have hP1 := hrg'.drew
        clear hrg' hR
        have hne1 : w1.heap.size ≠ w.heap.size + 1 := by have := hP1.lo; omega
        have hne2 : w1.heap.size ≠ w.heap.size + 1 + 1 := by have := hP1.lo; omega
        have E0 := Lib.hid (fun (W : World) (h : Rg w W w1.heap.size P m.s ov) => HE.out W h.at_.blk)
        have E1 := Lib.hid (fun (W : World) (h : Rg w W w1.heap.size P m.s ov) => HE.out ((((W.setCell ⟨w.heap.size + 1, 0, none⟩ (.string (S A0))).setCell ⟨w.heap.size + 1, 1, none⟩ (.string (S A1))).setCell ⟨w.heap.size + 1, 2, none⟩ (.string (S A2))).setCell ⟨w.heap.size + 1, 3, none⟩ (.string (S A3))) ((four_same _ hne1 _ _ _ _).trans h.at_.blk))
        have E2 := Lib.hid (fun (W : World) (h : Rg w W w1.heap.size P m.s ov) => HE.out ((((((((W.setCell ⟨w.heap.size + 1, 0, none⟩ (.string (S A0))).setCell ⟨w.heap.size + 1, 1, none⟩ (.string (S A1))).setCell ⟨w.heap.size + 1, 2, none⟩ (.string (S A2))).setCell ⟨w.heap.size + 1, 3, none⟩ (.string (S A3))).setCell ⟨w.heap.size + 1 + 1, 0, none⟩ (.int .i64 (m.t : Nat))).setCell ⟨w.heap.size + 1 + 1, 1, none⟩ (.int .i64 (m.s.z : Nat))).setCell ⟨w.heap.size + 1 + 1, 2, none⟩ (.int .i64 m.s.kd)).setCell ⟨w.heap.size + 1 + 1, 3, none⟩ (.int .i64 m.s.v)) ((four_same _ hne2 _ _ _ _).trans ((four_same _ hne1 _ _ _ _).trans h.at_.blk)))
        clear HE hne1 hne2
        replace hP1 := Lib.hid hP1
        go_wp2_with fail
        go_region_held3 (fun W' => ldA (.pointer (some ⟨w1.heap.size, 0, none⟩)) W' = .ok (.value (.agg XA)) W' ∧ W'.cell? ⟨w1.heap.size, 260, none⟩ = some (.int .i64 (m.s.z : Nat)) ∧ W'.cell? ⟨w1.heap.size, 257, none⟩ = some (.int .i64 m.s.kd) ∧ W'.cell? ⟨w1.heap.size, 258, none⟩ = some (.int .i64 m.s.v))
          (first | with_reducible exact E0.out _ hP1.out | with_reducible exact E1.out _ hP1.out | with_reducible exact E2.out _ hP1.out)
          ((first | (go_at_call 29; (with_reducible refine (HI.out _).mono ?_); rintro e w3 ⟨rfl, hb3⟩; have hP2 := Lib.hid (hP1.out.kept hb3); clear hb3 hP1; have hP1 := hP2; clear hP2; have qi := hP1.out.img; have z0 := free_heap qi 0; have z1 := free_heap qi 1; have z2 := free_heap qi 2; have z3 := free_heap qi 3; have q0 : w3.cell? ⟨w.heap.size + 1, 0, none⟩ = some (.string ⟨#[]⟩) := (by rw [cell_of_row _ _ _ _ _ (0, 0) qi]; rfl); have q1 : w3.cell? ⟨w.heap.size + 1, 1, none⟩ = some (.string ⟨#[]⟩) := (by rw [cell_of_row _ _ _ _ _ (0, 0) qi]; rfl); have q2 : w3.cell? ⟨w.heap.size + 1, 2, none⟩ = some (.string ⟨#[]⟩) := (by rw [cell_of_row _ _ _ _ _ (0, 0) qi]; rfl); have q3 : w3.cell? ⟨w.heap.size + 1, 3, none⟩ = some (.string ⟨#[]⟩) := (by rw [cell_of_row _ _ _ _ _ (0, 0) qi]; rfl); clear qi; have qs := hP1.out.scan; have v0 := free_heap qs 0; have v1 := free_heap qs 1; have v2 := free_heap qs 2; have v3 := free_heap qs 3; have x0 : w3.cell? ⟨w.heap.size + 1 + 1, 0, none⟩ = some (.int .i64 0) := (by rw [cell_of_row _ _ _ _ _ (0, 0) qs]; rfl); have x1 : w3.cell? ⟨w.heap.size + 1 + 1, 1, none⟩ = some (.int .i64 0) := (by rw [cell_of_row _ _ _ _ _ (0, 0) qs]; rfl); have x2 : w3.cell? ⟨w.heap.size + 1 + 1, 2, none⟩ = some (.int .i64 0) := (by rw [cell_of_row _ _ _ _ _ (0, 0) qs]; rfl); have x3 : w3.cell? ⟨w.heap.size + 1 + 1, 3, none⟩ = some (.int .i64 0) := (by rw [cell_of_row _ _ _ _ _ (0, 0) qs]; rfl); clear qs)))
        all_goals
          go_wp2
          (try simp only [Exit.inBlock, Exit.then])
          have HC := ran_cells hP1.out.img rfl hP1.out.scan rfl (by omega) (.string (S A0)) (.string (S A1)) (.string (S A2)) (.string (S A3)) (.int .i64 (m.t : Nat)) (.int .i64 (m.s.z : Nat)) (.int .i64 m.s.kd) (.int .i64 m.s.v)
          exact bodyPost_ret (results_ran rfl _ _ (w.heap.size + 1) (w.heap.size + 1 + 1) (S A0) (S A1) (S A2) (S A3) (m.t : Nat) (m.s.z : Nat) m.s.kd m.s.v rfl rfl HC.1 HC.2) rfl ⟨congrArg Ending.returned hran.out.symm, four_below (four_below hP1.out.below (by omega) _ _ _ _) (by omega) _ _ _ _⟩
end

end Go.Proofs.Ytbjmdehfdnpljaa.Vm
