/-
  The landed code's spread, image, Fit, Blank, walked. Conditions: texts of up to 1000 bytes.
-/
import Derived.Test.YtbjmdehfdnpljaaVmCalls
import Derived.Lib.LazyBuf
import Derived.LoopTactic
import Derived.Test.YtbjmdehfdnpljaaVmDo
namespace Go.Proofs.Ytbjmdehfdnpljaa.Vm
open Go.RowKit
open Go.Proofs.Ytbjmdehfdnpljaa.Il hiding Next S S_size S_app S_inj S_list
open Go.Proofs.Ytbjmdehfdnpljaa.Ic Go.Proofs.Ytbjmdehfdnpljaa.Ve
open Oct

/-- A text brought to 64 bytes. -/
def fitL (l : Bs) : Bs := l.take 64 ++ List.replicate (64 - l.length) 0
theorem fit_len (l : Bs) : (fitL l).length = 64 := by unfold fitL; simp; omega
def z64 : Bs := List.replicate 64 0
theorem take_set (l : Bs) : (l.take 64) ++ z64.drop (l.take 64).length = fitL l := by
  unfold fitL z64
  rw [List.drop_replicate, List.length_take]
  congr 2
  omega
/-- The first j of four texts laid down. -/
def laidA (L : List Bs) (j : Nat) : List Bs := (L.take j).map fitL ++ List.replicate (4 - j) z64
theorem run_copy_str (w : World) (ty : TypeId) (b o c : Nat) (t : ByteArray)
    (hc : ∀ j, j < 64 → (w.cell? ⟨b, o + j, none⟩).isSome = true) (hf : ∀ j, j < 64 → w.frozen? ⟨b, o + j, none⟩ = false) :
    (Builtin.copy_ #[50, 9] ty #[.slice (some ⟨b, o, none⟩) 64 c, .string t]).run Try.prog w = .ok (goInt (Nat.min t.size 64)) (w.setCells b o (bytC (t.data.toList.take 64))) := by
  have hl : (bytC (t.data.toList.take 64)).length = Nat.min t.size 64 := by
    rw [bytC_len, List.length_take, Array.length_toList]
    show min 64 t.size = min t.size 64
    omega
  have h64 : Nat.min t.size 64 ≤ 64 := Nat.min_le_right _ _
  have hst := run_storeCells_cells (P := Try.prog) b o (bytC (t.data.toList.take 64)) 0 w (by rw [hl]; intro j hj; simpa using hc j (by omega)) (by rw [hl]; intro j hj; simpa using hf j (by omega)) (by
    intro v hv
    obtain ⟨x, _, rfl⟩ := List.mem_map.1 hv
    rfl)
  have hz : ∀ w, (Go.sizeOf 5).run Try.prog w = .ok 1 w := fun w => by go_simp
  have htk : List.take (Nat.min t.size 64) (List.map (fun b : UInt8 => Value.int IntKind.u8 (b.toNat : Int)) t.data.toList) = bytC (t.data.toList.take 64) := by
    unfold bytC
    rw [← List.map_take]
    congr 1
    apply List.ext_getElem?
    intro j
    rw [List.getElem?_take, List.getElem?_take]
    have hts : t.data.toList.length = t.size := Array.length_toList
    by_cases h1 : j < 64
    · rw [if_pos h1]
      split
      · rfl
      · next h2 =>
        have : Nat.min t.size 64 = min t.size 64 := rfl
        rw [List.getElem?_eq_none (by omega)]
    · rw [if_neg h1, if_neg (by omega)]
  simp [Builtin.copy_, run_underlying Try.underlying50, Builtin.lenOf, Builtin.firstCells, hz]
  rw [htk, hst]
  rfl
/-- Where the four texts' bytes are laid. -/
theorem mid_cells {W : World} {g : Nat} {t : TypeId} {pre post : List Value} : ∀ (m : Bs) (l : Bs) (i : Nat), i + m.length ≤ l.length → Mid W g t pre l post → Mid (W.setCells g (pre.length + i) (bytC m)) g t pre (l.take i ++ m ++ l.drop (i + m.length)) post
  | [], l, i, _, h => by simpa [bytC, World.setCells] using h
  | c :: m, l, i, hi, h => by
    simp only [List.length_cons] at hi
    have h1 := h.put (i := i) (by omega) c
    have h2 := mid_cells m (l.set i c) (i + 1) (by rw [List.length_set]; omega) h1
    have e : (l.set i c).take (i + 1) ++ m ++ (l.set i c).drop (i + 1 + m.length) = l.take i ++ (c :: m) ++ l.drop (i + (c :: m).length) := by
      rw [List.drop_set, if_pos (by omega), List.length_cons, show i + 1 + m.length = i + (m.length + 1) by omega]
      have : (l.set i c).take (i + 1) = l.take i ++ [c] := by
        rw [List.take_succ_eq_append_getElem (by rw [List.length_set]; omega), List.take_set, List.set_eq_of_length_le (by rw [List.length_take]; omega)]
        simp
      rw [this]
      simp
    rw [← e]
    exact h2
theorem Try.sizeA : (Try.prog.info? 71).map (·.size) = some 256 := by kernel_rfl
theorem Try.sizeRu : (Try.prog.info? 75).map (·.size) = some 261 := by kernel_rfl

theorem heap_setCells {b : Nat} {t : TypeId} : ∀ (vs : List Value) (o : Nat) (z : List Value) (W : World), W.heap[b]? = some (.cells z.toArray t (0, 0)) → (W.setCells b o vs).heap[b]? = some (.cells (setL z o vs).toArray t (0, 0))
  | [], _, _, _, h => h
  | v :: vs, o, z, W, h => by
    refine heap_setCells vs (o + 1) (z.set o v) _ ?_
    rw [heap_set h]
    congr 2
    apply Array.toList_inj.1
    simp
theorem setL_full {vs z : List Value} (h : z.length = vs.length) : setL z 0 vs = vs := by
  apply List.ext_getElem?
  intro j
  rw [setL_at _ _ _ _ (by omega)]
  split
  · simp
  · rw [List.getElem?_eq_none (by omega), List.getElem?_eq_none (by omega)]
theorem heap_full {W : World} {b : Nat} {t : TypeId} {z c : Array Value} (h : W.heap[b]? = some (.cells z t (0, 0))) (hz : z.size = c.size) : (W.setCells b 0 c.toList).heap[b]? = some (.cells c t (0, 0)) := by
  have h' : W.heap[b]? = some (.cells z.toList.toArray t (0, 0)) := by simpa using h
  have := heap_setCells c.toList 0 z.toList W h'
  rw [setL_full (by simpa using hz)] at this
  simpa using this
noncomputable def ldA (v : Value) (W : World) : Result Next := (do pure (Next.value (← Instr.loadAt 71 v)) : Sem Next).run Try.prog W
noncomputable def stA_ (p v : Value) (W : World) : Result Next := (do Instr.storeAt 71 p v; pure Next.skip : Sem Next).run Try.prog W
theorem exec_ldA (ρ : Operand → Value) (d : Option Tmp) (x : Operand) (t : TypeId) (pos : String) (af : _) (g : _) (W : World) :
    (execOp ρ ⟨d, .load 71 x, t, pos, af, g⟩).run Try.prog W = ldA (ρ x) W := rfl
theorem exec_stA (ρ : Operand → Value) (d : Option Tmp) (x y : Operand) (t : TypeId) (pos : String) (af : _) (g : _) (W : World) :
    (execOp ρ ⟨d, .store 71 x y, t, pos, af, g⟩).run Try.prog W = stA_ (ρ x) (ρ y) W := rfl
theorem range_heap {W : World} {b : Nat} {c : Array Value} {t : TypeId} (h : W.heap[b]? = some (.cells c t (0, 0))) (o n : Nat) : W.rangeAt b o ((c.toList.drop o).take n) := fun j v hv => by
  rw [cell_of_row _ _ _ _ t (0, 0) h]
  rw [List.getElem?_take] at hv
  split at hv
  · rw [List.getElem?_drop] at hv
    simpa using hv
  · cases hv
theorem ldA_of {W : World} {b : Nat} {c : Array Value} {t : TypeId} (h : W.heap[b]? = some (.cells c t (0, 0))) (hc : c.size = 256) : ldA (.pointer (some ⟨b, 0, none⟩)) W = .ok (.value (.agg c)) W := by
  unfold ldA
  have hr := range_heap h 0 256
  rw [List.drop_zero, List.take_of_length_le (by simp [hc])] at hr
  rw [Sem.run_bind, run_loadAt_mid (P := Try.prog) W b 0 71 c.toList _ hr Try.underlying71 rfl (by rw [show c.toList.length = 256 by simp [hc]]; exact Try.sizeA)]
  rfl
theorem there_heap {W : World} {b : Nat} {c : Array Value} {t : TypeId} (h : W.heap[b]? = some (.cells c t (0, 0))) (n : Nat) (hn : n ≤ c.size) : W.there b 0 n := fun j hj => by
  rw [Nat.zero_add]
  refine ⟨?_, ?_⟩
  · rw [cell_of_row _ _ _ _ t (0, 0) h, Array.getElem?_eq_getElem (by omega)]
    rfl
  · unfold World.frozen?
    rw [h]
    simp
theorem arC_one (A : List Bs) : ∀ v ∈ arC A, v.oneCell' = true := fun v hv => by
  unfold arC at hv
  rw [List.mem_flatMap] at hv
  obtain ⟨l, _, hv⟩ := hv
  unfold bytC at hv
  obtain ⟨x, _, rfl⟩ := List.mem_map.1 hv
  rfl
theorem stA_of {W : World} {b : Nat} {c z : Array Value} {t : TypeId} (h : W.heap[b]? = some (.cells z t (0, 0))) (hz : z.size = 256) (hc : c.size = 256) (h1 : c.all (·.oneCell') = true) :
    stA_ (.pointer (some ⟨b, 0, none⟩)) (.agg c) W = .ok .skip (W.setCells b 0 c.toList) := by
  unfold stA_
  rw [Sem.run_bind, run_storeAt_mid (P := Try.prog) W b 0 71 c (by rw [hc]; exact there_heap h 256 (by omega)) (by rw [hc]; exact Try.sizeA) h1]
  rfl
theorem loadVarA {W : World} {b : Nat} {c : Array Value} {t : TypeId} (h : W.heap[b]? = some (.cells c t (0, 0))) (hc : c.size = 256) : (loadVar 71 ⟨b, 0, none⟩).run Try.prog W = .ok (.agg c) W := by
  have hr := range_heap h 0 256
  rw [List.drop_zero, List.take_of_length_le (by simp [hc])] at hr
  exact run_loadVar_mid (P := Try.prog) W b 0 71 c.toList _ hr Try.underlying71 rfl (by rw [show c.toList.length = 256 by simp [hc]]; exact Try.sizeA)
theorem zero71 : Try.zeroCells71 = (arC [z64, z64, z64, z64]).toArray := by kernel_rfl
structure Sp (w wr : World) (r g : Nat) (A : List Bs) : Prop where
  blk : wr.heap[g]? = some (.cells (arC A).toArray 71 (0, 0))
  res : wr.heap[r]? = some (.cells (arC [z64, z64, z64, z64]).toArray 71 (0, 0))
  below : Below w.heap.size w wr
theorem only_cells (g : Nat) : ∀ (vs : List Value) (o : Nat) (w : World), Only1 g w (w.setCells g o vs)
  | [], _, w => Only1.refl g w
  | v :: vs, o, w => (only1_set g o w v).trans (only_cells g vs (o + 1) _)
theorem sp_step {w wr : World} {r g : Nat} {A : List Bs} (h : Sp w wr r g A) (hA : AOk A) {q : Nat} (hq : q < 4) (hz : A.getD q [] = z64) (hg : w.heap.size ≤ g) (hne : r ≠ g) (l : Bs) :
    Sp w (wr.setCells g (q * 64) (bytC (l.take 64))) r g (A.set q (fitL l)) ∧
    (∀ (ty : TypeId) (c : Nat), (Builtin.copy_ #[50, 9] ty #[.slice (some ⟨g, q * 64, none⟩) 64 c, .string (S l)]).run Try.prog wr = .ok (goInt (Nat.min (S l).size 64)) (wr.setCells g (q * 64) (bytC (l.take 64)))) := by
  obtain ⟨e1, e2⟩ := ar_split hA hq
  have hm : Mid wr g 71 (arC (A.take q)) z64 (arC (A.drop (q + 1))) := by
    unfold Mid
    rw [h.blk, e1, hz]
  have hl64 : z64.length = 64 := by unfold z64; simp
  have hc := mid_cells (l.take 64) z64 0 (by rw [hl64, List.length_take]; omega) hm
  rw [Nat.add_zero, e2, List.take_zero, List.nil_append, Nat.zero_add, take_set] at hc
  have ho := only_cells g (bytC (l.take 64)) (q * 64) wr
  have hlq : q < A.length := by rw [hA.four]; exact hq
  refine ⟨⟨?_, ?_, ?_⟩, fun ty c => ?_⟩
  · have hA2 : AOk (A.set q (fitL l)) := ⟨by rw [List.length_set]; exact hA.four, fun j hj => by
      rw [List.getD_eq_getElem?_getD, List.getElem?_set]
      split
      · first | exact fit_len l | (rw [if_pos hlq]; exact fit_len l)
      · rw [← List.getD_eq_getElem?_getD]; exact hA.len j hj⟩
    obtain ⟨f1, _⟩ := ar_split hA2 hq
    unfold Mid at hc
    rw [hc, f1, List.take_set, List.set_eq_of_length_le (by rw [List.length_take]; omega), List.drop_set, if_pos (by omega), List.getD_eq_getElem?_getD, List.getElem?_set, if_pos rfl, if_pos hlq]
    rfl
  · rw [ho.block r (Array.getElem?_eq_some_iff.1 h.res).1 hne]; exact h.res
  · exact h.below.trans (ho.below hg h.below.size)
  · have := run_copy_str wr ty g (q * 64) c (S l) (fun j hj => by
      have := (hm.cell (i := j) (by rw [hl64]; exact hj)).1
      rw [e2] at this
      rw [this]; rfl) (fun j hj => by
      have := (hm.cell (i := j) (by rw [hl64]; exact hj)).2
      rw [e2] at this
      exact this)
    rw [this]
    rfl
theorem aok4 {a b c d : Bs} (ha : a.length = 64) (hb : b.length = 64) (hc : c.length = 64) (hd : d.length = 64) : AOk [a, b, c, d] := ⟨rfl, fun j hj => by
  match j, hj with
  | 0, _ => exact ha
  | 1, _ => exact hb
  | 2, _ => exact hc
  | 3, _ => exact hd⟩
theorem z_len : z64.length = 64 := by unfold z64; simp
theorem results_A {fn : Func} {q : Tmp} (h : fn.results = #[.cell q 71]) (tmps : Array Value) (W : World) (b : Nat) (c : Array Value) (t : TypeId)
    (hp : tmps.getD q undef = .pointer (some ⟨b, 0, none⟩)) (hh : W.heap[b]? = some (.cells c t (0, 0))) (hc : c.size = 256) : (results fn tmps).run Try.prog W = .ok (.agg c) W := by
  have hp' : tmps[q]?.getD undef = .pointer (some ⟨b, 0, none⟩) := by simpa using hp
  simp [results, h, hp', asAddr, loadVarA hh hc]
theorem idx4 (a b c d : Value) (W : World) : (Instr.index 44 (.agg #[a, b, c, d]) (.int .i64 0)).run Try.prog W = .ok a W ∧ (Instr.index 44 (.agg #[a, b, c, d]) (.int .i64 1)).run Try.prog W = .ok b W ∧
    (Instr.index 44 (.agg #[a, b, c, d]) (.int .i64 2)).run Try.prog W = .ok c W ∧ (Instr.index 44 (.agg #[a, b, c, d]) (.int .i64 3)).run Try.prog W = .ok d W := by
  refine ⟨?_, ?_, ?_, ?_⟩ <;> kernel_rfl
section
attribute [local go_sem ↓] exec_ldA exec_stA
set_option maxRecDepth 100000 in
set_option maxHeartbeats 4000000 in
theorem cSpread_any (I Q M R : Bs) (w : World) :
    Calls Try.prog 26 #[.agg #[.string (S I), .string (S Q), .string (S M), .string (S R)]] w (Tells (.agg (arC [fitL I, fitL Q, fitL M, fitL R]).toArray) w) := by
  have h0 : Hid (Sp w (((w.alloc (.cells #[.string (S I), .string (S Q), .string (S M), .string (S R)] 32)).alloc (.cells Try.zeroCells71 71)).alloc (.cells Try.zeroCells71 71)) (w.heap.size + 1) (w.heap.size + 1 + 1) [z64, z64, z64, z64]) := by
    refine Lib.hid ⟨?_, ?_, ?_⟩
    · rw [zero71]
      have := heap_alloc_new ((w.alloc (.cells #[.string (S I), .string (S Q), .string (S M), .string (S R)] 32)).alloc (.cells (arC [z64, z64, z64, z64]).toArray 71)) (.cells (arC [z64, z64, z64, z64]).toArray 71)
      simpa using this
    · rw [zero71]
      have := heap_alloc_new (w.alloc (.cells #[.string (S I), .string (S Q), .string (S M), .string (S R)] 32)) (.cells (arC [z64, z64, z64, z64]).toArray 71)
      rw [heap_alloc_old _ _ (by simp)]
      simpa using this
    · exact (((Below.refl _ _).alloc (Nat.le_refl _) _).alloc (by simp) _).alloc (by simp; omega) _
  have hrg : w.heap.size + 1 ≠ w.heap.size + 1 + 1 := by omega
  have hgw : w.heap.size ≤ w.heap.size + 1 + 1 := by omega
  have hrw : w.heap.size ≤ w.heap.size + 1 := by omega
  have HT := Lib.hid (⟨hrg, hgw, hrw⟩ : _ ∧ _ ∧ _)
  have fI := fit_len I
  have fQ := fit_len Q
  have fM := fit_len M
  have fR := fit_len R
  have HF := Lib.hid (⟨fI, fQ, fM, fR⟩ : _ ∧ _ ∧ _ ∧ _)
  clear fI fQ fM fR hrg hgw hrw
  go_enter Try.func26, Try.ntmps26
  go_wp2_with fail
  go_loopw [15] (fun i wr => (i = .int .i64 0 ∧ Hid (Sp w wr (w.heap.size + 1) (w.heap.size + 1 + 1) [z64, z64, z64, z64])) ∨ (i = .int .i64 1 ∧ Hid (Sp w wr (w.heap.size + 1) (w.heap.size + 1 + 1) [fitL I, z64, z64, z64])) ∨ (i = .int .i64 2 ∧ Hid (Sp w wr (w.heap.size + 1) (w.heap.size + 1 + 1) [fitL I, fitL Q, z64, z64])) ∨ (i = .int .i64 3 ∧ Hid (Sp w wr (w.heap.size + 1) (w.heap.size + 1 + 1) [fitL I, fitL Q, fitL M, z64])) ∨ (i = .int .i64 4 ∧ Hid (Sp w wr (w.heap.size + 1) (w.heap.size + 1 + 1) [fitL I, fitL Q, fitL M, fitL R]))) (fun i _ => 4 - (intOf i).toNat)
  case atStart => exact .inl ⟨rfl, h0⟩
  case round =>
    rcases hrel with ⟨rfl, hs⟩ | ⟨rfl, hs⟩ | ⟨rfl, hs⟩ | ⟨rfl, hs⟩ | ⟨rfl, hs⟩
    · have hst := sp_step hs.out (aok4 z_len z_len z_len z_len) (q := 0) (by omega) rfl HT.out.2.1 HT.out.1 I
      have hcp := hst.2 3 64
      have hsl := slice_all (w.heap.size + 1 + 1) 0 wr
      have hix := (idx4 (.string (S I)) (.string (S Q)) (.string (S M)) (.string (S R)) wr).1
      have HN := Lib.hid hst.1
      clear hst
      go_wp2
      go_roundw
      case rel => exact .inr (.inl ⟨rfl, HN⟩)
      case measure => simp [intOf]
    · have hst := sp_step hs.out (aok4 HF.out.1 z_len z_len z_len) (q := 1) (by omega) rfl HT.out.2.1 HT.out.1 Q
      have hcp := hst.2 3 64
      have hsl := slice_all (w.heap.size + 1 + 1) 64 wr
      have hix := (idx4 (.string (S I)) (.string (S Q)) (.string (S M)) (.string (S R)) wr).2.1
      have HN := Lib.hid hst.1
      clear hst
      go_wp2
      go_roundw
      case rel => exact .inr (.inr (.inl ⟨rfl, HN⟩))
      case measure => simp [intOf]
    · have hst := sp_step hs.out (aok4 HF.out.1 HF.out.2.1 z_len z_len) (q := 2) (by omega) rfl HT.out.2.1 HT.out.1 M
      have hcp := hst.2 3 64
      have hsl := slice_all (w.heap.size + 1 + 1) 128 wr
      have hix := (idx4 (.string (S I)) (.string (S Q)) (.string (S M)) (.string (S R)) wr).2.2.1
      have HN := Lib.hid hst.1
      clear hst
      go_wp2
      go_roundw
      case rel => exact .inr (.inr (.inr (.inl ⟨rfl, HN⟩)))
      case measure => simp [intOf]
    · have hst := sp_step hs.out (aok4 HF.out.1 HF.out.2.1 HF.out.2.2.1 z_len) (q := 3) (by omega) rfl HT.out.2.1 HT.out.1 R
      have hcp := hst.2 3 64
      have hsl := slice_all (w.heap.size + 1 + 1) 192 wr
      have hix := (idx4 (.string (S I)) (.string (S Q)) (.string (S M)) (.string (S R)) wr).2.2.2
      have HN := Lib.hid hst.1
      clear hst
      go_wp2
      go_roundw
      case rel => exact .inr (.inr (.inr (.inr ⟨rfl, HN⟩)))
      case measure => simp [intOf]
    · have hsz : (arC [fitL I, fitL Q, fitL M, fitL R]).toArray.size = 256 := by rw [List.size_toArray]; exact ar_256 (aok4 HF.out.1 HF.out.2.1 HF.out.2.2.1 HF.out.2.2.2)
      have hzs : (arC [z64, z64, z64, z64]).toArray.size = 256 := by rw [List.size_toArray]; exact ar_256 (aok4 z_len z_len z_len z_len)
      have h1 : (arC [fitL I, fitL Q, fitL M, fitL R]).toArray.all (·.oneCell') = true := by
        rw [Array.all_eq_true_iff_forall_mem]
        intro v hv
        exact arC_one _ v (by simpa using hv)
      have hld := ldA_of hs.out.blk hsz
      have hst := stA_of hs.out.res hzs hsz h1
      have hfull := heap_full hs.out.res (hzs.trans hsz.symm)
      have ho := only_cells (w.heap.size + 1) (arC [fitL I, fitL Q, fitL M, fitL R]).toArray.toList 0 wr
      have hbw := hs.out.below.trans (ho.below HT.out.2.2 hs.out.below.size)
      have HE := Lib.hid (⟨hfull, hsz, hbw⟩ : _ ∧ _ ∧ _)
      clear hfull hsz hbw hzs h1 ho h0 hs
      generalize (arC [fitL I, fitL Q, fitL M, fitL R]).toArray = X at *
      generalize wr.setCells (w.heap.size + 1) 0 X.toList = W2 at *
      go_wp2
      (try simp only [Exit.inBlock, Exit.then])
      refine bodyPost_ret (results_A rfl _ _ _ _ _ rfl HE.out.1 HE.out.2.1) rfl ?_
      exact ⟨rfl, HE.out.2.2⟩
end

theorem Try.sizeImg : (Try.prog.info? 32).map (·.size) = some 4 := by kernel_rfl
theorem results_img {fn : Func} {q : Tmp} (h : fn.results = #[.cell q 32]) (tmps : Array Value) (W : World) (b : Nat) (x0 x1 x2 x3 : ByteArray)
    (hp : tmps.getD q undef = .pointer (some ⟨b, 0, none⟩)) (h0 : W.cell? ⟨b, 0, none⟩ = some (.string x0)) (h1 : W.cell? ⟨b, 1, none⟩ = some (.string x1)) (h2 : W.cell? ⟨b, 2, none⟩ = some (.string x2)) (h3 : W.cell? ⟨b, 3, none⟩ = some (.string x3)) :
    (results fn tmps).run Try.prog W = .ok (.agg #[.string x0, .string x1, .string x2, .string x3]) W := by
  have hp' : tmps[q]?.getD undef = .pointer (some ⟨b, 0, none⟩) := by simpa using hp
  have hl := run_loadVar_mid (P := Try.prog) W b 0 32 [.string x0, .string x1, .string x2, .string x3] _ (fun j v hv => by
    rw [Nat.zero_add]
    match j with
    | 0 => injection hv with hv; subst hv; exact h0
    | 1 => injection hv with hv; subst hv; exact h1
    | 2 => injection hv with hv; subst hv; exact h2
    | 3 => injection hv with hv; subst hv; exact h3
    | j + 4 => simp at hv) Try.underlying32 rfl Try.sizeImg
  simp [results, h, hp', asAddr, hl]
theorem img_cells {W : World} {r : Nat} {u : Array Value} {t : TypeId} (h : W.heap[r]? = some (.cells u t (0, 0))) (hu : u.size = 4) (a b c d : Value) :
    let Y := (((W.setCell ⟨r, 0, none⟩ a).setCell ⟨r, 1, none⟩ b).setCell ⟨r, 2, none⟩ c).setCell ⟨r, 3, none⟩ d
    Y.cell? ⟨r, 0, none⟩ = some a ∧ Y.cell? ⟨r, 1, none⟩ = some b ∧ Y.cell? ⟨r, 2, none⟩ = some c ∧ Y.cell? ⟨r, 3, none⟩ = some d := by
  have e := heap_set (o := 3) (v := d) (heap_set (o := 2) (v := c) (heap_set (o := 1) (v := b) (heap_set (o := 0) (v := a) h)))
  refine ⟨?_, ?_, ?_, ?_⟩ <;> (rw [cell_of_row _ _ _ _ _ (0, 0) e]; simp [hu])
theorem img_set {w W : World} {X : Array Value} (h : W.heap[w.heap.size]? = some (.cells X 71 (0, 0)) ∧ Below w.heap.size w W) (a b c d : ByteArray) :
    ((((W.setCell ⟨w.heap.size + 1, 0, none⟩ (.string a)).setCell ⟨w.heap.size + 1, 1, none⟩ (.string b)).setCell ⟨w.heap.size + 1, 2, none⟩ (.string c)).setCell ⟨w.heap.size + 1, 3, none⟩ (.string d)).heap[w.heap.size]? = some (.cells X 71 (0, 0)) ∧
      Below w.heap.size w ((((W.setCell ⟨w.heap.size + 1, 0, none⟩ (.string a)).setCell ⟨w.heap.size + 1, 1, none⟩ (.string b)).setCell ⟨w.heap.size + 1, 2, none⟩ (.string c)).setCell ⟨w.heap.size + 1, 3, none⟩ (.string d)) := by
  have hs : ∀ (Y : World) (j : Nat) (v : Value), (Y.setCell ⟨w.heap.size + 1, j, none⟩ v).heap[w.heap.size]? = Y.heap[w.heap.size]? := fun Y j v => heap_setCell_other _ _ _ _ (by simp)
  refine ⟨by rw [hs, hs, hs, hs]; exact h.1, ?_⟩
  exact (((h.2.setCell (by simp) _).setCell (by simp) _).setCell (by simp) _).setCell (by simp) _
set_option maxRecDepth 100000 in
set_option maxHeartbeats 4000000 in
theorem cImage_any (a b c d : Bs) (w : World) (ha : a.length = 64) (hb : b.length = 64) (hc : c.length = 64) (hd : d.length = 64) :
    Calls Try.prog 29 #[.agg (arC [a, b, c, d]).toArray] w (Tells (.agg #[.string (S a), .string (S b), .string (S c), .string (S d)]) w) := by
  have hA := aok4 ha hb hc hd
  have hblk := heap_alloc_new w (.cells (arC [a, b, c, d]).toArray 71)
  have hcv : ∀ q, q < 4 → ∀ W, W.heap[w.heap.size]? = some (.cells (arC [a, b, c, d]).toArray 71 (0, 0)) → (convert 50 9 (.slice (some ⟨w.heap.size, q * 64, none⟩) 64 64)).run Try.prog W = .ok (.string (S ([a, b, c, d].getD q []))) W := fun q hq W hW => by
    obtain ⟨e1, e2⟩ := ar_split hA hq
    have hm : Mid W w.heap.size 71 (arC ([a, b, c, d].take q)) ([a, b, c, d].getD q []) (arC ([a, b, c, d].drop (q + 1))) := by
      unfold Mid
      rw [hW, e1]
    have hl := hA.len q hq
    have := hm.conv 0 64 64 (by omega)
    rw [e2, Nat.add_zero] at this
    rw [this]
    unfold cutL
    rw [List.drop_zero, List.take_of_length_le (by omega)]
  have HS := Lib.hid (fun W (h : W.heap[w.heap.size]? = some (.cells (arC [a, b, c, d]).toArray 71 (0, 0)) ∧ Below w.heap.size w W) =>
    show (convert 50 9 (.slice (some ⟨w.heap.size, 0, none⟩) 64 64)).run Try.prog W = .ok (.string (S a)) W ∧ (convert 50 9 (.slice (some ⟨w.heap.size, 64, none⟩) 64 64)).run Try.prog W = .ok (.string (S b)) W ∧
      (convert 50 9 (.slice (some ⟨w.heap.size, 128, none⟩) 64 64)).run Try.prog W = .ok (.string (S c)) W ∧ (convert 50 9 (.slice (some ⟨w.heap.size, 192, none⟩) 64 64)).run Try.prog W = .ok (.string (S d)) W
    from ⟨hcv 0 (by omega) W h.1, hcv 1 (by omega) W h.1, hcv 2 (by omega) W h.1, hcv 3 (by omega) W h.1⟩)
  have s0 := slice_all w.heap.size 0
  have s1 := slice_all w.heap.size 64
  have s2 := slice_all w.heap.size 128
  have s3 := slice_all w.heap.size 192
  have HB := Lib.hid (one_S w (arC [a, b, c, d]).toArray 71)
  clear hcv hA ha hb hc hd
  generalize (arC [a, b, c, d]).toArray = X at *
  have HA2 := Lib.hid (show ((w.alloc (.cells X 71)).alloc (.cells #[.string ⟨#[]⟩, .string ⟨#[]⟩, .string ⟨#[]⟩, .string ⟨#[]⟩] 32)).heap[w.heap.size]? = some (.cells X 71 (0, 0)) ∧
      ((w.alloc (.cells X 71)).alloc (.cells #[.string ⟨#[]⟩, .string ⟨#[]⟩, .string ⟨#[]⟩, .string ⟨#[]⟩] 32)).heap[w.heap.size + 1]? = some (.cells #[.string ⟨#[]⟩, .string ⟨#[]⟩, .string ⟨#[]⟩, .string ⟨#[]⟩] 32 (0, 0)) ∧
      Below w.heap.size w ((w.alloc (.cells X 71)).alloc (.cells #[.string ⟨#[]⟩, .string ⟨#[]⟩, .string ⟨#[]⟩, .string ⟨#[]⟩] 32)) from by
    refine ⟨?_, ?_, ((Below.refl _ _).alloc (Nat.le_refl _) _).alloc (by simp) _⟩
    · rw [heap_alloc_old _ _ (by simp)]; exact hblk
    · have := heap_alloc_new (w.alloc (.cells X 71)) (.cells #[.string ⟨#[]⟩, .string ⟨#[]⟩, .string ⟨#[]⟩, .string ⟨#[]⟩] 32)
      simpa using this)
  clear hblk HB
  go_enter Try.func29, Try.ntmps29
  go_wp2
  refine world_cutR (G := fun W => Code.wp _ _ _ _ W) (fun W => W.heap[w.heap.size]? = some (.cells X 71 (0, 0)) ∧ W.heap[w.heap.size + 1]? = some (.cells #[.string ⟨#[]⟩, .string ⟨#[]⟩, .string ⟨#[]⟩, .string ⟨#[]⟩] 32 (0, 0)) ∧ Below w.heap.size w W) HA2.out ?_
  rintro W hW
  have hP1 : W.drew.heap[w.heap.size]? = some (.cells X 71 (0, 0)) ∧ Below w.heap.size w W.drew := ⟨hW.1, hW.2.2.drew⟩
  clear HA2
  have k := HS.out W.drew hP1
  have q0 : W.cell? ⟨w.heap.size + 1, 0, none⟩ = some (.string ⟨#[]⟩) := by rw [cell_of_row _ _ _ _ _ (0, 0) hW.2.1]; rfl
  have q1 : W.cell? ⟨w.heap.size + 1, 1, none⟩ = some (.string ⟨#[]⟩) := by rw [cell_of_row _ _ _ _ _ (0, 0) hW.2.1]; rfl
  have q2 : W.cell? ⟨w.heap.size + 1, 2, none⟩ = some (.string ⟨#[]⟩) := by rw [cell_of_row _ _ _ _ _ (0, 0) hW.2.1]; rfl
  have q3 : W.cell? ⟨w.heap.size + 1, 3, none⟩ = some (.string ⟨#[]⟩) := by rw [cell_of_row _ _ _ _ _ (0, 0) hW.2.1]; rfl
  have zf : ∀ j, W.frozen? ⟨w.heap.size + 1, j, none⟩ = false := fun j => by
    unfold World.frozen?
    rw [hW.2.1]
    simp
  have z0 := zf 0
  have z1 := zf 1
  have z2 := zf 2
  have z3 := zf 3
  have HW := Lib.hid hW
  clear hW zf
  have hP2 := Lib.hid (img_set hP1 (S a) (S b) (S c) (S d))
  have hP3 := Lib.hid hP1
  clear hP1
  go_region_held3 (fun W' => (convert 50 9 (.slice (some ⟨w.heap.size, 0, none⟩) 64 64)).run Try.prog W' = .ok (.string (S a)) W' ∧ (convert 50 9 (.slice (some ⟨w.heap.size, 64, none⟩) 64 64)).run Try.prog W' = .ok (.string (S b)) W' ∧ (convert 50 9 (.slice (some ⟨w.heap.size, 128, none⟩) 64 64)).run Try.prog W' = .ok (.string (S c)) W' ∧ (convert 50 9 (.slice (some ⟨w.heap.size, 192, none⟩) 64 64)).run Try.prog W' = .ok (.string (S d)) W')
    (first | exact HS.out _ hP3.out | exact HS.out _ hP2.out) ((first | fail))
  all_goals
    go_wp2
    (try simp only [Exit.inBlock, Exit.then])
    have HC := img_cells (show W.drew.heap[w.heap.size + 1]? = _ from HW.out.2.1) rfl (.string (S a)) (.string (S b)) (.string (S c)) (.string (S d))
    refine bodyPost_ret (results_img rfl _ _ (w.heap.size + 1) (S a) (S b) (S c) (S d) rfl HC.1 HC.2.1 HC.2.2.1 HC.2.2.2) rfl ⟨rfl, hP2.out.2⟩

end Go.Proofs.Ytbjmdehfdnpljaa.Vm
