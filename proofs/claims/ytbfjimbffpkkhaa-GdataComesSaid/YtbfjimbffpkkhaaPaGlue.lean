/-
  New, Clear, At: walked. Conditions: as each states.
-/
import Derived.Test.YtbfjimbffpkkhaaPaFits
namespace Go.Proofs.Ytbfjimbffpkkhaa.Pa
open Go.RowKit

/-! ### A glue written whole -/
def glZ (n : Int) : Array Value := #[.int .i64 n, .int .u16 0, .int .u32 0, .int .u8 0] ++ Array.replicate 64 (.int .u8 0)
theorem glZ_size (n : Int) : (glZ n).size = 68 := by unfold glZ; simp
theorem glZ_one (n : Int) : (glZ n).all (·.oneCell') = true := by
  unfold glZ
  rw [Array.all_eq_true_iff_forall_mem]
  intro v hv
  rcases Array.mem_append.1 hv with h | h
  · simp at h
    rcases h with rfl | rfl | rfl | rfl <;> rfl
  · have := Array.eq_of_mem_replicate h
    subst this
    rfl
theorem glZ_arr (n : Nat) : GArr n g0 (glZ n) := by
  refine ⟨glZ_size _, by unfold glZ; simp, by unfold glZ; simp [g0], by unfold glZ; simp [g0], by unfold glZ; simp [g0, maskB], fun j hj => ⟨0, ?_⟩, fun p j c h => ?_⟩
  · unfold glZ
    rw [Array.getElem?_append_right (by simp)]
    simp [hj]
  · simp [g0] at h
noncomputable def bdG (parts : Array (Nat × Value)) (W : World) : Result Next := (do pure (Next.value (← Instr.build 95 parts)) : Sem Next).run Try.prog W
noncomputable def stG (p v : Value) (W : World) : Result Next := (do Instr.storeAt 95 p v; pure Next.skip : Sem Next).run Try.prog W
theorem exec_bdG (ρ : Operand → Value) (d : Option Tmp) (ps : Array (Nat × Operand)) (t : TypeId) (pos : String) (af : _) (g : _) (W : World) :
    (execOp ρ ⟨d, .build 95 ps, t, pos, af, g⟩).run Try.prog W = bdG (ps.map fun x => (x.1, ρ x.2)) W := rfl
theorem exec_stG (ρ : Operand → Value) (d : Option Tmp) (x y : Operand) (t : TypeId) (pos : String) (af : _) (g : _) (W : World) :
    (execOp ρ ⟨d, .store 95 x y, t, pos, af, g⟩).run Try.prog W = stG (ρ x) (ρ y) W := rfl
theorem bdG_z (n : Int) (W : World) : bdG #[(0, .int .i64 n)] W = .ok (.value (.agg (glZ n))) W := by
  unfold bdG
  rw [Sem.run_bind, run_build W 95 #[(0, .int .i64 n)] (glZ n) (by kernel_rfl)]
  rfl
theorem Try.sizeG : (Try.prog.info? 95).map (·.size) = some 68 := by kernel_rfl
theorem stG_of (W : World) (b : Nat) (c : Array Value) (h : W.there b 0 68) (hc : c.size = 68) (h1 : c.all (·.oneCell') = true) :
    stG (.pointer (some ⟨b, 0, none⟩)) (.agg c) W = .ok .skip (W.setCells b 0 c.toList) := by
  unfold stG
  rw [Sem.run_bind, run_storeAt_mid (P := Try.prog) W b 0 95 c (by rw [hc]; exact h) (by rw [hc]; exact Try.sizeG) h1]
  rfl
def setL : Array Value → Nat → List Value → Array Value
  | A, _, [] => A
  | A, o, v :: vs => setL (A.setIfInBounds o v) (o + 1) vs
theorem setL_size : ∀ (vs : List Value) (A : Array Value) (o : Nat), (setL A o vs).size = A.size
  | [], _, _ => rfl
  | v :: vs, A, o => by rw [setL, setL_size]; simp
theorem setL_at : ∀ (vs : List Value) (A : Array Value) (o j : Nat), o + vs.length ≤ A.size → (setL A o vs)[j]? = if o ≤ j ∧ j < o + vs.length then vs[j - o]? else A[j]?
  | [], A, o, j, _ => by rw [setL, if_neg (by simp)]
  | v :: vs, A, o, j, h => by
    simp only [List.length_cons] at h
    rw [setL, setL_at vs _ _ _ (by simp; omega), Array.getElem?_setIfInBounds]
    by_cases h1 : j = o
    · subst h1
      rw [if_neg (by omega), if_pos rfl, if_pos (by omega), if_pos (by simp)]
      simp
    · by_cases h2 : o + 1 ≤ j ∧ j < o + 1 + vs.length
      · rw [if_pos h2, if_pos (by simp; omega), show j - o = (j - (o + 1)) + 1 by omega, List.getElem?_cons_succ]
      · rw [if_neg h2, if_neg (by omega), if_neg (by simp; omega)]
theorem setCells_size (b : Nat) : ∀ (l : List Value) (o : Nat) (W : World), (W.setCells b o l).heap.size = W.heap.size
  | [], _, _ => rfl
  | v :: r, o, W => by rw [World.setCells, setCells_size b r]; simp
theorem heap_sets (b : Nat) (t : TypeId) : ∀ (vs : List Value) (o : Nat) (A : Array Value) (W : World), W.heap[b]? = some (.cells A t (0, 0)) → (W.setCells b o vs).heap[b]? = some (.cells (setL A o vs) t (0, 0))
  | [], _, _, _, h => h
  | v :: vs, o, A, W, h => heap_sets b t vs (o + 1) _ _ (heap_setCell_same W b o A t v h)
theorem GAt.there {W : World} {b n : Nat} {g : Gl} (h : GAt W b n g) (o m : Nat) (hm : o + m ≤ 68) : W.there b o m := fun j hj => by
  refine ⟨?_, h.free _⟩
  obtain ⟨A, h, k⟩ := h
  rw [cell_of_row _ _ _ _ _ _ h, Array.getElem?_eq_getElem (by rw [k.1]; omega)]
  rfl
theorem GAt.clear {W : World} {b n : Nat} {g : Gl} (h : GAt W b n g) : GAt (W.setCells b 0 (glZ n).toList) b n g0 := by
  obtain ⟨A, h, k⟩ := h
  refine ⟨_, heap_sets _ _ _ _ _ _ h, ?_⟩
  have e : setL A 0 (glZ n).toList = glZ n := by
    apply Array.ext_getElem?
    intro j
    rw [setL_at _ _ _ _ (by rw [k.1]; simp [glZ_size])]
    by_cases hj : j < 68
    · rw [if_pos (by simp [glZ_size, hj])]; simp
    · rw [if_neg (by simp [glZ_size]; omega), Array.getElem?_eq_none (by rw [k.1]; omega), Array.getElem?_eq_none (by rw [glZ_size]; omega)]
  rw [e]
  exact glZ_arr n

attribute [local go_sem ↓] exec_bdG exec_stG
attribute [local go_sem] bdG_z

set_option maxRecDepth 100000 in
set_option maxHeartbeats 2000000 in
theorem cNew_no (n : Int) (w : World) (h : partsN n = 0) : Calls Try.prog 31 #[.int .i64 n] w (fun e w' => e = .returned (.pointer none) ∧ w = w') := by
  have HP := Lib.hid (cParts_any n w)
  rw [h] at HP
  clear h
  go_enter Try.func31, Try.ntmps31
  go_wp2_with fail
  refine (HP.out).mono ?_
  rintro e w1 ⟨rfl, rfl⟩
  go_wp2
  go_ret
  exact ⟨rfl, rfl⟩
set_option maxRecDepth 100000 in
set_option maxHeartbeats 2000000 in
theorem cNew (n : Nat) (w : World) (hn : 1 ≤ n ∧ n ≤ 64) : Calls Try.prog 31 #[.int .i64 n] w (fun e w' => e = .returned (.pointer (some ⟨w.heap.size, 0, none⟩)) ∧ GAt w' w.heap.size n g0 ∧ Below w.heap.size w w' ∧ w'.heap.size = w.heap.size + 1) := by
  have HP := Lib.hid (cParts_any n w)
  have e1 : (partsN n == 0) = false := by
    rw [parts_pN hn.1 hn.2, beq_eq_false_iff_ne]
    have := (pN_bd hn.1 hn.2).1
    omega
  have HE := Lib.hid (show GAt (w.alloc (.cells (glZ n) 95)) w.heap.size n g0 ∧ Below w.heap.size w (w.alloc (.cells (glZ n) 95)) ∧ (w.alloc (.cells (glZ n) 95)).heap.size = w.heap.size + 1 from ⟨⟨_, heap_alloc_new _ _, glZ_arr n⟩, one_S _ _ _, by simp⟩)
  clear hn
  generalize partsN n = P at *
  go_enter Try.func31, Try.ntmps31
  go_wp2_with fail
  refine (HP.out).mono ?_
  rintro e w1 ⟨rfl, rfl⟩
  go_wp2
  go_ret
  exact ⟨rfl, HE.out⟩
set_option maxRecDepth 100000 in
set_option maxHeartbeats 2000000 in
theorem cClear (b n : Nat) (g : Gl) (w : World) (hg : GAt w b n g) : Calls Try.prog 39 #[.pointer (some ⟨b, 0, none⟩)] w (fun e w' => e = .returned (.tuple #[]) ∧ GAt w' b n g0 ∧ OnlyL [b] w w' ∧ w'.heap.size = w.heap.size) := by
  have c0 := hg.c0
  have hst := stG_of w b (glZ n) (hg.there 0 68 (by omega)) (glZ_size n) (glZ_one n)
  have HE := Lib.hid (show GAt (w.setCells b 0 (glZ n).toList) b n g0 ∧ OnlyL [b] w (w.setCells b 0 (glZ n).toList) from ⟨hg.clear, OnlyL.sets (by simp) _ _ _⟩)
  have HZ := Lib.hid (show (w.setCells b 0 (glZ n).toList).heap.size = w.heap.size from setCells_size b _ _ _)
  clear hg
  generalize (w.setCells b 0 (glZ n).toList) = W at *
  go_enter Try.func39, Try.ntmps39
  go_wp2
  go_end0
  exact ⟨rfl, HE.out.1, HE.out.2, HZ.out⟩
end Go.Proofs.Ytbfjimbffpkkhaa.Pa
