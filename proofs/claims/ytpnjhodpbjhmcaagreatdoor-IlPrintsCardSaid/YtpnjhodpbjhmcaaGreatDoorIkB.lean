/-
  The landed code's names, nameOf, Op, walked. Conditions: none.
-/
import Derived.Test.YtpnjhodpbjhmcaaGreatDoorIkA
import Derived.Deep.WholeRow
import Derived.Deep.MidRow
namespace Go.Proofs.YtpnjhodpbjhmcaaGreatDoor.Il
open Go.RowKit
open Go.Proofs.YtpnjhodpbjhmcaaGreatDoor.Ic

/-- The names, as an array's value. -/
def namesA : Array Value := (namesL.map fun b => Value.string (S b)).toArray
theorem namesA_at (i : Nat) (h : i < 37) : namesA[i]? = some (.string (S (namesL.getD i []))) := by
  have hl : i < namesL.length := h
  unfold namesA
  rw [List.getElem?_toArray, List.getElem?_map, List.getElem?_eq_getElem hl, List.getD_eq_getElem?_getD, List.getElem?_eq_getElem hl]
  rfl
theorem namesA_size : namesA.size = 37 := rfl
theorem namesA_one : namesA.all (·.oneCell') = true := by
  rw [Array.all_eq_true]
  intro i hi
  have h := namesA_at i hi
  rw [Array.getElem?_eq_getElem hi] at h
  injection h with h
  rw [h]
  rfl

noncomputable def stNm (p v : Value) (W : World) : Result Go.Next := (do Instr.storeAt 61 p v; pure Go.Next.skip : Sem Go.Next).run Tryz.prog W
theorem exec_stNm (ρ : Operand → Value) (d : Option Tmp) (x y : Operand) (t : TypeId) (pos : String) (af : _) (g : _) (W : World) :
    (execOp ρ ⟨d, .store 61 x y, t, pos, af, g⟩).run Tryz.prog W = stNm (ρ x) (ρ y) W := rfl
theorem Tryz.sizeNm : (Tryz.prog.info? 61).map (·.size) = some 37 := by kernel_rfl
theorem stNm_new (w : World) (c : Array Value) (hc : c.size = 37) : stNm (.pointer (some ⟨w.heap.size, 0, none⟩)) (.agg namesA) (w.alloc (.cells c 61)) = .ok .skip (w.alloc (.cells namesA 61)) := by
  unfold stNm
  rw [Sem.run_bind, run_storeAt_new w 61 c namesA Tryz.sizeNm hc namesA_one]
  rfl
noncomputable def bdNm (parts : Array (Nat × Value)) (W : World) : Result Go.Next := (do pure (Go.Next.value (← Instr.build 61 parts)) : Sem Go.Next).run Tryz.prog W
theorem exec_bdNm (ρ : Operand → Value) (d : Option Tmp) (ps : Array (Nat × Operand)) (t : TypeId) (pos : String) (af : _) (g : _) (W : World) :
    (execOp ρ ⟨d, .build 61 ps, t, pos, af, g⟩).run Tryz.prog W = bdNm (ps.map fun x => (x.1, ρ x.2)) W := rfl
theorem bdNm_of (parts : Array (Nat × Value)) (c : Array Value) (W : World) (h : Tryz.prog.built 61 parts.toList = some c) : bdNm parts W = .ok (.value (.agg c)) W := by
  unfold bdNm
  rw [Sem.run_bind, run_build W 61 parts c h]
  rfl
theorem bdNm_all (W : World) : bdNm #[(1, .string ⟨#[76, 68]⟩), (2, .string ⟨#[76, 68, 78]⟩), (3, .string ⟨#[83, 84]⟩), (4, .string ⟨#[83, 84, 78]⟩), (5, .string ⟨#[83]⟩), (6, .string ⟨#[82]⟩), (7, .string ⟨#[65, 78, 68]⟩), (8, .string ⟨#[79, 82]⟩), (9, .string ⟨#[88, 79, 82]⟩), (10, .string ⟨#[65, 78, 68, 78]⟩), (11, .string ⟨#[79, 82, 78]⟩), (12, .string ⟨#[88, 79, 82, 78]⟩), (13, .string ⟨#[78, 79, 84]⟩), (14, .string ⟨#[65, 68, 68]⟩), (15, .string ⟨#[83, 85, 66]⟩), (16, .string ⟨#[77, 85, 76]⟩), (17, .string ⟨#[68, 73, 86]⟩), (18, .string ⟨#[77, 79, 68]⟩), (19, .string ⟨#[71, 84]⟩), (20, .string ⟨#[71, 69]⟩), (21, .string ⟨#[69, 81]⟩), (22, .string ⟨#[78, 69]⟩), (23, .string ⟨#[76, 69]⟩), (24, .string ⟨#[76, 84]⟩), (25, .string ⟨#[74, 77, 80]⟩), (26, .string ⟨#[74, 77, 80, 67]⟩), (27, .string ⟨#[74, 77, 80, 67, 78]⟩), (28, .string ⟨#[82, 69, 84]⟩), (29, .string ⟨#[82, 69, 84, 67]⟩), (30, .string ⟨#[82, 69, 84, 67, 78]⟩), (31, .string ⟨#[67, 79, 78, 86]⟩), (34, .string ⟨#[84, 79, 78]⟩), (35, .string ⟨#[67, 84, 85]⟩), (36, .string ⟨#[84, 82, 73, 71]⟩)] W = .ok (.value (.agg namesA)) W := bdNm_of _ _ W (by kernel_rfl)

section
attribute [local go_sem ↓] exec_stNm exec_bdNm
attribute [local go_sem] stNm_new bdNm_all

set_option maxRecDepth 100000 in
set_option maxHeartbeats 4000000 in
theorem cNames_any (w : World) : Calls Tryz.prog 23 #[] w (Tells (.agg namesA) w) := by
  go_enter Tryz.func23, Tryz.ntmps23
  go_wp2
  refine bodyPost_ret (v := .agg namesA) (results_cell_row (P := Tryz.prog) (p := 0) (ty := 61) Tryz.results23 _ _ w.heap.size 61 namesA (0, 0) _ rfl (heap_alloc_new w _) Tryz.underlying61 rfl Tryz.sizeNm) rfl ⟨rfl, (Below.refl _ _).alloc (Nat.le_refl _) _⟩

set_option maxRecDepth 100000 in
set_option maxHeartbeats 4000000 in
theorem cNameOf_any (o : Nat) (ho : o < 37) (w : World) : Calls Tryz.prog 24 #[.int .i64 o] w (Tells (.string (S (opName o))) w) := by
  have HN := Lib.hid (fun W => cNames_any W)
  have HA := Lib.hid (fun (W : World) => show (W.alloc (.cells namesA 61)).cell? ⟨W.heap.size, o, none⟩ = some (.string (S (opName o))) from by
    rw [cell_of_row _ _ o _ 61 (0, 0) (heap_alloc_new W _), namesA_at o ho]
    unfold opName
    rw [Int.toNat_natCast])
  have hI : (o : Int) < 37 := by omega
  generalize opName o = nm at *
  go_enter Tryz.func24, Tryz.ntmps24
  go_wp2_with fail
  refine (HN.out _).mono ?_
  rintro e w1 ⟨rfl, hb1⟩
  have hA := HA.out w1
  go_wp2
  go_ret
  exact ⟨rfl, hb1.alloc hb1.size _⟩

theorem index_nm (A : Array Value) (i : Nat) (h : i < 37) (v : Value) (hv : A[i]? = some v) (W : World) : (Instr.index 61 (.agg A) (.int .i64 i)).run Tryz.prog W = .ok v W := by
  have h2 : (0 : Int) ≤ (i : Int) ∧ (i : Int) < ((37 : Nat) : Int) := by omega
  have hs : (sizeOf 9).run Tryz.prog W = .ok 1 W := Tryz.sizeOf9 W
  have ha : (isAgg 9).run Tryz.prog W = .ok false W := Tryz.isAgg9 W
  simp only [Instr.index, run_underlying Tryz.underlying61, asIntOf, Sem.run_bind, Sem.run_pure, Result.andThen, if_pos h2, hs]
  simp [part, ha, hv, Sem.run_bind, Result.andThen, go_sem]

set_option maxRecDepth 100000 in
set_option maxHeartbeats 4000000 in
theorem cOp_any (s : Bs) (w : World) : Calls Tryz.prog 9 #[.string (S s)] w (Tells (.tuple #[.int .i64 (opOf s : Nat), .bool (decide (0 < opOf s))]) w) := by
  have HN := Lib.hid (fun W => cNames_any W)
  have HL := Lib.hid (@op_lost s)
  have HF := Lib.hid (fun i => @op_found s i)
  have HA := Lib.hid namesA_at
  have hsz := namesA_size
  generalize opOf s = o at *
  generalize namesA = A at *
  go_enter Tryz.func9, Tryz.ntmps9
  go_wp2_with fail
  refine (HN.out _).mono ?_
  rintro e w1 ⟨rfl, hb⟩
  replace hb := Lib.hid hb
  go_wp2
  go_loopw [7] (fun c wr => ∃ i : Nat, i ≤ 37 ∧ c = .int .i64 i ∧ Hid (∀ j, j < i → s = [] ∨ namesL.getD j [] ≠ s) ∧ Hid (Below w.heap.size w wr)) (fun c _ => 37 - (intOf c).toNat)
  case atStart => exact ⟨0, by omega, rfl, Lib.hid (fun j hj => by omega), hb⟩
  case round =>
    obtain ⟨i, hi, rfl, hf, hS⟩ := hrel
    by_cases hlt : i < 37
    · have hI : (i : Int) < 37 := by omega
      have c0 := HA.out i hlt
      obtain ⟨nm, hnm⟩ : ∃ nm, nm = namesL.getD i [] := ⟨_, rfl⟩
      rw [← hnm] at c0
      replace hnm := Lib.hid hnm
      have hix := fun W => index_nm A i hlt _ c0 W
      by_cases h1 : nm = s
      · have e1 := s_eq h1
        by_cases h2 : nm = []
        · have e2 := s_nil h2
          have hf2 := Lib.hid (show ∀ j, j < i + 1 → s = [] ∨ namesL.getD j [] ≠ s from fun _ _ => .inl (h1 ▸ h2))
          clear h2 h1
          go_wp2
          go_roundw
          case rel => exact ⟨i + 1, by omega, by go_num, hf2, hS⟩
          case measure => simp [intOf]; omega
        · have e2 := s_some h2
          have hip : 0 < i := Nat.pos_of_ne_zero fun e => h2 (by rw [hnm.out, e]; rfl)
          have ho := Lib.hid (HF.out i hlt (h1 ▸ h2) (by rw [← hnm.out]; exact h1) hf.out)
          clear h2 h1
          go_wp2
          go_ret2
          refine ⟨?_, hS.out⟩
          rw [ho.out, decide_eq_true hip]
          rfl
      · have e1 := s_ne h1
        have hf2 := Lib.hid (show ∀ j, j < i + 1 → s = [] ∨ namesL.getD j [] ≠ s from fun j hj => by
          by_cases e : j = i
          · subst e; right; rw [← hnm.out]; exact h1
          · exact hf.out j (by omega))
        clear h1
        go_wp2
        go_roundw
        case rel => exact ⟨i + 1, by omega, by go_num, hf2, hS⟩
        case measure => simp [intOf]; omega
    · obtain rfl : i = 37 := by omega
      have ho := Lib.hid (HL.out hf.out)
      go_wp2
      go_ret2
      exact ⟨by rw [ho.out]; rfl, hS.out⟩
end

end Go.Proofs.YtpnjhodpbjhmcaaGreatDoor.Il
