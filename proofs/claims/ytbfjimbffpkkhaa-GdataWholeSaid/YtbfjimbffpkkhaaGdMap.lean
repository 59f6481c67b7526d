/-
  A map from versions to texts in memory: looked up, told. Conditions: as each states.
-/
import Derived.Test.YtbfjimbffpkkhaaGdWhMath
import Derived.MapKept
import Derived.WideKeyRuns
import Derived.MapFrom
import Derived.Carry
namespace Go.Proofs.Ytbfjimbffpkkhaa.Pa
open Go.RowKit

def kyV (k : Nat × Nat) : Value := .agg #[.int .u16 k.1, .int .u32 k.2]
theorem ky_bool (a b : Nat × Nat) : (((a.1 : Int) == (b.1 : Int)) && ((a.2 : Int) == (b.2 : Int))) = decide (a = b) := by
  obtain ⟨i, s⟩ := a
  obtain ⟨j, t⟩ := b
  rw [Bool.eq_iff_iff]
  simp
  omega
set_option maxRecDepth 100000 in
set_option maxHeartbeats 2000000 in
theorem ver_eq (a b : Nat × Nat) (w : World) : (Op.equal 31 (kyV a) (kyV b)).run Try.prog w = .ok (decide (a = b)) w := by
  rw [← ky_bool]
  unfold kyV
  show (Op.equalIn (9999 + 1) 31 _ _).run Try.prog w = _
  go_simp
  by_cases h1 : (a.1 : Int) = b.1 <;> by_cases h2 : (a.2 : Int) = b.2 <;> simp [h1, h2]
set_option maxRecDepth 100000 in
set_option maxHeartbeats 2000000 in
theorem ver_key (em : Bool) (a : Nat × Nat) (w : World) : (Instr.checkKey em 10000 31 (kyV a)).run Try.prog w = .ok () w := by
  unfold kyV
  have key : ∀ d : Nat, (Instr.checkKey em (d + 1 + 1) 31 (.agg #[.int .u16 a.1, .int .u32 a.2])).run Try.prog w = .ok () w := fun d => by
    have h1 : ∀ (x : Int), (Instr.checkKey em (d + 1) 22 (.int .u16 x)).run Try.prog w = .ok () w := fun x => by simp [Instr.checkKey, run_underlying Try.underlying22]
    have h2 : ∀ (x : Int), (Instr.checkKey em (d + 1) 29 (.int .u32 x)).run Try.prog w = .ok () w := fun x => by simp [Instr.checkKey, run_underlying Try.underlying29]
    have p1 : (part 22 #[.int .u16 a.1, .int .u32 a.2] 0).run Try.prog w = .ok (.int .u16 a.1) w := by go_simp
    have p2 : (part 29 #[.int .u16 a.1, .int .u32 a.2] 1).run Try.prog w = .ok (.int .u32 a.2) w := by go_simp
    rw [Instr.checkKey]
    simp only [Sem.run_bind, run_underlying Try.underlying31, Result.andThen_ok]
    rw [← Array.forIn_toList]
    simp only [List.forIn_cons, List.forIn_nil, Sem.run_bind, Sem.run_pure]
    simp [Result.andThen, p1, p2, h1, h2]
  exact key 9998
/-- What a map holds. -/
def MapV (w : World) (r : Nat) (m : Mp) : Prop := ∃ es clock, w.heap[r]? = some (.map es clock) ∧ es.toList.map (fun x => (x.key, x.val)) = m.map (fun p => (kyV p.1, Value.string (S p.2)))
theorem look_cons (p : (Nat × Nat) × Bs) (l : Mp) (k : Nat × Nat) : lookM (p :: l) k = if p.1 = k then some p.2 else lookM l k := by
  unfold lookM
  rw [List.find?_cons]
  by_cases h : p.1 = k
  · rw [decide_eq_true h, if_pos h]; rfl
  · rw [decide_eq_false h, if_neg h]
theorem find_ver (k : Nat × Nat) (w : World) : ∀ (l : List MapEntry) (m : Mp) (i : Nat), l.map (fun x => (x.key, x.val)) = m.map (fun p => (kyV p.1, Value.string (S p.2))) →
    ∃ j, (Instr.findAsking 31 (kyV k) l i).run Try.prog w = .ok ((lookM m k).map fun v => (j, Value.string (S v))) w
  | [], [], _, _ => ⟨0, rfl⟩
  | [], _ :: _, _, h => by simp at h
  | _ :: _, [], _, h => by simp at h
  | e :: l, p :: m, i, h => by
    simp only [List.map_cons, List.cons.injEq, Prod.mk.injEq] at h
    obtain ⟨⟨h1, h2⟩, h3⟩ := h
    have hs := ver_eq k p.1 w
    rw [← h1] at hs
    by_cases hp : p.1 = k
    · refine ⟨i, ?_⟩
      rw [decide_eq_true hp.symm] at hs
      rw [look_cons, if_pos hp]
      simp [Instr.findAsking, hs, h2]
    · obtain ⟨j, hj⟩ := find_ver k w l m (i + 1) h3
      refine ⟨j, ?_⟩
      rw [decide_eq_false (fun e => hp e.symm)] at hs
      rw [look_cons, if_neg hp]
      simp [Instr.findAsking, hs, hj]
theorem find_key (k : Nat × Nat) (w : World) (es : List MapEntry) : (Instr.findKey 31 (kyV k) es).run Try.prog w = (Instr.findAsking 31 (kyV k) es 0).run Try.prog w :=
  run_findKey_eq (P := Try.prog) w (by rw [Try.underlying31]) (kyV k) es
theorem run_lookV {w : World} {r : Nat} {m : Mp} (h : MapV w r m) (k : Nat × Nat) :
    (Instr.lookup 66 (.map (some r)) (kyV k) true).run Try.prog w = .ok (.tuple #[.string (S ((lookM m k).getD [])), .bool (lookM m k).isSome]) w := by
  obtain ⟨es, clock, hb, he⟩ := h
  obtain ⟨j, hj⟩ := find_ver k w es.toList m 0 he
  have hc : ∀ b, (Instr.checkKey b 10000 31 (kyV k)).run Try.prog w = .ok () w := fun b => ver_key b k w
  have hf := (find_key k w es.toList).trans hj
  cases hl : lookM m k with
  | none =>
    rw [hl] at hf
    simp [Instr.lookup, run_underlying Try.underlying66, MapKept.run_getObj_map hb, hc, hf, Result.andThen]
    rfl
  | some v =>
    rw [hl] at hf
    simp [Instr.lookup, run_underlying Try.underlying66, MapKept.run_getObj_map hb, hc, hf, Result.andThen]
/-- A block turned. -/
def putM (w : World) (r : Nat) (o : Obj) : World := { w with heap := w.heap.setIfInBounds r o }
theorem run_updV {w : World} {r : Nat} {m : Mp} (h : MapV w r m) (k : Nat × Nat) (hl : lookM m k = none) (v : Bs) :
    ∃ o, (Instr.mapUpdate 66 (.map (some r)) (kyV k) (.string (S v))).run Try.prog w = .ok () (putM w r o) ∧ ∀ W' : World, W'.heap[r]? = some o → MapV W' r (m ++ [(k, v)]) := by
  obtain ⟨es, clock, hb, he⟩ := h
  obtain ⟨j, hj⟩ := find_ver k w es.toList m 0 he
  have hf := (find_key k w es.toList).trans hj
  rw [hl] at hf
  refine ⟨.map (es.push { key := kyV k, val := .string (S v), born := clock }) (clock + 1), ?_, fun W' h' => ⟨_, _, h', by simp [he]⟩⟩
  have hc : (Instr.checkKey false 10000 31 (kyV k)).run Try.prog w = .ok () w := ver_key false k w
  simp [Instr.mapUpdate, run_underlying Try.underlying66, MapKept.run_getObj_map hb, hc, hf, MapKept.run_setObj_map _ hb, Result.andThen]
  rfl
theorem putM_at {w : World} {r : Nat} {o : Obj} (h : r < w.heap.size) : (putM w r o).heap[r]? = some o := by simp [putM, h]
theorem putM_other {w : World} {r k : Nat} {o : Obj} (h : k ≠ r) : (putM w r o).heap[k]? = w.heap[k]? := by simp [putM, Ne.symm h]
theorem putM_size (w : World) (r : Nat) (o : Obj) : (putM w r o).heap.size = w.heap.size := by simp [putM]
theorem OnlyL.put {ms : List Nat} {w : World} {r : Nat} (hr : r ∈ ms) (o : Obj) : OnlyL ms w (putM w r o) :=
  ⟨rfl, rfl, rfl, by rw [putM_size]; exact Nat.le_refl _, fun _ _ hn => putM_other (fun e => hn (e ▸ hr))⟩
theorem MapV.lt {w : World} {r : Nat} {m : Mp} (h : MapV w r m) : r < w.heap.size := by obtain ⟨es, clock, h, -⟩ := h; exact lt_of_heap h
theorem MapV.only {ms : List Nat} {w w' : World} {r : Nat} {m : Mp} (h : MapV w r m) (hb : OnlyL ms w w') (hn : r ∉ ms) : MapV w' r m := by
  have hl := h.lt
  obtain ⟨es, clock, h, e⟩ := h
  exact ⟨es, clock, (hb.block r hl hn).trans h, e⟩
end Go.Proofs.Ytbfjimbffpkkhaa.Pa
