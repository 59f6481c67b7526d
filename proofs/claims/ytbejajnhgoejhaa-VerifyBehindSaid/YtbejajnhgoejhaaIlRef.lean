/-
  The reference's operations and their names: Names, Op, reads, writes, walked. Conditions: none.
-/
import Derived.Test.YtbejajnhgoejhaaIlTwin
import Derived.Test.YtbejajnhgoejhaaIcDo
namespace Go.Proofs.Ytbejajnhgoejhaa.Il
open Go.RowKit
open Go.Proofs.Ytbejajnhgoejhaa.Ic

/-- A text of bytes. -/
def S (l : Bs) : ByteArray := ⟨l.toArray⟩
theorem S_list (s : ByteArray) : S s.data.toList = s := by unfold S; simp
theorem list_S (l : Bs) : (S l).data.toList = l := rfl
theorem S_size (l : Bs) : (S l).size = l.length := by simp [S, ByteArray.size]
theorem S_inj {a b : Bs} (h : S a = S b) : a = b := by
  have := congrArg (fun s : ByteArray => s.data.toList) h
  exact this
theorem S_app (a b : Bs) : S a ++ S b = S (a ++ b) := by
  have h : (S a ++ S b).data.toList = a ++ b := by simp [ByteArray.data_append, S]
  rw [← S_list (S a ++ S b), h]
def insV (i : In) : Value := .agg #[.int .i64 i.op, .int .i64 i.kd, .int .i64 i.ar, .int .i64 i.pl, .int .i64 i.n]

set_option maxRecDepth 100000 in
set_option maxHeartbeats 4000000 in
theorem rreads_any (op : Int) (w : World) : Calls Try.prog 21 #[.int .i64 op] w fun e w' => e = .returned (.bool (readsB op)) ∧ w = w' := by
  have hv : readsB op = ((op == 1) || (op == 2) || (decide (7 ≤ op) && decide (op ≤ 12)) || (decide (14 ≤ op) && decide (op ≤ 24))) := by
    unfold readsB
    by_cases h : op = 1 ∨ op = 2 ∨ (7 ≤ op ∧ op ≤ 12) ∨ (14 ≤ op ∧ op ≤ 24)
    · rw [decide_eq_true h]
      symm
      simp
      omega
    · rw [decide_eq_false h]
      symm
      simp
      omega
  rw [hv]
  clear hv
  by_cases h1 : op = 1
  · subst h1
    go_enter Try.func21, Try.ntmps21
    go_wp2
    go_ret
    exact ⟨rfl, rfl⟩
  by_cases h2 : op = 2
  · subst h2
    go_enter Try.func21, Try.ntmps21
    go_wp2
    go_ret
    exact ⟨rfl, rfl⟩
  have t1 : (op == 1) = false := by simpa using h1
  have t2 : (op == 2) = false := by simpa using h2
  rw [t1, t2]
  by_cases h7 : 7 ≤ op <;> by_cases h12 : op ≤ 12 <;> by_cases h14 : 14 ≤ op <;> by_cases h24 : op ≤ 24
  all_goals first
    | (exfalso; omega)
    | skip
  all_goals
    simp only [h7, h12, h14, h24, decide_true, decide_false]
    clear h1 h2
    go_enter Try.func21, Try.ntmps21
    go_wp2
    go_ret
    exact ⟨rfl, rfl⟩

set_option maxHeartbeats 4000000 in
theorem rwrites_any (op : Int) (w : World) : Calls Try.prog 23 #[.int .i64 op] w fun e w' => e = .returned (.bool (writesB op)) ∧ w = w' := by
  have hv : writesB op = (decide (3 ≤ op) && decide (op ≤ 6)) := by
    unfold writesB
    by_cases h : 3 ≤ op <;> by_cases h2 : op ≤ 6 <;> simp [h, h2]
  rw [hv]
  clear hv
  by_cases h3 : 3 ≤ op <;> by_cases h6 : op ≤ 6
  all_goals
    simp only [h3, h6, decide_true, decide_false]
    go_enter Try.func23, Try.ntmps23
    go_wp2
    go_ret
    exact ⟨rfl, rfl⟩

/-- Block g holds the operations' names. -/
def NamesAt (w : World) (g : Nat) : Prop := ∀ k, k < 37 → w.cell? ⟨g, k, none⟩ = some (.string (S (namesL.getD k [])))
theorem NamesAt.kept {w w' : World} {g : Nat} (h : NamesAt w g) (hb : Below w.heap.size w w') : NamesAt w' g := fun k hk =>
  (World.cell?_of_block (a := ⟨g, k, none⟩) (hb.block g (World.block_lt_of_cell? w ⟨g, k, none⟩ (h k hk)))).trans (h k hk)
def namesV : Array Value := (namesL.map fun s => Value.string (S s)).toArray
theorem names_new (w : World) (t : TypeId) : NamesAt (w.alloc (.cells namesV t)) w.heap.size := by
  intro k hk
  rw [cell_of_row _ _ k _ t (0, 0) (heap_alloc_new w _)]
  unfold namesV
  have hl : namesL.length = 37 := rfl
  simp [List.getD_eq_getElem?_getD, hl, hk]

theorem op_found {s : Bs} {i : Nat} (hi : i < 37) (hs : s ≠ []) (he : namesL.getD i [] = s) (hf : ∀ j, j < i → s = [] ∨ namesL.getD j [] ≠ s) : opOf s = i := by
  unfold opOf
  rw [if_neg hs, (List.find?_range_eq_some (n := 37) (i := i)).2]
  · rfl
  · refine ⟨by simpa using he, by simpa using hi, fun j hj => ?_⟩
    rcases hf j hj with h | h
    · exact absurd h hs
    · simpa using h
theorem op_lost {s : Bs} (hf : ∀ j, j < 37 → s = [] ∨ namesL.getD j [] ≠ s) : opOf s = 0 := by
  unfold opOf
  by_cases hs : s = []
  · rw [if_pos hs]
  · rw [if_neg hs, List.find?_eq_none.2]
    · rfl
    · intro j hj
      rcases hf j (by simpa using hj) with h | h
      · exact absurd h hs
      · simpa using h

end Go.Proofs.Ytbejajnhgoejhaa.Il
