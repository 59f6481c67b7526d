/-
  Instructions in memory; the reference of layer 12, walked. Conditions: as each states.
-/
import Derived.Test.YtmlopacekoghkaaIlP
import Derived.Test.YtmlopacekoghkaaIcR
import Derived.BigQuiet
import Derived.Deep.QuietTactic
import Derived.Lib.Strings
namespace Go.Proofs.Ytmlopacekoghkaa.Il
open Go.RowKit
open Go.Proofs.Ytmlopacekoghkaa.Ic

/-- A text of bytes. -/
def S (l : Bs) : ByteArray := ⟨l.toArray⟩
theorem S_list (s : ByteArray) : S s.data.toList = s := by unfold S; simp
theorem list_S (l : Bs) : (S l).data.toList = l := rfl
theorem S_size (l : Bs) : (S l).size = l.length := by simp [S, ByteArray.size]
theorem S_inj {a b : Bs} (h : S a = S b) : a = b := by
  have := congrArg (fun s : ByteArray => s.data.toList) h
  exact this
theorem S_app (a b : Bs) : S a ++ S b = S (a ++ b) := by
  have h : (S a ++ S b).data.toList = a ++ b := by simp [ByteArray.data_append, S]
  rw [← S_list (S a ++ S b), h]
def insV (i : In) : Value := .agg #[.int .i64 i.op, .int .i64 i.kd, .int .i64 i.ar, .int .i64 i.pl, .int .i64 i.n]

set_option maxRecDepth 100000 in
set_option maxHeartbeats 4000000 in
theorem rreads_any (op : Int) (w : World) : Calls Try.prog 50 #[.int .i64 op] w fun e w' => e = .returned (.bool (readsB op)) ∧ w = w' := by
  have hv : readsB op = ((op == 1) || (op == 2) || (decide (7 ≤ op) && decide (op ≤ 12)) || (decide (14 ≤ op) && decide (op ≤ 24))) := by
    unfold readsB
    by_cases h : op = 1 ∨ op = 2 ∨ (7 ≤ op ∧ op ≤ 12) ∨ (14 ≤ op ∧ op ≤ 24)
    · rw [decide_eq_true h]
      symm
      simp
      omega
    · rw [decide_eq_false h]
      symm
      simp
      omega
  rw [hv]
  clear hv
  by_cases h1 : op = 1
  · subst h1
    go_enter Try.func50, Try.ntmps50
    go_wp2
    go_ret
    exact ⟨rfl, rfl⟩
  by_cases h2 : op = 2
  · subst h2
    go_enter Try.func50, Try.ntmps50
    go_wp2
    go_ret
    exact ⟨rfl, rfl⟩
  have t1 : (op == 1) = false := by simpa using h1
  have t2 : (op == 2) = false := by simpa using h2
  rw [t1, t2]
  by_cases h7 : 7 ≤ op <;> by_cases h12 : op ≤ 12 <;> by_cases h14 : 14 ≤ op <;> by_cases h24 : op ≤ 24
  all_goals first
    | (exfalso; omega)
    | skip
  all_goals
    simp only [h7, h12, h14, h24, decide_true, decide_false]
    clear h1 h2
    go_enter Try.func50, Try.ntmps50
    go_wp2
    go_ret
    exact ⟨rfl, rfl⟩

set_option maxHeartbeats 4000000 in
theorem rwrites_any (op : Int) (w : World) : Calls Try.prog 52 #[.int .i64 op] w fun e w' => e = .returned (.bool (writesB op)) ∧ w = w' := by
  have hv : writesB op = (decide (3 ≤ op) && decide (op ≤ 6)) := by
    unfold writesB
    by_cases h : 3 ≤ op <;> by_cases h2 : op ≤ 6 <;> simp [h, h2]
  rw [hv]
  clear hv
  by_cases h3 : 3 ≤ op <;> by_cases h6 : op ≤ 6
  all_goals
    simp only [h3, h6, decide_true, decide_false]
    go_enter Try.func52, Try.ntmps52
    go_wp2
    go_ret
    exact ⟨rfl, rfl⟩

/-- Block g holds the operations' names. -/
def NamesAt (w : World) (g : Nat) : Prop := ∀ k, k < 37 → w.cell? ⟨g, k, none⟩ = some (.string (S (namesL.getD k [])))
theorem NamesAt.kept {w w' : World} {g : Nat} (h : NamesAt w g) (hb : Below w.heap.size w w') : NamesAt w' g := fun k hk =>
  (World.cell?_of_block (a := ⟨g, k, none⟩) (hb.block g (World.block_lt_of_cell? w ⟨g, k, none⟩ (h k hk)))).trans (h k hk)
def namesV : Array Value := (namesL.map fun s => Value.string (S s)).toArray
theorem names_new (w : World) (t : TypeId) : NamesAt (w.alloc (.cells namesV t)) w.heap.size := by
  intro k hk
  rw [cell_of_row _ _ k _ t (0, 0) (heap_alloc_new w _)]
  unfold namesV
  have hl : namesL.length = 37 := rfl
  simp [List.getD_eq_getElem?_getD, hl, hk]

theorem op_found {s : Bs} {i : Nat} (hi : i < 37) (hs : s ≠ []) (he : namesL.getD i [] = s) (hf : ∀ j, j < i → s = [] ∨ namesL.getD j [] ≠ s) : opOf s = i := by
  unfold opOf
  rw [if_neg hs, (List.find?_range_eq_some (n := 37) (i := i)).2]
  · rfl
  · refine ⟨by simpa using he, by simpa using hi, fun j hj => ?_⟩
    rcases hf j hj with h | h
    · exact absurd h hs
    · simpa using h
theorem op_lost {s : Bs} (hf : ∀ j, j < 37 → s = [] ∨ namesL.getD j [] ≠ s) : opOf s = 0 := by
  unfold opOf
  by_cases hs : s = []
  · rw [if_pos hs]
  · rw [if_neg hs, List.find?_eq_none.2]
    · rfl
    · intro j hj
      rcases hf j (by simpa using hj) with h | h
      · exact absurd h hs
      · simpa using h

end Go.Proofs.Ytmlopacekoghkaa.Il

namespace Go.Proofs.Ytmlopacekoghkaa.Il
open Go.RowKit
open Go.Proofs.Ytmlopacekoghkaa.Ic

def I64 (n : Int) : Prop := -9223372036854775808 ≤ n ∧ n ≤ 9223372036854775807
theorem there_eq (pl k : Int) : thereI 64 pl k = thereB pl k := by
  unfold thereI thereB
  rw [decide_eq_decide]
  constructor
  · rintro ⟨h1, h2, h3, h4⟩; exact ⟨h1, h2, by omega⟩
  · rintro ⟨h1, h2, h3⟩; exact ⟨h1, h2, by omega, by omega⟩
/-- Two new blocks, and a call behind them that makes memory at most. -/
theorem two_boxes {w w1 : World} {A B : Array Value} {t s : TypeId} (hb : Below ((w.alloc (.cells A t)).alloc (.cells B s)).heap.size ((w.alloc (.cells A t)).alloc (.cells B s)) w1) :
    (∀ j v, A[j]? = some v → w1.cell? ⟨w.heap.size, j, none⟩ = some v) ∧ (∀ j v, B[j]? = some v → w1.cell? ⟨w.heap.size + 1, j, none⟩ = some v) ∧ Below w.heap.size w w1 := by
  have hs : (w.alloc (.cells A t)).heap.size = w.heap.size + 1 := by simp
  have hs2 : ((w.alloc (.cells A t)).alloc (.cells B s)).heap.size = w.heap.size + 2 := by simp
  rw [hs2] at hb
  have e2 : ∀ j v, B[j]? = some v → ((w.alloc (.cells A t)).alloc (.cells B s)).cell? ⟨w.heap.size + 1, j, none⟩ = some v := by
    intro j v hv
    have := cell_of_row ((w.alloc (.cells A t)).alloc (.cells B s)) (w.alloc (.cells A t)).heap.size j B s (0, 0) (heap_alloc_new (w.alloc (.cells A t)) _)
    rw [hs] at this
    rw [this]; exact hv
  have e1 : ∀ j v, A[j]? = some v → ((w.alloc (.cells A t)).alloc (.cells B s)).cell? ⟨w.heap.size, j, none⟩ = some v := by
    intro j v hv
    have hc : (w.alloc (.cells A t)).cell? ⟨w.heap.size, j, none⟩ = some v := by
      rw [cell_of_row _ _ j A t (0, 0) (heap_alloc_new w _)]; exact hv
    have hbl := ((Below.refl (w.alloc (.cells A t)).heap.size (w.alloc (.cells A t))).alloc (Nat.le_refl _) (.cells B s)).block w.heap.size (by rw [hs]; omega)
    exact (World.cell?_of_block (a := ⟨w.heap.size, j, none⟩) hbl).trans hc
  refine ⟨fun j v hv => (World.cell?_of_block (a := ⟨w.heap.size, j, none⟩) (hb.block w.heap.size (by omega))).trans (e1 j v hv), fun j v hv => (World.cell?_of_block (a := ⟨w.heap.size + 1, j, none⟩) (hb.block (w.heap.size + 1) (by omega))).trans (e2 j v hv), ?_⟩
  exact (((Below.refl w.heap.size w).alloc (Nat.le_refl _) _).alloc (by simp) _).trans (hb.mono (by omega))

theorem kept_cell {W W' : World} (hb : Below W.heap.size W W') {b k : Nat} {v : Value} (hc : W.cell? ⟨b, k, none⟩ = some v) : W'.cell? ⟨b, k, none⟩ = some v :=
  (World.cell?_of_block (a := ⟨b, k, none⟩) (hb.block b (World.block_lt_of_cell? W ⟨b, k, none⟩ hc))).trans hc
/-- What a region that calls hands on. -/
def Next (N : Nat) (w W : World) : Prop := Below N w W ∧ N < W.heap.size
@[simp] theorem Next_drew (N : Nat) (w W : World) : Next N w W.drew = Next N w W := propext ⟨fun ⟨b, c⟩ => ⟨⟨b.os, b.tape, b.output, b.size, b.block⟩, c⟩, fun ⟨b, c⟩ => ⟨b.drew, c⟩⟩
theorem Next.next {N : Nat} {w W W' : World} (h : Next N w W) (hb : Below W.heap.size W W') : Next N w W' :=
  ⟨h.1.trans (hb.mono (Nat.le_of_lt h.2)), Nat.lt_of_lt_of_le h.2 hb.size⟩
/-- One new block. -/
theorem one_box (w : World) (A : Array Value) (t : TypeId) :
    (∀ j v, A[j]? = some v → (w.alloc (.cells A t)).cell? ⟨w.heap.size, j, none⟩ = some v) ∧ Next w.heap.size w (w.alloc (.cells A t)) :=
  ⟨fun j v hv => by rw [cell_of_row _ _ j A t (0, 0) (heap_alloc_new w _)]; exact hv, (Below.refl _ _).alloc (Nat.le_refl _) _, by simp⟩

/-- What the calls may stand on: something of the blocks below N. -/
structure Base where
  E : Nat → World → Prop
  next : ∀ {N : Nat} {w w' : World}, E N w → Below N w w' → E N w'
def FitI (i : In) : Prop := I64 i.op ∧ I64 i.kd ∧ I64 i.ar ∧ I64 i.pl ∧ I64 i.n
def FitL (l : List In) : Prop := ∀ (k : Nat) (x : In), l[k]? = some x → FitI x
/-- Instructions, one behind the other, in block b from o on. -/
def Items (w : World) (b o : Nat) (xs : List In) : Prop :=
  ∀ (i : Nat) (x : In), xs[i]? = some x → w.cell? ⟨b, o + i * 5, none⟩ = some (.int .i64 x.op) ∧ w.cell? ⟨b, o + i * 5 + 1, none⟩ = some (.int .i64 x.kd) ∧ w.cell? ⟨b, o + i * 5 + 2, none⟩ = some (.int .i64 x.ar) ∧ w.cell? ⟨b, o + i * 5 + 3, none⟩ = some (.int .i64 x.pl) ∧ w.cell? ⟨b, o + i * 5 + 4, none⟩ = some (.int .i64 x.n)
theorem Items.below {w w' : World} {b o : Nat} {xs : List In} (h : Items w b o xs) {N : Nat} (hb : Below N w w') (hN : b < N) : Items w' b o xs := by
  intro i x hx
  obtain ⟨h1, h2, h3, h4, h5⟩ := h i x hx
  exact ⟨(hb.cell (p := ⟨b, _, none⟩) hN).trans h1, (hb.cell (p := ⟨b, _, none⟩) hN).trans h2, (hb.cell (p := ⟨b, _, none⟩) hN).trans h3, (hb.cell (p := ⟨b, _, none⟩) hN).trans h4, (hb.cell (p := ⟨b, _, none⟩) hN).trans h5⟩
def Lies (w : World) (N : Nat) (ao : Option Addr) (xs : List In) : Prop := 1 ≤ xs.length → ∃ b o, ao = some ⟨b, o, none⟩ ∧ b < N ∧ Items w b o xs
theorem Lies.below {w w' : World} {N : Nat} {ao : Option Addr} {xs : List In} (h : Lies w N ao xs) (hb : Below N w w') : Lies w' N ao xs := by
  intro h1
  obtain ⟨b, o, ha, hlt, hI⟩ := h h1
  exact ⟨b, o, ha, hlt, hI.below hb hlt⟩
theorem Lies.more {w : World} {N M : Nat} {ao : Option Addr} {xs : List In} (h : Lies w N ao xs) (hm : N ≤ M) : Lies w M ao xs := by
  intro h1
  obtain ⟨b, o, ha, hlt, hI⟩ := h h1
  exact ⟨b, o, ha, by omega, hI⟩

/-- How far a law has come: what the calls stand on is as it was. -/
structure Cur (B : Base) (N : Nat) (w0 w : World) : Prop where
  e : B.E N w
  below : Below N w0 w
  size : N ≤ w.heap.size
theorem Cur.next {B : Base} {N : Nat} {w0 w w' : World} (h : Cur B N w0 w) (hb : Below w.heap.size w w') : Cur B N w0 w' :=
  ⟨B.next h.e (hb.mono h.size), h.below.trans (hb.mono h.size), Nat.le_trans h.size hb.size⟩
theorem Cur.first {B : Base} {w : World} (h : B.E w.heap.size w) : Cur B w.heap.size w w := ⟨h, Below.refl _ _, Nat.le_refl _⟩
theorem Cur.drew {B : Base} {N : Nat} {w0 w : World} (h : Cur B N w0 w) : Cur B N w0 w.drew := h.next (Below.refl _ _).drew
theorem Cur.drewN {B : Base} {N : Nat} {w0 w : World} (h : Cur B N w0 w) (n : Nat) : Cur B N w0 (w.drewN n) := h.next ⟨rfl, rfl, rfl, Nat.le_refl _, fun _ _ => rfl⟩
theorem Cur.alloc {B : Base} {N : Nat} {w0 w : World} (h : Cur B N w0 w) (o : Obj) : Cur B N w0 (w.alloc o) := h.next ((Below.refl _ _).alloc (Nat.le_refl _) o)

end Go.Proofs.Ytmlopacekoghkaa.Il

namespace Go.Proofs.Ytmlopacekoghkaa.Il
open Go.RowKit
open Go.Proofs.Ytmlopacekoghkaa.Ic

theorem toL (l : Bs) : (S l).toList = l := by rw [Lib.toList_data]; rfl
theorem s_eq {a b : Bs} (h : a = b) : ((S a).toList == (S b).toList) = true := by rw [h]; simp
theorem s_ne {a b : Bs} (h : a ≠ b) : ((S a).toList == (S b).toList) = false := by
  rw [beq_eq_false_iff_ne, toL, toL]
  exact h
theorem s_nil {a : Bs} (h : a = []) : (S a).toList.isEmpty = true := by rw [toL, h]; rfl
theorem s_some {a : Bs} (h : a ≠ []) : (S a).toList.isEmpty = false := by
  rw [toL, ← Bool.not_eq_true, List.isEmpty_iff]
  exact h

end Go.Proofs.Ytmlopacekoghkaa.Il

namespace Go.Proofs.Ytmlopacekoghkaa.Il
open Go.RowKit
open Go.Proofs.Ytmlopacekoghkaa.Ic

end Go.Proofs.Ytmlopacekoghkaa.Il
