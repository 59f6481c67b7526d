/-
  The landed code's hasBytes, hasPlace, hasLiteral, Right, walked. Conditions: numbers that an int holds.
-/
import Derived.Test.YtbejajnhgoejhaaIkA
import Derived.Deep.RegionHeld3
namespace Go.Proofs.Ytbejajnhgoejhaa.Il
open Go.RowKit
open Go.Proofs.Ytbejajnhgoejhaa.Ic

def hasB (i : In) (first size : Int) : Bool := decide (first ≤ i.ar ∧ i.ar ≤ 4 ∧ 0 ≤ i.pl ∧ i.pl ≤ 64 - size)
def hasP (i : In) (first : Int) : Bool := decide (szI i.kd ≠ 0) && decide (i.n = 0) && hasB i first (szI i.kd : Nat)
def hasL (i : In) : Bool := decide (i.ar = 0) && decide (i.pl = 0) && isI i.kd i.n

set_option maxHeartbeats 4000000 in
set_option maxRecDepth 100000 in
theorem cBytes_any (i : In) (first size : Int) (hs : 0 ≤ size ∧ size ≤ 64) (w : World) : Calls Try.prog 43 #[insV i, .int .i64 first, .int .i64 size] w (Tells (.bool (hasB i first size)) w) := by
  obtain ⟨op, kd, ar, pl, n⟩ := i
  have hwr : IntKind.i64.wrap (64 - size) = 64 - size := by rw [IntKind.wrap_i64]; omega
  obtain ⟨h0, h1⟩ := hs
  show Calls Try.prog 43 #[.agg #[.int .i64 op, .int .i64 kd, .int .i64 ar, .int .i64 pl, .int .i64 n], .int .i64 first, .int .i64 size] w _
  by_cases a1 : first ≤ ar
  · by_cases a2 : ar ≤ 4
    · by_cases a3 : 0 ≤ pl
      · by_cases a4 : pl ≤ 64 - size
        · rw [show hasB ⟨op, kd, ar, pl, n⟩ first size = true by unfold hasB; rw [decide_eq_true_iff]; exact ⟨a1, a2, a3, a4⟩]
          clear h0 h1
          go_enter Try.func43, Try.ntmps43
          go_wp2
          go_ret
          exact ⟨rfl, (Below.refl _ _).alloc (Nat.le_refl _) _⟩
        · rw [show hasB ⟨op, kd, ar, pl, n⟩ first size = false by unfold hasB; rw [decide_eq_false_iff_not]; exact fun h => a4 h.2.2.2]
          clear h0 h1
          go_enter Try.func43, Try.ntmps43
          go_wp2
          go_ret
          exact ⟨rfl, (Below.refl _ _).alloc (Nat.le_refl _) _⟩
      · rw [show hasB ⟨op, kd, ar, pl, n⟩ first size = false by unfold hasB; rw [decide_eq_false_iff_not]; exact fun h => a3 h.2.2.1]
        clear h0 h1
        go_enter Try.func43, Try.ntmps43
        go_wp2
        go_ret
        exact ⟨rfl, (Below.refl _ _).alloc (Nat.le_refl _) _⟩
    · rw [show hasB ⟨op, kd, ar, pl, n⟩ first size = false by unfold hasB; rw [decide_eq_false_iff_not]; exact fun h => a2 h.2.1]
      clear h0 h1
      go_enter Try.func43, Try.ntmps43
      go_wp2
      go_ret
      exact ⟨rfl, (Below.refl _ _).alloc (Nat.le_refl _) _⟩
  · rw [show hasB ⟨op, kd, ar, pl, n⟩ first size = false by unfold hasB; rw [decide_eq_false_iff_not]; exact fun h => a1 h.1]
    clear h0 h1
    go_enter Try.func43, Try.ntmps43
    go_wp2
    go_ret
    exact ⟨rfl, (Below.refl _ _).alloc (Nat.le_refl _) _⟩

theorem sz_le (k : Int) : szI k ≤ 64 := by
  rcases kinds k with h | rfl | rfl | rfl | rfl | rfl | rfl | rfl
  · rw [sz_none k h]; omega
  all_goals decide

/-- An instruction in a block of its own, and what else stays. -/
def At5 (W : World) (b : Nat) (i : In) : Prop := W.cell? ⟨b, 0, none⟩ = some (.int .i64 i.op) ∧ W.cell? ⟨b, 1, none⟩ = some (.int .i64 i.kd) ∧ W.cell? ⟨b, 2, none⟩ = some (.int .i64 i.ar) ∧ W.cell? ⟨b, 3, none⟩ = some (.int .i64 i.pl) ∧ W.cell? ⟨b, 4, none⟩ = some (.int .i64 i.n)
theorem At5.next {W W' : World} {b : Nat} {i : In} (h : At5 W b i) (hb : Below W.heap.size W W') : At5 W' b i :=
  ⟨kept_cell hb h.1, kept_cell hb h.2.1, kept_cell hb h.2.2.1, kept_cell hb h.2.2.2.1, kept_cell hb h.2.2.2.2⟩
def Box5 (w W : World) (i : In) : Prop := At5 W w.heap.size i ∧ Next w.heap.size w W
theorem Box5.next {w W W' : World} {i : In} (h : Box5 w W i) (hb : Below W.heap.size W W') : Box5 w W' i := ⟨h.1.next hb, h.2.next hb⟩
theorem box5 (w : World) (i : In) (t : TypeId) : Box5 w (w.alloc (.cells #[.int .i64 i.op, .int .i64 i.kd, .int .i64 i.ar, .int .i64 i.pl, .int .i64 i.n] t)) i := by
  obtain ⟨h, hN⟩ := one_box w #[.int .i64 i.op, .int .i64 i.kd, .int .i64 i.ar, .int .i64 i.pl, .int .i64 i.n] t
  exact ⟨⟨h 0 _ rfl, h 1 _ rfl, h 2 _ rfl, h 3 _ rfl, h 4 _ rfl⟩, hN⟩

set_option maxHeartbeats 4000000 in
set_option maxRecDepth 100000 in
theorem cPlace_any (i : In) (first : Int) (w : World) : Calls Try.prog 40 #[insV i, .int .i64 first] w (Tells (.bool (hasP i first)) w) := by
  have HS := Lib.hid (fun W => cSize_any i.kd W)
  have HB := Lib.hid (fun (W : World) => cBytes_any i first (szI i.kd : Nat) ⟨by omega, by have := sz_le i.kd; omega⟩ W)
  have hP : hasP i first = (decide (szI i.kd ≠ 0) && decide (i.n = 0) && hasB i first (szI i.kd : Nat)) := rfl
  rw [hP]
  have hX := Lib.hid (box5 w i 41)
  clear hP
  generalize hasB i first (szI i.kd : Nat) = hb at *
  obtain ⟨op, kd, ar, pl, n⟩ := i
  dsimp only at HS HB hX ⊢
  generalize szI kd = z at *
  have HB2 : Hid (∀ W, Calls Try.prog 43 #[.agg #[.int .i64 op, .int .i64 kd, .int .i64 ar, .int .i64 pl, .int .i64 n], .int .i64 first, .int .i64 z] W (Tells (.bool hb) W)) := HB
  clear HB
  show Calls Try.prog 40 #[.agg #[.int .i64 op, .int .i64 kd, .int .i64 ar, .int .i64 pl, .int .i64 n], .int .i64 first] w _
  by_cases hz : z = 0
  · subst hz
    rw [show (decide ((0 : Nat) ≠ 0) && decide (n = 0) && hb) = false by simp]
    go_enter Try.func40, Try.ntmps40
    go_wp2_with fail
    refine (HS.out _).mono ?_
    rintro e w1 ⟨rfl, hb1⟩
    obtain ⟨⟨c0, c1, c2, c3, c4⟩, hN⟩ := hX.out.next hb1
    dsimp only at c0 c1 c2 c3 c4
    clear hX hb1
    go_wp2
    go_ret
    exact ⟨rfl, hN.1⟩
  · have hzp : 0 < (z : Int) := by omega
    rw [show (decide (z ≠ 0) && decide (n = 0) && hb) = ((n == 0) && hb) by
      rw [decide_eq_true hz]
      by_cases hn : n = 0 <;> simp [hn]]
    by_cases hn : n = 0
    · subst hn
      clear hz
      go_enter Try.func40, Try.ntmps40
      go_wp2_with fail
      refine (HS.out _).mono ?_
      rintro e w1 ⟨rfl, hb1⟩
      have hX1 := Lib.hid (hX.out.next hb1)
      obtain ⟨⟨c0, c1, c2, c3, c4⟩, -⟩ := hX1.out
      dsimp only at c0 c1 c2 c3 c4
      clear hX hb1
      go_wp2_with fail
      refine (HB2.out _).mono ?_
      rintro e w2 ⟨rfl, hb2⟩
      have hN := (hX1.out.next hb2).2
      clear hb2 hX1 c0 c1 c2 c3 c4
      go_wp2
      go_ret
      exact ⟨rfl, hN.1⟩
    · have hq : (n == 0) = false := by simpa using hn
      clear hz hn
      rw [hq]
      go_enter Try.func40, Try.ntmps40
      go_wp2_with fail
      refine (HS.out _).mono ?_
      rintro e w1 ⟨rfl, hb1⟩
      obtain ⟨⟨c0, c1, c2, c3, c4⟩, hN⟩ := hX.out.next hb1
      dsimp only at c0 c1 c2 c3 c4
      clear hX hb1
      go_wp2
      go_ret
      exact ⟨rfl, hN.1⟩

set_option maxHeartbeats 4000000 in
set_option maxRecDepth 100000 in
theorem cLit_any (i : In) (hn : I64 i.n) (w : World) : Calls Try.prog 41 #[insV i] w (Tells (.bool (hasL i)) w) := by
  have HI := Lib.hid (fun (W : World) => cIs_any i.kd i.n W hn.1 hn.2)
  have hP : hasL i = (decide (i.ar = 0) && decide (i.pl = 0) && isI i.kd i.n) := rfl
  rw [hP]
  have hX := Lib.hid (box5 w i 41)
  clear hP hn
  generalize isI i.kd i.n = b at *
  obtain ⟨op, kd, ar, pl, n⟩ := i
  dsimp only at HI hX ⊢
  show Calls Try.prog 41 #[.agg #[.int .i64 op, .int .i64 kd, .int .i64 ar, .int .i64 pl, .int .i64 n]] w _
  by_cases ha : ar = 0
  · subst ha
    by_cases hp : pl = 0
    · subst hp
      rw [show (decide ((0 : Int) = 0) && decide ((0 : Int) = 0) && b) = b by simp]
      obtain ⟨⟨c0, c1, c2, c3, c4⟩, -⟩ := hX.out
      dsimp only at c0 c1 c2 c3 c4
      go_enter Try.func41, Try.ntmps41
      go_wp2_with fail
      refine (HI.out _).mono ?_
      rintro e w1 ⟨rfl, hb1⟩
      have hN := (hX.out.next hb1).2
      clear hb1 hX c0 c1 c2 c3 c4
      go_wp2
      go_ret
      exact ⟨rfl, hN.1⟩
    · have hq : (pl == 0) = false := by simpa using hp
      rw [show (decide ((0 : Int) = 0) && decide (pl = 0) && b) = false by simp [hp]]
      clear hp HI
      go_enter Try.func41, Try.ntmps41
      go_wp2
      go_ret
      exact ⟨rfl, hX.out.2.1⟩
  · have hq : (ar == 0) = false := by simpa using ha
    rw [show (decide (ar = 0) && decide (pl = 0) && b) = false by simp [ha]]
    clear ha HI
    go_enter Try.func41, Try.ntmps41
    go_wp2
    go_ret
    exact ⟨rfl, hX.out.2.1⟩

end Go.Proofs.Ytbejajnhgoejhaa.Il
