/-
  The landed code of layers 11 and 12, walked: forms. Conditions: as each states.
-/
import Derived.Test.YtmlopacekoghkaaIcR
import Derived.Lib.Strings
import Derived.Test.YtmlopacekoghkaaIlR
import Derived.Deep.RegionHeld3
import Derived.Test.YtmlopacekoghkaaIeBase
namespace Go.Proofs.Ytmlopacekoghkaa.Il
open Go.RowKit
open Go.Proofs.Ytmlopacekoghkaa.Ic

/-- The form of an operation. -/
def formI (op : Int) : Int := if readsB op then 2 else if writesB op then 3 else if jumpB op then 4 else if bareB op || decide (op = 33) then 1 else if op = 31 then 5 else if op = 32 then 6 else if op = 34 ∨ op = 35 then 7 else if op = 36 then 8 else 0
def joinI (op : Int) : Bool := decide (7 ≤ op ∧ op ≤ 24 ∧ op ≠ 13)
theorem op_cases (op : Int) : (op < 1 ∨ 36 < op) ∨ ∃ k : Fin 36, op = (k.val + 1 : Nat) := by
  by_cases h : 1 ≤ op ∧ op ≤ 36
  · right
    exact ⟨⟨op.toNat - 1, by omega⟩, by simp; omega⟩
  · left; omega
theorem form_none (op : Int) (h : op < 1 ∨ 36 < op) : formI op = 0 := by
  unfold formI readsB writesB jumpB bareB
  rw [if_neg (by simp; omega), if_neg (by simp; omega), if_neg (by simp; omega), if_neg (by simp; omega), if_neg (by omega), if_neg (by omega), if_neg (by omega), if_neg (by omega)]

theorem cJoins_any (op : Int) (w : World) : Calls Try.prog 68 #[.int .i64 op] w fun e w' => e = .returned (.bool (joinI op)) ∧ w = w' := by
  by_cases h1 : 7 ≤ op
  · by_cases h2 : op ≤ 24
    · by_cases h3 : op = 13
      · subst h3
        rw [show joinI 13 = false from rfl]
        go_enter Try.func68, Try.ntmps68
        go_wp2
        go_ret
        exact ⟨rfl, rfl⟩
      · rw [show joinI op = true by unfold joinI; rw [decide_eq_true_iff]; exact ⟨h1, h2, h3⟩]
        have e3 : (op != 13) = true := by simpa using h3
        clear h3
        go_enter Try.func68, Try.ntmps68
        go_wp2
        go_ret
        exact ⟨rfl, rfl⟩
    · rw [show joinI op = false by unfold joinI; rw [decide_eq_false_iff_not]; omega]
      go_enter Try.func68, Try.ntmps68
      go_wp2
      go_ret
      exact ⟨rfl, rfl⟩
  · rw [show joinI op = false by unfold joinI; rw [decide_eq_false_iff_not]; omega]
    go_enter Try.func68, Try.ntmps68
    go_wp2
    go_ret
    exact ⟨rfl, rfl⟩

set_option maxHeartbeats 4000000 in
set_option maxRecDepth 100000 in
theorem cForm_none (op : Int) (h : op < 1 ∨ 36 < op) (w : World) : Calls Try.prog 64 #[.int .i64 op] w fun e w' => e = .returned (.int .i64 0) ∧ w = w' := by
  have HJ := Lib.hid (fun W => cJoins_any op W)
  have hj : joinI op = false := by unfold joinI; rw [decide_eq_false_iff_not]; omega
  rw [hj] at HJ
  rcases h with h | h
  all_goals
    clear hj
    go_enter Try.func64, Try.ntmps64
    go_wp2_with fail
    refine (HJ.out _).mono ?_
    rintro e w1 ⟨rfl, rfl⟩
    go_wp2
    go_ret
    exact ⟨rfl, rfl⟩

set_option maxHeartbeats 4000000 in
set_option maxRecDepth 100000 in
theorem cForm_call (op : Int) (h1 : 7 ≤ op) (h2 : op ≤ 24) (h3 : op ≠ 13) (w : World) : Calls Try.prog 64 #[.int .i64 op] w fun e w' => e = .returned (.int .i64 2) ∧ w = w' := by
  have HJ := Lib.hid (fun W => cJoins_any op W)
  have hj : joinI op = true := by unfold joinI; rw [decide_eq_true_iff]; exact ⟨h1, h2, h3⟩
  have e3 : (op == 13) = false := by simpa using h3
  rw [hj] at HJ
  clear hj h3
  go_enter Try.func64, Try.ntmps64
  go_wp2_with fail
  refine (HJ.out _).mono ?_
  rintro e w1 ⟨rfl, rfl⟩
  go_wp2
  go_ret
  exact ⟨rfl, rfl⟩
set_option maxRecDepth 100000 in
theorem cForm_1 (w : World) : Calls Try.prog 64 #[.int .i64 1] w fun e w' => e = .returned (.int .i64 2) ∧ w = w' := by
  go_enter Try.func64, Try.ntmps64
  go_wp2
  go_ret
  exact ⟨rfl, rfl⟩
set_option maxRecDepth 100000 in
theorem cForm_2 (w : World) : Calls Try.prog 64 #[.int .i64 2] w fun e w' => e = .returned (.int .i64 2) ∧ w = w' := by
  go_enter Try.func64, Try.ntmps64
  go_wp2
  go_ret
  exact ⟨rfl, rfl⟩
set_option maxRecDepth 100000 in
theorem cForm_3 (w : World) : Calls Try.prog 64 #[.int .i64 3] w fun e w' => e = .returned (.int .i64 3) ∧ w = w' := by
  go_enter Try.func64, Try.ntmps64
  go_wp2
  go_ret
  exact ⟨rfl, rfl⟩
set_option maxRecDepth 100000 in
theorem cForm_4 (w : World) : Calls Try.prog 64 #[.int .i64 4] w fun e w' => e = .returned (.int .i64 3) ∧ w = w' := by
  go_enter Try.func64, Try.ntmps64
  go_wp2
  go_ret
  exact ⟨rfl, rfl⟩
set_option maxRecDepth 100000 in
theorem cForm_5 (w : World) : Calls Try.prog 64 #[.int .i64 5] w fun e w' => e = .returned (.int .i64 3) ∧ w = w' := by
  go_enter Try.func64, Try.ntmps64
  go_wp2
  go_ret
  exact ⟨rfl, rfl⟩
set_option maxRecDepth 100000 in
theorem cForm_6 (w : World) : Calls Try.prog 64 #[.int .i64 6] w fun e w' => e = .returned (.int .i64 3) ∧ w = w' := by
  go_enter Try.func64, Try.ntmps64
  go_wp2
  go_ret
  exact ⟨rfl, rfl⟩
set_option maxRecDepth 100000 in
theorem cForm_13 (w : World) : Calls Try.prog 64 #[.int .i64 13] w fun e w' => e = .returned (.int .i64 1) ∧ w = w' := by
  go_enter Try.func64, Try.ntmps64
  go_wp2
  go_ret
  exact ⟨rfl, rfl⟩
set_option maxRecDepth 100000 in
theorem cForm_25 (w : World) : Calls Try.prog 64 #[.int .i64 25] w fun e w' => e = .returned (.int .i64 4) ∧ w = w' := by
  go_enter Try.func64, Try.ntmps64
  go_wp2
  go_ret
  exact ⟨rfl, rfl⟩
set_option maxRecDepth 100000 in
theorem cForm_26 (w : World) : Calls Try.prog 64 #[.int .i64 26] w fun e w' => e = .returned (.int .i64 4) ∧ w = w' := by
  go_enter Try.func64, Try.ntmps64
  go_wp2
  go_ret
  exact ⟨rfl, rfl⟩
set_option maxRecDepth 100000 in
theorem cForm_27 (w : World) : Calls Try.prog 64 #[.int .i64 27] w fun e w' => e = .returned (.int .i64 4) ∧ w = w' := by
  go_enter Try.func64, Try.ntmps64
  go_wp2
  go_ret
  exact ⟨rfl, rfl⟩
set_option maxRecDepth 100000 in
theorem cForm_28 (w : World) : Calls Try.prog 64 #[.int .i64 28] w fun e w' => e = .returned (.int .i64 1) ∧ w = w' := by
  go_enter Try.func64, Try.ntmps64
  go_wp2
  go_ret
  exact ⟨rfl, rfl⟩
set_option maxRecDepth 100000 in
theorem cForm_29 (w : World) : Calls Try.prog 64 #[.int .i64 29] w fun e w' => e = .returned (.int .i64 1) ∧ w = w' := by
  go_enter Try.func64, Try.ntmps64
  go_wp2
  go_ret
  exact ⟨rfl, rfl⟩
set_option maxRecDepth 100000 in
theorem cForm_30 (w : World) : Calls Try.prog 64 #[.int .i64 30] w fun e w' => e = .returned (.int .i64 1) ∧ w = w' := by
  go_enter Try.func64, Try.ntmps64
  go_wp2
  go_ret
  exact ⟨rfl, rfl⟩
set_option maxRecDepth 100000 in
theorem cForm_31 (w : World) : Calls Try.prog 64 #[.int .i64 31] w fun e w' => e = .returned (.int .i64 5) ∧ w = w' := by
  go_enter Try.func64, Try.ntmps64
  go_wp2
  go_ret
  exact ⟨rfl, rfl⟩
set_option maxRecDepth 100000 in
theorem cForm_32 (w : World) : Calls Try.prog 64 #[.int .i64 32] w fun e w' => e = .returned (.int .i64 6) ∧ w = w' := by
  go_enter Try.func64, Try.ntmps64
  go_wp2
  go_ret
  exact ⟨rfl, rfl⟩
set_option maxRecDepth 100000 in
theorem cForm_33 (w : World) : Calls Try.prog 64 #[.int .i64 33] w fun e w' => e = .returned (.int .i64 1) ∧ w = w' := by
  go_enter Try.func64, Try.ntmps64
  go_wp2
  go_ret
  exact ⟨rfl, rfl⟩
set_option maxRecDepth 100000 in
theorem cForm_34 (w : World) : Calls Try.prog 64 #[.int .i64 34] w fun e w' => e = .returned (.int .i64 7) ∧ w = w' := by
  go_enter Try.func64, Try.ntmps64
  go_wp2
  go_ret
  exact ⟨rfl, rfl⟩
set_option maxRecDepth 100000 in
theorem cForm_35 (w : World) : Calls Try.prog 64 #[.int .i64 35] w fun e w' => e = .returned (.int .i64 7) ∧ w = w' := by
  go_enter Try.func64, Try.ntmps64
  go_wp2
  go_ret
  exact ⟨rfl, rfl⟩
set_option maxRecDepth 100000 in
theorem cForm_36 (w : World) : Calls Try.prog 64 #[.int .i64 36] w fun e w' => e = .returned (.int .i64 8) ∧ w = w' := by
  go_enter Try.func64, Try.ntmps64
  go_wp2
  go_ret
  exact ⟨rfl, rfl⟩
theorem form_call (op : Int) (h1 : 7 ≤ op) (h2 : op ≤ 24) (h3 : op ≠ 13) : formI op = 2 := by
  unfold formI readsB
  rw [if_pos (by simp; omega)]
theorem cForm_any (op : Int) (w : World) : Calls Try.prog 64 #[.int .i64 op] w fun e w' => e = .returned (.int .i64 (formI op)) ∧ w = w' := by
  by_cases hn : op < 1 ∨ 36 < op
  · rw [form_none op hn]; exact cForm_none op hn w
  by_cases hc : 7 ≤ op ∧ op ≤ 24 ∧ op ≠ 13
  · rw [form_call op hc.1 hc.2.1 hc.2.2]; exact cForm_call op hc.1 hc.2.1 hc.2.2 w
  have hp : op = 1 ∨ op = 2 ∨ op = 3 ∨ op = 4 ∨ op = 5 ∨ op = 6 ∨ op = 13 ∨ op = 25 ∨ op = 26 ∨ op = 27 ∨ op = 28 ∨ op = 29 ∨ op = 30 ∨ op = 31 ∨ op = 32 ∨ op = 33 ∨ op = 34 ∨ op = 35 ∨ op = 36 := by omega
  rcases hp with rfl | rfl | rfl | rfl | rfl | rfl | rfl | rfl | rfl | rfl | rfl | rfl | rfl | rfl | rfl | rfl | rfl | rfl | rfl
  · exact cForm_1 w
  · exact cForm_2 w
  · exact cForm_3 w
  · exact cForm_4 w
  · exact cForm_5 w
  · exact cForm_6 w
  · exact cForm_13 w
  · exact cForm_25 w
  · exact cForm_26 w
  · exact cForm_27 w
  · exact cForm_28 w
  · exact cForm_29 w
  · exact cForm_30 w
  · exact cForm_31 w
  · exact cForm_32 w
  · exact cForm_33 w
  · exact cForm_34 w
  · exact cForm_35 w
  · exact cForm_36 w

end Go.Proofs.Ytmlopacekoghkaa.Il

namespace Go.Proofs.Ytmlopacekoghkaa.Il
open Go.RowKit
open Go.Proofs.Ytmlopacekoghkaa.Ic

def hasB (i : In) (first size : Int) : Bool := decide (first ≤ i.ar ∧ i.ar ≤ 4 ∧ 0 ≤ i.pl ∧ i.pl ≤ 64 - size)
def hasP (i : In) (first : Int) : Bool := decide (szI i.kd ≠ 0) && decide (i.n = 0) && hasB i first (szI i.kd : Nat)
def hasL (i : In) : Bool := decide (i.ar = 0) && decide (i.pl = 0) && isI i.kd i.n

set_option maxHeartbeats 4000000 in
set_option maxRecDepth 100000 in
theorem cBytes_any (i : In) (first size : Int) (hs : 0 ≤ size ∧ size ≤ 64) (w : World) : Calls Try.prog 69 #[insV i, .int .i64 first, .int .i64 size] w (Tells (.bool (hasB i first size)) w) := by
  obtain ⟨op, kd, ar, pl, n⟩ := i
  have hwr : IntKind.i64.wrap (64 - size) = 64 - size := by rw [IntKind.wrap_i64]; omega
  obtain ⟨h0, h1⟩ := hs
  show Calls Try.prog 69 #[.agg #[.int .i64 op, .int .i64 kd, .int .i64 ar, .int .i64 pl, .int .i64 n], .int .i64 first, .int .i64 size] w _
  by_cases a1 : first ≤ ar
  · by_cases a2 : ar ≤ 4
    · by_cases a3 : 0 ≤ pl
      · by_cases a4 : pl ≤ 64 - size
        · rw [show hasB ⟨op, kd, ar, pl, n⟩ first size = true by unfold hasB; rw [decide_eq_true_iff]; exact ⟨a1, a2, a3, a4⟩]
          clear h0 h1
          go_enter Try.func69, Try.ntmps69
          go_wp2
          go_ret
          exact ⟨rfl, (Below.refl _ _).alloc (Nat.le_refl _) _⟩
        · rw [show hasB ⟨op, kd, ar, pl, n⟩ first size = false by unfold hasB; rw [decide_eq_false_iff_not]; exact fun h => a4 h.2.2.2]
          clear h0 h1
          go_enter Try.func69, Try.ntmps69
          go_wp2
          go_ret
          exact ⟨rfl, (Below.refl _ _).alloc (Nat.le_refl _) _⟩
      · rw [show hasB ⟨op, kd, ar, pl, n⟩ first size = false by unfold hasB; rw [decide_eq_false_iff_not]; exact fun h => a3 h.2.2.1]
        clear h0 h1
        go_enter Try.func69, Try.ntmps69
        go_wp2
        go_ret
        exact ⟨rfl, (Below.refl _ _).alloc (Nat.le_refl _) _⟩
    · rw [show hasB ⟨op, kd, ar, pl, n⟩ first size = false by unfold hasB; rw [decide_eq_false_iff_not]; exact fun h => a2 h.2.1]
      clear h0 h1
      go_enter Try.func69, Try.ntmps69
      go_wp2
      go_ret
      exact ⟨rfl, (Below.refl _ _).alloc (Nat.le_refl _) _⟩
  · rw [show hasB ⟨op, kd, ar, pl, n⟩ first size = false by unfold hasB; rw [decide_eq_false_iff_not]; exact fun h => a1 h.1]
    clear h0 h1
    go_enter Try.func69, Try.ntmps69
    go_wp2
    go_ret
    exact ⟨rfl, (Below.refl _ _).alloc (Nat.le_refl _) _⟩

theorem sz_le (k : Int) : szI k ≤ 64 := by
  rcases kinds k with h | rfl | rfl | rfl | rfl | rfl | rfl | rfl
  · rw [sz_none k h]; omega
  all_goals decide

/-- An instruction in a block of its own, and what else stays. -/
def At5 (W : World) (b : Nat) (i : In) : Prop := W.cell? ⟨b, 0, none⟩ = some (.int .i64 i.op) ∧ W.cell? ⟨b, 1, none⟩ = some (.int .i64 i.kd) ∧ W.cell? ⟨b, 2, none⟩ = some (.int .i64 i.ar) ∧ W.cell? ⟨b, 3, none⟩ = some (.int .i64 i.pl) ∧ W.cell? ⟨b, 4, none⟩ = some (.int .i64 i.n)
theorem At5.next {W W' : World} {b : Nat} {i : In} (h : At5 W b i) (hb : Below W.heap.size W W') : At5 W' b i :=
  ⟨kept_cell hb h.1, kept_cell hb h.2.1, kept_cell hb h.2.2.1, kept_cell hb h.2.2.2.1, kept_cell hb h.2.2.2.2⟩
def Box5 (w W : World) (i : In) : Prop := At5 W w.heap.size i ∧ Next w.heap.size w W
theorem Box5.next {w W W' : World} {i : In} (h : Box5 w W i) (hb : Below W.heap.size W W') : Box5 w W' i := ⟨h.1.next hb, h.2.next hb⟩
theorem box5 (w : World) (i : In) (t : TypeId) : Box5 w (w.alloc (.cells #[.int .i64 i.op, .int .i64 i.kd, .int .i64 i.ar, .int .i64 i.pl, .int .i64 i.n] t)) i := by
  obtain ⟨h, hN⟩ := one_box w #[.int .i64 i.op, .int .i64 i.kd, .int .i64 i.ar, .int .i64 i.pl, .int .i64 i.n] t
  exact ⟨⟨h 0 _ rfl, h 1 _ rfl, h 2 _ rfl, h 3 _ rfl, h 4 _ rfl⟩, hN⟩

set_option maxHeartbeats 4000000 in
set_option maxRecDepth 100000 in
theorem cPlace_any (i : In) (first : Int) (w : World) : Calls Try.prog 65 #[insV i, .int .i64 first] w (Tells (.bool (hasP i first)) w) := by
  have HS := Lib.hid (fun W => cSize_any i.kd W)
  have HB := Lib.hid (fun (W : World) => cBytes_any i first (szI i.kd : Nat) ⟨by omega, by have := sz_le i.kd; omega⟩ W)
  have hP : hasP i first = (decide (szI i.kd ≠ 0) && decide (i.n = 0) && hasB i first (szI i.kd : Nat)) := rfl
  rw [hP]
  have hX := Lib.hid (box5 w i 55)
  clear hP
  generalize hasB i first (szI i.kd : Nat) = hb at *
  obtain ⟨op, kd, ar, pl, n⟩ := i
  dsimp only at HS HB hX ⊢
  generalize szI kd = z at *
  have HB2 : Hid (∀ W, Calls Try.prog 69 #[.agg #[.int .i64 op, .int .i64 kd, .int .i64 ar, .int .i64 pl, .int .i64 n], .int .i64 first, .int .i64 z] W (Tells (.bool hb) W)) := HB
  clear HB
  show Calls Try.prog 65 #[.agg #[.int .i64 op, .int .i64 kd, .int .i64 ar, .int .i64 pl, .int .i64 n], .int .i64 first] w _
  by_cases hz : z = 0
  · subst hz
    rw [show (decide ((0 : Nat) ≠ 0) && decide (n = 0) && hb) = false by simp]
    go_enter Try.func65, Try.ntmps65
    go_wp2_with fail
    refine (HS.out _).mono ?_
    rintro e w1 ⟨rfl, hb1⟩
    obtain ⟨⟨c0, c1, c2, c3, c4⟩, hN⟩ := hX.out.next hb1
    dsimp only at c0 c1 c2 c3 c4
    clear hX hb1
    go_wp2
    go_ret
    exact ⟨rfl, hN.1⟩
  · have hzp : 0 < (z : Int) := by omega
    rw [show (decide (z ≠ 0) && decide (n = 0) && hb) = ((n == 0) && hb) by
      rw [decide_eq_true hz]
      by_cases hn : n = 0 <;> simp [hn]]
    by_cases hn : n = 0
    · subst hn
      clear hz
      go_enter Try.func65, Try.ntmps65
      go_wp2_with fail
      refine (HS.out _).mono ?_
      rintro e w1 ⟨rfl, hb1⟩
      have hX1 := Lib.hid (hX.out.next hb1)
      obtain ⟨⟨c0, c1, c2, c3, c4⟩, -⟩ := hX1.out
      dsimp only at c0 c1 c2 c3 c4
      clear hX hb1
      go_wp2_with fail
      refine (HB2.out _).mono ?_
      rintro e w2 ⟨rfl, hb2⟩
      have hN := (hX1.out.next hb2).2
      clear hb2 hX1 c0 c1 c2 c3 c4
      go_wp2
      go_ret
      exact ⟨rfl, hN.1⟩
    · have hq : (n == 0) = false := by simpa using hn
      clear hz hn
      rw [hq]
      go_enter Try.func65, Try.ntmps65
      go_wp2_with fail
      refine (HS.out _).mono ?_
      rintro e w1 ⟨rfl, hb1⟩
      obtain ⟨⟨c0, c1, c2, c3, c4⟩, hN⟩ := hX.out.next hb1
      dsimp only at c0 c1 c2 c3 c4
      clear hX hb1
      go_wp2
      go_ret
      exact ⟨rfl, hN.1⟩

set_option maxHeartbeats 4000000 in
set_option maxRecDepth 100000 in
theorem cLit_any (i : In) (hn : I64 i.n) (w : World) : Calls Try.prog 66 #[insV i] w (Tells (.bool (hasL i)) w) := by
  have HI := Lib.hid (fun (W : World) => cIs_any i.kd i.n W hn.1 hn.2)
  have hP : hasL i = (decide (i.ar = 0) && decide (i.pl = 0) && isI i.kd i.n) := rfl
  rw [hP]
  have hX := Lib.hid (box5 w i 55)
  clear hP hn
  generalize isI i.kd i.n = b at *
  obtain ⟨op, kd, ar, pl, n⟩ := i
  dsimp only at HI hX ⊢
  show Calls Try.prog 66 #[.agg #[.int .i64 op, .int .i64 kd, .int .i64 ar, .int .i64 pl, .int .i64 n]] w _
  by_cases ha : ar = 0
  · subst ha
    by_cases hp : pl = 0
    · subst hp
      rw [show (decide ((0 : Int) = 0) && decide ((0 : Int) = 0) && b) = b by simp]
      obtain ⟨⟨c0, c1, c2, c3, c4⟩, -⟩ := hX.out
      dsimp only at c0 c1 c2 c3 c4
      go_enter Try.func66, Try.ntmps66
      go_wp2_with fail
      refine (HI.out _).mono ?_
      rintro e w1 ⟨rfl, hb1⟩
      have hN := (hX.out.next hb1).2
      clear hb1 hX c0 c1 c2 c3 c4
      go_wp2
      go_ret
      exact ⟨rfl, hN.1⟩
    · have hq : (pl == 0) = false := by simpa using hp
      rw [show (decide ((0 : Int) = 0) && decide (pl = 0) && b) = false by simp [hp]]
      clear hp HI
      go_enter Try.func66, Try.ntmps66
      go_wp2
      go_ret
      exact ⟨rfl, hX.out.2.1⟩
  · have hq : (ar == 0) = false := by simpa using ha
    rw [show (decide (ar = 0) && decide (pl = 0) && b) = false by simp [ha]]
    clear ha HI
    go_enter Try.func66, Try.ntmps66
    go_wp2
    go_ret
    exact ⟨rfl, hX.out.2.1⟩

end Go.Proofs.Ytmlopacekoghkaa.Il
