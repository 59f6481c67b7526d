/-
  The calls of an eye, and of the reference's eye, walked: what each answers, and what is left. Conditions: none but on sizes.
-/
import Derived.Test.YtocjimedbnjmiaaOctPens
import Derived.Test.YtocjimedbnjmiaaOctEyeMath
namespace Go.Proofs.Ytocjimedbnjmiaa
open Go.RowKit
open Oct

/-- Block p is an eye: l is left; blind? -/
def EyeAt (w : World) (p : Nat) (l : List UInt8) (b : Bool) : Prop :=
  w.cell? ⟨p, 0, none⟩ = some (.string (S l)) ∧ w.cell? ⟨p, 1, none⟩ = some (.bool b) ∧ w.frozen? ⟨p, 0, none⟩ = false ∧ w.frozen? ⟨p, 1, none⟩ = false

theorem EyeAt.lt {w : World} {p : Nat} {l : List UInt8} {b : Bool} (h : EyeAt w p l b) : p < w.heap.size := World.block_lt_of_cell? w ⟨p, 0, none⟩ h.1

theorem EyeAt.kept {w w' : World} {p : Nat} {l : List UInt8} {b : Bool} {row : Option Nat} (h : EyeAt w p l b) (hg : w.grownBy w' row) (hne : some p ≠ row) : EyeAt w' p l b := by
  have hb := hg.block p h.lt hne
  obtain ⟨h1, h2, h3, h4⟩ := h
  exact ⟨(World.cell?_of_block (a := ⟨p, 0, none⟩) hb).trans h1, (World.cell?_of_block (a := ⟨p, 1, none⟩) hb).trans h2, (World.frozen?_of_block (a := ⟨p, 0, none⟩) hb).trans h3, (World.frozen?_of_block (a := ⟨p, 1, none⟩) hb).trans h4⟩

theorem only_below {w w' : World} (h : Below w.heap.size w w') (row : Option Nat) : w.grownBy w' row := ⟨h.os, h.tape, h.output, h.size, fun i hi _ => h.block i hi⟩
theorem only_set (w : World) (p o : Nat) (u : Value) : w.grownBy (w.setCell ⟨p, o, none⟩ u) (some p) :=
  ⟨rfl, rfl, rfl, by simp [World.setCell], fun k _ hk => Below.heap_setCell _ _ _ _ (fun e => hk (by simp [e]))⟩
theorem only_trans {a b c : World} {row : Option Nat} (h : a.grownBy b row) (k : b.grownBy c row) : a.grownBy c row :=
  ⟨k.os.trans h.os, k.tape.trans h.tape, k.output.trans h.output, Nat.le_trans h.size k.size, fun i hi hne => (k.block i (Nat.lt_of_lt_of_le hi h.size) hne).trans (h.block i hi hne)⟩
theorem only_refl (w : World) (row : Option Nat) : w.grownBy w row := ⟨rfl, rfl, rfl, Nat.le_refl _, fun _ _ _ => rfl⟩
theorem below_only {N : Nat} {w w' : World} {p : Nat} (h : w.grownBy w' (some p)) (hp : N ≤ p) (hN : N ≤ w.heap.size) : Below N w w' :=
  ⟨h.os, h.tape, h.output, h.size, fun k hk => h.block k (Nat.lt_of_lt_of_le hk hN) (fun e => by injection e; omega)⟩

theorem ne01 (p : Nat) : (⟨p, 1, none⟩ : Addr) ≠ ⟨p, 0, none⟩ := by intro e; injection e; contradiction

theorem EyeAt.set {w : World} {p : Nat} {l : List UInt8} {b : Bool} (h : EyeAt w p l b) (m : List UInt8) (c : Bool) :
    EyeAt (w.setCell ⟨p, 0, none⟩ (.string (S m))) p m b ∧ EyeAt (w.setCell ⟨p, 1, none⟩ (.bool c)) p l c := by
  obtain ⟨h1, h2, h3, h4⟩ := h
  exact ⟨⟨World.cell?_setCell_same _ _ _ h1, by rw [World.cell?_setCell_other _ _ _ _ (ne01 p).symm]; exact h2, (World.frozen?_setCell _ _ _ _).trans h3, (World.frozen?_setCell _ _ _ _).trans h4⟩,
    ⟨by rw [World.cell?_setCell_other _ _ _ _ (ne01 p)]; exact h1, World.cell?_setCell_same _ _ _ h2, (World.frozen?_setCell _ _ _ _).trans h3, (World.frozen?_setCell _ _ _ _).trans h4⟩⟩

/-- What a call that reads leaves: an answer, and an eye. -/
def Reads (v : Value) (w : World) (p : Nat) (l : List UInt8) (b : Bool) (e : Ending) (w' : World) : Prop :=
  e = .returned v ∧ EyeAt w' p l b ∧ w.grownBy w' (some p)

set_option maxHeartbeats 800000 in
theorem take_no (p : Nat) (n : Int) (l : List UInt8) (b : Bool) (w : World) (he : EyeAt w p l b) (h : n < 0 ∨ (0 ≤ n ∧ ((S l).size : Int) < n)) :
    Calls Try.prog 55 #[.pointer (some ⟨p, 0, none⟩), .int .i64 n] w (Reads (.string (S [])) w p [] true) := by
  have HR := Lib.hid (((he.set l true).2.set [] true).1)
  have HG := Lib.hid (only_trans (only_set w p 1 (.bool true)) (only_set (w.setCell ⟨p, 1, none⟩ (.bool true)) p 0 (.string (S []))))
  obtain ⟨h1, h2, h3, h4⟩ := he
  rcases h with h | ⟨h0, h⟩
  all_goals
    go_enter Try.func55, Try.ntmps55
    go_wp2
    go_ret
    exact ⟨rfl, HR.out, HG.out⟩

set_option maxHeartbeats 800000 in
theorem take_yes (p k : Nat) (l : List UInt8) (b : Bool) (w : World) (he : EyeAt w p l b) (h : k ≤ (S l).size) :
    Calls Try.prog 55 #[.pointer (some ⟨p, 0, none⟩), .int .i64 (k : Int)] w (Reads (.string (S (l.take k))) w p (l.drop k) b) := by
  have HR := Lib.hid ((he.set (l.drop k) b).1)
  have HG := Lib.hid (only_set w p 0 (.string (S (l.drop k))))
  rw [← S_drop, ← S_take] at *
  obtain ⟨h1, h2, h3, h4⟩ := he
  go_enter Try.func55, Try.ntmps55
  go_wp2
  go_ret
  exact ⟨rfl, HR.out, HG.out⟩

theorem take_any (p : Nat) (n : Int) (l : List UInt8) (b : Bool) (w : World) (he : EyeAt w p l b) :
    Calls Try.prog 55 #[.pointer (some ⟨p, 0, none⟩), .int .i64 n] w (Reads (.string (S (got n l))) w p (left n l) (lost n l b)) := by
  by_cases h : 0 ≤ n ∧ n ≤ l.length
  · obtain ⟨k, rfl⟩ := Int.eq_ofNat_of_zero_le h.1
    have hk : k ≤ l.length := by omega
    have hf := fits_yes h.1 h.2
    have e1 : got (k : Int) l = l.take k := by simp [got, hf]
    have e2 : left (k : Int) l = l.drop k := by simp [left, hf]
    have e3 : lost (k : Int) l b = b := by simp [lost, hf]
    rw [e1, e2, e3]
    exact take_yes p k l b w he (by rw [S_size]; exact hk)
  · have hn : n < 0 ∨ (l.length : Int) < n := by omega
    have hf := fits_no hn
    have e1 : got n l = [] := by simp [got, hf]
    have e2 : left n l = [] := by simp [left, hf]
    have e3 : lost n l b = true := by simp [lost, hf]
    rw [e1, e2, e3]
    exact take_no p n l b w he (by rw [S_size]; omega)

set_option maxHeartbeats 800000 in
theorem rtake_lost (p : Nat) (n : Int) (l : List UInt8) (w : World) (he : EyeAt w p l true) :
    Calls Try.prog 49 #[.pointer (some ⟨p, 0, none⟩), .int .i64 n] w (Reads (.string (S [])) w p l true) := by
  have HR := Lib.hid ((he.set l true).2)
  have HG := Lib.hid (only_set w p 1 (.bool true))
  obtain ⟨h1, h2, h3, h4⟩ := he
  go_enter Try.func49, Try.ntmps49
  go_wp2
  go_ret
  exact ⟨rfl, HR.out, HG.out⟩

set_option maxHeartbeats 800000 in
theorem rtake_no (p : Nat) (n : Int) (l : List UInt8) (w : World) (he : EyeAt w p l false) (h : n < 0 ∨ (0 ≤ n ∧ ((S l).size : Int) < n)) :
    Calls Try.prog 49 #[.pointer (some ⟨p, 0, none⟩), .int .i64 n] w (Reads (.string (S [])) w p l true) := by
  have HR := Lib.hid ((he.set l true).2)
  have HG := Lib.hid (only_set w p 1 (.bool true))
  obtain ⟨h1, h2, h3, h4⟩ := he
  rcases h with h | ⟨h0, h⟩
  all_goals
    go_enter Try.func49, Try.ntmps49
    go_wp2
    go_ret
    exact ⟨rfl, HR.out, HG.out⟩

set_option maxHeartbeats 800000 in
theorem rtake_yes (p k : Nat) (l : List UInt8) (w : World) (he : EyeAt w p l false) (h : k ≤ (S l).size) :
    Calls Try.prog 49 #[.pointer (some ⟨p, 0, none⟩), .int .i64 (k : Int)] w (Reads (.string (S (l.take k))) w p (l.drop k) false) := by
  have HR := Lib.hid ((he.set (l.drop k) false).1)
  have HG := Lib.hid (only_set w p 0 (.string (S (l.drop k))))
  rw [← S_drop, ← S_take] at *
  obtain ⟨h1, h2, h3, h4⟩ := he
  go_enter Try.func49, Try.ntmps49
  go_wp2
  go_ret
  exact ⟨rfl, HR.out, HG.out⟩

theorem rtake_any (p : Nat) (n : Int) (l : List UInt8) (b : Bool) (w : World) (he : EyeAt w p l b) :
    Calls Try.prog 49 #[.pointer (some ⟨p, 0, none⟩), .int .i64 n] w (Reads (.string (S (rgot n l b))) w p (rleft n l b) (rlost n l b)) := by
  cases b
  · by_cases h : 0 ≤ n ∧ n ≤ l.length
    · obtain ⟨k, rfl⟩ := Int.eq_ofNat_of_zero_le h.1
      have hk : k ≤ l.length := by omega
      have hf := fits_yes h.1 h.2
      have e1 : rgot (k : Int) l false = l.take k := by simp [rgot, hf]
      have e2 : rleft (k : Int) l false = l.drop k := by simp [rleft, hf]
      have e3 : rlost (k : Int) l false = false := by simp [rlost, hf]
      rw [e1, e2, e3]
      exact rtake_yes p k l w he (by rw [S_size]; exact hk)
    · have hn : n < 0 ∨ (l.length : Int) < n := by omega
      have hf := fits_no hn
      have e1 : rgot n l false = [] := by simp [rgot, hf]
      have e2 : rleft n l false = l := by simp [rleft, hf]
      have e3 : rlost n l false = true := by simp [rlost, hf]
      rw [e1, e2, e3]
      exact rtake_no p n l w he (by rw [S_size]; omega)
  · exact rtake_lost p n l w he

end Go.Proofs.Ytocjimedbnjmiaa
