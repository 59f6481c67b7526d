/-
  The reference's Print, walked. Conditions: no more than 60 instructions.
-/
import Derived.Test.YtpnjhodpbjhmcaaDoorIlCode
import Derived.Test.YtpnjhodpbjhmcaaDoorIlSplit
namespace Go.Proofs.YtpnjhodpbjhmcaaDoor.Il
open Go.RowKit
open Go.Proofs.YtpnjhodpbjhmcaaDoor.Ic

theorem arg_len {i : In} (h : rightI i = true) : (argL i).length ≤ 42 := by
  have hk := kind_len i.kd
  have hd := fun (h : i.pl ≤ 1000) => dec_len19 (u := i.pl.toNat) (by omega)
  have hway := right_way h
  have hb : i.pl ≤ 1000 ∧ -1000000000000000000 ≤ i.n ∧ i.n ≤ 1000000000000000000 ∨ argL i = nmI i.kd := by
    cases hway with
    | lit h ha hp hn => have := is_bd hn; left; omega
    | get h h1 h4 ht hn => have := there_bd ht; left; omega
    | put h h1 h4 ht hn => have := there_bd ht; left; omega
    | jump h hk ha h0 h1 hn => left; omega
    | bare h hk ha hp hn => left; omega
    | close h hk ha hp hn => left; omega
    | conv h hk ha hp hn => left; omega
    | opens h hk ha hr2 hp hn =>
      obtain ⟨k1, k2, k3, k4, k5, k6, k7, k8, k9, k10, k11⟩ := (op_facts i.pl).1 hr2
      left; omega
    | timer h hk h3 h4 h0 h1 hn hm => left; omega
    | trig h hk h3 h4 h0 h1 hn => left; omega
  rcases hb with ⟨b1, b2, b3⟩ | hb
  · have hd := dec_len19 (u := i.pl.toNat) (by omega)
    have ha := area_len i.ar i.pl (by omega)
    have hi := itoa_len i.n b2 b3
    unfold argL
    split
    · simp; omega
    split
    · omega
    split
    · simp; omega
    split
    · omega
    split <;> (simp; omega)
  · rw [hb]; omega
theorem spell_len (i : In) : (spellL i).length ≤ 60 := by
  unfold spellL
  split
  · next h =>
    have ha := arg_len h
    have hn : ∀ op : Int, (opName op).length ≤ 5 := fun op => by
      unfold opName
      by_cases h37 : op.toNat < 37
      · exact name_len ⟨op.toNat, h37⟩
      · have : namesL.length = 37 := rfl
        rw [List.getD_eq_getElem?_getD, List.getElem?_eq_none (by omega)]
        decide
    have h1 := hn i.op
    have h2 := hn i.pl
    unfold spellW
    split
    · simp [joinW]
    split
    · simp [joinW]; omega
    split
    · simp [joinW]; omega
    · simp [joinW]; omega
  · simp
theorem label_len (k : Nat) (h : k ≤ 1000) : (labelL k).length ≤ 20 := by
  unfold labelL
  have := dec_len19 (u := k) (by omega)
  simp; omega
theorem print_len (led : List Nat) : ∀ (l : List In) (k : Nat), k + l.length ≤ 1000 → (printFrom led k l).length ≤ (l.length + 1) * 100
  | [], k, h => by
    have := label_len k (by simp at h; omega)
    unfold printFrom
    split <;> simp; omega
  | i :: r, k, h => by
    simp at h
    have ih := print_len led r (k + 1) (by omega)
    have h1 := label_len k (by omega)
    have h2 := spell_len i
    unfold printFrom
    simp only [List.length_append, List.length_cons]
    have h3 : (if k ∈ led then labelL k ++ [58, 10] else []).length ≤ 22 := by split <;> simp; omega
    omega
def intsN (l : List Nat) : List Value := l.map fun j : Nat => Value.int .i64 (j : Int)
theorem infoInt : (Tryd.prog.info? 3).map (fun i => (i.zero, i.size, i.bytes)) = some (some (.int .i64 0), 1, 8) := by kernel_rfl
/-- The first k instructions may be printed. -/
def Okay (l : List In) (k : Nat) : Prop := ∀ (j : Nat) (x : In), j < k → l[j]? = some x → rightI x = true ∧ (jumpB x.op = true → x.pl ≤ l.length)
theorem Okay.all {l : List In} (h : Okay l l.length) : printsB l = true := by
  unfold printsB
  rw [List.all_eq_true]
  intro x hx
  obtain ⟨j, hj, e⟩ := List.mem_iff_getElem.1 hx
  obtain ⟨h1, h2⟩ := h j x hj (by rw [← e]; exact List.getElem?_eq_getElem hj)
  by_cases hj : jumpB x.op = true
  · simp [h1, hj, h2 hj]
  · simp [h1, hj]
theorem not_right {l : List In} {k : Nat} {x : In} (hx : l[k]? = some x) (h : rightI x = false) : printsB l = false := by
  unfold printsB
  rw [List.all_eq_false]
  exact ⟨x, List.mem_of_getElem? hx, by simp [h]⟩
theorem not_led {l : List In} {k : Nat} {x : In} (hx : l[k]? = some x) (h : jumpB x.op = true) (h2 : (l.length : Int) < x.pl) : printsB l = false := by
  unfold printsB
  rw [List.all_eq_false]
  refine ⟨x, List.mem_of_getElem? hx, ?_⟩
  have : ¬ x.pl ≤ l.length := by omega
  simp [h, this]
theorem led_snoc {l : List In} {k : Nat} {x : In} (hx : l[k]? = some x) : ledB (l.take (k + 1)) = ledB (l.take k) ++ (if jumpB x.op then [x.pl.toNat] else []) := by
  unfold ledB
  rw [List.take_add_one, hx]
  simp only [Option.toList, List.filter_append, List.map_append]
  congr 1
  by_cases h : jumpB x.op = true <;> simp [h]
theorem led_length (l : List In) : (ledB l).length ≤ l.length := by
  unfold ledB
  rw [List.length_map]
  exact List.length_filter_le _ _
def labOf (led : List Nat) (k : Nat) : Bs := if k ∈ led then labelL k ++ [58, 10] else []
/-- What is still to be printed, from instruction k on. -/
def restOf (led : List Nat) (l : List In) (k : Nat) : Bs := if k ≤ l.length then printFrom led k (l.drop k) else []
theorem rest_step {led : List Nat} {l : List In} {k : Nat} {x : In} (hx : l[k]? = some x) : restOf led l k = labOf led k ++ (spellL x ++ 10 :: restOf led l (k + 1)) := by
  obtain ⟨h1, h2⟩ := List.getElem?_eq_some_iff.1 hx
  unfold restOf labOf
  rw [if_pos (show k ≤ l.length by omega), if_pos (show k + 1 ≤ l.length by omega), List.drop_eq_getElem_cons h1, h2]
  show (if k ∈ led then labelL k ++ [58, 10] else []) ++ spellL x ++ 10 :: printFrom led (k + 1) (l.drop (k + 1)) = _
  rw [List.append_assoc]
theorem rest_last (led : List Nat) (l : List In) : restOf led l l.length = labOf led l.length := by
  unfold restOf labOf
  rw [if_pos (Nat.le_refl _), List.drop_length]
  rfl
theorem restOf_len (led : List Nat) (l : List In) (k : Nat) (h : l.length ≤ 60) : (restOf led l k).length ≤ 6100 := by
  unfold restOf
  split
  · have := print_len led (l.drop k) k (by simp; omega)
    simp at this; omega
  · simp

theorem glue2 {p q : ByteArray} {a b : Bs} (m n : Nat) (hp : p = S a) (hq : q = S b) (ha : a.length ≤ m) (hb : b.length ≤ n) (h : m + n ≤ 100000) : ∃ t, t = S (a ++ b) ∧ (a ++ b).length ≤ m + n ∧ ∀ W, (Op.stringOp .add p q).run Tryd.prog W = .ok (.string t) W := by
  subst hp hq
  exact ⟨_, rfl, by rw [List.length_append]; omega, sadd a b (by omega)⟩
theorem printL_len (l : List In) (h : l.length ≤ 60) : (printL l).length ≤ 6100 := by
  unfold printL
  have := print_len (ledB l) l 0 (by omega)
  omega
/-- Where jumps lead, in a row of the call's own. -/
def LedAt (N : Nat) (w W : World) (A : Option Addr) (m c : Nat) (l : List In) : Prop := W.ownsRow N 3 1 (.slice A m c) m (intsN (ledB l)) ∧ Below N w W ∧ N ≤ W.heap.size
theorem led_form {N m : Nat} {W : World} {v : Value} {l : List In} (h : W.ownsRow N 3 1 v m (intsN (ledB l))) : ∃ A c, v = .slice A m c ∧ True := by
  rcases h.2 with ⟨rfl, h0⟩ | ⟨g, cap, cur, rfl, _⟩
  · exact ⟨none, 0, by rw [h0], trivial⟩
  · exact ⟨_, _, rfl, trivial⟩
theorem led_cell {N m c j y : Nat} {w W : World} {A : Option Addr} {l : List In} (h : LedAt N w W A m c l) (hy : (ledB l)[j]? = some y) (hj : j < m) : ∃ g, A = some ⟨g, 0, none⟩ ∧ W.cell? ⟨g, j, none⟩ = some (.int .i64 (y : Int)) := by
  rcases h.1.2 with ⟨h1, h0⟩ | ⟨g, cap, cur, h1, _⟩
  · omega
  · injection h1 with h1 _ _
    subst h1
    refine ⟨g, rfl, ?_⟩
    rw [World.ownsRow.cellAt h.1 j (by omega)]
    simp [intsN, hy]
theorem led_next {N m c : Nat} {w W W' : World} {A : Option Addr} {l : List In} (h : LedAt N w W A m c l) (hb : Below W.heap.size W W') : LedAt N w W' A m c l :=
  ⟨World.ownsRow.kept h.1 (row := none) ⟨hb.os, hb.tape, hb.output, hb.size, fun j hj _ => hb.block j hj⟩ (by cases Value.ownBlock _ <;> simp), h.2.1.trans (hb.mono h.2.2), Nat.le_trans h.2.2 hb.size⟩
/-- A call told of an instruction that lies in memory. -/
theorem ins_kept {w0 wr : World} {N b o k : Nat} {l : List In} {x : In} (hI : Items w0 b o l) (hb : Below N w0 wr) (hlt : b < N) (hx : l[k]? = some x) :
    wr.cell? ⟨b, o + k * 5, none⟩ = some (.int .i64 x.op) ∧ wr.cell? ⟨b, o + k * 5 + 1, none⟩ = some (.int .i64 x.kd) ∧ wr.cell? ⟨b, o + k * 5 + 2, none⟩ = some (.int .i64 x.ar) ∧ wr.cell? ⟨b, o + k * 5 + 3, none⟩ = some (.int .i64 x.pl) ∧ wr.cell? ⟨b, o + k * 5 + 4, none⟩ = some (.int .i64 x.n) :=
  (hI.below hb hlt) k x hx

end Go.Proofs.YtpnjhodpbjhmcaaDoor.Il
