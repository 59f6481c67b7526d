/-
  The code's Decode: what it stands on: crc.Open's answers, the row that is made, an instruction stored in it. Conditions: texts of up to 4000 bytes.
-/
import Derived.Test.YtocjimedbnjmiaaCcRead
import Derived.Test.YtocjimedbnjmiaaCoLaw
import Derived.Laws.MakeOwn
namespace Go.Proofs.Ytocjimedbnjmiaa.Co
open Go.RowKit
open Go.Proofs.Ytocjimedbnjmiaa.Il hiding S S_size S_app S_list S_inj
open Go.Proofs.Ytocjimedbnjmiaa.Ic Go.Proofs.Ytocjimedbnjmiaa.Oct Sums

section
variable {t b : Bs}
theorem cOpen_ok (hb : b = t.take (t.length - 2)) (h2 : 2 ≤ t.length) (hl : t.length ≤ 4000) (hse : sealL b = t) (W : World) :
    Calls Try.prog 22 #[.string (S t)] W fun e w' => e = .returned (.tuple #[.string (S b), .bool true]) ∧ Below W.heap.size W w' := by
  have h := open_yes (S t) W (by rw [S_size]; omega) (by rw [S_size]; omega) (by rw [S_size, S_take, ← hb, seal_S, hse])
  rw [S_size, S_take, ← hb] at h
  exact h
theorem cOpen_no (hb : b = t.take (t.length - 2)) (h2 : 2 ≤ t.length) (hl : t.length ≤ 4000) (hse : sealL b ≠ t) (W : World) :
    Calls Try.prog 22 #[.string (S t)] W fun e w' => e = .returned (.tuple #[.string (S []), .bool false]) ∧ Below W.heap.size W w' :=
  open_no (S t) W (by rw [S_size]; omega) (by rw [S_size]; omega) (by
    rw [S_size, S_take, ← hb, seal_S]
    intro e
    exact hse (congrArg (fun z : ByteArray => z.data.toList) e))
theorem cOpen_short (h2 : t.length < 2) (W : World) :
    Calls Try.prog 22 #[.string (S t)] W fun e w' => e = .returned (.tuple #[.string (S []), .bool false]) ∧ Below W.heap.size W w' :=
  open_short (S t) W (by rw [S_size]; omega)
end

def zeroIn : In := ⟨0, 0, 0, 0, 0⟩
def zero5 : Array Value := #[.int .i64 0, .int .i64 0, .int .i64 0, .int .i64 0, .int .i64 0]
theorem zero5_at (i : Nat) : zero5[i % zero5.size]! = .int .i64 0 := by
  have h : i % 5 < 5 := Nat.mod_lt _ (by omega)
  show zero5[i % 5]! = _
  generalize i % 5 = j at *
  match j, h with
  | 0, _ => rfl
  | 1, _ => rfl
  | 2, _ => rfl
  | 3, _ => rfl
  | 4, _ => rfl
theorem made_list (m : Nat) : (madeCells zero5 m).toList = List.replicate m (.int .i64 0) := by
  unfold madeCells
  rw [Array.toList_map, Array.toList_range]
  have h : (fun x => zero5[x % zero5.size]!) = fun _ : Nat => Value.int .i64 0 := funext zero5_at
  rw [h, List.map_const', List.length_range]
theorem zero_flat : ∀ n : Nat, flat5 (List.replicate n zeroIn) = List.replicate (n * 5) (.int .i64 0)
  | 0 => rfl
  | n + 1 => by
    rw [List.replicate_succ, show (n + 1) * 5 = 5 + n * 5 by omega, ← List.replicate_append_replicate, ← zero_flat n]
    rfl
theorem made_row (w : World) (N n : Nat) (hN : N ≤ w.heap.size) (hn : n ≤ 255) :
    (w.alloc (.cells (madeCells zero5 (n * 5)) 45)).ownsRow N 45 5 (.slice (some ⟨w.heap.size, 0, none⟩) n n) n (flat5 (List.replicate n zeroIn)) := by
  have h := World.ownsRow_lit (base := N) (e := 45) (size := 5) w (madeCells zero5 (n * 5)) n hN (by unfold maxLen; omega) (by rw [size_madeCells])
  rw [made_list, ← zero_flat] at h
  exact h
theorem mk5 (n : Nat) (hn : n ≤ 255) (w : World) : (Instr.makeSlice 22 (.int .i64 (n : Int)) (.int .i64 (n : Int))).run Try.prog w = .ok (.slice (some ⟨w.heap.size, 0, none⟩) n n) (w.alloc (.cells (madeCells zero5 (n * 5)) 45)) := by
  obtain ⟨i0, hi0, hi1, hi2, hi3⟩ := info_parts infoIns
  have h := run_make (P := Try.prog) w 22 45 i0 _ Try.underlying22 hi0 hi1 .i64 .i64 n n (by omega) (by omega) (by rw [hi3]; omega) (by omega)
  rw [hi2, Int.toNat_natCast] at h
  exact h
theorem set5_flat (x : In) : ∀ (xs : List In) (k : Nat), k < xs.length →
    (((((flat5 xs).set (k * 5) (.int .i64 x.op)).set (k * 5 + 1) (.int .i64 x.kd)).set (k * 5 + 2) (.int .i64 x.ar)).set (k * 5 + 3) (.int .i64 x.pl)).set (k * 5 + 4) (.int .i64 x.n) = flat5 (xs.set k x)
  | [], _, h => by simp at h
  | y :: ys, 0, _ => rfl
  | y :: ys, k + 1, h => by
    have ih := set5_flat x ys k (by simpa using h)
    have e : ∀ l, flat5 (y :: l) = .int .i64 y.op :: .int .i64 y.kd :: .int .i64 y.ar :: .int .i64 y.pl :: .int .i64 y.n :: flat5 l := fun l => rfl
    rw [List.set_cons_succ, e, e, ← ih, show (k + 1) * 5 = k * 5 + 1 + 1 + 1 + 1 + 1 by omega]
    rfl
/-- The world with an instruction stored. -/
def put5 (w : World) (g o : Nat) (x : In) : World := ((((w.setCell ⟨g, o, none⟩ (.int .i64 x.op)).setCell ⟨g, o + 1, none⟩ (.int .i64 x.kd)).setCell ⟨g, o + 2, none⟩ (.int .i64 x.ar)).setCell ⟨g, o + 3, none⟩ (.int .i64 x.pl)).setCell ⟨g, o + 4, none⟩ (.int .i64 x.n)
theorem put5_row {w : World} {N g n k : Nat} {xs : List In} (h : w.ownsRow N 45 5 (.slice (some ⟨g, 0, none⟩) n n) n (flat5 xs)) (hk : k < xs.length) (x : In) :
    (put5 w g (k * 5) x).ownsRow N 45 5 (.slice (some ⟨g, 0, none⟩) n n) n (flat5 (xs.set k x)) := by
  rw [← set5_flat x xs k hk]
  exact (World.ownsRow.stored (World.ownsRow.stored (World.ownsRow.stored (World.ownsRow.stored (World.ownsRow.stored h _ _).1 _ _).1 _ _).1 _ _).1 _ _).1
theorem put5_grown (w : World) (g o : Nat) (x : In) : w.grownBy (put5 w g o x) (some g) :=
  only_trans (only_trans (only_trans (only_trans (only_set w g o _) (only_set _ g (o + 1) _)) (only_set _ g (o + 2) _)) (only_set _ g (o + 3) _)) (only_set _ g (o + 4) _)
/-- What lies at a place of a row of instructions. -/
theorem row_at {w : World} {N g n k : Nat} {xs : List In} {x : In} (h : w.ownsRow N 45 5 (.slice (some ⟨g, 0, none⟩) n n) n (flat5 xs)) (hx : xs[k]? = some x) :
    w.cell? ⟨g, k * 5, none⟩ = some (.int .i64 x.op) ∧ w.cell? ⟨g, k * 5 + 1, none⟩ = some (.int .i64 x.kd) ∧ w.cell? ⟨g, k * 5 + 2, none⟩ = some (.int .i64 x.ar) ∧ w.cell? ⟨g, k * 5 + 3, none⟩ = some (.int .i64 x.pl) ∧ w.cell? ⟨g, k * 5 + 4, none⟩ = some (.int .i64 x.n) := by
  have hl : (flat5 xs).length = n * 5 := h.1
  rw [flat5_len] at hl
  have hk : k < xs.length := (List.getElem?_eq_some_iff.1 hx).1
  have e : ∀ j u, j < 5 → (cells5 x)[j]? = some u → w.cell? ⟨g, k * 5 + j, none⟩ = some u := fun j u hj hu => by
    rw [World.ownsRow.cellAt h (k * 5 + j) (by omega), flat5_at xs k x hx j hj, hu]
  exact ⟨e 0 _ (by omega) rfl, e 1 _ (by omega) rfl, e 2 _ (by omega) rfl, e 3 _ (by omega) rfl, e 4 _ (by omega) rfl⟩

/-- How far Decode has come. -/
structure Dn (N : Nat) (w wr : World) (p g n : Nat) (r q : Bs) (k : Nat) (xs : List In) : Prop where
  eye : EyeAt wr p q false
  row : wr.ownsRow N 45 5 (.slice (some ⟨g, 0, none⟩) n n) n (flat5 xs)
  below : Below N w wr
  hp : N ≤ p
  hg : N ≤ g
  hN : N ≤ wr.heap.size
  ne : g ≠ p
  len : xs.length = n
  rest : q.length = 8 * (n - k)
  all : listOf r = xs.take k ++ listOf q
  fine : Fine xs k
section
variable {N p g n k : Nat} {w wr w' : World} {r q q' : Bs} {xs : List In} {u : Value} {e : Ending} {x : In}
/-- Behind an instruction read and stored. -/
structure Ds (N : Nat) (w wr : World) (p g n : Nat) (r q : Bs) (k : Nat) (xs : List In) (x : In) : Prop where
  eye : EyeAt wr p q false
  row : wr.ownsRow N 45 5 (.slice (some ⟨g, 0, none⟩) n n) n (flat5 xs)
  below : Below N w wr
  hp : N ≤ p
  hg : N ≤ g
  hN : N ≤ wr.heap.size
  ne : g ≠ p
  len : xs.length = n
  rest : q.length = 8 * (n - (k + 1))
  all : listOf r = xs.take (k + 1) ++ listOf q
  fine : Fine xs k
  at_ : xs[k]? = some x
theorem Dn.read {o kk a l n1 n2 n3 n4 : UInt8} (h : Dn N w wr p g n r (o :: kk :: a :: l :: n1 :: n2 :: n3 :: n4 :: q) k xs) (hr : Reads u wr p q false e w') :
    EyeAt w' p q false ∧ w'.ownsRow N 45 5 (.slice (some ⟨g, 0, none⟩) n n) n (flat5 xs) ∧ Below N w w' ∧ N ≤ w'.heap.size :=
  ⟨hr.2.1, World.ownsRow.kept h.row hr.2.2 (.inr (fun e => h.ne (by simpa [Value.ownBlock] using e))), h.below.trans ⟨hr.2.2.os, hr.2.2.tape, hr.2.2.output, hr.2.2.size, fun j hj => hr.2.2.block j (by have := h.hN; omega) (fun e => by injection e with e; have := h.hp; omega)⟩, Nat.le_trans h.hN hr.2.2.size⟩
theorem Dn.put {o kk a l n1 n2 n3 n4 : UInt8} (h : Dn N w wr p g n r (o :: kk :: a :: l :: n1 :: n2 :: n3 :: n4 :: q) k xs) (hk : k < n)
    (h1 : EyeAt w' p q false) (h2 : w'.ownsRow N 45 5 (.slice (some ⟨g, 0, none⟩) n n) n (flat5 xs)) (h3 : Below N w w') (h4 : N ≤ w'.heap.size)
    (hx : x = ⟨o.toNat, kk.toNat, a.toNat, l.toNat, sgnI kk.toNat (num [n1, n2, n3, n4])⟩) : Ds N w (put5 w' g (k * 5) x) p g n r q k (xs.set k x) x := by
  have hg := put5_grown w' g (k * 5) x
  refine ⟨h1.kept hg (fun e => h.ne (by injection e with e; exact e.symm)), put5_row h2 (by rw [h.len]; exact hk) x, h3.trans ⟨hg.os, hg.tape, hg.output, hg.size, fun j hj => hg.block j (by omega) (fun e => by injection e with e; have := h.hg; omega)⟩, h.hp, h.hg, Nat.le_trans h4 hg.size, h.ne, by rw [List.length_set]; exact h.len, ?_, ?_, ?_, ?_⟩
  · have := h.rest
    simp only [List.length_cons] at this
    omega
  · have e1 : listOf (o :: kk :: a :: l :: n1 :: n2 :: n3 :: n4 :: q) = x :: listOf q := by rw [hx]; rfl
    rw [h.all, e1, List.take_add_one, List.getElem?_set_self (by rw [h.len]; exact hk), List.take_set_of_le (by omega)]
    simp
  · intro j y hj hy
    rw [List.getElem?_set_ne (by omega)] at hy
    exact h.fine j y hj hy
  · exact List.getElem?_set_self (by rw [h.len]; exact hk)
theorem Ds.next (h : Ds N w wr p g n r q k xs x) (hr : rightI x = true) (hb : Below wr.heap.size wr w') : Dn N w w' p g n r q (k + 1) xs :=
  ⟨h.eye.kept (only_below hb (some g)) (fun e => h.ne (by injection e with e; exact e.symm)), World.ownsRow.kept h.row (only_below hb none) (.inr (fun e => by simp [Value.ownBlock] at e)), h.below.trans (hb.mono h.hN), h.hp, h.hg, Nat.le_trans h.hN hb.size, h.ne, h.len, h.rest, h.all, fine_next h.fine h.at_ hr⟩
theorem Ds.stop (h : Ds N w wr p g n r q k xs x) (hr : rightI x = false) (hk : k < n) : (listOf r).all rightI = false := by
  apply not_fine (k := k) (x := x) _ hr
  rw [h.all, List.getElem?_append_left (by rw [List.length_take, h.len]; omega), List.getElem?_take, if_pos (by omega)]
  exact h.at_
theorem Dn.done (h : Dn N w wr p g n r q n xs) : xs = listOf r := by
  have hq : q = [] := List.eq_nil_of_length_eq_zero (by have := h.rest; omega)
  have := h.all
  rw [hq, ← h.len, List.take_length] at this
  simpa [listOf] using this.symm
end

end Go.Proofs.Ytocjimedbnjmiaa.Co
