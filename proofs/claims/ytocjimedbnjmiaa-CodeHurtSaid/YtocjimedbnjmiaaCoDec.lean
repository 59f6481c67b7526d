/-
  The reference's Decode: its first steps, an instruction that is read, walked. Conditions: texts of up to 3000 bytes.
-/
import Derived.Test.YtocjimedbnjmiaaCoRef
import Derived.Deep.AppendLies
import Derived.Laws.OwnMore
namespace Go.Proofs.Ytocjimedbnjmiaa.Co
open Go.RowKit
open Go.Proofs.Ytocjimedbnjmiaa.Il hiding S S_size S_app S_list S_inj
open Go.Proofs.Ytocjimedbnjmiaa.Ic Go.Proofs.Ytocjimedbnjmiaa.Oct Sums

theorem number1 (p : Nat) (o : UInt8) (q : Bs) (w : World) (he : EyeAt w p (o :: q) false) : Calls Try.prog 30 #[.pointer (some ⟨p, 0, none⟩), .int .i64 1] w (Reads (.int .u32 (o.toNat : Int)) w p q false) := by
  have h := rnumber_any p 1 (o :: q) false w he (by omega)
  have e1 : rgot 1 (o :: q) false = [o] := by unfold rgot; rw [fits_yes (by omega) (by simp; omega)]; rfl
  have e2 : rleft 1 (o :: q) false = q := by unfold rleft; rw [fits_yes (by omega) (by simp; omega)]; rfl
  have e3 : rlost 1 (o :: q) false = false := by unfold rlost; rw [fits_yes (by omega) (by simp; omega)]; rfl
  have e4 : num [o] = o.toNat := by show 0 * 256 + o.toNat = _; omega
  rw [e1, e2, e3, e4] at h
  exact h
theorem number0 (p : Nat) (w : World) (he : EyeAt w p [] false) : Calls Try.prog 30 #[.pointer (some ⟨p, 0, none⟩), .int .i64 1] w (Reads (.int .u32 0) w p [] true) := by
  have h := rnumber_any p 1 [] false w he (by omega)
  exact h
theorem number4 (p : Nat) (a b c d : UInt8) (q : Bs) (w : World) (he : EyeAt w p (a :: b :: c :: d :: q) false) : Calls Try.prog 30 #[.pointer (some ⟨p, 0, none⟩), .int .i64 4] w (Reads (.int .u32 (num [a, b, c, d] : Nat)) w p q false) := by
  have h := rnumber_any p 4 (a :: b :: c :: d :: q) false w he (by omega)
  have e1 : rgot 4 (a :: b :: c :: d :: q) false = [a, b, c, d] := by unfold rgot; rw [fits_yes (by omega) (by simp; omega)]; rfl
  have e2 : rleft 4 (a :: b :: c :: d :: q) false = q := by unfold rleft; rw [fits_yes (by omega) (by simp; omega)]; rfl
  have e3 : rlost 4 (a :: b :: c :: d :: q) false = false := by unfold rlost; rw [fits_yes (by omega) (by simp; omega)]; rfl
  rw [e1, e2, e3] at h
  exact h

/-- An instruction in a block of its own, which may be written. -/
structure BoxI (w : World) (b : Nat) (o k a p n : Int) : Prop where
  c0 : w.cell? ⟨b, 0, none⟩ = some (.int .i64 o)
  c1 : w.cell? ⟨b, 1, none⟩ = some (.int .i64 k)
  c2 : w.cell? ⟨b, 2, none⟩ = some (.int .i64 a)
  c3 : w.cell? ⟨b, 3, none⟩ = some (.int .i64 p)
  c4 : w.cell? ⟨b, 4, none⟩ = some (.int .i64 n)
  fz : ∀ j, w.frozen? ⟨b, j, none⟩ = false
section
variable {w w' : World} {b : Nat} {o k a p n : Int}
theorem BoxI.new (w : World) (o k a p n : Int) (t : TypeId) : BoxI (w.alloc (.cells #[.int .i64 o, .int .i64 k, .int .i64 a, .int .i64 p, .int .i64 n] t)) w.heap.size o k a p n := by
  obtain ⟨hc, -⟩ := one_box w #[.int .i64 o, .int .i64 k, .int .i64 a, .int .i64 p, .int .i64 n] t
  exact ⟨hc 0 _ rfl, hc 1 _ rfl, hc 2 _ rfl, hc 3 _ rfl, hc 4 _ rfl, fun j => by unfold World.frozen?; rw [heap_alloc_new]; simp⟩
theorem BoxI.of (h : BoxI w b o k a p n) (hb : w'.heap[b]? = w.heap[b]?) : BoxI w' b o k a p n :=
  ⟨(World.cell?_of_block (a := ⟨b, 0, none⟩) hb).trans h.c0, (World.cell?_of_block (a := ⟨b, 1, none⟩) hb).trans h.c1, (World.cell?_of_block (a := ⟨b, 2, none⟩) hb).trans h.c2, (World.cell?_of_block (a := ⟨b, 3, none⟩) hb).trans h.c3, (World.cell?_of_block (a := ⟨b, 4, none⟩) hb).trans h.c4, fun j => (World.frozen?_of_block (a := ⟨b, j, none⟩) hb).trans (h.fz j)⟩
theorem BoxI.lt (h : BoxI w b o k a p n) : b < w.heap.size := World.block_lt_of_cell? w ⟨b, 0, none⟩ h.c0
theorem BoxI.grown {row : Option Nat} (h : BoxI w b o k a p n) (hg : w.grownBy w' row) (hne : some b ≠ row) : BoxI w' b o k a p n := h.of (hg.block b h.lt hne)
theorem off_ne (p : Nat) {i j : Nat} (h : i ≠ j) : (⟨p, i, none⟩ : Addr) ≠ ⟨p, j, none⟩ := by intro e; injection e; contradiction
theorem BoxI.set1 (h : BoxI w b o k a p n) (v : Int) : BoxI (w.setCell ⟨b, 1, none⟩ (.int .i64 v)) b o v a p n :=
  ⟨by rw [World.cell?_setCell_other _ _ _ _ (off_ne b (by decide))]; exact h.c0, World.cell?_setCell_same _ _ _ h.c1, by rw [World.cell?_setCell_other _ _ _ _ (off_ne b (by decide))]; exact h.c2, by rw [World.cell?_setCell_other _ _ _ _ (off_ne b (by decide))]; exact h.c3, by rw [World.cell?_setCell_other _ _ _ _ (off_ne b (by decide))]; exact h.c4, fun j => (World.frozen?_setCell _ _ _ _).trans (h.fz j)⟩
theorem BoxI.set2 (h : BoxI w b o k a p n) (v : Int) : BoxI (w.setCell ⟨b, 2, none⟩ (.int .i64 v)) b o k v p n :=
  ⟨by rw [World.cell?_setCell_other _ _ _ _ (off_ne b (by decide))]; exact h.c0, by rw [World.cell?_setCell_other _ _ _ _ (off_ne b (by decide))]; exact h.c1, World.cell?_setCell_same _ _ _ h.c2, by rw [World.cell?_setCell_other _ _ _ _ (off_ne b (by decide))]; exact h.c3, by rw [World.cell?_setCell_other _ _ _ _ (off_ne b (by decide))]; exact h.c4, fun j => (World.frozen?_setCell _ _ _ _).trans (h.fz j)⟩
theorem BoxI.set3 (h : BoxI w b o k a p n) (v : Int) : BoxI (w.setCell ⟨b, 3, none⟩ (.int .i64 v)) b o k a v n :=
  ⟨by rw [World.cell?_setCell_other _ _ _ _ (off_ne b (by decide))]; exact h.c0, by rw [World.cell?_setCell_other _ _ _ _ (off_ne b (by decide))]; exact h.c1, by rw [World.cell?_setCell_other _ _ _ _ (off_ne b (by decide))]; exact h.c2, World.cell?_setCell_same _ _ _ h.c3, by rw [World.cell?_setCell_other _ _ _ _ (off_ne b (by decide))]; exact h.c4, fun j => (World.frozen?_setCell _ _ _ _).trans (h.fz j)⟩
theorem BoxI.set4 (h : BoxI w b o k a p n) (v : Int) : BoxI (w.setCell ⟨b, 4, none⟩ (.int .i64 v)) b o k a p v :=
  ⟨by rw [World.cell?_setCell_other _ _ _ _ (off_ne b (by decide))]; exact h.c0, by rw [World.cell?_setCell_other _ _ _ _ (off_ne b (by decide))]; exact h.c1, by rw [World.cell?_setCell_other _ _ _ _ (off_ne b (by decide))]; exact h.c2, by rw [World.cell?_setCell_other _ _ _ _ (off_ne b (by decide))]; exact h.c3, World.cell?_setCell_same _ _ _ h.c4, fun j => (World.frozen?_setCell _ _ _ _).trans (h.fz j)⟩
end
theorem eye_set {w : World} {p b j : Nat} {q : Bs} {f : Bool} {v : Value} (h : EyeAt w p q f) (hne : b ≠ p) : EyeAt (w.setCell ⟨b, j, none⟩ v) p q f := h.kept (only_set w b j v) (fun e => by injection e with e; exact hne e.symm)
theorem eye_alloc {w : World} {p : Nat} {q : Bs} {f : Bool} (h : EyeAt w p q f) (o : Obj) : EyeAt (w.alloc o) p q f := h.kept (World.grownBy_alloc w o none) (by simp)
theorem EyeAt.new (w : World) (q : Bs) (t : TypeId) : EyeAt (w.alloc (.cells #[.string (S q), .bool false] t)) w.heap.size q false := by
  obtain ⟨hc, -⟩ := one_box w #[.string (S q), .bool false] t
  exact ⟨hc 0 _ rfl, hc 1 _ rfl, by unfold World.frozen?; rw [heap_alloc_new]; simp, by unfold World.frozen?; rw [heap_alloc_new]; simp⟩

/-! ### Rows of instructions -/
def cells5 (x : In) : List Value := [.int .i64 x.op, .int .i64 x.kd, .int .i64 x.ar, .int .i64 x.pl, .int .i64 x.n]
def flat5 (l : List In) : List Value := l.flatMap cells5
theorem flat5_len (l : List In) : (flat5 l).length = l.length * 5 := by
  unfold flat5
  induction l with
  | nil => rfl
  | cons x l ih => rw [List.flatMap_cons, List.length_append, ih, List.length_cons]; simp [cells5]; omega
theorem flat5_app (a b : List In) : flat5 (a ++ b) = flat5 a ++ flat5 b := by unfold flat5; rw [List.flatMap_append]
theorem flat5_at : ∀ (l : List In) (i : Nat) (x : In), l[i]? = some x → ∀ j, j < 5 → (flat5 l)[i * 5 + j]? = (cells5 x)[j]?
  | [], i, x, h, _, _ => by simp at h
  | y :: l, 0, x, h, j, hj => by
    have : y = x := by simpa using h
    subst this
    show (cells5 y ++ flat5 l)[0 * 5 + j]? = _
    rw [List.getElem?_append_left (by simp [cells5]; omega), Nat.zero_mul, Nat.zero_add]
  | y :: l, i + 1, x, h, j, hj => by
    have ih := flat5_at l i x (by simpa using h) j hj
    show (cells5 y ++ flat5 l)[(i + 1) * 5 + j]? = _
    rw [List.getElem?_append_right (by simp [cells5]; omega), ← ih]
    congr 1
    simp [cells5]; omega
theorem infoIns : (Try.prog.info? 45).map (fun i => (i.zero, i.size, i.bytes)) = some (some (.agg #[.int .i64 0, .int .i64 0, .int .i64 0, .int .i64 0, .int .i64 0]), 5, 40) := by kernel_rfl
theorem info_parts {P : Program} {t : TypeId} {z : Option Value} {a b : Nat} (h : (P.info? t).map (fun i => (i.zero, i.size, i.bytes)) = some (z, a, b)) : ∃ i, P.info? t = some i ∧ i.zero = z ∧ i.size = a ∧ i.bytes = b := by
  cases hi : P.info? t with
  | none => rw [hi] at h; cases h
  | some i =>
    rw [hi] at h
    simp at h
    exact ⟨i, rfl, h.1, h.2.1, h.2.2⟩
theorem row_lies {w : World} {N n : Nat} {v : Value} {l : List In} (h : w.ownsRow N 45 5 v n (flat5 l)) : n = l.length ∧ ∃ ao cap, v = .slice ao n cap ∧ Lies w w.heap.size ao l := by
  have hn : n = l.length := by have := h.1; rw [flat5_len] at this; omega
  refine ⟨hn, ?_⟩
  rcases h.2 with ⟨rfl, h0⟩ | ⟨g, cap, cur, rfl, hN, hg, h1, h2, h3, h4⟩
  · exact ⟨none, 0, by rw [h0], fun h1 => by omega⟩
  · refine ⟨_, cap, rfl, fun h1 => ⟨g, 0, rfl, (World.ownsRow.lt h g rfl).2, fun i x hx => ?_⟩⟩
    have hi := (List.getElem?_eq_some_iff.1 hx).1
    have hc : ∀ j, j < 5 → w.cell? ⟨g, i * 5 + j, none⟩ = (cells5 x)[j]? := fun j hj => by
      rw [World.ownsRow.cellAt h (i * 5 + j) (by omega), flat5_at l i x hx j hj]
    rw [Nat.zero_add]
    exact ⟨hc 0 (by omega), hc 1 (by omega), hc 2 (by omega), hc 3 (by omega), hc 4 (by omega)⟩
theorem five_new (w : World) (x : In) (t : TypeId) : ∀ j u, (cells5 x)[j]? = some u → (w.alloc (.cells #[.int .i64 x.op, .int .i64 x.kd, .int .i64 x.ar, .int .i64 x.pl, .int .i64 x.n] t)).cell? ((⟨w.heap.size, 0, none⟩ : Addr).add j) = some u := by
  intro j u hu
  have hadd : (⟨w.heap.size, 0, none⟩ : Addr).add j = ⟨w.heap.size, j, none⟩ := by
    have := Addr.add_lit w.heap.size 0 j
    rw [this, Nat.zero_add]
  rw [hadd]
  exact (one_box w #[.int .i64 x.op, .int .i64 x.kd, .int .i64 x.ar, .int .i64 x.pl, .int .i64 x.n] t).1 j u (by simpa [cells5] using hu)
theorem fit_list : ∀ (r : Bs), FitL (listOf r)
  | o :: k :: a :: p :: n1 :: n2 :: n3 :: n4 :: r => by
    intro i x hx
    cases i with
    | zero =>
      have h : x = ⟨o.toNat, k.toNat, a.toNat, p.toNat, sgnI k.toNat (num [n1, n2, n3, n4])⟩ := by
        have : some _ = some x := hx
        injection this with this
        exact this.symm
      subst h
      have h1 := o.toNat_lt
      have h2 := k.toNat_lt
      have h3 := a.toNat_lt
      have h4 := p.toNat_lt
      have h5 := num_lt4 n1 n2 n3 n4
      have h6 : -9223372036854775808 ≤ sgnI k.toNat (num [n1, n2, n3, n4]) ∧ sgnI k.toNat (num [n1, n2, n3, n4]) ≤ 9223372036854775807 := by unfold sgnI; split <;> omega
      exact ⟨⟨by dsimp only; omega, by dsimp only; omega⟩, ⟨by dsimp only; omega, by dsimp only; omega⟩, ⟨by dsimp only; omega, by dsimp only; omega⟩, ⟨by dsimp only; omega, by dsimp only; omega⟩, h6⟩
    | succ i => exact fit_list r i x hx
  | [] => fun i x hx => by cases hx
  | [_] => fun i x hx => by cases hx
  | [_, _] => fun i x hx => by cases hx
  | [_, _, _] => fun i x hx => by cases hx
  | [_, _, _, _] => fun i x hx => by cases hx
  | [_, _, _, _, _] => fun i x hx => by cases hx
  | [_, _, _, _, _, _] => fun i x hx => by cases hx
  | [_, _, _, _, _, _, _] => fun i x hx => by cases hx
/-- The first eight of bytes that are as many as that. -/
theorem eight {q : Bs} {n : Nat} (h : q.length = 8 * (n + 1)) : ∃ o k a p n1 n2 n3 n4 r, q = o :: k :: a :: p :: n1 :: n2 :: n3 :: n4 :: r ∧ r.length = 8 * n := by
  match q, h with
  | o :: k :: a :: p :: n1 :: n2 :: n3 :: n4 :: r, h => exact ⟨o, k, a, p, n1, n2, n3, n4, r, rfl, by simp at h; omega⟩
  | [], h => simp at h
  | [_], h => simp at h; omega
  | [_, _], h => simp at h; omega
  | [_, _, _], h => simp at h; omega
  | [_, _, _, _], h => simp at h; omega
  | [_, _, _, _, _], h => simp at h; omega
  | [_, _, _, _, _, _], h => simp at h; omega
  | [_, _, _, _, _, _, _], h => simp at h; omega

end Go.Proofs.Ytocjimedbnjmiaa.Co
