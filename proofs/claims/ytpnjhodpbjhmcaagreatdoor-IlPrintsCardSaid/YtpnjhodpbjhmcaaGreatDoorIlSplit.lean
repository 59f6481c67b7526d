/-
  The reference's Split, walked. Conditions: texts of up to 100000 bytes.
-/
import Derived.Test.YtpnjhodpbjhmcaaGreatDoorIlDig
import Derived.Deep.AppendLies
import Derived.OwnWalk
import Derived.Laws.OwnMore
import Derived.Maps.AppendAt
import Derived.RegionTactic
import Derived.BigRegion
namespace Go.Proofs.YtpnjhodpbjhmcaaGreatDoor.Il
open Go.RowKit
open Go.Proofs.YtpnjhodpbjhmcaaGreatDoor.Ic

def strs (l : List Bs) : List Value := l.map fun x => Value.string (S x)
theorem strs_length (l : List Bs) : (strs l).length = l.length := by simp [strs]
theorem strs_app (a b : List Bs) : strs (a ++ b) = strs a ++ strs b := by simp [strs]
theorem infoStr : (Tryz.prog.info? 9).map (fun i => (i.zero, i.size, i.bytes)) = some (some (.string ⟨#[]⟩), 1, 16) := by kernel_rfl
theorem info_parts {P : Program} {t : TypeId} {z : Option Value} {a b : Nat} (h : (P.info? t).map (fun i => (i.zero, i.size, i.bytes)) = some (z, a, b)) : ∃ i, P.info? t = some i ∧ i.zero = z ∧ i.size = a ∧ i.bytes = b := by
  cases hi : P.info? t with
  | none => rw [hi] at h; cases h
  | some i =>
    rw [hi] at h
    simp at h
    exact ⟨i, rfl, h.1, h.2.1, h.2.2⟩
theorem split_cases (c : UInt8) (s : Bs) : ∃ pre last, splitB c s = pre ++ [last] := by
  have h := split_ne c s
  exact ⟨(splitB c s).dropLast, (splitB c s).getLast h, (List.dropLast_concat_getLast h).symm⟩
theorem split_snoc (c x : UInt8) : ∀ (s : Bs) (pre : List Bs) (last : Bs), splitB c s = pre ++ [last] → splitB c (s ++ [x]) = if x = c then pre ++ [last, []] else pre ++ [last ++ [x]]
  | [], pre, last, h => by
    have : pre = [] ∧ last = [] := by
      cases pre with
      | nil => simp [splitB] at h; exact ⟨rfl, h⟩
      | cons a pre => simp [splitB] at h
    obtain ⟨rfl, rfl⟩ := this
    by_cases hx : x = c <;> simp [splitB, hx]
  | y :: s, pre, last, h => by
    have hne := split_ne c s
    obtain ⟨pre', last', hs⟩ := split_cases c s
    have ih := split_snoc c x s pre' last' hs
    rw [List.cons_append]
    unfold splitB at h ⊢
    by_cases hy : y = c
    · rw [if_pos hy] at h ⊢
      rw [hs, ← List.cons_append] at h
      obtain ⟨h1, h2⟩ := List.append_inj' h rfl
      injection h2 with h2
      subst h1 h2
      rw [ih]
      split <;> rfl
    · rw [if_neg hy] at h ⊢
      rw [hs] at h
      cases pre' with
      | nil =>
        have : pre = [] ∧ last = y :: last' := by
          cases pre with
          | nil => simp at h; exact ⟨rfl, h.symm⟩
          | cons a pre => simp at h
        obtain ⟨rfl, rfl⟩ := this
        by_cases hx : x = c
        · rw [if_pos hx] at ih ⊢
          rw [ih]; rfl
        · rw [if_neg hx] at ih ⊢
          rw [ih]; rfl
      | cons a pre' =>
        have h' : ((y :: a) :: pre') ++ [last'] = pre ++ [last] := h
        obtain ⟨h1, h2⟩ := List.append_inj' h' rfl
        injection h2 with h2
        subst h1 h2
        by_cases hx : x = c
        · rw [if_pos hx] at ih ⊢
          rw [ih]; rfl
        · rw [if_neg hx] at ih ⊢
          rw [ih]; rfl
theorem split_len (c : UInt8) : ∀ (s : Bs), (splitB c s).length ≤ s.length + 1
  | [] => by simp [splitB]
  | x :: s => by
    have ih := split_len c s
    unfold splitB
    split
    · simp; omega
    · split
      · simp
      · next h => rw [h] at ih; simp at ih ⊢; omega
theorem split_size (c : UInt8) : ∀ (s : Bs), ∀ l ∈ splitB c s, l.length ≤ s.length
  | [], l, h => by simp [splitB] at h; subst h; simp
  | x :: s, l, h => by
    have ih := split_size c s
    unfold splitB at h
    split at h
    · rcases List.mem_cons.1 h with rfl | h
      · simp
      · have := ih l h; simp; omega
    · split at h
      · simp at h; subst h; simp
      · next hd tl e =>
        rw [e] at ih
        rcases List.mem_cons.1 h with rfl | h
        · have := ih hd (by simp); simp; omega
        · have := ih l (by simp [h]); simp; omega

theorem split_step {c x : UInt8} {s : Bs} {k : Nat} {pre : List Bs} {last : Bs} (hx : s[k]? = some x) (h : splitB c (s.take k) = pre ++ [last]) : splitB c (s.take (k + 1)) = if x = c then pre ++ [last, []] else pre ++ [last ++ [x]] := by
  have e : s.take (k + 1) = s.take k ++ [x] := by rw [List.take_add_one, hx]; rfl
  rw [e]
  exact split_snoc c x _ pre last h
theorem last_len {c : UInt8} {s : Bs} {k : Nat} {pre : List Bs} {last : Bs} (h : splitB c (s.take k) = pre ++ [last]) : pre.length + 1 ≤ s.length + 1 ∧ last.length ≤ s.length := by
  have h1 := split_len c (s.take k)
  have h2 := split_size c (s.take k) last (by rw [h]; simp)
  rw [h] at h1
  simp at h1 h2
  omega
theorem own_form {w : World} {N n : Nat} {e : TypeId} {v : Value} {xs : List Value} (h : w.ownsRow N e 1 v n xs) (hn : 0 < n) : ∃ g c, v = .slice (some ⟨g, 0, none⟩) n c ∧ N ≤ g := by
  rcases h.2 with ⟨rfl, h0⟩ | ⟨g, cap, cur, rfl, hN, _⟩
  · omega
  · exact ⟨g, cap, rfl, hN⟩
theorem own_drawn {w : World} {N n : Nat} {e : TypeId} {v : Value} {xs : List Value} (h : w.ownsRow N e 1 v n xs) (m : Nat) : (w.drewN m).ownsRow N e 1 v n xs := h
theorem extract_one (s : Bs) (k : Nat) (x : UInt8) (hx : s[k]? = some x) : (S s).extract k (k + 1) = S [x] := by
  rw [← S_list ((S s).extract k (k + 1))]
  congr 1
  obtain ⟨h1, h2⟩ := List.getElem?_eq_some_iff.1 hx
  rw [ByteArray.data_extract, Array.toList_extract]
  show List.extract s k (k + 1) = [x]
  rw [List.extract_eq_take_drop, show k + 1 - k = 1 by omega, List.drop_eq_getElem_cons h1, h2]
  rfl
theorem S_at (s : Bs) (k : Nat) (x : UInt8) (hx : s[k]? = some x) (h : k < (S s).size) : (S s)[k] = x := by
  obtain ⟨h1, h2⟩ := List.getElem?_eq_some_iff.1 hx
  rw [← h2]
  rfl
theorem u8_ne {x c : UInt8} (h : ¬ x = c) : ((x.toNat : Int) == (c.toNat : Int)) = false := by
  rw [beq_eq_false_iff_ne]
  intro e
  apply h
  exact UInt8.toNat_inj.1 (by omega)
/-- What a text's byte k is, if it has one. -/
def Row1 (N : Nat) (w W : World) (g cap : Nat) (pre : List Bs) (last : Bs) : Prop := W.ownsRow N 9 1 (.slice (some ⟨g, 0, none⟩) (pre.length + 1) cap) (pre.length + 1) (strs (pre ++ [last])) ∧ Below N w W ∧ N ≤ g
theorem Row1.cell {N : Nat} {w W : World} {g cap : Nat} {pre : List Bs} {last : Bs} (h : Row1 N w W g cap pre last) : W.cell? ⟨g, pre.length, none⟩ = some (.string (S last)) ∧ W.frozen? ⟨g, pre.length, none⟩ = false := by
  refine ⟨?_, World.ownsRow.frozenAt h.1 _⟩
  rw [World.ownsRow.cellAt h.1 pre.length (by omega)]
  simp [strs]
theorem Row1.store {N : Nat} {w W : World} {g cap : Nat} {pre : List Bs} {last : Bs} (h : Row1 N w W g cap pre last) (last' : Bs) : Row1 N w (W.setCell ⟨g, pre.length, none⟩ (.string (S last'))) g cap pre last' := by
  refine ⟨?_, h.2.1.setCell (p := ⟨g, pre.length, none⟩) h.2.2 _, h.2.2⟩
  have := (World.ownsRow.stored h.1 pre.length (.string (S last'))).1
  have e : (strs (pre ++ [last])).set pre.length (.string (S last')) = strs (pre ++ [last']) := by
    unfold strs
    rw [List.map_append, List.map_append, List.set_append_right _ _ (by simp)]
    simp
  rw [e] at this
  exact this
theorem Row1.drew {N : Nat} {w W : World} {g cap : Nat} {pre : List Bs} {last : Bs} (h : Row1 N w W g cap pre last) : Row1 N w W.drew g cap pre last := ⟨h.1, h.2.1.drew, h.2.2⟩

theorem below_grown {N : Nat} {w wr W : World} {o : Obj} {row : Option Nat} (hb : Below N w wr) (hN : N ≤ wr.heap.size) (hg : (wr.alloc o).grownBy W row) (hr : ∀ j, row = some j → N ≤ j) : Below N w W := by
  have h2 := hb.alloc hN o
  refine h2.trans ⟨hg.os, hg.tape, hg.output, hg.size, fun k hk => hg.block k (by simp; omega) (fun e => ?_)⟩
  have := hr k e.symm
  omega

end Go.Proofs.YtpnjhodpbjhmcaaGreatDoor.Il
