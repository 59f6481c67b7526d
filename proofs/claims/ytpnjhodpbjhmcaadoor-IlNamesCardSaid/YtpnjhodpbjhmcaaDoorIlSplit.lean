/-
  The reference's Split, walked. Conditions: texts of up to 100000 bytes.
-/
import Derived.Test.YtpnjhodpbjhmcaaDoorIlDig
import Derived.Deep.AppendLies
import Derived.OwnWalk
import Derived.Laws.OwnMore
import Derived.Maps.AppendAt
import Derived.RegionTactic
import Derived.BigRegion
namespace Go.Proofs.YtpnjhodpbjhmcaaDoor.Il
open Go.RowKit
open Go.Proofs.YtpnjhodpbjhmcaaDoor.Ic

def strs (l : List Bs) : List Value := l.map fun x => Value.string (S x)
theorem strs_length (l : List Bs) : (strs l).length = l.length := by simp [strs]
theorem strs_app (a b : List Bs) : strs (a ++ b) = strs a ++ strs b := by simp [strs]
theorem infoStr : (Tryd.prog.info? 9).map (fun i => (i.zero, i.size, i.bytes)) = some (some (.string ⟨#[]⟩), 1, 16) := by kernel_rfl
theorem info_parts {P : Program} {t : TypeId} {z : Option Value} {a b : Nat} (h : (P.info? t).map (fun i => (i.zero, i.size, i.bytes)) = some (z, a, b)) : ∃ i, P.info? t = some i ∧ i.zero = z ∧ i.size = a ∧ i.bytes = b := by
  cases hi : P.info? t with
  | none => rw [hi] at h; cases h
  | some i =>
    rw [hi] at h
    simp at h
    exact ⟨i, rfl, h.1, h.2.1, h.2.2⟩
theorem split_cases (c : UInt8) (s : Bs) : ∃ pre last, splitB c s = pre ++ [last] := by
  have h := split_ne c s
  exact ⟨(splitB c s).dropLast, (splitB c s).getLast h, (List.dropLast_concat_getLast h).symm⟩
theorem split_snoc (c x : UInt8) : ∀ (s : Bs) (pre : List Bs) (last : Bs), splitB c s = pre ++ [last] → splitB c (s ++ [x]) = if x = c then pre ++ [last, []] else pre ++ [last ++ [x]]
  | [], pre, last, h => by
    have : pre = [] ∧ last = [] := by
      cases pre with
      | nil => simp [splitB] at h; exact ⟨rfl, h⟩
      | cons a pre => simp [splitB] at h
    obtain ⟨rfl, rfl⟩ := this
    by_cases hx : x = c <;> simp [splitB, hx]
  | y :: s, pre, last, h => by
    have hne := split_ne c s
    obtain ⟨pre', last', hs⟩ := split_cases c s
    have ih := split_snoc c x s pre' last' hs
    rw [List.cons_append]
    unfold splitB at h ⊢
    by_cases hy : y = c
    · rw [if_pos hy] at h ⊢
      rw [hs, ← List.cons_append] at h
      obtain ⟨h1, h2⟩ := List.append_inj' h rfl
      injection h2 with h2
      subst h1 h2
      rw [ih]
      split <;> rfl
    · rw [if_neg hy] at h ⊢
      rw [hs] at h
      cases pre' with
      | nil =>
        have : pre = [] ∧ last = y :: last' := by
          cases pre with
          | nil => simp at h; exact ⟨rfl, h.symm⟩
          | cons a pre => simp at h
        obtain ⟨rfl, rfl⟩ := this
        by_cases hx : x = c
        · rw [if_pos hx] at ih ⊢
          rw [ih]; rfl
        · rw [if_neg hx] at ih ⊢
          rw [ih]; rfl
      | cons a pre' =>
        have h' : ((y :: a) :: pre') ++ [last'] = pre ++ [last] := h
        obtain ⟨h1, h2⟩ := List.append_inj' h' rfl
        injection h2 with h2
        subst h1 h2
        by_cases hx : x = c
        · rw [if_pos hx] at ih ⊢
          rw [ih]; rfl
        · rw [if_neg hx] at ih ⊢
          rw [ih]; rfl
theorem split_len (c : UInt8) : ∀ (s : Bs), (splitB c s).length ≤ s.length + 1
  | [] => by simp [splitB]
  | x :: s => by
    have ih := split_len c s
    unfold splitB
    split
    · simp; omega
    · split
      · simp
      · next h => rw [h] at ih; simp at ih ⊢; omega
theorem split_size (c : UInt8) : ∀ (s : Bs), ∀ l ∈ splitB c s, l.length ≤ s.length
  | [], l, h => by simp [splitB] at h; subst h; simp
  | x :: s, l, h => by
    have ih := split_size c s
    unfold splitB at h
    split at h
    · rcases List.mem_cons.1 h with rfl | h
      · simp
      · have := ih l h; simp; omega
    · split at h
      · simp at h; subst h; simp
      · next hd tl e =>
        rw [e] at ih
        rcases List.mem_cons.1 h with rfl | h
        · have := ih hd (by simp); simp; omega
        · have := ih l (by simp [h]); simp; omega

theorem split_step {c x : UInt8} {s : Bs} {k : Nat} {pre : List Bs} {last : Bs} (hx : s[k]? = some x) (h : splitB c (s.take k) = pre ++ [last]) : splitB c (s.take (k + 1)) = if x = c then pre ++ [last, []] else pre ++ [last ++ [x]] := by
  have e : s.take (k + 1) = s.take k ++ [x] := by rw [List.take_add_one, hx]; rfl
  rw [e]
  exact split_snoc c x _ pre last h
theorem last_len {c : UInt8} {s : Bs} {k : Nat} {pre : List Bs} {last : Bs} (h : splitB c (s.take k) = pre ++ [last]) : pre.length + 1 ≤ s.length + 1 ∧ last.length ≤ s.length := by
  have h1 := split_len c (s.take k)
  have h2 := split_size c (s.take k) last (by rw [h]; simp)
  rw [h] at h1
  simp at h1 h2
  omega
theorem own_form {w : World} {N n : Nat} {e : TypeId} {v : Value} {xs : List Value} (h : w.ownsRow N e 1 v n xs) (hn : 0 < n) : ∃ g c, v = .slice (some ⟨g, 0, none⟩) n c ∧ N ≤ g := by
  rcases h.2 with ⟨rfl, h0⟩ | ⟨g, cap, cur, rfl, hN, _⟩
  · omega
  · exact ⟨g, cap, rfl, hN⟩
theorem own_drawn {w : World} {N n : Nat} {e : TypeId} {v : Value} {xs : List Value} (h : w.ownsRow N e 1 v n xs) (m : Nat) : (w.drewN m).ownsRow N e 1 v n xs := h
theorem extract_one (s : Bs) (k : Nat) (x : UInt8) (hx : s[k]? = some x) : (S s).extract k (k + 1) = S [x] := by
  rw [← S_list ((S s).extract k (k + 1))]
  congr 1
  obtain ⟨h1, h2⟩ := List.getElem?_eq_some_iff.1 hx
  rw [ByteArray.data_extract, Array.toList_extract]
  show List.extract s k (k + 1) = [x]
  rw [List.extract_eq_take_drop, show k + 1 - k = 1 by omega, List.drop_eq_getElem_cons h1, h2]
  rfl
theorem S_at (s : Bs) (k : Nat) (x : UInt8) (hx : s[k]? = some x) (h : k < (S s).size) : (S s)[k] = x := by
  obtain ⟨h1, h2⟩ := List.getElem?_eq_some_iff.1 hx
  rw [← h2]
  rfl
theorem u8_ne {x c : UInt8} (h : ¬ x = c) : ((x.toNat : Int) == (c.toNat : Int)) = false := by
  rw [beq_eq_false_iff_ne]
  intro e
  apply h
  exact UInt8.toNat_inj.1 (by omega)
/-- What a text's byte k is, if it has one. -/
def Row1 (N : Nat) (w W : World) (g cap : Nat) (pre : List Bs) (last : Bs) : Prop := W.ownsRow N 9 1 (.slice (some ⟨g, 0, none⟩) (pre.length + 1) cap) (pre.length + 1) (strs (pre ++ [last])) ∧ Below N w W ∧ N ≤ g
theorem Row1.cell {N : Nat} {w W : World} {g cap : Nat} {pre : List Bs} {last : Bs} (h : Row1 N w W g cap pre last) : W.cell? ⟨g, pre.length, none⟩ = some (.string (S last)) ∧ W.frozen? ⟨g, pre.length, none⟩ = false := by
  refine ⟨?_, World.ownsRow.frozenAt h.1 _⟩
  rw [World.ownsRow.cellAt h.1 pre.length (by omega)]
  simp [strs]
theorem Row1.store {N : Nat} {w W : World} {g cap : Nat} {pre : List Bs} {last : Bs} (h : Row1 N w W g cap pre last) (last' : Bs) : Row1 N w (W.setCell ⟨g, pre.length, none⟩ (.string (S last'))) g cap pre last' := by
  refine ⟨?_, h.2.1.setCell (p := ⟨g, pre.length, none⟩) h.2.2 _, h.2.2⟩
  have := (World.ownsRow.stored h.1 pre.length (.string (S last'))).1
  have e : (strs (pre ++ [last])).set pre.length (.string (S last')) = strs (pre ++ [last']) := by
    unfold strs
    rw [List.map_append, List.map_append, List.set_append_right _ _ (by simp)]
    simp
  rw [e] at this
  exact this
theorem Row1.drew {N : Nat} {w W : World} {g cap : Nat} {pre : List Bs} {last : Bs} (h : Row1 N w W g cap pre last) : Row1 N w W.drew g cap pre last := ⟨h.1, h.2.1.drew, h.2.2⟩

theorem below_grown {N : Nat} {w wr W : World} {o : Obj} {row : Option Nat} (hb : Below N w wr) (hN : N ≤ wr.heap.size) (hg : (wr.alloc o).grownBy W row) (hr : ∀ j, row = some j → N ≤ j) : Below N w W := by
  have h2 := hb.alloc hN o
  refine h2.trans ⟨hg.os, hg.tape, hg.output, hg.size, fun k hk => hg.block k (by simp; omega) (fun e => ?_)⟩
  have := hr k e.symm
  omega

set_option maxRecDepth 100000 in
set_option maxHeartbeats 8000000 in
theorem rSplit_any (s : Bs) (c : UInt8) (hs : s.length ≤ 100000) (w : World) : Calls Tryd.prog 13 #[.string (S s), .int .u8 (c.toNat : Int)] w fun e w' =>
    ∃ v, e = .returned v ∧ w'.ownsRow w.heap.size 9 1 v (splitB c s).length (strs (splitB c s)) ∧ Below w.heap.size w w' := by
  have hsz := S_size s
  obtain ⟨i0, hi0, hi1, hi2, hi3⟩ := info_parts infoStr
  have HI := Lib.hid (⟨hi0, hi1, hi2, hi3⟩ : _ ∧ _ ∧ _ ∧ _)
  clear hi0 hi1 hi2 hi3
  have hsl : (s.length : Int) ≤ 100000 := by omega
  have HO0 := Lib.hid (show Row1 w.heap.size w (w.alloc (.cells #[.string ⟨#[]⟩] 9)) w.heap.size 1 [] [] from ⟨World.ownsRow_lit (base := w.heap.size) (e := 9) (size := 1) w #[.string ⟨#[]⟩] 1 (Nat.le_refl _) (by unfold maxLen; omega) rfl, (Below.refl w.heap.size w).alloc (Nat.le_refl _) _, Nat.le_refl _⟩)
  clear hs
  go_enter Tryd.func13, Tryd.ntmps13
  go_wp2
  generalize w.alloc (.cells #[.string ⟨#[]⟩] 9) = W0 at *
  generalize hN : w.heap.size = N at *
  go_loopw [5, 6] (fun v i wr => ∃ (k g cap n : Nat) (pre : List Bs) (last : Bs), (k : Int) ≤ s.length ∧ n = pre.length ∧ i = .int .i64 k ∧ v = .slice (some ⟨g, 0, none⟩) (n + 1) cap ∧ Hid (splitB c (s.take k) = pre ++ [last]) ∧ Hid (Row1 N w wr g cap pre last)) (fun _ i _ => s.length - (intOf i).toNat)
  case atStart => exact ⟨0, N, 1, 0, [], [], by omega, rfl, rfl, rfl, Lib.hid (by simp [splitB]), HO0⟩
  case round =>
    obtain ⟨k, g, cap, n, pre, last, hk, hn, rfl, rfl, hp, hS⟩ := hrel
    replace hn := Lib.hid hn
    by_cases hlt : k < s.length
    · have hI : (k : Int) < (s.length : Int) := by omega
      obtain ⟨x, hx⟩ : ∃ x, s[k]? = some x := ⟨_, List.getElem?_eq_getElem hlt⟩
      have hxk := S_at s k x hx (by rw [hsz]; exact hlt)
      have hll := last_len hp.out
      have hst := split_step hx hp.out
      by_cases hxc : x = c
      · subst hxc
        rw [if_pos rfl] at hst
        have hp2 := Lib.hid (show splitB x (s.take (k + 1)) = (pre ++ [last]) ++ [[]] by rw [hst]; simp)
        have HO := Lib.hid (show (wr.alloc (.cells #[.string ⟨#[]⟩] 9)).ownsRow N 9 1 (.slice (some ⟨g, 0, none⟩) (n + 1) cap) (n + 1) (strs (pre ++ [last])) from by rw [hn.out]; exact World.ownsRow.alloc hS.out.1 _)
        have HBl := Lib.hid (⟨hS.out.2.1, hS.out.2.2⟩ : _ ∧ _)
        have hnl : (n : Int) + 2 ≤ 200000 := by have := hn.out; omega
        have hNw := Lib.hid (hS.out.2.1.size)
        clear hst hx hll
        go_wp2_with (at_builtin; refine wpList_append_lies _ rfl (.tmp 19) (.tmp 20) 31 rfl N 9 i0 (.string ⟨#[]⟩) 1 16 Tryd.underlying31 HI.out.1 HI.out.2.1 HI.out.2.2.1 HI.out.2.2.2 rfl (by decide) _ (n + 1) (strs (pre ++ [last])) rfl HO.out ⟨wr.heap.size, 0, none⟩ 1 1 [.string ⟨#[]⟩] rfl rfl (cell_one_new _ _ _) (by intro u hu; simp at hu; subst hu; rfl) (by decide) (by unfold maxLen; omega) (by omega) (by have := HBl.out.1.size; simp; omega) _ rfl ?_)
        intro g1 cp1 W hown hgr hat hlt1
        have HR := Lib.hid (show Row1 N w W g1 cp1 (pre ++ [last]) [] from by
          have hle : N ≤ wr.heap.size := by have := hNw.out; omega
          refine ⟨?_, below_grown HBl.out.1 hle hgr (fun j hj => ?_), ?_⟩
          · have e : (pre ++ [last]).length + 1 = n + 1 + 1 := by have := hn.out; simp; omega
            rw [e, strs_app]
            exact hown
          · have e : g = j := by simpa [Value.ownBlock] using hj
            rw [← e]; exact HBl.out.2
          · rcases hat with e | e
            · have e : g = g1 := by simpa [Value.ownBlock] using e
              rw [← e]; exact HBl.out.2
            · omega)
        have hn2 := Lib.hid (show n + 1 = (pre ++ [last]).length by have := hn.out; simp; omega)
        clear hown hgr hat hlt1 HO
        go_wp2
        go_roundw
        case rel => exact ⟨k + 1, g1, cp1, n + 1, pre ++ [last], [], by omega, hn2.out, by go_num, rfl, hp2, HR⟩
        case measure => simp [intOf]; omega
      · rw [if_neg hxc] at hst
        have t1 := u8_ne hxc
        have hp2 := Lib.hid hst
        obtain ⟨c1, f1⟩ := hS.out.cell
        rw [← hn.out] at c1 f1
        have HW := Lib.hid (fun l => hS.out.store l)
        rw [← hn.out] at HW
        have hadd : ∀ W, (Op.stringOp .add (S last) ((S s).extract k (k + 1))).run Tryd.prog W = .ok (.string (S (last ++ [x]))) W := fun W => by
          rw [extract_one s k x hx]
          exact sadd last [x] (by simp; omega) W
        have HSx := Lib.hid (HW.out (last ++ [x]))
        generalize S (last ++ [x]) = r at *
        have hw1 : IntKind.i64.wrap ((k : Int) + 1) = (k : Int) + 1 := by rw [IntKind.wrap_i64]; omega
        have hb1 : (k : Int) + 1 ≤ (s.length : Int) := by omega
        have hnl : (n : Int) + 1 ≤ 200000 := by have := hn.out; omega
        clear hst hx hll hxc HW
        go_wp2_with fail
        go_region
        all_goals
          go_wp2
          go_roundw
          case rel => exact ⟨k + 1, g, cap, n, pre, last ++ [x], by omega, hn.out, by go_num, rfl, hp2, Lib.hid HSx.out.drew⟩
          case measure => simp [intOf]; omega
    · have hk2 : k = s.length := by omega
      have HE := Lib.hid (show splitB c s = pre ++ [last] by rw [← hp.out, hk2, List.take_length])
      subst hk2
      go_wp2
      go_ret
      refine ⟨_, rfl, ?_, by rw [hN]; exact hS.out.2.1⟩
      have h5 := hS.out.1
      rw [← hn.out] at h5
      rw [HE.out, List.length_append, hN, ← hn.out]
      exact h5

end Go.Proofs.YtpnjhodpbjhmcaaDoor.Il
