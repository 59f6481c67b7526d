/-
  Plain facts: what the library's FieldsFunc makes at blanks are a line's words; what its Split makes are lines; Cut's parts at one byte. No program is named here. Conditions: none.
-/
import Derived.Test.YtpnjhodpbjhmcaaGreatDoorIlTwin
import Derived.Test.YtpnjhodpbjhmcaaGreatDoorIlOp
import Derived.Lib.FieldsP
import Derived.Lib.SplitLaws
import Derived.Lib.CutLaws
namespace Go.Proofs.YtpnjhodpbjhmcaaGreatDoor.Il
open Go.Proofs.YtpnjhodpbjhmcaaGreatDoor.Ic

def blankP (x : Nat) : Bool := decide (x = 32)
theorem dec_no (n b0 b1 b2 b3 : Nat) (hn : 1 ≤ n) (h32 : b0 ≠ 32) : (Lib.decodeN n b0 b1 b2 b3).1 ≠ 32 ∧ (Lib.decodeN n b0 b1 b2 b3).2 ≤ n ∧ (1 < (Lib.decodeN n b0 b1 b2 b3).2 → b1 ≠ 32) ∧ (2 < (Lib.decodeN n b0 b1 b2 b3).2 → b2 ≠ 32) ∧ (3 < (Lib.decodeN n b0 b1 b2 b3).2 → b3 ≠ 32) ∧ (Lib.decodeN n b0 b1 b2 b3).2 ≤ 4 := by
  unfold Lib.decodeN
  repeat' split
  all_goals (simp only; omega)
theorem dec_yes (n b1 b2 b3 : Nat) : Lib.decodeN n 32 b1 b2 b3 = (32, 1) := by simp [Lib.decodeN]
theorem size_S (s : Bs) : (S s).size = s.length := by simp [S, ByteArray.size]
theorem get_S (s : Bs) (i : Nat) (h : i < s.length) : (S s).get! i = s[i] := by
  show (s.toArray)[i]! = s[i]
  simp [h]
theorem ext_S (s : Bs) (a b : Nat) : (S s).extract a b = S (Lib.pieceU s a b) := by
  rw [Lib.extract_eq]
  rfl
theorem drop_two (s : Bs) (a pos : Nat) (h : a ≤ pos) : s.drop a = Lib.pieceU s a pos ++ s.drop pos := by
  unfold Lib.pieceU
  have e : s.drop pos = (s.drop a).drop (pos - a) := by rw [List.drop_drop]; congr 1; omega
  rw [e, List.take_append_drop]
theorem toNat32 {c : UInt8} (h : c ≠ 32) : c.toNat ≠ 32 := fun e => h (UInt8.toNat_inj.1 e)
/-- A step over one rune that is no blank: no byte of it is one. -/
theorem step_no (s : Bs) (pos : Nat) (h : pos < s.length) (hc : s[pos] ≠ 32) : blankP (Utf8.decode (S s) pos).1 = false ∧ 1 ≤ (Utf8.decode (S s) pos).2 ∧ pos + (Utf8.decode (S s) pos).2 ≤ s.length ∧ 32 ∉ Lib.pieceU s pos (pos + (Utf8.decode (S s) pos).2) := by
  have hw := Lib.width_pos (S s) pos
  have hd := dec_no (s.length - pos) ((S s).get! pos).toNat ((S s).get! (pos + 1)).toNat ((S s).get! (pos + 2)).toNat ((S s).get! (pos + 3)).toNat (by omega) (by rw [get_S s pos h]; exact toNat32 hc)
  rw [← size_S s, ← Lib.decode_at, size_S] at hd
  obtain ⟨h1, h2, h3, h4, h5, h6⟩ := hd
  refine ⟨by unfold blankP; simpa using h1, hw, by omega, ?_⟩
  intro hm
  unfold Lib.pieceU at hm
  rw [Nat.add_sub_cancel_left] at hm
  obtain ⟨k, hk, he⟩ := List.mem_iff_getElem.1 hm
  rw [List.length_take, List.length_drop] at hk
  rw [List.getElem_take, List.getElem_drop] at he
  have hk4 : k = 0 ∨ k = 1 ∨ k = 2 ∨ k = 3 := by omega
  have hg := get_S s (pos + k) (by omega)
  rcases hk4 with rfl | rfl | rfl | rfl
  · exact hc he
  · exact h3 (by omega) (by rw [hg, he]; rfl)
  · exact h4 (by omega) (by rw [hg, he]; rfl)
  · exact h5 (by omega) (by rw [hg, he]; rfl)
theorem step_yes (s : Bs) (pos : Nat) (h : pos < s.length) (hc : s[pos] = 32) : blankP (Utf8.decode (S s) pos).1 = true ∧ (Utf8.decode (S s) pos).2 = 1 := by
  rw [Lib.decode_at, get_S s pos h, hc, show (32 : UInt8).toNat = 32 from rfl, dec_yes]
  exact ⟨rfl, rfl⟩
theorem full_one {x : Bs} (h : x ≠ []) (l : List Bs) : fullB (x :: l) = x :: fullB l := by
  unfold fullB
  rw [List.filter_cons, if_pos (by simpa using h)]
theorem piece_ne {s : Bs} {a pos : Nat} (h : a < pos) (hp : pos ≤ s.length) : Lib.pieceU s a pos ≠ [] := Lib.pieceU_ne s a pos h hp
theorem spans_words (s : Bs) : ∀ (f pos : Nat) (st : Option Nat) (acc : List (Nat × Nat)), s.length ≤ pos + f → pos ≤ s.length → (∀ a, st = some a → a < pos ∧ 32 ∉ Lib.pieceU s a pos) →
    (Lib.closeSpans (S s) (Lib.spansFromP blankP (S s) f pos st acc)).map (fun p => Lib.pieceU s p.1 p.2) = acc.map (fun p => Lib.pieceU s p.1 p.2) ++ fullB (splitB 32 (s.drop (st.getD pos))) := by
  intro f
  induction f with
  | zero =>
    intro pos st acc h hp hst
    obtain rfl : pos = s.length := by omega
    cases st with
    | none => simp [Lib.spansFromP, Lib.closeSpans, fullB, splitB]
    | some a =>
      obtain ⟨h1, h2⟩ := hst a rfl
      have hd := drop_two s a s.length (by omega)
      rw [List.drop_length, List.append_nil] at hd
      simp only [Lib.spansFromP, Lib.closeSpans, Option.getD_some, List.map_append, List.map_cons, List.map_nil, size_S]
      rw [hd, split_free h2, full_one (piece_ne h1 (Nat.le_refl _))]
      rfl
  | succ f ih =>
    intro pos st acc h hp hst
    by_cases hlt : pos < s.length
    · have hlt2 : pos < (S s).size := by rw [size_S]; exact hlt
      have hdp : s.drop pos = s[pos] :: s.drop (pos + 1) := List.drop_eq_getElem_cons hlt
      by_cases hc : s[pos] = 32
      · obtain ⟨e1, e2⟩ := step_yes s pos hlt hc
        simp only [Lib.spansFromP, if_pos hlt2, e1, e2, if_true]
        rw [hc] at hdp
        cases st with
        | none =>
          rw [ih (pos + 1) none acc (by omega) (by omega) (fun a h => by cases h)]
          simp only [Option.getD_none]
          rw [hdp, full_blank]
        | some a =>
          obtain ⟨h1, h2⟩ := hst a rfl
          rw [ih (pos + 1) none _ (by omega) (by omega) (fun a h => by cases h)]
          simp only [Option.getD_none, Option.getD_some, List.map_append, List.map_cons, List.map_nil]
          rw [drop_two s a pos (by omega), hdp, split_app h2, full_one (piece_ne h1 hp)]
          simp
      · obtain ⟨e1, e2, e3, e4⟩ := step_no s pos hlt hc
        simp only [Lib.spansFromP, if_pos hlt2, e1, Bool.false_eq_true, if_false]
        cases st with
        | none =>
          rw [ih _ (some pos) acc (by omega) e3 (fun a h => by cases h; exact ⟨by omega, e4⟩)]
          rfl
        | some a =>
          obtain ⟨h1, h2⟩ := hst a rfl
          rw [ih _ (some a) acc (by omega) e3 (fun b h => by
            cases h
            refine ⟨by omega, ?_⟩
            rw [← Lib.pieceU_grow s a pos _ (by omega), List.mem_append, not_or]
            refine ⟨h2, ?_⟩
            unfold Lib.pieceU at e4
            rwa [Nat.add_sub_cancel_left] at e4)]
          rfl
    · obtain rfl : pos = s.length := by omega
      have hlt2 : ¬ s.length < (S s).size := by rw [size_S]; omega
      rw [Lib.spansFromP_end _ _ _ _ _ _ hlt2]
      have := ih s.length st acc (by omega) (Nat.le_refl _) hst
      rwa [Lib.spansFromP_end _ _ _ _ _ _ hlt2] at this
/-- FieldsFunc at blanks. -/
theorem fields_words (s : Bs) : Lib.goFieldsP blankP (S s) = (fullB (splitB 32 s)).map S := by
  have h := spans_words s s.length 0 none [] (by omega) (by omega) (fun a h => by cases h)
  simp only [List.map_nil, List.nil_append, Option.getD_none, List.drop_zero] at h
  rw [← h]
  unfold Lib.goFieldsP Lib.spansOfP
  rw [List.map_map, size_S]
  refine List.map_congr_left fun x _ => ?_
  exact ext_S s x.1 x.2

/-! ### Index, Cut, Split at one byte -/
theorem index_cons_ne (b c : UInt8) (l : Bs) (h : b ≠ c) : Lib.index (b :: l) [c] = if Lib.index l [c] = -1 then -1 else Lib.index l [c] + 1 := by
  have hp : ([c] : Bs).isPrefixOf (b :: l) = false := by simp [List.isPrefixOf, Ne.symm h]
  rw [Lib.index, hp]; simp
theorem index_no {c : UInt8} : ∀ {s : Bs}, c ∉ s → Lib.index s [c] = -1
  | [], _ => by simp [Lib.index]
  | b :: l, h => by
    simp at h
    rw [index_cons_ne b c l (fun e => h.1 e.symm), index_no h.2]; rfl
theorem index_at {c : UInt8} {b : Bs} : ∀ {a : Bs}, c ∉ a → Lib.index (a ++ c :: b) [c] = (a.length : Nat)
  | [], _ => by rw [List.nil_append, Lib.index]; simp [List.isPrefixOf]
  | x :: a, h => by
    simp at h
    have ih := index_at (b := b) h.2
    rw [List.cons_append, index_cons_ne x c _ (fun e => h.1 e.symm), ih, if_neg (by omega)]
    simp
theorem cut_no {c : UInt8} {s : Bs} (h : c ∉ s) : Lib.cut s [c] = (s, [], false) := by
  unfold Lib.cut
  rw [index_no h, if_neg (by omega)]
theorem cut_at {c : UInt8} {a b : Bs} (h : c ∉ a) : Lib.cut (a ++ c :: b) [c] = (a, b, true) := by
  unfold Lib.cut
  rw [index_at h, if_pos (by omega)]
  simp
theorem cut_first (c : UInt8) (s : Bs) : (Lib.cut s [c]).1 = cutB c s := by
  by_cases h : c ∈ s
  · obtain ⟨a, b, rfl, ha⟩ := List.eq_append_cons_of_mem h
    rw [cut_at ha]
    unfold cutB
    rw [List.takeWhile_append_of_pos (by intro x hx; simp; rintro rfl; exact ha hx), List.takeWhile_cons, if_neg (by simp)]
    simp
  · rw [cut_no h, cut_free h]
theorem count_at {c : UInt8} {a b : Bs} (h : c ∉ a) : (a ++ c :: b).count c = b.count c + 1 := by
  rw [List.count_append, List.count_cons_self, List.count_eq_zero_of_not_mem h, Nat.zero_add]
theorem splitK_lines (c : UInt8) : ∀ (k : Nat) (s : Bs), s.count c = k → Lib.splitK [c] 0 k s = splitB c s
  | 0, s, h => by rw [split_free (List.count_eq_zero.1 h)]; rfl
  | k + 1, s, h => by
    have hm : c ∈ s := List.count_pos_iff.1 (by omega)
    obtain ⟨a, b, rfl, ha⟩ := List.eq_append_cons_of_mem hm
    rw [count_at ha] at h
    unfold Lib.splitK
    rw [index_at ha, if_neg (by simp), split_app ha]
    simp only [Int.toNat_natCast, Nat.add_zero, List.length_cons, List.length_nil, Nat.zero_add]
    rw [List.take_left, show (a ++ c :: b).drop (a.length + 1) = b by simp, splitK_lines c k b (by omega)]
/-- Split at one byte. -/
theorem split_lines (c : UInt8) (s : Bs) : Lib.splitB (S [c]) 0 (Lib.countB (S s) (S [c])) (S s) = (splitB c s).map S ∧ Lib.countB (S s) (S [c]) + 1 = (splitB c s).length := by
  have hc : Lib.countB (S s) (S [c]) = s.count c := Lib.count_one c s
  have h := Lib.splitB_data (S [c]) 0 (Lib.countB (S s) (S [c])) (S s)
  have h2 : Lib.splitK [c] 0 (Lib.countB (S s) (S [c])) s = splitB c s := splitK_lines c _ s hc.symm
  replace h : (Lib.splitB (S [c]) 0 (Lib.countB (S s) (S [c])) (S s)).map (·.data.toList) = splitB c s := h.trans h2
  constructor
  · rw [← h, List.map_map]
    refine (List.map_id _).symm.trans (List.map_congr_left fun x _ => ?_)
    simp [S]
  · rw [← h, List.length_map, Lib.splitB_all (S [c]) (by simp [S, ByteArray.size]) 0 _ (S s) rfl]

end Go.Proofs.YtpnjhodpbjhmcaaGreatDoor.Il
