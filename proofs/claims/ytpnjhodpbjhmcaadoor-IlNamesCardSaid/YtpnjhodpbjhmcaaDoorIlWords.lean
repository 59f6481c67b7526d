/-
  The reference's Words, walked. Conditions: texts of up to 1000 bytes.
-/
import Derived.Test.YtpnjhodpbjhmcaaDoorIlSplit
import Derived.Test.YtpnjhodpbjhmcaaDoorIlSp
namespace Go.Proofs.YtpnjhodpbjhmcaaDoor.Il
open Go.RowKit
open Go.Proofs.YtpnjhodpbjhmcaaDoor.Ic

theorem split_head (c : UInt8) : ∀ (s : Bs), (splitB c s)[0]? = some (cutB c s)
  | [] => rfl
  | x :: s => by
    have ih := split_head c s
    unfold splitB cutB
    by_cases h : x = c
    · rw [if_pos h]; simp [h]
    · rw [if_neg h, List.takeWhile_cons, if_pos (by simpa using h)]
      cases hs : splitB c s with
      | nil => exact absurd hs (split_ne c s)
      | cons a r =>
        rw [hs] at ih
        simp at ih
        simp [ih, cutB]
theorem full_snoc {L : List Bs} {k : Nat} {x : Bs} (h : L[k]? = some x) : fullB (L.take (k + 1)) = fullB (L.take k) ++ (if x = [] then [] else [x]) := by
  unfold fullB
  rw [List.take_add_one, h]
  simp only [Option.toList, List.filter_append]
  congr 1
  by_cases hx : x = [] <;> simp [hx]
/-- A row of texts that may be read. -/
def TextsAt (W : World) (g : Nat) (L : List Bs) : Prop := ∀ (j : Nat) (x : Bs), L[j]? = some x → W.cell? ⟨g, j, none⟩ = some (.string (S x))
theorem TextsAt.kept {w w' : World} {g : Nat} {L : List Bs} (h : TextsAt w g L) (hb : Below w.heap.size w w') : TextsAt w' g L := fun j x hx => kept_cell hb (h j x hx)
theorem row_texts {w : World} {N n : Nat} {v : Value} {L : List Bs} (h : w.ownsRow N 9 1 v n (strs L)) (hn : 0 < n) (hL : n = L.length) : ∃ g c, v = .slice (some ⟨g, 0, none⟩) n c ∧ TextsAt w g L ∧ g < w.heap.size := by
  obtain ⟨g, c, rfl, -⟩ := own_form h hn
  have hc : TextsAt w g L := fun j x hx => by
    have hj := (List.getElem?_eq_some_iff.1 hx).1
    rw [World.ownsRow.cellAt h j (by omega)]
    simp [strs, hx]
  exact ⟨g, c, rfl, hc, (World.ownsRow.lt h g rfl).2⟩

set_option maxRecDepth 100000 in
set_option maxHeartbeats 8000000 in
theorem rWords_any (s : Bs) (hs : s.length ≤ 1000) (hw : wordsB s ≠ []) (w : World) : Calls Tryd.prog 16 #[.string (S s)] w fun e w' =>
    ∃ g c, e = .returned (.slice (some ⟨g, 0, none⟩) (wordsB s).length c) ∧ TextsAt w' g (wordsB s) ∧ Below w.heap.size w w' := by
  have hcl : (cutB 59 s).length ≤ 1000 := by
    unfold cutB
    have := (List.takeWhile_prefix (fun x => decide (x ≠ 59)) (l := s)).length_le
    omega
  have H1 : Hid (∀ W, Calls Tryd.prog 13 #[.string (S s), .int .u8 59] W fun e w' => ∃ n g c, 1 ≤ n ∧ e = .returned (.slice (some ⟨g, 0, none⟩) n c) ∧ w'.cell? ⟨g, 0, none⟩ = some (.string (S (cutB 59 s))) ∧ Below W.heap.size W w') := fun W =>
    (rSplit_any s 59 (by omega) W).mono fun e w' ⟨v, h1, h2, h3⟩ => by
      have hp := List.length_pos_iff.2 (split_ne 59 s)
      obtain ⟨g, c, h4, h5, -⟩ := row_texts h2 hp rfl
      exact ⟨_, g, c, hp, by rw [h1, h4], h5 0 _ (split_head 59 s), h3⟩
  have H2 : Hid (∀ W, Calls Tryd.prog 13 #[.string (S (cutB 59 s)), .int .u8 32] W fun e w' => ∃ g c, e = .returned (.slice (some ⟨g, 0, none⟩) (splitB 32 (cutB 59 s)).length c) ∧ TextsAt w' g (splitB 32 (cutB 59 s)) ∧ g < w'.heap.size ∧ Below W.heap.size W w') := fun W =>
    (rSplit_any (cutB 59 s) 32 (by omega) W).mono fun e w' ⟨v, h1, h2, h3⟩ => by
      obtain ⟨g, c, h4, h5, h6⟩ := row_texts h2 (List.length_pos_iff.2 (split_ne 32 _)) rfl
      exact ⟨g, c, by rw [h1, h4], h5, h6, h3⟩
  have hLl := split_len 32 (cutB 59 s)
  have hwE := Lib.hid (show wordsB s = fullB (splitB 32 (cutB 59 s)) from rfl)
  have hwN := Lib.hid hw
  generalize wordsB s = Wd at *
  generalize splitB 32 (cutB 59 s) = L at *
  generalize cutB 59 s = cs at *
  have hLi : (L.length : Int) ≤ 1001 := by omega
  obtain ⟨i0, hi0, hi1, hi2, hi3⟩ := info_parts infoStr
  have HI := Lib.hid (⟨hi0, hi1, hi2, hi3⟩ : _ ∧ _ ∧ _ ∧ _)
  clear hi0 hi1 hi2 hi3 hs hcl hLl hw
  obtain ⟨N0, hN0⟩ : ∃ N, w.heap.size = N := ⟨_, rfl⟩
  rw [hN0]
  go_enter Tryd.func16, Tryd.ntmps16
  go_wp2_with fail
  refine (H1.out _).mono ?_
  rintro e w1 ⟨n1, g1, c1, hn1, rfl, hc1, hb1⟩
  have hn1i : (1 : Int) ≤ n1 := by omega
  replace hb1 := Lib.hid hb1
  go_wp2_with fail
  refine (H2.out _).mono ?_
  rintro e w2 ⟨g, c2, rfl, hT, hgl, hb2⟩
  have HB2 := Lib.hid (hb1.out.trans (hb2.mono hb1.out.size))
  have HT := Lib.hid hT
  have HG := Lib.hid hgl
  clear hb1 hb2 hT hc1 hn1 hgl
  obtain ⟨N, hN⟩ : ∃ N, w2.heap.size = N := ⟨_, rfl⟩
  have HO0 := Lib.hid (World.ownsRow_nil w2 N 9 1)
  have HNN := Lib.hid hN
  go_wp2
  go_loopw [3, 5] (fun v i wr => ∃ (k m : Nat), (k : Int) ≤ L.length ∧ (m : Int) ≤ k ∧ i = .int .i64 k ∧ Hid (wr.ownsRow N 9 1 v m (strs (fullB (L.take k))) ∧ Below N w2 wr ∧ N ≤ wr.heap.size)) (fun _ i _ => L.length - (intOf i).toNat)
  case atStart => exact ⟨0, 0, by omega, by omega, rfl, Lib.hid ⟨HO0.out, Below.refl _ _, by omega⟩⟩
  case round =>
    obtain ⟨k, m, hk, hm, rfl, hS⟩ := hrel
    by_cases hlt : (k : Int) < L.length
    · obtain ⟨x, hx⟩ : ∃ x, L[k]? = some x := ⟨_, List.getElem?_eq_getElem (by omega)⟩
      have cx : wr.cell? ⟨g, k, none⟩ = some (.string (S x)) := (hS.out.2.1.cell (p := ⟨g, k, none⟩) (show g < N by have := HG.out; omega)).trans (HT.out k x hx)
      have hst := full_snoc hx
      by_cases hxe : x = []
      · rw [if_pos hxe, List.append_nil] at hst
        have he := s_nil hxe
        have HW := Lib.hid (show wr.ownsRow N 9 1 _ m (strs (fullB (L.take (k + 1)))) ∧ Below N w2 wr ∧ N ≤ wr.heap.size from by rw [hst]; exact hS.out)
        clear hst hxe hx
        go_wp2
        go_roundw
        case rel => exact ⟨k + 1, m, by omega, by omega, by go_num, HW⟩
        case measure => simp [intOf]; omega
      · rw [if_neg hxe] at hst
        have he := s_some hxe
        have HO1 := Lib.hid (World.ownsRow.alloc hS.out.1 (.cells #[.string (S x)] 9))
        have hE := Lib.hid (show strs (fullB (L.take k)) ++ [.string (S x)] = strs (fullB (L.take (k + 1))) by rw [hst]; simp [strs])
        have HS0 := Lib.hid hS.out
        clear hst hxe hx
        go_wp2_with (at_builtin; refine wpList_append_lies _ rfl (.tmp 22) (.tmp 27) 31 rfl N 9 i0 (.string ⟨#[]⟩) 1 16 Tryd.underlying31 HI.out.1 HI.out.2.1 HI.out.2.2.1 HI.out.2.2.2 rfl (by decide) _ m (strs (fullB (L.take k))) rfl HO1.out ⟨wr.heap.size, 0, none⟩ 1 1 [.string (S x)] rfl rfl (cell_one_new _ _ _) (by intro u hu; simp at hu; subst hu; rfl) (by decide) (by unfold maxLen; omega) (by omega) (by have := HS0.out.2.2; simp; omega) _ rfl ?_)
        intro g3 cp3 W hown hgr hat hlt1
        have HW := Lib.hid (show W.ownsRow N 9 1 (.slice (some ⟨g3, 0, none⟩) (m + 1) cp3) (m + 1) (strs (fullB (L.take (k + 1)))) ∧ Below N w2 W ∧ N ≤ W.heap.size from ⟨by rw [← hE.out]; exact hown, below_grown HS0.out.2.1 HS0.out.2.2 hgr (fun j hj => (World.ownsRow.lt HS0.out.1 j hj).1), by have h1 := hgr.size; have h2 := HS0.out.2.2; simp at h1; omega⟩)
        clear hown hgr hat hlt1 HO1 cx
        go_wp2
        go_roundw
        case rel => exact ⟨k + 1, m + 1, by omega, by omega, by go_num, HW⟩
        case measure => simp [intOf]; omega
    · have hkL : k = L.length := by omega
      have hS2 := hS.out.1
      rw [hkL, List.take_length, ← hwE.out] at hS2
      have hml : m = Wd.length := by have := hS2.1; simp [strs] at this; omega
      obtain ⟨g3, c3, hv, hT3, -⟩ := row_texts hS2 (by have := List.length_pos_iff.2 hwN.out; omega) hml
      subst hv
      have HT3 := Lib.hid hT3
      have hml2 := Lib.hid hml
      clear hS2 hT3 hml hkL
      go_wp2
      go_ret
      refine ⟨g3, ⟨c3, by rw [← hml2.out]; rfl⟩, HT3.out, ?_⟩
      have h1 := HB2.out
      rw [hN0] at h1
      have h2 := h1.size
      exact h1.trans (hS.out.2.1.mono (by omega))

end Go.Proofs.YtpnjhodpbjhmcaaDoor.Il
