/-
  The laws of reading any bytes, and such as are well summed, walked. Conditions: the library's table of powers is as the program lays it.
-/
import Derived.Test.YtindekpmicbbiaaDoorReads
namespace Go.Proofs.YtindekpmicbbiaaDoor
open Go.RowKit
open Oct Sums

set_option linter.unusedSimpArgs false
attribute [local go_sem ↓] exec_bd exec_ld exec_st load_row loadVar_row store_row
attribute [local go_sem] bd_0 bd_1 bd_5 bd_6 ld_row st_row set_cell_lt set_cell_gt one_int one_bool one_str row_new ok_new free_new row_old ok_old_iff free_old_iff put_in put_cell_lt put_cell_gt put_frozen row_put_in row_put_lt row_put_gt ok_put_iff free_put_iff put_size row_set_in row_set_lt row_set_gt ok_set_iff free_set_iff drew_cell drew_frozen drew_size row_drew ok_drew free_drew

open Epo
theorem size_ok3 {s : ByteArray} (h3 : byt s 0 = 3) : sizeOk (byt s 0) s.size = decide (s.size = 23) := by
  unfold sizeOk; rw [if_pos (by omega), Bool.eq_iff_iff]; simp; omega
theorem size_ok4 {s : ByteArray} (h4 : byt s 0 = 4) : sizeOk (byt s 0) s.size = decide (26 < s.size ∧ s.size ≤ 42) := by
  unfold sizeOk; rw [if_neg (by omega), if_pos (by omega), Bool.eq_iff_iff]; simp; omega
theorem size_ok0 {s : ByteArray} (h3 : byt s 0 ≠ 3) (h4 : byt s 0 ≠ 4) : sizeOk (byt s 0) s.size = decide (s.size = 17) := by
  unfold sizeOk; rw [if_neg (by omega), if_neg (by omega), Bool.eq_iff_iff]; simp; omega

/-- A right size for what it is of. -/
theorem rerr_size (s : ByteArray) (hs : s.size ≤ 1000) (h17 : 17 ≤ s.size) (hl : s.size = byt s 1) (hc : sealedB (s.extract 0 (s.size - 2)) = s) (k1 : 1 ≤ byt s 0) (k2 : byt s 0 ≤ 5) (hz : sizeOk (byt s 0) s.size = false) (w : World) :
    Calls Tryd.prog 17 #[.string s] w fun e w' => e = .returned (.int .i64 10) ∧ Below w.heap.size w w' := by
  by_cases h3 : byt s 0 = 3
  · rw [size_ok3 h3] at hz
    exact rerr_size3 s hs h17 hl hc h3 (by simpa using hz) w
  · by_cases h4 : byt s 0 = 4
    · rw [size_ok4 h4] at hz
      have hz : ¬ (26 < s.size ∧ s.size ≤ 42) := by simpa using hz
      by_cases h : s.size < 27
      · exact rerr_size4a s hs h17 hl hc h4 h w
      · exact rerr_size4b s hs h17 hl hc h4 (by omega) w
    · rw [size_ok0 h3 h4] at hz
      exact rerr_size0 s hs h17 hl hc k1 k2 h3 h4 (by simpa using hz) w

theorem rerr_form (s : ByteArray) (hs : s.size ≤ 1000) (h17 : 17 ≤ s.size) (hl : s.size = byt s 1) (hc : sealedB (s.extract 0 (s.size - 2)) = s) (k1 : 1 ≤ byt s 0) (k2 : byt s 0 ≤ 5) (hz : sizeOk (byt s 0) s.size = true) (hf : encB (placeF s) ≠ s) (w : World) :
    Calls Tryd.prog 17 #[.string s] w fun e w' => e = .returned (.int .i64 3) ∧ Below w.heap.size w w' := by
  have hi := mt (enc_iff s h17 hl hc hz).2 hf
  by_cases h3 : byt s 0 = 3
  · rw [size_ok3 h3] at hz
    have hz : s.size = 23 := by simpa using hz
    by_cases hw : byt s 20 ≤ 1
    · have hr : rtB (placeF s) = false := by
        rw [← Bool.not_eq_true]
        exact fun h => hi ⟨h, fun _ => hw⟩
      exact rerr_form3false s hs h17 hl hc h3 hz hw hr w
    · exact rerr_wants s hs h17 hl hc h3 hz (by omega) w
  · have hr : rtB (placeF s) = false := by
      rw [← Bool.not_eq_true]
      exact fun h => hi ⟨h, fun h' => absurd h' h3⟩
    by_cases h4 : byt s 0 = 4
    · rw [size_ok4 h4] at hz
      have hz : 26 < s.size ∧ s.size ≤ 42 := by simpa using hz
      exact rerr_form4false s hs h17 hl hc h4 hz.1 hz.2 hr w
    · rw [size_ok0 h3 h4] at hz
      exact rerr_form0false s hs h17 hl hc k1 k2 h3 h4 (by simpa using hz) hr w

theorem rerr_none (s : ByteArray) (hs : s.size ≤ 1000) (h17 : 17 ≤ s.size) (hl : s.size = byt s 1) (hc : sealedB (s.extract 0 (s.size - 2)) = s) (k1 : 1 ≤ byt s 0) (k2 : byt s 0 ≤ 5) (hz : sizeOk (byt s 0) s.size = true) (hf : encB (placeF s) = s) (w : World) :
    Calls Tryd.prog 17 #[.string s] w fun e w' => e = .returned (.int .i64 0) ∧ Below w.heap.size w w' := by
  obtain ⟨hr, hw⟩ := (enc_iff s h17 hl hc hz).1 hf
  by_cases h3 : byt s 0 = 3
  · rw [size_ok3 h3] at hz
    exact rerr_form3true s hs h17 hl hc h3 (by simpa using hz) (hw h3) hr w
  · by_cases h4 : byt s 0 = 4
    · rw [size_ok4 h4] at hz
      have hz : 26 < s.size ∧ s.size ≤ 42 := by simpa using hz
      exact rerr_form4true s hs h17 hl hc h4 hz.1 hz.2 hr w
    · rw [size_ok0 h3 h4] at hz
      exact rerr_form0true s hs h17 hl hc k1 k2 h3 h4 (by simpa using hz) hr w

theorem reads_walk (s : ByteArray) (w : World) (hE : Env w) : Calls Tryd.prog 4 #[.string s] w fun e w' => e = .returned (.bool true) ∧ Below w.heap.size w w' := by
  by_cases hs : 400 < s.size
  · exact reads_long s hs w hE
  have hs : s.size ≤ 400 := by omega
  have hs2 : s.size ≤ 1000 := by omega
  by_cases h17 : s.size < 17
  · exact reads_err s hs 10 (by decide) (fun W => dec_len1 s W (by omega)) (fun W => rerr_len1 s hs2 h17 W) w hE
  have h17 : 17 ≤ s.size := by omega
  by_cases hl : s.size = byt s 1
  case neg => exact reads_err s hs 10 (by decide) (fun W => dec_len2 s W h17 hl) (fun W => rerr_len2 s hs2 h17 hl W) w hE
  by_cases hc : sealedB (s.extract 0 (s.size - 2)) = s
  case neg => exact reads_err s hs 9 (by decide) (fun W => dec_crc s W h17 hl hc) (fun W => rerr_crc s hs2 h17 hl hc W) w hE
  by_cases k1 : 1 ≤ byt s 0
  case neg => exact reads_err s hs 11 (by decide) (fun W => dec_kind s W h17 hl hc (by omega)) (fun W => rerr_kind1 s hs2 h17 hl hc (by omega) W) w hE
  by_cases k2 : byt s 0 ≤ 5
  case neg => exact reads_err s hs 11 (by decide) (fun W => dec_kind s W h17 hl hc (by omega)) (fun W => rerr_kind2 s hs2 h17 hl hc (by omega) W) w hE
  cases hz : sizeOk (byt s 0) s.size
  · exact reads_err s hs 10 (by decide) (fun W => dec_size s W h17 hl hc (by omega) (by omega) hz) (fun W => rerr_size s hs2 h17 hl hc k1 k2 hz W) w hE
  have hz3 : byt s 0 = 3 → s.size = 23 := fun h3 => by rw [size_ok3 h3] at hz; simpa using hz
  have hz4 : byt s 0 = 4 → 26 < s.size := fun h4 => by rw [size_ok4 h4] at hz; exact (of_decide_eq_true hz).1
  have hp := frame_place s h17 hz3 hz4
  have hfit := place_fit s hs2
  by_cases hf : encB (placeF s) = s
  · have hr := ((enc_iff s h17 hl hc hz).1 hf).1
    refine reads_ok s hs (placeF s) hfit hf (by unfold encE; rw [hr]; rfl) (fun W => ?_) (fun W => rerr_none s hs2 h17 hl hc k1 k2 hz hf W) (fun W => rFrame_any s h17 (fun h => by have := hz3 h; omega) (fun h => by have := hz4 h; omega) hs2 W) w hE
    have h := dec_ok s W h17 hl hc (by omega) (by omega) hz (by rw [hp]; exact hfit) (by rw [hp]; exact hf)
    rw [hp] at h
    exact h
  · exact reads_err s hs 3 (by decide) (fun W => dec_form s W h17 hl hc (by omega) (by omega) hz (by rw [hp]; exact hfit) (by rw [hp]; exact hf)) (fun W => rerr_form s hs2 h17 hl hc k1 k2 hz hf W) w hE

/-! ### Bytes with the right length and sum -/
theorem Row.put {w : World} {g : Nat} {l : List UInt8} (h : Row w g l) (i : Nat) (d : UInt8) : Row (w.setCell ⟨g, i, none⟩ (.int .u8 (d.toNat : Int))) g (l.set i d) := by
  intro j hj
  rw [List.length_set] at hj
  obtain ⟨hc, hz⟩ := h j hj
  refine ⟨?_, (World.frozen?_setCell _ _ _ _).trans hz⟩
  by_cases hij : i = j
  · subst hij
    rw [World.cell?_setCell_same _ _ _ hc]
    simp [List.getD_eq_getElem?_getD, hj]
  · rw [World.cell?_setCell_other _ _ _ _ (by intro e; injection e with _ e; exact hij e), hc]
    simp [List.getD_eq_getElem?_getD, hij]

set_option maxRecDepth 100000 in
set_option maxHeartbeats 4000000 in
theorem sealed_small (s : ByteArray) (hs : s.size < 2 ∨ 60 < s.size) (w : World) (hE : Env w) : Calls Tryd.prog 5 #[.string s] w fun e w' => e = .returned (.bool true) ∧ Below w.heap.size w w' := by
  have HE := Lib.hid hE
  have hd : decide ((s.size : Int) < 2) = true ∨ (decide ((s.size : Int) < 2) = false ∧ decide ((60 : Int) < (s.size : Int)) = true) := by
    by_cases h : s.size < 2
    · left; simp; omega
    · right; refine ⟨by simp; omega, by simp; omega⟩
  clear hs hE
  rcases hd with d0 | ⟨d0, d1⟩
  all_goals
    go_enter Tryd.func5, Tryd.ntmps5
    go_wp2_with fail
    refine (awake_any _ HE.out).mono ?_
    rintro e w1 ⟨rfl, hb1⟩
    go_wp2
    go_ret
    exact ⟨rfl, hb1⟩

set_option maxRecDepth 100000 in
set_option maxHeartbeats 4000000 in
theorem sealed_in (s : ByteArray) (h2 : 2 ≤ s.size) (h60 : s.size ≤ 60) (w : World) (hE : Env w) : Calls Tryd.prog 5 #[.string s] w fun e w' => e = .returned (.bool true) ∧ Below w.heap.size w w' := by
  have HE := Lib.hid hE
  have d0 : decide ((s.size : Int) < 2) = false := by simp; omega
  have d1 : decide ((60 : Int) < (s.size : Int)) = false := by simp; omega
  have i1 : (1 : Int) < (s.size : Int) := by omega
  have v1 : IntKind.i64.wrap ((s.size : Int) + 2) = (s.size : Int) + 2 := by rw [IntKind.wrap_i64]; omega
  have v2 : IntKind.u8.wrap ((s.size : Int) + 2) = ((UInt8.ofNat (s.size + 2)).toNat : Int) := by rw [IntKind.wrap_u8]; simp
  have hconv := fun w : World => Lib.run_convert_string_bytes (P := Tryd.prog) w 9 42 5 s Tryd.underlying9 Tryd.underlying42 Tryd.underlying5
  have hl : s.data.toList.length = s.size := size_list s
  have H60 := Lib.hid h60
  have H2 := Lib.hid h2
  clear hE h2 h60
  generalize UInt8.ofNat (s.size + 2) = d at *
  go_enter Tryd.func5, Tryd.ntmps5
  go_wp2_with fail
  refine (awake_any _ HE.out).mono ?_
  rintro e w1 ⟨rfl, hb1⟩
  have hrow := bytesWorld_row w1 s
  have hbel := hb1.trans ((bytesWorld_below w1 s).mono hb1.size)
  have hr1 := hrow 1 (by have := H2.out; omega)
  have hc := hr1.1
  have hz := hr1.2
  have HR := Lib.hid (hrow.put 1 d)
  have HB := Lib.hid (hbel.setCell (p := ⟨w1.heap.size, 1, none⟩) hb1.size (.int .u8 (d.toNat : Int)))
  have hcv := run_convert_bytes_arg (P := Tryd.prog) ((Lib.bytesWorld w1 5 s).setCell ⟨w1.heap.size, 1, none⟩ (.int .u8 (d.toNat : Int))) 42 5 Tryd.underlying42 Tryd.underlying5 w1.heap.size 0 s.size (grownCap w1 s.size 0 5) _ (by rw [List.length_map, List.length_set]; exact hl) (fun i hi => HR.out.cells i (by rw [List.length_set, hl]; exact hi)) 9 Tryd.underlying9
  rw [strOfNums_bytes] at hcv
  have hsz : (⟨(s.data.toList.set 1 d).toArray⟩ : ByteArray).size ≤ 60 := by
    have := H60.out
    have e : (⟨(s.data.toList.set 1 d).toArray⟩ : ByteArray).size = s.size := by
      rw [← hl]; show (s.data.toList.set 1 d).toArray.size = _; rw [List.size_toArray, List.length_set]
    omega
  have HQ := Lib.hid (fun W => rsealed_any (⟨(s.data.toList.set 1 d).toArray⟩ : ByteArray) W (by omega))
  generalize (⟨(s.data.toList.set 1 d).toArray⟩ : ByteArray) = t at *
  have HEB := Lib.hid (HE.out.below (HB.out.mono (Nat.le_refl _)))
  clear hrow hbel hr1 hb1 hsz HR
  go_wp2_with fail
  refine (HQ.out _).mono ?_
  rintro e w2 ⟨rfl, hb2⟩
  have hB2 := HB.out.trans (hb2.mono HB.out.size)
  go_wp2_with fail
  refine (reads_walk (sealedB t) w2 (HE.out.below hB2)).mono ?_
  rintro e w3 ⟨rfl, hb3⟩
  go_wp2
  go_ret
  exact ⟨rfl, hB2.trans (hb3.mono hB2.size)⟩

theorem sealed_walk (s : ByteArray) (w : World) (hE : Env w) : Calls Tryd.prog 5 #[.string s] w fun e w' => e = .returned (.bool true) ∧ Below w.heap.size w w' := by
  by_cases h : s.size < 2 ∨ 60 < s.size
  · exact sealed_small s h w hE
  · exact sealed_in s (by omega) (by omega) w hE

end Go.Proofs.YtindekpmicbbiaaDoor
