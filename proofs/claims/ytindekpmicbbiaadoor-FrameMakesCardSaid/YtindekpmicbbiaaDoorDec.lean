/-
  Frames of bytes: the code, walked. Conditions: none.
-/
import Derived.Test.YtindekpmicbbiaaDoorEnc
import Derived.Test.YtindekpmicbbiaaDoorRd
namespace Go.Proofs.YtindekpmicbbiaaDoor
open Go.RowKit
open Oct Sums

set_option linter.unusedSimpArgs false
attribute [local go_sem ↓] exec_bd exec_ld exec_st load_row loadVar_row store_row
attribute [local go_sem] bd_0 bd_1 bd_5 bd_6 ld_row st_row set_cell_lt set_cell_gt one_int one_bool one_str row_new ok_new free_new row_old ok_old_iff free_old_iff put_in put_cell_lt put_cell_gt put_frozen row_put_in row_put_lt row_put_gt ok_put_iff free_put_iff put_size row_set_in row_set_lt row_set_gt ok_set_iff free_set_iff drew_cell drew_frozen drew_size row_drew ok_drew free_drew

/-- Has a frame of that kind so many bytes? -/
def sizeOk (k n : Int) : Bool := if k = 3 then n == 23 else if k = 4 then decide (26 < n) && decide (n ≤ 42) else n == 17
theorem isSize_any (k n : Int) (w : World) : Calls Tryd.prog 42 #[.int .i64 k, .int .i64 n] w fun e w' => e = .returned (.bool (sizeOk k n)) ∧ w = w' := by
  by_cases h3 : k = 3
  · have d3 : (k == 3) = true := by simp [h3]
    have e : sizeOk k n = (n == 23) := by unfold sizeOk; rw [if_pos h3]
    rw [e]
    clear h3 e
    go_enter Tryd.func42, Tryd.ntmps42
    go_wp2
    go_ret
    exact ⟨rfl, rfl⟩
  · have d3 : (k == 3) = false := by simp [h3]
    by_cases h4 : k = 4
    · have d4 : (k == 4) = true := by simp [h4]
      have e : sizeOk k n = (decide (26 < n) && decide (n ≤ 42)) := by unfold sizeOk; rw [if_neg h3, if_pos h4]
      rw [e]
      clear h3 h4 e
      by_cases h1 : 26 < n
      · have d1 : decide ((26 : Int) < n) = true := by simpa using h1
        rw [d1]
        go_enter Tryd.func42, Tryd.ntmps42
        go_wp2
        go_ret
        exact ⟨rfl, rfl⟩
      · have d1 : decide ((26 : Int) < n) = false := by simpa using h1
        rw [d1]
        go_enter Tryd.func42, Tryd.ntmps42
        go_wp2
        go_ret
        exact ⟨rfl, rfl⟩
    · have d4 : (k == 4) = false := by simp [h4]
      have e : sizeOk k n = (n == 17) := by unfold sizeOk; rw [if_neg h3, if_neg h4]
      rw [e]
      clear h3 h4 e
      go_enter Tryd.func42, Tryd.ntmps42
      go_wp2
      go_ret
      exact ⟨rfl, rfl⟩

set_option maxRecDepth 100000 in
set_option maxHeartbeats 4000000 in
theorem dec_len1 (s : ByteArray) (w : World) (h : (s.size : Int) < 17) : Calls Tryd.prog 15 #[.string s] w fun e w' => e = .returned (.tuple #[.agg #[.int .i64 0, .int .u8 0, .int .u8 0, .int .u16 0, .int .u16 0, .int .u16 0, .int .u8 0, .int .u16 0, .int .u16 0, .int .u16 0, .int .u8 0, .int .u16 0, .bool false, .int .u8 0, .int .u16 0, .int .u32 0, .int .u8 0, .int .u8 0, .string ⟨#[]⟩], .int .i64 10]) ∧ Below w.heap.size w w' := by
  have d : decide ((s.size : Int) < 17) = true := by simpa using h
  go_enter Tryd.func15, Tryd.ntmps15
  go_wp2
  refine bodyPost_ret (v := .tuple #[.agg #[.int .i64 0, .int .u8 0, .int .u8 0, .int .u16 0, .int .u16 0, .int .u16 0, .int .u8 0, .int .u16 0, .int .u16 0, .int .u16 0, .int .u8 0, .int .u16 0, .bool false, .int .u8 0, .int .u16 0, .int .u32 0, .int .u8 0, .int .u8 0, .string ⟨#[]⟩], .int .i64 10]) (results_29e Tryd.results15 _ _ w.heap.size _ _ rfl rfl (by go_simp) (by go_simp)) rfl ⟨rfl, ?_⟩
  exact below_put (Nat.le_refl _) _ ((Below.refl _ _).alloc (Nat.le_refl _) _)

/-- A text's byte. -/
def byt (s : ByteArray) (i : Nat) : Nat := (s.data.toList.getD i 0).toNat
theorem byt_le (s : ByteArray) (i : Nat) : byt s i ≤ 255 := by unfold byt; have := (s.data.toList.getD i 0).toNat_lt; omega
theorem byt_eq (s : ByteArray) (i : Nat) (h : i < s.size) : (s[i]'h).toNat = byt s i := by
  unfold byt
  have h2 : i < s.data.toList.length := by rw [size_list]; exact h
  rw [List.getD_eq_getElem?_getD, List.getElem?_eq_getElem h2]
  rfl
theorem byt_wrap (s : ByteArray) (i : Nat) : wrap64 (byt s i : Int) = (byt s i : Int) := by
  have h := byt_le s i
  unfold wrap64
  omega
theorem free_below {W W' : World} {n : Nat} (hb : Below W.heap.size W W') (h : RowFree W n) (hn : n < W.heap.size) : RowFree W' n :=
  ⟨(row_below hb h.1).1, fun k hk => by rw [hb.frozen (p := ⟨n, k, none⟩) hn]; exact h.2 k hk⟩

set_option maxRecDepth 100000 in
set_option maxHeartbeats 4000000 in
theorem dec_len2 (s : ByteArray) (w : World) (h17 : 17 ≤ s.size) (hl : s.size ≠ byt s 1) : Calls Tryd.prog 15 #[.string s] w fun e w' => e = .returned (.tuple #[.agg #[.int .i64 0, .int .u8 0, .int .u8 0, .int .u16 0, .int .u16 0, .int .u16 0, .int .u8 0, .int .u16 0, .int .u16 0, .int .u16 0, .int .u8 0, .int .u16 0, .bool false, .int .u8 0, .int .u16 0, .int .u32 0, .int .u8 0, .int .u8 0, .string ⟨#[]⟩], .int .i64 10]) ∧ Below w.heap.size w w' := by
  have j1 : 1 < s.size := Nat.lt_of_lt_of_le (by decide) h17
  have j0 : 0 < s.size := Nat.lt_of_lt_of_le (by decide) h17
  have i1 : (1 : Int) < (s.size : Int) := by omega
  have d : decide ((s.size : Int) < 17) = false := by simp; omega
  have hne : ((s.size : Int) != wrap64 ((s[1]'j1).toNat : Int)) = true := by rw [byt_eq s 1 j1, byt_wrap]; simp; omega
  clear hl h17
  go_enter Tryd.func15, Tryd.ntmps15
  go_wp2
  refine bodyPost_ret (v := .tuple #[.agg #[.int .i64 0, .int .u8 0, .int .u8 0, .int .u16 0, .int .u16 0, .int .u16 0, .int .u8 0, .int .u16 0, .int .u16 0, .int .u16 0, .int .u8 0, .int .u16 0, .bool false, .int .u8 0, .int .u16 0, .int .u32 0, .int .u8 0, .int .u8 0, .string ⟨#[]⟩], .int .i64 10]) (results_29e Tryd.results15 _ _ w.heap.size _ _ rfl rfl (by go_simp) (by go_simp)) rfl ⟨rfl, ?_⟩
  exact below_put (Nat.le_refl _) _ ((Below.refl _ _).alloc (Nat.le_refl _) _)
set_option maxRecDepth 100000 in
set_option maxHeartbeats 4000000 in
theorem dec_crc (s : ByteArray) (w : World) (h17 : 17 ≤ s.size) (hl : s.size = byt s 1) (hc : sealedB (s.extract 0 (s.size - 2)) ≠ s) : Calls Tryd.prog 15 #[.string s] w fun e w' => e = .returned (.tuple #[.agg #[.int .i64 0, .int .u8 0, .int .u8 0, .int .u16 0, .int .u16 0, .int .u16 0, .int .u8 0, .int .u16 0, .int .u16 0, .int .u16 0, .int .u8 0, .int .u16 0, .bool false, .int .u8 0, .int .u16 0, .int .u32 0, .int .u8 0, .int .u8 0, .string ⟨#[]⟩], .int .i64 9]) ∧ Below w.heap.size w w' := by
  have hs4 : s.size ≤ 4000 := by rw [hl]; have := byt_le s 1; omega
  have j1 : 1 < s.size := Nat.lt_of_lt_of_le (by decide) h17
  have j0 : 0 < s.size := Nat.lt_of_lt_of_le (by decide) h17
  have i1 : (1 : Int) < (s.size : Int) := by omega
  have i0 : (0 : Int) < (s.size : Int) := by omega
  have d : decide ((s.size : Int) < 17) = false := by simp; omega
  have hne : ((s.size : Int) != wrap64 ((s[1]'j1).toNat : Int)) = false := by rw [byt_eq s 1 j1, byt_wrap, ← hl]; simp
  have H17 := Lib.hid h17
  have HL := Lib.hid hl
  clear hl h17
  go_enter Tryd.func15, Tryd.ntmps15
  go_wp2_with fail
  refine (open_no s _ hs4 (by have := H17.out; omega) hc).mono ?_
  rintro e w1 ⟨rfl, hb1⟩
  have hF : RowFree w1 w.heap.size := free_below hb1 (free_new _ _ _ _ rfl rfl) (by simp)
  have hFk := hF.1
  have hB : Below w.heap.size w w1 := ((Below.refl _ _).alloc (Nat.le_refl _) _).trans (hb1.mono (by simp))
  have hS : w.heap.size < w1.heap.size := by have := hb1.size; simp at this; omega
  clear hb1
  go_wp2
  refine bodyPost_ret (v := .tuple #[.agg #[.int .i64 0, .int .u8 0, .int .u8 0, .int .u16 0, .int .u16 0, .int .u16 0, .int .u8 0, .int .u16 0, .int .u16 0, .int .u16 0, .int .u8 0, .int .u16 0, .bool false, .int .u8 0, .int .u16 0, .int .u32 0, .int .u8 0, .int .u8 0, .string ⟨#[]⟩], .int .i64 9]) (results_29e Tryd.results15 _ _ w.heap.size _ _ rfl rfl (by go_simp) (by go_simp)) rfl ⟨rfl, ?_⟩
  exact below_put (Nat.le_refl _) _ hB
set_option maxRecDepth 100000 in
set_option maxHeartbeats 4000000 in
theorem dec_kind (s : ByteArray) (w : World) (h17 : 17 ≤ s.size) (hl : s.size = byt s 1) (hc : sealedB (s.extract 0 (s.size - 2)) = s) (hk : ¬ (1 ≤ (byt s 0 : Int) ∧ (byt s 0 : Int) ≤ 5)) : Calls Tryd.prog 15 #[.string s] w fun e w' => e = .returned (.tuple #[.agg #[.int .i64 0, .int .u8 0, .int .u8 0, .int .u16 0, .int .u16 0, .int .u16 0, .int .u8 0, .int .u16 0, .int .u16 0, .int .u16 0, .int .u8 0, .int .u16 0, .bool false, .int .u8 0, .int .u16 0, .int .u32 0, .int .u8 0, .int .u8 0, .string ⟨#[]⟩], .int .i64 11]) ∧ Below w.heap.size w w' := by
  have hs4 : s.size ≤ 4000 := by rw [hl]; have := byt_le s 1; omega
  have j1 : 1 < s.size := Nat.lt_of_lt_of_le (by decide) h17
  have j0 : 0 < s.size := Nat.lt_of_lt_of_le (by decide) h17
  have i1 : (1 : Int) < (s.size : Int) := by omega
  have i0 : (0 : Int) < (s.size : Int) := by omega
  have d : decide ((s.size : Int) < 17) = false := by simp; omega
  have hne : ((s.size : Int) != wrap64 ((s[1]'j1).toNat : Int)) = false := by rw [byt_eq s 1 j1, byt_wrap, ← hl]; simp
  have hw : wrap64 ((s[0]'j0).toNat : Int) = (byt s 0 : Int) := by rw [byt_eq s 0 j0, byt_wrap]
  have H17 := Lib.hid h17
  have HL := Lib.hid hl
  clear hl h17
  go_enter Tryd.func15, Tryd.ntmps15
  go_wp2_with fail
  refine (open_yes s _ hs4 (by have := H17.out; omega) hc).mono ?_
  rintro e w1 ⟨rfl, hb1⟩
  have hF : RowFree w1 w.heap.size := free_below hb1 (free_new _ _ _ _ rfl rfl) (by simp)
  have hFk := hF.1
  have hB : Below w.heap.size w w1 := ((Below.refl _ _).alloc (Nat.le_refl _) _).trans (hb1.mono (by simp))
  have hS : w.heap.size < w1.heap.size := by have := hb1.size; simp at this; omega
  clear hb1
  clear hc
  go_wp2_with fail
  refine (isKind_no _ _ hk).mono ?_
  rintro e w2 ⟨rfl, rfl⟩
  go_wp2
  refine bodyPost_ret (v := .tuple #[.agg #[.int .i64 0, .int .u8 0, .int .u8 0, .int .u16 0, .int .u16 0, .int .u16 0, .int .u8 0, .int .u16 0, .int .u16 0, .int .u16 0, .int .u8 0, .int .u16 0, .bool false, .int .u8 0, .int .u16 0, .int .u32 0, .int .u8 0, .int .u8 0, .string ⟨#[]⟩], .int .i64 11]) (results_29e Tryd.results15 _ _ w.heap.size _ _ rfl rfl (by go_simp) (by go_simp)) rfl ⟨rfl, ?_⟩
  exact below_put (Nat.le_refl _) _ hB
set_option maxRecDepth 100000 in
set_option maxHeartbeats 4000000 in
theorem dec_size (s : ByteArray) (w : World) (h17 : 17 ≤ s.size) (hl : s.size = byt s 1) (hc : sealedB (s.extract 0 (s.size - 2)) = s) (k1 : 1 ≤ (byt s 0 : Int)) (k2 : (byt s 0 : Int) ≤ 5) (hz : sizeOk (byt s 0) s.size = false) : Calls Tryd.prog 15 #[.string s] w fun e w' => e = .returned (.tuple #[.agg #[.int .i64 0, .int .u8 0, .int .u8 0, .int .u16 0, .int .u16 0, .int .u16 0, .int .u8 0, .int .u16 0, .int .u16 0, .int .u16 0, .int .u8 0, .int .u16 0, .bool false, .int .u8 0, .int .u16 0, .int .u32 0, .int .u8 0, .int .u8 0, .string ⟨#[]⟩], .int .i64 10]) ∧ Below w.heap.size w w' := by
  have hs4 : s.size ≤ 4000 := by rw [hl]; have := byt_le s 1; omega
  have j1 : 1 < s.size := Nat.lt_of_lt_of_le (by decide) h17
  have j0 : 0 < s.size := Nat.lt_of_lt_of_le (by decide) h17
  have i1 : (1 : Int) < (s.size : Int) := by omega
  have i0 : (0 : Int) < (s.size : Int) := by omega
  have d : decide ((s.size : Int) < 17) = false := by simp; omega
  have hne : ((s.size : Int) != wrap64 ((s[1]'j1).toNat : Int)) = false := by rw [byt_eq s 1 j1, byt_wrap, ← hl]; simp
  have hw : wrap64 ((s[0]'j0).toNat : Int) = (byt s 0 : Int) := by rw [byt_eq s 0 j0, byt_wrap]
  have H17 := Lib.hid h17
  have HL := Lib.hid hl
  clear hl h17
  go_enter Tryd.func15, Tryd.ntmps15
  go_wp2_with fail
  refine (open_yes s _ hs4 (by have := H17.out; omega) hc).mono ?_
  rintro e w1 ⟨rfl, hb1⟩
  have hF : RowFree w1 w.heap.size := free_below hb1 (free_new _ _ _ _ rfl rfl) (by simp)
  have hFk := hF.1
  have hB : Below w.heap.size w w1 := ((Below.refl _ _).alloc (Nat.le_refl _) _).trans (hb1.mono (by simp))
  have hS : w.heap.size < w1.heap.size := by have := hb1.size; simp at this; omega
  clear hb1
  clear hc
  go_wp2_with fail
  refine (isKind_yes _ _ k1 k2).mono ?_
  rintro e w2 ⟨rfl, rfl⟩
  go_wp2_with fail
  refine (isSize_any _ _ _).mono ?_
  rintro e w2 ⟨rfl, rfl⟩
  rw [hz]
  go_wp2
  refine bodyPost_ret (v := .tuple #[.agg #[.int .i64 0, .int .u8 0, .int .u8 0, .int .u16 0, .int .u16 0, .int .u16 0, .int .u8 0, .int .u16 0, .int .u16 0, .int .u16 0, .int .u8 0, .int .u16 0, .bool false, .int .u8 0, .int .u16 0, .int .u32 0, .int .u8 0, .int .u8 0, .string ⟨#[]⟩], .int .i64 10]) (results_29e Tryd.results15 _ _ w.heap.size _ _ rfl rfl (by go_simp) (by go_simp)) rfl ⟨rfl, ?_⟩
  exact below_put (Nat.le_refl _) _ hB
set_option maxRecDepth 100000 in
set_option maxHeartbeats 4000000 in
theorem dec_form (s : ByteArray) (w : World) (h17 : 17 ≤ s.size) (hl : s.size = byt s 1) (hc : sealedB (s.extract 0 (s.size - 2)) = s) (k1 : 1 ≤ (byt s 0 : Int)) (k2 : (byt s 0 : Int) ≤ 5) (hz : sizeOk (byt s 0) s.size = true) (hfit : (frameL (s.extract 0 (s.size - 2)).data.toList).fit) (hf : encB (frameL (s.extract 0 (s.size - 2)).data.toList) ≠ s) : Calls Tryd.prog 15 #[.string s] w fun e w' => e = .returned (.tuple #[.agg #[.int .i64 0, .int .u8 0, .int .u8 0, .int .u16 0, .int .u16 0, .int .u16 0, .int .u8 0, .int .u16 0, .int .u16 0, .int .u16 0, .int .u8 0, .int .u16 0, .bool false, .int .u8 0, .int .u16 0, .int .u32 0, .int .u8 0, .int .u8 0, .string ⟨#[]⟩], .int .i64 3]) ∧ Below w.heap.size w w' := by
  have hq := str_ne hf
  have hs4 : s.size ≤ 4000 := by rw [hl]; have := byt_le s 1; omega
  have j1 : 1 < s.size := Nat.lt_of_lt_of_le (by decide) h17
  have j0 : 0 < s.size := Nat.lt_of_lt_of_le (by decide) h17
  have i1 : (1 : Int) < (s.size : Int) := by omega
  have i0 : (0 : Int) < (s.size : Int) := by omega
  have d : decide ((s.size : Int) < 17) = false := by simp; omega
  have hne : ((s.size : Int) != wrap64 ((s[1]'j1).toNat : Int)) = false := by rw [byt_eq s 1 j1, byt_wrap, ← hl]; simp
  have hw : wrap64 ((s[0]'j0).toNat : Int) = (byt s 0 : Int) := by rw [byt_eq s 0 j0, byt_wrap]
  have H17 := Lib.hid h17
  have HL := Lib.hid hl
  clear hl h17
  go_enter Tryd.func15, Tryd.ntmps15
  go_wp2_with fail
  refine (open_yes s _ hs4 (by have := H17.out; omega) hc).mono ?_
  rintro e w1 ⟨rfl, hb1⟩
  have hF : RowFree w1 w.heap.size := free_below hb1 (free_new _ _ _ _ rfl rfl) (by simp)
  have hFk := hF.1
  have hB : Below w.heap.size w w1 := ((Below.refl _ _).alloc (Nat.le_refl _) _).trans (hb1.mono (by simp))
  have hS : w.heap.size < w1.heap.size := by have := hb1.size; simp at this; omega
  clear hb1
  clear hc hf
  go_wp2_with fail
  refine (isKind_yes _ _ k1 k2).mono ?_
  rintro e w2 ⟨rfl, rfl⟩
  go_wp2_with fail
  refine (isSize_any _ _ _).mono ?_
  rintro e w2 ⟨rfl, rfl⟩
  rw [hz]
  go_wp2_with fail
  refine (read_any _ _).mono ?_
  rintro e w3 ⟨rfl, hb3⟩
  generalize frameL (s.extract 0 (s.size - 2)).data.toList = f at *
  have hF3 : RowFree w3 w.heap.size := free_below hb3 hF hS
  have hB3 : Below w.heap.size w w3 := hB.trans (hb3.mono (Nat.le_of_lt hS))
  have hS3 : w.heap.size < w3.heap.size := Nat.lt_of_lt_of_le hS hb3.size
  clear hF hFk hB hS hb3 hne hw
  go_wp2_with fail
  refine world_cut (G := fun W => Calls _ _ _ W _) (fun W => RowFree W w.heap.size ∧ Below w.heap.size w W ∧ w.heap.size < w3.heap.size ∧ w3.heap.size < W.heap.size ∧ RowFree W w3.heap.size ∧ rowArr W w3.heap.size = #[.int .i64 f.kind, .int .u8 f.src, .int .u8 f.dst, .int .u16 f.sinc, .int .u16 f.dinc, .int .u16 f.ec, .int .u8 f.ea, .int .u16 f.ei, .int .u16 f.hop, .int .u16 f.hc, .int .u8 f.ha, .int .u16 f.hi, .bool f.wants, .int .u8 f.blk, .int .u16 f.vinc, .int .u32 f.vseq, .int .u8 f.part, .int .u8 f.parts, .string f.bytes]) (by
    refine ⟨?_, ?_, hS3, ?_, ?_, ?_⟩
    · rw [free_put_iff, free_old_iff _ _ _ hS3]; exact hF3
    · exact below_put (Nat.le_of_lt hS3) _ (below_new hB3 (Nat.le_of_lt hS3) _)
    · rw [put_size]; simp
    · rw [free_put_iff]; exact free_new _ _ _ _ rfl rfl
    · exact row_put _ _ _ (ok_new _ _ _ _ rfl rfl) rfl) ?_
  rintro W4 ⟨hF, hB, hq1, hq2, hG, hR⟩
  clear hF3 hB3 hS3
  generalize w3.heap.size = q at *
  refine (encode_any f _ hfit).mono ?_
  rintro e w5 ⟨rfl, hb5⟩
  have hF5 : RowFree w5 w.heap.size := free_below hb5 hF (Nat.lt_trans hq1 hq2)
  have hG5 : RowFree w5 q := free_below hb5 hG hq2
  have hR5 : rowArr w5 q = #[.int .i64 f.kind, .int .u8 f.src, .int .u8 f.dst, .int .u16 f.sinc, .int .u16 f.dinc, .int .u16 f.ec, .int .u8 f.ea, .int .u16 f.ei, .int .u16 f.hop, .int .u16 f.hc, .int .u8 f.ha, .int .u16 f.hi, .bool f.wants, .int .u8 f.blk, .int .u16 f.vinc, .int .u32 f.vseq, .int .u8 f.part, .int .u8 f.parts, .string f.bytes] := (row_below hb5 hG.1).2.trans hR
  have hB5 : Below w.heap.size w w5 := hB.trans (hb5.mono (by omega))
  have hF5k := hF5.1
  have hG5k := hG5.1
  clear hF hG hR hB hb5
  go_wp2
  refine bodyPost_ret (v := .tuple #[.agg #[.int .i64 0, .int .u8 0, .int .u8 0, .int .u16 0, .int .u16 0, .int .u16 0, .int .u8 0, .int .u16 0, .int .u16 0, .int .u16 0, .int .u8 0, .int .u16 0, .bool false, .int .u8 0, .int .u16 0, .int .u32 0, .int .u8 0, .int .u8 0, .string ⟨#[]⟩], .int .i64 3]) (results_29e Tryd.results15 _ _ w.heap.size _ _ rfl rfl (by go_simp) (by go_simp)) rfl ⟨rfl, ?_⟩
  exact below_put (Nat.le_refl _) _ hB5
set_option maxRecDepth 100000 in
set_option maxHeartbeats 4000000 in
theorem dec_ok (s : ByteArray) (w : World) (h17 : 17 ≤ s.size) (hl : s.size = byt s 1) (hc : sealedB (s.extract 0 (s.size - 2)) = s) (k1 : 1 ≤ (byt s 0 : Int)) (k2 : (byt s 0 : Int) ≤ 5) (hz : sizeOk (byt s 0) s.size = true) (hfit : (frameL (s.extract 0 (s.size - 2)).data.toList).fit) (hf : encB (frameL (s.extract 0 (s.size - 2)).data.toList) = s) : Calls Tryd.prog 15 #[.string s] w fun e w' => e = .returned (.tuple #[.agg #[.int .i64 (frameL (s.extract 0 (s.size - 2)).data.toList).kind, .int .u8 (frameL (s.extract 0 (s.size - 2)).data.toList).src, .int .u8 (frameL (s.extract 0 (s.size - 2)).data.toList).dst, .int .u16 (frameL (s.extract 0 (s.size - 2)).data.toList).sinc, .int .u16 (frameL (s.extract 0 (s.size - 2)).data.toList).dinc, .int .u16 (frameL (s.extract 0 (s.size - 2)).data.toList).ec, .int .u8 (frameL (s.extract 0 (s.size - 2)).data.toList).ea, .int .u16 (frameL (s.extract 0 (s.size - 2)).data.toList).ei, .int .u16 (frameL (s.extract 0 (s.size - 2)).data.toList).hop, .int .u16 (frameL (s.extract 0 (s.size - 2)).data.toList).hc, .int .u8 (frameL (s.extract 0 (s.size - 2)).data.toList).ha, .int .u16 (frameL (s.extract 0 (s.size - 2)).data.toList).hi, .bool (frameL (s.extract 0 (s.size - 2)).data.toList).wants, .int .u8 (frameL (s.extract 0 (s.size - 2)).data.toList).blk, .int .u16 (frameL (s.extract 0 (s.size - 2)).data.toList).vinc, .int .u32 (frameL (s.extract 0 (s.size - 2)).data.toList).vseq, .int .u8 (frameL (s.extract 0 (s.size - 2)).data.toList).part, .int .u8 (frameL (s.extract 0 (s.size - 2)).data.toList).parts, .string (frameL (s.extract 0 (s.size - 2)).data.toList).bytes], .int .i64 0]) ∧ Below w.heap.size w w' := by
  have hq := str_eq hf
  have hs4 : s.size ≤ 4000 := by rw [hl]; have := byt_le s 1; omega
  have j1 : 1 < s.size := Nat.lt_of_lt_of_le (by decide) h17
  have j0 : 0 < s.size := Nat.lt_of_lt_of_le (by decide) h17
  have i1 : (1 : Int) < (s.size : Int) := by omega
  have i0 : (0 : Int) < (s.size : Int) := by omega
  have d : decide ((s.size : Int) < 17) = false := by simp; omega
  have hne : ((s.size : Int) != wrap64 ((s[1]'j1).toNat : Int)) = false := by rw [byt_eq s 1 j1, byt_wrap, ← hl]; simp
  have hw : wrap64 ((s[0]'j0).toNat : Int) = (byt s 0 : Int) := by rw [byt_eq s 0 j0, byt_wrap]
  have H17 := Lib.hid h17
  have HL := Lib.hid hl
  clear hl h17
  go_enter Tryd.func15, Tryd.ntmps15
  go_wp2_with fail
  refine (open_yes s _ hs4 (by have := H17.out; omega) hc).mono ?_
  rintro e w1 ⟨rfl, hb1⟩
  have hF : RowFree w1 w.heap.size := free_below hb1 (free_new _ _ _ _ rfl rfl) (by simp)
  have hFk := hF.1
  have hB : Below w.heap.size w w1 := ((Below.refl _ _).alloc (Nat.le_refl _) _).trans (hb1.mono (by simp))
  have hS : w.heap.size < w1.heap.size := by have := hb1.size; simp at this; omega
  clear hb1
  clear hc hf
  go_wp2_with fail
  refine (isKind_yes _ _ k1 k2).mono ?_
  rintro e w2 ⟨rfl, rfl⟩
  go_wp2_with fail
  refine (isSize_any _ _ _).mono ?_
  rintro e w2 ⟨rfl, rfl⟩
  rw [hz]
  go_wp2_with fail
  refine (read_any _ _).mono ?_
  rintro e w3 ⟨rfl, hb3⟩
  generalize hff : frameL (s.extract 0 (s.size - 2)).data.toList = f at *
  have HF := Lib.hid hff
  clear hff
  have hF3 : RowFree w3 w.heap.size := free_below hb3 hF hS
  have hB3 : Below w.heap.size w w3 := hB.trans (hb3.mono (Nat.le_of_lt hS))
  have hS3 : w.heap.size < w3.heap.size := Nat.lt_of_lt_of_le hS hb3.size
  clear hF hFk hB hS hb3 hne hw
  go_wp2_with fail
  refine world_cut (G := fun W => Calls _ _ _ W _) (fun W => RowFree W w.heap.size ∧ Below w.heap.size w W ∧ w.heap.size < w3.heap.size ∧ w3.heap.size < W.heap.size ∧ RowFree W w3.heap.size ∧ rowArr W w3.heap.size = #[.int .i64 f.kind, .int .u8 f.src, .int .u8 f.dst, .int .u16 f.sinc, .int .u16 f.dinc, .int .u16 f.ec, .int .u8 f.ea, .int .u16 f.ei, .int .u16 f.hop, .int .u16 f.hc, .int .u8 f.ha, .int .u16 f.hi, .bool f.wants, .int .u8 f.blk, .int .u16 f.vinc, .int .u32 f.vseq, .int .u8 f.part, .int .u8 f.parts, .string f.bytes]) (by
    refine ⟨?_, ?_, hS3, ?_, ?_, ?_⟩
    · rw [free_put_iff, free_old_iff _ _ _ hS3]; exact hF3
    · exact below_put (Nat.le_of_lt hS3) _ (below_new hB3 (Nat.le_of_lt hS3) _)
    · rw [put_size]; simp
    · rw [free_put_iff]; exact free_new _ _ _ _ rfl rfl
    · exact row_put _ _ _ (ok_new _ _ _ _ rfl rfl) rfl) ?_
  rintro W4 ⟨hF, hB, hq1, hq2, hG, hR⟩
  clear hF3 hB3 hS3
  generalize w3.heap.size = q at *
  refine (encode_any f _ hfit).mono ?_
  rintro e w5 ⟨rfl, hb5⟩
  have hF5 : RowFree w5 w.heap.size := free_below hb5 hF (Nat.lt_trans hq1 hq2)
  have hG5 : RowFree w5 q := free_below hb5 hG hq2
  have hR5 : rowArr w5 q = #[.int .i64 f.kind, .int .u8 f.src, .int .u8 f.dst, .int .u16 f.sinc, .int .u16 f.dinc, .int .u16 f.ec, .int .u8 f.ea, .int .u16 f.ei, .int .u16 f.hop, .int .u16 f.hc, .int .u8 f.ha, .int .u16 f.hi, .bool f.wants, .int .u8 f.blk, .int .u16 f.vinc, .int .u32 f.vseq, .int .u8 f.part, .int .u8 f.parts, .string f.bytes] := (row_below hb5 hG.1).2.trans hR
  have hB5 : Below w.heap.size w w5 := hB.trans (hb5.mono (by omega))
  have hF5k := hF5.1
  have hG5k := hG5.1
  clear hF hG hR hB hb5
  go_wp2
  refine bodyPost_ret (v := .tuple #[.agg #[.int .i64 f.kind, .int .u8 f.src, .int .u8 f.dst, .int .u16 f.sinc, .int .u16 f.dinc, .int .u16 f.ec, .int .u8 f.ea, .int .u16 f.ei, .int .u16 f.hop, .int .u16 f.hc, .int .u8 f.ha, .int .u16 f.hi, .bool f.wants, .int .u8 f.blk, .int .u16 f.vinc, .int .u32 f.vseq, .int .u8 f.part, .int .u8 f.parts, .string f.bytes], .int .i64 0]) (results_29e Tryd.results15 _ _ w.heap.size _ _ rfl rfl (by go_simp) (by go_simp)) rfl ⟨?_, ?_⟩
  · rw [HF.out]
  · exact below_put (Nat.le_refl _) _ hB5

end Go.Proofs.YtindekpmicbbiaaDoor
