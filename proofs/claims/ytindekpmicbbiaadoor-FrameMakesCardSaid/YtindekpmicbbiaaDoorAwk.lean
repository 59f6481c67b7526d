/-
  What is tried first: a token there and back, walked. Conditions: the library's table of powers is as the program lays it.
-/
import Derived.Test.YtindekpmicbbiaaDoorMth
import Derived.Test.YtindekpmicbbiaaDoorTxt
namespace Go.Proofs.YtindekpmicbbiaaDoor
open Go.RowKit
open Oct Sums

set_option linter.unusedSimpArgs false
attribute [local go_sem ↓] exec_bd exec_ld exec_st load_row loadVar_row store_row
attribute [local go_sem] bd_0 bd_1 bd_5 bd_6 ld_row st_row set_cell_lt set_cell_gt one_int one_bool one_str row_new ok_new free_new row_old ok_old_iff free_old_iff put_in put_cell_lt put_cell_gt put_frozen row_put_in row_put_lt row_put_gt ok_put_iff free_put_iff put_size row_set_in row_set_lt row_set_gt ok_set_iff free_set_iff drew_cell drew_frozen drew_size row_drew ok_drew free_drew

open Epo
/-- A frame's bytes are decoded. -/
theorem byt_app (s : ByteArray) (x : UInt8) (r : List UInt8) (h : s.data.toList = x :: r) : byt s 0 = x.toNat := by unfold byt; rw [h]; rfl
theorem byt_app1 (s : ByteArray) (x y : UInt8) (r : List UInt8) (h : s.data.toList = x :: y :: r) : byt s 1 = y.toNat := by unfold byt; rw [h]; rfl
theorem enc_bytes (f : Fr) (hr : rtB f = true) : ∃ r, (encB f).data.toList = UInt8.ofNat (f.kind.toNat / 256 ^ 0) :: UInt8.ofNat (sizeN f / 256 ^ 0) :: r := by
  have e : encB f = sealedB (S (bodyL f)) := by unfold encB; rw [hr]; rfl
  rw [e, sealed_list, S_list]
  unfold bodyL headL
  simp only [be, List.append_assoc, List.cons_append, List.nil_append]
  exact ⟨_, rfl⟩
theorem size_bd (f : Fr) (hr : rtB f = true) : 17 ≤ sizeN f ∧ sizeN f ≤ 42 ∧ sizeOk f.kind (sizeN f) = true := by
  have hR := rt_of hr
  unfold sizeN sizeOk
  rw [hr, if_pos rfl]
  by_cases h3 : f.kind = 3
  · rw [if_pos h3, if_pos h3]; simp
  · rw [if_neg h3, if_neg h3]
    by_cases h4 : f.kind = 4
    · have hd := (hR.2.2.2.2.2.2.2 h4).2.2.2
      rw [if_pos h4, if_pos h4]
      refine ⟨by omega, by omega, ?_⟩
      simp; omega
    · rw [if_neg h4, if_neg h4]; simp
theorem enc_facts (f : Fr) (hf : f.fit) (hr : rtB f = true) : 17 ≤ (encB f).size ∧ (encB f).size = byt (encB f) 1 ∧ (byt (encB f) 0 : Int) = f.kind ∧ sealedB ((encB f).extract 0 ((encB f).size - 2)) = encB f ∧ frameL ((encB f).extract 0 ((encB f).size - 2)).data.toList = f := by
  obtain ⟨r, hr1⟩ := enc_bytes f hr
  have hb := size_bd f hr
  have hR := rt_of hr
  have hz := enc_size f hr
  have e : encB f = sealedB (S (bodyL f)) := by unfold encB; rw [hr]; rfl
  have e0 := byt_app _ _ _ hr1
  have e1 := byt_app1 _ _ _ _ hr1
  have k1 := hR.1
  have k2 := hR.2.1
  refine ⟨by omega, ?_, ?_, ?_, ?_⟩
  · rw [e1, hz]; simp; omega
  · rw [e0]; simp; omega
  · rw [e, sealed_inner]
  · rw [e, sealed_inner, S_list, read_back f hf hr]
theorem dec_enc (f : Fr) (hf : f.fit) (hr : rtB f = true) (w : World) : Calls Tryd.prog 15 #[.string (encB f)] w fun e w' => e = .returned (.tuple #[.agg #[.int .i64 f.kind, .int .u8 f.src, .int .u8 f.dst, .int .u16 f.sinc, .int .u16 f.dinc, .int .u16 f.ec, .int .u8 f.ea, .int .u16 f.ei, .int .u16 f.hop, .int .u16 f.hc, .int .u8 f.ha, .int .u16 f.hi, .bool f.wants, .int .u8 f.blk, .int .u16 f.vinc, .int .u32 f.vseq, .int .u8 f.part, .int .u8 f.parts, .string f.bytes], .int .i64 0]) ∧ Below w.heap.size w w' := by
  obtain ⟨h17, hl, hk, hc, hL⟩ := enc_facts f hf hr
  have hR := rt_of hr
  have hb := size_bd f hr
  have hz := enc_size f hr
  have h := dec_ok (encB f) w h17 hl hc (by rw [hk]; exact hR.1) (by rw [hk]; exact hR.2.1) (by rw [hk, hz]; exact hb.2.2) (by rw [hL]; exact hf) (by rw [hL])
  rw [hL] at h
  exact h

theorem bd_7 (a b c d e x y z h : Int) (W : World) : bd29 #[(0, .int .i64 a), (1, .int .u8 b), (3, .int .u16 c), (2, .int .u8 d), (4, .int .u16 e), (5, .agg #[.int .u16 x, .int .u8 y, .int .u16 z]), (6, .int .u16 h)] W = .ok (.value (.agg #[.int .i64 a, .int .u8 b, .int .u8 d, .int .u16 c, .int .u16 e, .int .u16 x, .int .u8 y, .int .u16 z, .int .u16 h, .int .u16 0, .int .u8 0, .int .u16 0, .bool false, .int .u8 0, .int .u16 0, .int .u32 0, .int .u8 0, .int .u8 0, .string ⟨#[]⟩])) W := bd_of _ _ W (by kernel_rfl)

attribute [local go_sem] bd_7

/-- The frame that is tried first. -/
def f0 : Fr := ⟨1, 3, 5, 1, 2, 8, 3, 1, 4, 0, 0, 0, false, 0, 0, 0, 0, 0, ⟨#[]⟩⟩
theorem fit0 : f0.fit := by unfold Fr.fit f0; refine ⟨?_, ?_, ?_, ?_, ?_, ?_, ?_, ?_, ?_, ?_, ?_, ?_, ?_, ?_, ?_, ?_, ?_⟩ <;> first | decide | (simp [maxLen])
theorem rt0 : rtB f0 = true := rtB_yes ⟨by decide, by decide, by unfold own f0; rfl, by decide, by decide, by decide, by decide, fun h => by have h2 : (1 : Int) = 4 := h; omega⟩
theorem enc0 (w : World) : Calls Tryd.prog 9 #[.agg #[.int .i64 1, .int .u8 3, .int .u8 5, .int .u16 1, .int .u16 2, .int .u16 8, .int .u8 3, .int .u16 1, .int .u16 4, .int .u16 0, .int .u8 0, .int .u16 0, .bool false, .int .u8 0, .int .u16 0, .int .u32 0, .int .u8 0, .int .u8 0, .string ⟨#[]⟩]] w fun e w' => e = .returned (.tuple #[.string (encB f0), .int .i64 0]) ∧ Below w.heap.size w w' := by
  have h := encode_any f0 w fit0
  have e : encE f0 = 0 := by unfold encE; rw [rt0]; rfl
  rw [e] at h
  exact h
theorem dec0 (w : World) : Calls Tryd.prog 15 #[.string (encB f0)] w fun e w' => e = .returned (.tuple #[.agg #[.int .i64 1, .int .u8 3, .int .u8 5, .int .u16 1, .int .u16 2, .int .u16 8, .int .u8 3, .int .u16 1, .int .u16 4, .int .u16 0, .int .u8 0, .int .u16 0, .bool false, .int .u8 0, .int .u16 0, .int .u32 0, .int .u8 0, .int .u8 0, .string ⟨#[]⟩], .int .i64 0]) ∧ Below w.heap.size w w' := dec_enc f0 fit0 rt0 w
theorem dgs_lt (u : Nat) (h : u < 10) : dgs u = ⟨#[UInt8.ofNat (48 + u)]⟩ := by unfold dgs; rw [dec_lt u h]
theorem words0 : joinB (words5 f0) = ⟨#[116, 111, 107, 101, 110, 32, 51, 32, 62, 32, 53, 32, 56, 46, 51, 46, 49, 47, 52]⟩ := by
  have e : words5 f0 = [⟨#[116, 111, 107, 101, 110]⟩, ⟨#[51]⟩, ⟨#[62]⟩, ⟨#[53]⟩, ⟨#[56, 46, 51, 46, 49, 47, 52]⟩] := by
    unfold words5 nameB targetB epB textE
    rw [if_pos (by rfl), if_neg (by decide)]
    simp only [f0]
    rw [dgs_lt 3 (by decide), dgs_lt 5 (by decide), dgs_lt 8 (by decide), dgs_lt 1 (by decide), dgs_lt 4 (by decide)]
    rfl
  rw [e]
  rfl
theorem text0 (w : World) (hE : Env w) : Calls Tryd.prog 12 #[.agg #[.int .i64 1, .int .u8 3, .int .u8 5, .int .u16 1, .int .u16 2, .int .u16 8, .int .u8 3, .int .u16 1, .int .u16 4, .int .u16 0, .int .u8 0, .int .u16 0, .bool false, .int .u8 0, .int .u16 0, .int .u32 0, .int .u8 0, .int .u8 0, .string ⟨#[]⟩]] w fun e w' => e = .returned (.string ⟨#[116, 111, 107, 101, 110, 32, 51, 32, 62, 32, 53, 32, 56, 46, 51, 46, 49, 47, 52]⟩) ∧ Below w.heap.size w w' := by
  have h := text_plain f0 fit0 (by decide) (by decide) w hE
  rw [words0] at h
  exact h
theorem size0 : (encB f0).size = 17 := by rw [enc_size f0 rt0]; unfold sizeN; rw [rt0]; rfl

set_option maxRecDepth 100000 in
set_option maxHeartbeats 4000000 in
theorem awake_any (w : World) (hE : Env w) : Calls Tryd.prog 8 #[] w fun e w' => e = .returned (.bool true) ∧ Below w.heap.size w w' := by
  have hz : (((encB f0).size : Int) == 17) = true := by rw [size0]; rfl
  have HD := Lib.hid dec0
  have HEN := Lib.hid enc0
  generalize encB f0 = s0 at *
  have HE := Lib.hid hE
  clear hE
  go_enter Tryd.func8, Tryd.ntmps8
  go_wp2_with fail
  refine world_cut (G := fun W => Calls _ _ _ W _) (fun W => TS w.heap.size #[.int .i64 1, .int .u8 3, .int .u8 5, .int .u16 1, .int .u16 2, .int .u16 8, .int .u8 3, .int .u16 1, .int .u16 4, .int .u16 0, .int .u8 0, .int .u16 0, .bool false, .int .u8 0, .int .u16 0, .int .u32 0, .int .u8 0, .int .u8 0, .string ⟨#[]⟩] w W) (by
    exact ⟨⟨ok_put _ _ _ _ (ok_new _ _ _ _ rfl rfl), row_put _ _ _ (ok_new _ _ _ _ rfl rfl) rfl, below_put (Nat.le_refl _) _ ((Below.refl _ _).alloc (Nat.le_refl _) _), by rw [put_size]; simp⟩, HE.out.below (below_put (Nat.le_refl _) _ ((Below.refl _ _).alloc (Nat.le_refl _) _))⟩) ?_
  rintro W hA
  generalize hn : w.heap.size = n at *
  have HN := Lib.hid hn
  clear hn
  refine (HEN.out _).mono ?_
  rintro e w1 ⟨rfl, hb1⟩
  have hA1 := hA.mem hb1
  clear hA hb1
  go_wp2_with fail
  refine (HD.out _).mono ?_
  rintro e w2 ⟨rfl, hb2⟩
  have hA2 := hA1.mem hb2
  clear hA1 hb2
  have hk := hA2.1.1
  have hr := hA2.1.2.1
  have hlt := hA2.1.2.2.2
  have HA := Lib.hid hA2
  clear hA2
  go_wp2_with fail
  have hB4 := below_put (Nat.le_refl w2.heap.size) #[.int .i64 1, .int .u8 3, .int .u8 5, .int .u16 1, .int .u16 2, .int .u16 8, .int .u8 3, .int .u16 1, .int .u16 4, .int .u16 0, .int .u8 0, .int .u16 0, .bool false, .int .u8 0, .int .u16 0, .int .u32 0, .int .u8 0, .int .u8 0, .string ⟨#[]⟩] ((Below.refl w2.heap.size w2).alloc (Nat.le_refl _) (.cells #[.int .i64 0, .int .u8 0, .int .u8 0, .int .u16 0, .int .u16 0, .int .u16 0, .int .u8 0, .int .u16 0, .int .u16 0, .int .u16 0, .int .u8 0, .int .u16 0, .bool false, .int .u8 0, .int .u16 0, .int .u32 0, .int .u8 0, .int .u8 0, .string ⟨#[]⟩] 29))
  refine (text0 _ (HA.out.2.below hB4)).mono ?_
  rintro e w3 ⟨rfl, hb3⟩
  have HB := Lib.hid (HA.out.1.2.2.1.trans ((hB4.trans (hb3.mono (by rw [put_size]; simp))).mono (Nat.le_of_lt hlt)))
  clear hB4 hb3
  go_wp2
  go_ret
  exact ⟨rfl, by rw [HN.out]; exact HB.out⟩

end Go.Proofs.YtindekpmicbbiaaDoor
