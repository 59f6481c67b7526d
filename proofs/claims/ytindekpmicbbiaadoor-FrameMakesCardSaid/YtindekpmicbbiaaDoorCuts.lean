/-
  The law of frames that are cut, or longer, walked. Conditions: numbers such as their kinds hold; the library's table of powers is as the program lays it.
-/
import Derived.Test.YtindekpmicbbiaaDoorAwk
namespace Go.Proofs.YtindekpmicbbiaaDoor
open Go.RowKit
open Oct Sums

set_option linter.unusedSimpArgs false
attribute [local go_sem ↓] exec_bd exec_ld exec_st load_row loadVar_row store_row
attribute [local go_sem] bd_0 bd_1 bd_5 bd_6 ld_row st_row set_cell_lt set_cell_gt one_int one_bool one_str row_new ok_new free_new row_old ok_old_iff free_old_iff put_in put_cell_lt put_cell_gt put_frozen row_put_in row_put_lt row_put_gt ok_put_iff free_put_iff put_size row_set_in row_set_lt row_set_gt ok_set_iff free_set_iff drew_cell drew_frozen drew_size row_drew ok_drew free_drew

open Epo
theorem dec_len (t : ByteArray) (w : World) (h : t.size < 17 ∨ t.size ≠ byt t 1) : Calls Tryd.prog 15 #[.string t] w fun e w' => e = .returned (.tuple #[.agg #[.int .i64 0, .int .u8 0, .int .u8 0, .int .u16 0, .int .u16 0, .int .u16 0, .int .u8 0, .int .u16 0, .int .u16 0, .int .u16 0, .int .u8 0, .int .u16 0, .bool false, .int .u8 0, .int .u16 0, .int .u32 0, .int .u8 0, .int .u8 0, .string ⟨#[]⟩], .int .i64 10]) ∧ Below w.heap.size w w' := by
  by_cases h1 : t.size < 17
  · exact dec_len1 t w (by omega)
  · exact dec_len2 t w (by omega) (by rcases h with h | h; exact absurd h h1; exact h)
theorem empty_no {m : ByteArray} (h : 0 < m.size) : m.toList.isEmpty = false := by
  rw [ByteArray.toList_eq]
  have h2 : m.data.toList.length = m.size := size_list m
  cases hl : m.data.toList with
  | nil => rw [hl] at h2; simp at h2; omega
  | cons x r => rfl
theorem byt_take (s : ByteArray) (k i : Nat) (h : i < k) : byt (s.extract 0 k) i = byt s i := by
  unfold byt
  have e : (s.extract 0 k).data.toList = s.data.toList.take k := by simp [ByteArray.data_extract]
  rw [e]
  simp [List.getD_eq_getElem?_getD, List.getElem?_take, h]
theorem byt_append (s m : ByteArray) (i : Nat) (h : i < s.size) : byt (s ++ m) i = byt s i := by
  unfold byt
  have e : (s ++ m).data.toList = s.data.toList ++ m.data.toList := by simp [ByteArray.data_append]
  rw [e, List.getD_eq_getElem?_getD, List.getD_eq_getElem?_getD, List.getElem?_append_left (by rw [size_list]; exact h)]
theorem dec_pre (s : ByteArray) (k : Nat) (hl : s.size = byt s 1) (hk : k < s.size) (w : World) : Calls Tryd.prog 15 #[.string (s.extract 0 k)] w fun e w' => e = .returned (.tuple #[.agg #[.int .i64 0, .int .u8 0, .int .u8 0, .int .u16 0, .int .u16 0, .int .u16 0, .int .u8 0, .int .u16 0, .int .u16 0, .int .u16 0, .int .u8 0, .int .u16 0, .bool false, .int .u8 0, .int .u16 0, .int .u32 0, .int .u8 0, .int .u8 0, .string ⟨#[]⟩], .int .i64 10]) ∧ Below w.heap.size w w' := by
  have hz : (s.extract 0 k).size = k := by rw [ByteArray.size_extract]; omega
  refine dec_len _ w ?_
  by_cases h : k < 17
  · left; omega
  · right; rw [hz, byt_take s k 1 (by omega)]; omega
theorem dec_more (s m : ByteArray) (h17 : 17 ≤ s.size) (hl : s.size = byt s 1) (hm : 0 < m.size) (w : World) : Calls Tryd.prog 15 #[.string (s ++ m)] w fun e w' => e = .returned (.tuple #[.agg #[.int .i64 0, .int .u8 0, .int .u8 0, .int .u16 0, .int .u16 0, .int .u16 0, .int .u8 0, .int .u16 0, .int .u16 0, .int .u16 0, .int .u8 0, .int .u16 0, .bool false, .int .u8 0, .int .u16 0, .int .u32 0, .int .u8 0, .int .u8 0, .string ⟨#[]⟩], .int .i64 10]) ∧ Below w.heap.size w w' := by
  refine dec_len _ w (.inr ?_)
  rw [byt_append s m 1 (by omega), ByteArray.size_append]; omega
theorem TS.put {n : Nat} {c c' c'' : Array Value} {w W : World} {t : TypeId} (h : TS n c w W) : TS n c w (put29 (W.alloc (.cells c' t)) W.heap.size c'') :=
  h.mem (below_put (Nat.le_refl _) _ ((Below.refl _ _).alloc (Nat.le_refl _) _))
theorem TS.new {c : Array Value} {w : World} {t : TypeId} (hc : c.size = 19) (hE : Env w) : TS w.heap.size c w (w.alloc (.cells c t)) :=
  ⟨⟨ok_new _ _ _ _ rfl hc, row_new _ _ _ _ rfl hc, (Below.refl _ _).alloc (Nat.le_refl _) _, by simp⟩, hE.below ((Below.refl _ _).alloc (Nat.le_refl _) _)⟩

set_option maxRecDepth 100000 in
set_option maxHeartbeats 4000000 in
theorem cuts_no (f : Fr) (hf : f.fit) (cut : Int) (more : ByteArray) (w : World) (hE : Env w) (hr : rtB f = false) : Calls Tryd.prog 7 #[.agg #[.int .i64 f.kind, .int .u8 f.src, .int .u8 f.dst, .int .u16 f.sinc, .int .u16 f.dinc, .int .u16 f.ec, .int .u8 f.ea, .int .u16 f.ei, .int .u16 f.hop, .int .u16 f.hc, .int .u8 f.ha, .int .u16 f.hi, .bool f.wants, .int .u8 f.blk, .int .u16 f.vinc, .int .u32 f.vseq, .int .u8 f.part, .int .u8 f.parts, .string f.bytes], .int .i64 cut, .string more] w fun e w' => e = .returned (.bool true) ∧ Below w.heap.size w w' := by
  have HF := Lib.hid hf
  have HE := Lib.hid hE
  have HEE : Hid (encE f = 3) := Lib.hid (by unfold encE; rw [hr]; rfl)
  clear hf hE hr
  go_enter Tryd.func7, Tryd.ntmps7
  go_wp2_with fail
  refine world_cut (G := fun W => Calls _ _ _ W _) (fun W => TS w.heap.size #[.int .i64 f.kind, .int .u8 f.src, .int .u8 f.dst, .int .u16 f.sinc, .int .u16 f.dinc, .int .u16 f.ec, .int .u8 f.ea, .int .u16 f.ei, .int .u16 f.hop, .int .u16 f.hc, .int .u8 f.ha, .int .u16 f.hi, .bool f.wants, .int .u8 f.blk, .int .u16 f.vinc, .int .u32 f.vseq, .int .u8 f.part, .int .u8 f.parts, .string f.bytes] w W) (TS.new rfl HE.out) ?_
  rintro W hA
  generalize hn : w.heap.size = n at *
  have HN := Lib.hid hn
  clear hn
  refine (awake_any _ hA.env).mono ?_
  rintro e w1 ⟨rfl, hb1⟩
  have hA1 := hA.mem hb1
  clear hA hb1
  have hk := hA1.1.1
  have hr := hA1.1.2.1
  go_wp2_with fail
  refine (encode_any f _ HF.out).mono ?_
  rintro e w2 ⟨rfl, hb2⟩
  have hA2 := hA1.mem hb2
  clear hA1 hb2 hk hr
  rw [HEE.out]
  have HA := Lib.hid hA2
  clear hA2
  go_wp2
  go_ret
  exact ⟨rfl, by rw [HN.out]; exact HA.out.1.2.2.1⟩

set_option maxRecDepth 100000 in
set_option maxHeartbeats 4000000 in
theorem cuts_far (f : Fr) (hf : f.fit) (cut : Int) (more : ByteArray) (w : World) (hE : Env w) (hr : rtB f = true) (hm : 60 < more.size) : Calls Tryd.prog 7 #[.agg #[.int .i64 f.kind, .int .u8 f.src, .int .u8 f.dst, .int .u16 f.sinc, .int .u16 f.dinc, .int .u16 f.ec, .int .u8 f.ea, .int .u16 f.ei, .int .u16 f.hop, .int .u16 f.hc, .int .u8 f.ha, .int .u16 f.hi, .bool f.wants, .int .u8 f.blk, .int .u16 f.vinc, .int .u32 f.vseq, .int .u8 f.part, .int .u8 f.parts, .string f.bytes], .int .i64 cut, .string more] w fun e w' => e = .returned (.bool true) ∧ Below w.heap.size w w' := by
  have HF := Lib.hid hf
  have HE := Lib.hid hE
  have HEE : Hid (encE f = 0) := Lib.hid (by unfold encE; rw [hr]; rfl)
  have dm : decide ((60 : Int) < (more.size : Int)) = true := by simp; omega
  clear hf hE hr hm
  go_enter Tryd.func7, Tryd.ntmps7
  go_wp2_with fail
  refine world_cut (G := fun W => Calls _ _ _ W _) (fun W => TS w.heap.size #[.int .i64 f.kind, .int .u8 f.src, .int .u8 f.dst, .int .u16 f.sinc, .int .u16 f.dinc, .int .u16 f.ec, .int .u8 f.ea, .int .u16 f.ei, .int .u16 f.hop, .int .u16 f.hc, .int .u8 f.ha, .int .u16 f.hi, .bool f.wants, .int .u8 f.blk, .int .u16 f.vinc, .int .u32 f.vseq, .int .u8 f.part, .int .u8 f.parts, .string f.bytes] w W) (TS.new rfl HE.out) ?_
  rintro W hA
  generalize hn : w.heap.size = n at *
  have HN := Lib.hid hn
  clear hn
  refine (awake_any _ hA.env).mono ?_
  rintro e w1 ⟨rfl, hb1⟩
  have hA1 := hA.mem hb1
  clear hA hb1
  have hk := hA1.1.1
  have hr := hA1.1.2.1
  go_wp2_with fail
  refine (encode_any f _ HF.out).mono ?_
  rintro e w2 ⟨rfl, hb2⟩
  have hA2 := hA1.mem hb2
  clear hA1 hb2 hk hr
  rw [HEE.out]
  have HA := Lib.hid hA2
  clear hA2
  go_wp2
  go_ret
  exact ⟨rfl, by rw [HN.out]; exact HA.out.1.2.2.1⟩


set_option maxRecDepth 100000 in
set_option maxHeartbeats 4000000 in
theorem cuts_in_all (f : Fr) (hf : f.fit) (cut : Int) (more : ByteArray) (w : World) (hE : Env w) (hr : rtB f = true) (hc : 0 ≤ cut ∧ cut < (sizeN f : Int)) (hm : more = ⟨#[]⟩) : Calls Tryd.prog 7 #[.agg #[.int .i64 f.kind, .int .u8 f.src, .int .u8 f.dst, .int .u16 f.sinc, .int .u16 f.dinc, .int .u16 f.ec, .int .u8 f.ea, .int .u16 f.ei, .int .u16 f.hop, .int .u16 f.hc, .int .u8 f.ha, .int .u16 f.hi, .bool f.wants, .int .u8 f.blk, .int .u16 f.vinc, .int .u32 f.vseq, .int .u8 f.part, .int .u8 f.parts, .string f.bytes], .int .i64 cut, .string more] w fun e w' => e = .returned (.bool true) ∧ Below w.heap.size w w' := by
  have HF := Lib.hid hf
  have HE := Lib.hid hE
  have HEE : Hid (encE f = 0) := Lib.hid (by unfold encE; rw [hr]; rfl)
  have hz := enc_size f hr
  have hb := size_bd f hr
  obtain ⟨h17, hl, -, -, -⟩ := enc_facts f hf hr
  have HZ := Lib.hid hz
  have hs42 : (encB f).size ≤ 42 := by omega
  subst hm
  have dm : decide ((60 : Int) < ((⟨#[]⟩ : ByteArray).size : Int)) = false := by decide
  have hap : encB f ++ ⟨#[]⟩ = encB f := ByteArray.append_empty
  have HD : Hid (∀ W, Calls Tryd.prog 15 #[.string (encB f ++ ⟨#[]⟩)] W fun e w' => e = .returned (.tuple #[.agg #[.int .i64 f.kind, .int .u8 f.src, .int .u8 f.dst, .int .u16 f.sinc, .int .u16 f.dinc, .int .u16 f.ec, .int .u8 f.ea, .int .u16 f.ei, .int .u16 f.hop, .int .u16 f.hc, .int .u8 f.ha, .int .u16 f.hi, .bool f.wants, .int .u8 f.blk, .int .u16 f.vinc, .int .u32 f.vseq, .int .u8 f.part, .int .u8 f.parts, .string f.bytes], .int .i64 0]) ∧ Below W.heap.size W w') := Lib.hid (fun W => by rw [hap]; exact dec_enc f hf hr W)
  clear hap
  have ha := add_run 42 60 hs42 (show (⟨#[]⟩ : ByteArray).size ≤ 60 by decide) (by omega)
  obtain ⟨hc0, hc1⟩ := hc
  obtain ⟨k, rfl⟩ := Int.eq_ofNat_of_zero_le hc0
  have HP : Hid (∀ W, Calls Tryd.prog 15 #[.string ((encB f).extract 0 k)] W fun e w' => e = .returned (.tuple #[.agg #[.int .i64 0, .int .u8 0, .int .u8 0, .int .u16 0, .int .u16 0, .int .u16 0, .int .u8 0, .int .u16 0, .int .u16 0, .int .u16 0, .int .u8 0, .int .u16 0, .bool false, .int .u8 0, .int .u16 0, .int .u32 0, .int .u8 0, .int .u8 0, .string ⟨#[]⟩], .int .i64 10]) ∧ Below W.heap.size W w') := Lib.hid (fun W => dec_pre _ k hl (by omega) W)
  have c0 : decide ((0 : Int) ≤ (k : Int)) = true := by simp
  have c1 : (k : Int) < ((encB f).size : Int) := by omega
  have c2 : k < (encB f).size := by omega
  have hkz : (k : Int) ≤ 4294967296 := by omega
  clear hf hE hr hz hb h17 hl hc1 hc0
  generalize hs : encB f = s at *
  have HS := Lib.hid hs
  clear hs
  go_enter Tryd.func7, Tryd.ntmps7
  go_wp2_with fail
  refine world_cut (G := fun W => Calls _ _ _ W _) (fun W => TS w.heap.size #[.int .i64 f.kind, .int .u8 f.src, .int .u8 f.dst, .int .u16 f.sinc, .int .u16 f.dinc, .int .u16 f.ec, .int .u8 f.ea, .int .u16 f.ei, .int .u16 f.hop, .int .u16 f.hc, .int .u8 f.ha, .int .u16 f.hi, .bool f.wants, .int .u8 f.blk, .int .u16 f.vinc, .int .u32 f.vseq, .int .u8 f.part, .int .u8 f.parts, .string f.bytes] w W) (TS.new rfl HE.out) ?_
  rintro W hA
  generalize hn : w.heap.size = n at *
  have HN := Lib.hid hn
  clear hn
  refine (awake_any _ hA.env).mono ?_
  rintro e w1 ⟨rfl, hb1⟩
  have hA1 := hA.mem hb1
  clear hA hb1
  have hk := hA1.1.1
  have hr := hA1.1.2.1
  go_wp2_with fail
  refine (encode_any f _ HF.out).mono ?_
  rintro e w2 ⟨rfl, hb2⟩
  have hA2 := hA1.mem hb2
  clear hA1 hb2 hk hr
  rw [HEE.out]
  rw [HS.out]
  go_wp2_with fail
  refine (HP.out _).mono ?_
  rintro e w3 ⟨rfl, hb3⟩
  have hA3 := hA2.mem hb3
  clear hA2 hb3
  go_wp2_with fail
  have hA2 := TS.put (c' := #[.int .i64 0, .int .u8 0, .int .u8 0, .int .u16 0, .int .u16 0, .int .u16 0, .int .u8 0, .int .u16 0, .int .u16 0, .int .u16 0, .int .u8 0, .int .u16 0, .bool false, .int .u8 0, .int .u16 0, .int .u32 0, .int .u8 0, .int .u8 0, .string ⟨#[]⟩]) (c'' := #[.int .i64 0, .int .u8 0, .int .u8 0, .int .u16 0, .int .u16 0, .int .u16 0, .int .u8 0, .int .u16 0, .int .u16 0, .int .u16 0, .int .u8 0, .int .u16 0, .bool false, .int .u8 0, .int .u16 0, .int .u32 0, .int .u8 0, .int .u8 0, .string ⟨#[]⟩]) (t := 29) hA3
  clear hA3
  refine (HD.out _).mono ?_
  rintro e w5 ⟨rfl, hb5⟩
  have hA5 := hA2.mem hb5
  have hk := hA5.1.1
  have hr := hA5.1.2.1
  have hlt := hA5.1.2.2.2
  have HA := Lib.hid hA5
  clear hA2 hA5 hb5 ha
  go_wp2
  go_ret
  exact ⟨rfl, by rw [HN.out]; exact below_put (Nat.le_of_lt hlt) _ (below_new HA.out.1.2.2.1 (Nat.le_of_lt hlt) _)⟩

set_option maxRecDepth 100000 in
set_option maxHeartbeats 4000000 in
theorem cuts_in_more (f : Fr) (hf : f.fit) (cut : Int) (more : ByteArray) (w : World) (hE : Env w) (hr : rtB f = true) (hc : 0 ≤ cut ∧ cut < (sizeN f : Int)) (hm : more ≠ ⟨#[]⟩) (hm2 : more.size ≤ 60) : Calls Tryd.prog 7 #[.agg #[.int .i64 f.kind, .int .u8 f.src, .int .u8 f.dst, .int .u16 f.sinc, .int .u16 f.dinc, .int .u16 f.ec, .int .u8 f.ea, .int .u16 f.ei, .int .u16 f.hop, .int .u16 f.hc, .int .u8 f.ha, .int .u16 f.hi, .bool f.wants, .int .u8 f.blk, .int .u16 f.vinc, .int .u32 f.vseq, .int .u8 f.part, .int .u8 f.parts, .string f.bytes], .int .i64 cut, .string more] w fun e w' => e = .returned (.bool true) ∧ Below w.heap.size w w' := by
  have HF := Lib.hid hf
  have HE := Lib.hid hE
  have HEE : Hid (encE f = 0) := Lib.hid (by unfold encE; rw [hr]; rfl)
  have hz := enc_size f hr
  have hb := size_bd f hr
  obtain ⟨h17, hl, -, -, -⟩ := enc_facts f hf hr
  have HZ := Lib.hid hz
  have hs42 : (encB f).size ≤ 42 := by omega
  have hm0 : 0 < more.size := Nat.pos_of_ne_zero fun e => hm (ByteArray.size_eq_zero_iff.1 e)
  have dm : decide ((60 : Int) < (more.size : Int)) = false := by simp; omega
  have q1 := str_ne hm
  have q2 := empty_no hm0
  have q3 : (!more.toList.isEmpty) = true := by rw [q2]; rfl
  have HD : Hid (∀ W, Calls Tryd.prog 15 #[.string (encB f ++ more)] W fun e w' => e = .returned (.tuple #[.agg #[.int .i64 0, .int .u8 0, .int .u8 0, .int .u16 0, .int .u16 0, .int .u16 0, .int .u8 0, .int .u16 0, .int .u16 0, .int .u16 0, .int .u8 0, .int .u16 0, .bool false, .int .u8 0, .int .u16 0, .int .u32 0, .int .u8 0, .int .u8 0, .string ⟨#[]⟩], .int .i64 10]) ∧ Below W.heap.size W w') := Lib.hid (fun W => dec_more _ _ h17 hl hm0 W)
  have ha := add_run 42 60 hs42 hm2 (by omega)
  clear hm hm0
  obtain ⟨hc0, hc1⟩ := hc
  obtain ⟨k, rfl⟩ := Int.eq_ofNat_of_zero_le hc0
  have HP : Hid (∀ W, Calls Tryd.prog 15 #[.string ((encB f).extract 0 k)] W fun e w' => e = .returned (.tuple #[.agg #[.int .i64 0, .int .u8 0, .int .u8 0, .int .u16 0, .int .u16 0, .int .u16 0, .int .u8 0, .int .u16 0, .int .u16 0, .int .u16 0, .int .u8 0, .int .u16 0, .bool false, .int .u8 0, .int .u16 0, .int .u32 0, .int .u8 0, .int .u8 0, .string ⟨#[]⟩], .int .i64 10]) ∧ Below W.heap.size W w') := Lib.hid (fun W => dec_pre _ k hl (by omega) W)
  have c0 : decide ((0 : Int) ≤ (k : Int)) = true := by simp
  have c1 : (k : Int) < ((encB f).size : Int) := by omega
  have c2 : k < (encB f).size := by omega
  have hkz : (k : Int) ≤ 4294967296 := by omega
  clear hf hE hr hz hb h17 hl hc1 hc0 hm2
  generalize hs : encB f = s at *
  have HS := Lib.hid hs
  clear hs
  go_enter Tryd.func7, Tryd.ntmps7
  go_wp2_with fail
  refine world_cut (G := fun W => Calls _ _ _ W _) (fun W => TS w.heap.size #[.int .i64 f.kind, .int .u8 f.src, .int .u8 f.dst, .int .u16 f.sinc, .int .u16 f.dinc, .int .u16 f.ec, .int .u8 f.ea, .int .u16 f.ei, .int .u16 f.hop, .int .u16 f.hc, .int .u8 f.ha, .int .u16 f.hi, .bool f.wants, .int .u8 f.blk, .int .u16 f.vinc, .int .u32 f.vseq, .int .u8 f.part, .int .u8 f.parts, .string f.bytes] w W) (TS.new rfl HE.out) ?_
  rintro W hA
  generalize hn : w.heap.size = n at *
  have HN := Lib.hid hn
  clear hn
  refine (awake_any _ hA.env).mono ?_
  rintro e w1 ⟨rfl, hb1⟩
  have hA1 := hA.mem hb1
  clear hA hb1
  have hk := hA1.1.1
  have hr := hA1.1.2.1
  go_wp2_with fail
  refine (encode_any f _ HF.out).mono ?_
  rintro e w2 ⟨rfl, hb2⟩
  have hA2 := hA1.mem hb2
  clear hA1 hb2 hk hr
  rw [HEE.out]
  rw [HS.out]
  go_wp2_with fail
  refine (HP.out _).mono ?_
  rintro e w3 ⟨rfl, hb3⟩
  have hA3 := hA2.mem hb3
  clear hA2 hb3
  go_wp2_with fail
  have hA2 := TS.put (c' := #[.int .i64 0, .int .u8 0, .int .u8 0, .int .u16 0, .int .u16 0, .int .u16 0, .int .u8 0, .int .u16 0, .int .u16 0, .int .u16 0, .int .u8 0, .int .u16 0, .bool false, .int .u8 0, .int .u16 0, .int .u32 0, .int .u8 0, .int .u8 0, .string ⟨#[]⟩]) (c'' := #[.int .i64 0, .int .u8 0, .int .u8 0, .int .u16 0, .int .u16 0, .int .u16 0, .int .u8 0, .int .u16 0, .int .u16 0, .int .u16 0, .int .u8 0, .int .u16 0, .bool false, .int .u8 0, .int .u16 0, .int .u32 0, .int .u8 0, .int .u8 0, .string ⟨#[]⟩]) (t := 29) hA3
  clear hA3
  refine (HD.out _).mono ?_
  rintro e w5 ⟨rfl, hb5⟩
  have hA5 := hA2.mem hb5
  have hk := hA5.1.1
  have hr := hA5.1.2.1
  have hlt := hA5.1.2.2.2
  have HA := Lib.hid hA5
  clear hA2 hA5 hb5 ha
  go_wp2
  go_ret
  exact ⟨rfl, by rw [HN.out]; exact below_put (Nat.le_of_lt hlt) _ (below_new HA.out.1.2.2.1 (Nat.le_of_lt hlt) _)⟩

set_option maxRecDepth 100000 in
set_option maxHeartbeats 4000000 in
theorem cuts_out_all (f : Fr) (hf : f.fit) (cut : Int) (more : ByteArray) (w : World) (hE : Env w) (hr : rtB f = true) (hc : ¬ (0 ≤ cut ∧ cut < (sizeN f : Int))) (hm : more = ⟨#[]⟩) : Calls Tryd.prog 7 #[.agg #[.int .i64 f.kind, .int .u8 f.src, .int .u8 f.dst, .int .u16 f.sinc, .int .u16 f.dinc, .int .u16 f.ec, .int .u8 f.ea, .int .u16 f.ei, .int .u16 f.hop, .int .u16 f.hc, .int .u8 f.ha, .int .u16 f.hi, .bool f.wants, .int .u8 f.blk, .int .u16 f.vinc, .int .u32 f.vseq, .int .u8 f.part, .int .u8 f.parts, .string f.bytes], .int .i64 cut, .string more] w fun e w' => e = .returned (.bool true) ∧ Below w.heap.size w w' := by
  have HF := Lib.hid hf
  have HE := Lib.hid hE
  have HEE : Hid (encE f = 0) := Lib.hid (by unfold encE; rw [hr]; rfl)
  have hz := enc_size f hr
  have hb := size_bd f hr
  obtain ⟨h17, hl, -, -, -⟩ := enc_facts f hf hr
  have HZ := Lib.hid hz
  have hs42 : (encB f).size ≤ 42 := by omega
  subst hm
  have dm : decide ((60 : Int) < ((⟨#[]⟩ : ByteArray).size : Int)) = false := by decide
  have hap : encB f ++ ⟨#[]⟩ = encB f := ByteArray.append_empty
  have HD : Hid (∀ W, Calls Tryd.prog 15 #[.string (encB f ++ ⟨#[]⟩)] W fun e w' => e = .returned (.tuple #[.agg #[.int .i64 f.kind, .int .u8 f.src, .int .u8 f.dst, .int .u16 f.sinc, .int .u16 f.dinc, .int .u16 f.ec, .int .u8 f.ea, .int .u16 f.ei, .int .u16 f.hop, .int .u16 f.hc, .int .u8 f.ha, .int .u16 f.hi, .bool f.wants, .int .u8 f.blk, .int .u16 f.vinc, .int .u32 f.vseq, .int .u8 f.part, .int .u8 f.parts, .string f.bytes], .int .i64 0]) ∧ Below W.heap.size W w') := Lib.hid (fun W => by rw [hap]; exact dec_enc f hf hr W)
  clear hap
  have ha := add_run 42 60 hs42 (show (⟨#[]⟩ : ByteArray).size ≤ 60 by decide) (by omega)
  have hcc : (decide ((0 : Int) ≤ cut) = false) ∨ (decide ((0 : Int) ≤ cut) = true ∧ decide (cut < ((encB f).size : Int)) = false) := by
    by_cases h : 0 ≤ cut
    · right; refine ⟨by simpa using h, ?_⟩; simp; omega
    · left; simpa using h
  clear hf hE hr hz hb h17 hl hc
  generalize hs : encB f = s at *
  have HS := Lib.hid hs
  clear hs
  rcases hcc with d0 | ⟨d0, d1⟩
  all_goals
    go_enter Tryd.func7, Tryd.ntmps7
    go_wp2_with fail
    refine world_cut (G := fun W => Calls _ _ _ W _) (fun W => TS w.heap.size #[.int .i64 f.kind, .int .u8 f.src, .int .u8 f.dst, .int .u16 f.sinc, .int .u16 f.dinc, .int .u16 f.ec, .int .u8 f.ea, .int .u16 f.ei, .int .u16 f.hop, .int .u16 f.hc, .int .u8 f.ha, .int .u16 f.hi, .bool f.wants, .int .u8 f.blk, .int .u16 f.vinc, .int .u32 f.vseq, .int .u8 f.part, .int .u8 f.parts, .string f.bytes] w W) (TS.new rfl HE.out) ?_
    rintro W hA
    generalize hn : w.heap.size = n at *
    have HN := Lib.hid hn
    clear hn
    refine (awake_any _ hA.env).mono ?_
    rintro e w1 ⟨rfl, hb1⟩
    have hA1 := hA.mem hb1
    clear hA hb1
    have hk := hA1.1.1
    have hr := hA1.1.2.1
    go_wp2_with fail
    refine (encode_any f _ HF.out).mono ?_
    rintro e w2 ⟨rfl, hb2⟩
    have hA2 := hA1.mem hb2
    clear hA1 hb2 hk hr
    rw [HEE.out]
    rw [HS.out]
    go_wp2_with fail
    refine (HD.out _).mono ?_
    rintro e w5 ⟨rfl, hb5⟩
    have hA5 := hA2.mem hb5
    have hk := hA5.1.1
    have hr := hA5.1.2.1
    have hlt := hA5.1.2.2.2
    have HA := Lib.hid hA5
    clear hA2 hA5 hb5 ha
    go_wp2
    go_ret
    exact ⟨rfl, by rw [HN.out]; exact below_put (Nat.le_of_lt hlt) _ (below_new HA.out.1.2.2.1 (Nat.le_of_lt hlt) _)⟩

set_option maxRecDepth 100000 in
set_option maxHeartbeats 4000000 in
theorem cuts_out_more (f : Fr) (hf : f.fit) (cut : Int) (more : ByteArray) (w : World) (hE : Env w) (hr : rtB f = true) (hc : ¬ (0 ≤ cut ∧ cut < (sizeN f : Int))) (hm : more ≠ ⟨#[]⟩) (hm2 : more.size ≤ 60) : Calls Tryd.prog 7 #[.agg #[.int .i64 f.kind, .int .u8 f.src, .int .u8 f.dst, .int .u16 f.sinc, .int .u16 f.dinc, .int .u16 f.ec, .int .u8 f.ea, .int .u16 f.ei, .int .u16 f.hop, .int .u16 f.hc, .int .u8 f.ha, .int .u16 f.hi, .bool f.wants, .int .u8 f.blk, .int .u16 f.vinc, .int .u32 f.vseq, .int .u8 f.part, .int .u8 f.parts, .string f.bytes], .int .i64 cut, .string more] w fun e w' => e = .returned (.bool true) ∧ Below w.heap.size w w' := by
  have HF := Lib.hid hf
  have HE := Lib.hid hE
  have HEE : Hid (encE f = 0) := Lib.hid (by unfold encE; rw [hr]; rfl)
  have hz := enc_size f hr
  have hb := size_bd f hr
  obtain ⟨h17, hl, -, -, -⟩ := enc_facts f hf hr
  have HZ := Lib.hid hz
  have hs42 : (encB f).size ≤ 42 := by omega
  have hm0 : 0 < more.size := Nat.pos_of_ne_zero fun e => hm (ByteArray.size_eq_zero_iff.1 e)
  have dm : decide ((60 : Int) < (more.size : Int)) = false := by simp; omega
  have q1 := str_ne hm
  have q2 := empty_no hm0
  have q3 : (!more.toList.isEmpty) = true := by rw [q2]; rfl
  have HD : Hid (∀ W, Calls Tryd.prog 15 #[.string (encB f ++ more)] W fun e w' => e = .returned (.tuple #[.agg #[.int .i64 0, .int .u8 0, .int .u8 0, .int .u16 0, .int .u16 0, .int .u16 0, .int .u8 0, .int .u16 0, .int .u16 0, .int .u16 0, .int .u8 0, .int .u16 0, .bool false, .int .u8 0, .int .u16 0, .int .u32 0, .int .u8 0, .int .u8 0, .string ⟨#[]⟩], .int .i64 10]) ∧ Below W.heap.size W w') := Lib.hid (fun W => dec_more _ _ h17 hl hm0 W)
  have ha := add_run 42 60 hs42 hm2 (by omega)
  clear hm hm0
  have hcc : (decide ((0 : Int) ≤ cut) = false) ∨ (decide ((0 : Int) ≤ cut) = true ∧ decide (cut < ((encB f).size : Int)) = false) := by
    by_cases h : 0 ≤ cut
    · right; refine ⟨by simpa using h, ?_⟩; simp; omega
    · left; simpa using h
  clear hf hE hr hz hb h17 hl hc hm2
  generalize hs : encB f = s at *
  have HS := Lib.hid hs
  clear hs
  rcases hcc with d0 | ⟨d0, d1⟩
  all_goals
    go_enter Tryd.func7, Tryd.ntmps7
    go_wp2_with fail
    refine world_cut (G := fun W => Calls _ _ _ W _) (fun W => TS w.heap.size #[.int .i64 f.kind, .int .u8 f.src, .int .u8 f.dst, .int .u16 f.sinc, .int .u16 f.dinc, .int .u16 f.ec, .int .u8 f.ea, .int .u16 f.ei, .int .u16 f.hop, .int .u16 f.hc, .int .u8 f.ha, .int .u16 f.hi, .bool f.wants, .int .u8 f.blk, .int .u16 f.vinc, .int .u32 f.vseq, .int .u8 f.part, .int .u8 f.parts, .string f.bytes] w W) (TS.new rfl HE.out) ?_
    rintro W hA
    generalize hn : w.heap.size = n at *
    have HN := Lib.hid hn
    clear hn
    refine (awake_any _ hA.env).mono ?_
    rintro e w1 ⟨rfl, hb1⟩
    have hA1 := hA.mem hb1
    clear hA hb1
    have hk := hA1.1.1
    have hr := hA1.1.2.1
    go_wp2_with fail
    refine (encode_any f _ HF.out).mono ?_
    rintro e w2 ⟨rfl, hb2⟩
    have hA2 := hA1.mem hb2
    clear hA1 hb2 hk hr
    rw [HEE.out]
    rw [HS.out]
    go_wp2_with fail
    refine (HD.out _).mono ?_
    rintro e w5 ⟨rfl, hb5⟩
    have hA5 := hA2.mem hb5
    have hk := hA5.1.1
    have hr := hA5.1.2.1
    have hlt := hA5.1.2.2.2
    have HA := Lib.hid hA5
    clear hA2 hA5 hb5 ha
    go_wp2
    go_ret
    exact ⟨rfl, by rw [HN.out]; exact below_put (Nat.le_of_lt hlt) _ (below_new HA.out.1.2.2.1 (Nat.le_of_lt hlt) _)⟩

theorem cuts_walk (f : Fr) (hf : f.fit) (cut : Int) (more : ByteArray) (w : World) (hE : Env w) : Calls Tryd.prog 7 #[.agg #[.int .i64 f.kind, .int .u8 f.src, .int .u8 f.dst, .int .u16 f.sinc, .int .u16 f.dinc, .int .u16 f.ec, .int .u8 f.ea, .int .u16 f.ei, .int .u16 f.hop, .int .u16 f.hc, .int .u8 f.ha, .int .u16 f.hi, .bool f.wants, .int .u8 f.blk, .int .u16 f.vinc, .int .u32 f.vseq, .int .u8 f.part, .int .u8 f.parts, .string f.bytes], .int .i64 cut, .string more] w fun e w' => e = .returned (.bool true) ∧ Below w.heap.size w w' := by
  cases hr : rtB f
  · exact cuts_no f hf cut more w hE hr
  · by_cases hm : 60 < more.size
    · exact cuts_far f hf cut more w hE hr hm
    · by_cases hc : 0 ≤ cut ∧ cut < (sizeN f : Int)
      · by_cases h0 : more = ⟨#[]⟩
        · exact cuts_in_all f hf cut more w hE hr hc h0
        · exact cuts_in_more f hf cut more w hE hr hc h0 (by omega)
      · by_cases h0 : more = ⟨#[]⟩
        · exact cuts_out_all f hf cut more w hE hr hc h0
        · exact cuts_out_more f hf cut more w hE hr hc h0 (by omega)

end Go.Proofs.YtindekpmicbbiaaDoor
