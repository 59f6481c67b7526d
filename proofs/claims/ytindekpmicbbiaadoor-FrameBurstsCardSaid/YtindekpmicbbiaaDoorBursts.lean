/-
  The law of bursts in frames, walked. Conditions: numbers such as their kinds hold; the library's table of powers is as the program lays it.
-/
import Derived.Test.YtindekpmicbbiaaDoorCuts
namespace Go.Proofs.YtindekpmicbbiaaDoor
open Go.RowKit
open Oct Sums

set_option linter.unusedSimpArgs false
attribute [local go_sem ↓] exec_bd exec_ld exec_st load_row loadVar_row store_row
attribute [local go_sem] bd_0 bd_1 bd_5 bd_6 ld_row st_row set_cell_lt set_cell_gt one_int one_bool one_str row_new ok_new free_new row_old ok_old_iff free_old_iff put_in put_cell_lt put_cell_gt put_frozen row_put_in row_put_lt row_put_gt ok_put_iff free_put_iff put_size row_set_in row_set_lt row_set_gt ok_set_iff free_set_iff drew_cell drew_frozen drew_size row_drew ok_drew free_drew

open Epo
/-- The text with a burst turned. -/
def burstT (s : ByteArray) (a : Int) (pt : Nat) : ByteArray := if a < 0 then s else if 8 * s.size ≤ a.toNat then s else burstB s a.toNat (BitVec.ofNat 16 pt)
theorem burst_all (s : ByteArray) (a : Int) (ha : (Lit.int .i64 a).wf = true) (pt : Nat) (hp : (pt : Int) ≤ 65535) (hs : s.size ≤ 4000) (w : World) :
    Calls Tryd.prog 20 #[.string s, .int .i64 a, .int .u16 (pt : Int)] w fun e w' => e = .returned (.string (burstT s a pt)) ∧ Below w.heap.size w w' := by
  have ha63 : a ≤ 9223372036854775807 := by
    simp [Lit.wf, IntKind.min, IntKind.max, IntKind.signed, IntKind.bits] at ha; omega
  unfold burstT
  by_cases h0 : a < 0
  · rw [if_pos h0]; exact burst_out s a pt w h0
  · rw [if_neg h0]
    obtain ⟨k, rfl⟩ := Int.eq_ofNat_of_zero_le (by omega : 0 ≤ a)
    rw [Int.toNat_natCast]
    by_cases h1 : 8 * s.size ≤ k
    · rw [if_pos h1]; exact burst_past s k pt w h1 (by omega)
    · rw [if_neg h1]
      have e : (pt : Int) = ((BitVec.ofNat 16 pt).toNat : Int) := by rw [BitVec.toNat_ofNat]; omega
      rw [e]
      by_cases h3 : (3 : Int) ≤ (s.size : Int) - (k : Int) / 8
      · exact burst_in s k 3 (BitVec.ofNat 16 pt) w hs (by omega) (.inl ⟨by omega, by omega, h3⟩)
      · exact burst_in s k (s.size - k / 8) (BitVec.ofNat 16 pt) w hs (by omega) (.inr ⟨by omega, by omega, h3⟩)
theorem burstT_size (s : ByteArray) (a : Int) (pt : Nat) : (burstT s a pt).size = s.size := by
  unfold burstT
  split
  · rfl
  · split
    · rfl
    · exact burst_size _ _ _
/-- A frame's bytes with a burst that turns something are no frame's. -/
theorem dec_burst (f : Fr) (hf : f.fit) (hr : rtB f = true) (a : Int) (pt : Nat) (hne : burstT (encB f) a pt ≠ encB f) : ∃ n : Int, (n = 9 ∨ n = 10) ∧ ∀ w, Calls Tryd.prog 15 #[.string (burstT (encB f) a pt)] w fun e w' => e = .returned (.tuple #[.agg #[.int .i64 0, .int .u8 0, .int .u8 0, .int .u16 0, .int .u16 0, .int .u16 0, .int .u8 0, .int .u16 0, .int .u16 0, .int .u16 0, .int .u8 0, .int .u16 0, .bool false, .int .u8 0, .int .u16 0, .int .u32 0, .int .u8 0, .int .u8 0, .string ⟨#[]⟩], .int .i64 n]) ∧ Below w.heap.size w w' := by
  have hz := burstT_size (encB f) a pt
  have h17 := (enc_facts f hf hr).1
  have he : encB f = sealedB (S (bodyL f)) := by unfold encB; rw [hr]; rfl
  by_cases hl : (burstT (encB f) a pt).size = byt (burstT (encB f) a pt) 1
  · refine ⟨9, .inl rfl, fun w => dec_crc _ w (by omega) hl ?_⟩
    unfold burstT at hne ⊢
    by_cases h0 : a < 0
    · rw [if_pos h0] at hne; exact absurd rfl hne
    · rw [if_neg h0] at hne ⊢
      by_cases h1 : 8 * (encB f).size ≤ a.toNat
      · rw [if_pos h1] at hne; exact absurd rfl hne
      · rw [if_neg h1] at hne ⊢
        rw [he] at hne h1 ⊢
        exact burst_none _ _ _ (by omega) hne
  · exact ⟨10, .inr rfl, fun w => by
      by_cases h : (burstT (encB f) a pt).size < 17
      · exact dec_len1 _ w (by omega)
      · exact dec_len2 _ w (by omega) hl⟩

set_option maxRecDepth 100000 in
set_option maxHeartbeats 4000000 in
theorem bursts_no (f : Fr) (hf : f.fit) (a : Int) (_ha : (Lit.int .i64 a).wf = true) (pt : Nat) (_hp : (pt : Int) ≤ 65535) (w : World) (hE : Env w) (hr : rtB f = false) : Calls Tryd.prog 6 #[.agg #[.int .i64 f.kind, .int .u8 f.src, .int .u8 f.dst, .int .u16 f.sinc, .int .u16 f.dinc, .int .u16 f.ec, .int .u8 f.ea, .int .u16 f.ei, .int .u16 f.hop, .int .u16 f.hc, .int .u8 f.ha, .int .u16 f.hi, .bool f.wants, .int .u8 f.blk, .int .u16 f.vinc, .int .u32 f.vseq, .int .u8 f.part, .int .u8 f.parts, .string f.bytes], .int .i64 a, .int .u16 (pt : Int)] w fun e w' => e = .returned (.bool true) ∧ Below w.heap.size w w' := by
  have HF := Lib.hid hf
  have HE := Lib.hid hE
  have HEE : Hid (encE f = 3) := Lib.hid (by unfold encE; rw [hr]; rfl)
  clear hf hE hr
  go_enter Tryd.func6, Tryd.ntmps6
  go_wp2_with fail
  refine world_cut (G := fun W => Calls _ _ _ W _) (fun W => TS w.heap.size #[.int .i64 f.kind, .int .u8 f.src, .int .u8 f.dst, .int .u16 f.sinc, .int .u16 f.dinc, .int .u16 f.ec, .int .u8 f.ea, .int .u16 f.ei, .int .u16 f.hop, .int .u16 f.hc, .int .u8 f.ha, .int .u16 f.hi, .bool f.wants, .int .u8 f.blk, .int .u16 f.vinc, .int .u32 f.vseq, .int .u8 f.part, .int .u8 f.parts, .string f.bytes] w W) (TS.new rfl HE.out) ?_
  rintro W hA
  generalize hn : w.heap.size = n at *
  have HN := Lib.hid hn
  clear hn
  refine (awake_any _ hA.env).mono ?_
  rintro e w1 ⟨rfl, hb1⟩
  have hA1 := hA.mem hb1
  clear hA hb1
  have hk := hA1.1.1
  have hr := hA1.1.2.1
  go_wp2_with fail
  refine (encode_any f _ HF.out).mono ?_
  rintro e w2 ⟨rfl, hb2⟩
  have hA2 := hA1.mem hb2
  clear hA1 hb2 hk hr
  rw [HEE.out]
  have HA := Lib.hid hA2
  clear hA2
  go_wp2
  go_ret
  exact ⟨rfl, by rw [HN.out]; exact HA.out.1.2.2.1⟩

set_option maxRecDepth 100000 in
set_option maxHeartbeats 4000000 in
theorem bursts_same (f : Fr) (hf : f.fit) (a : Int) (ha63 : (Lit.int .i64 a).wf = true) (pt : Nat) (hp : (pt : Int) ≤ 65535) (w : World) (hE : Env w) (hr : rtB f = true) (hs : burstT (encB f) a pt = encB f) : Calls Tryd.prog 6 #[.agg #[.int .i64 f.kind, .int .u8 f.src, .int .u8 f.dst, .int .u16 f.sinc, .int .u16 f.dinc, .int .u16 f.ec, .int .u8 f.ea, .int .u16 f.ei, .int .u16 f.hop, .int .u16 f.hc, .int .u8 f.ha, .int .u16 f.hi, .bool f.wants, .int .u8 f.blk, .int .u16 f.vinc, .int .u32 f.vseq, .int .u8 f.part, .int .u8 f.parts, .string f.bytes], .int .i64 a, .int .u16 (pt : Int)] w fun e w' => e = .returned (.bool true) ∧ Below w.heap.size w w' := by
  have HF := Lib.hid hf
  have HE := Lib.hid hE
  have HEE : Hid (encE f = 0) := Lib.hid (by unfold encE; rw [hr]; rfl)
  have hz := enc_size f hr
  have hb := size_bd f hr
  have HD : Hid (∀ W, Calls Tryd.prog 15 #[.string (encB f)] W fun e w' => e = .returned (.tuple #[.agg #[.int .i64 f.kind, .int .u8 f.src, .int .u8 f.dst, .int .u16 f.sinc, .int .u16 f.dinc, .int .u16 f.ec, .int .u8 f.ea, .int .u16 f.ei, .int .u16 f.hop, .int .u16 f.hc, .int .u8 f.ha, .int .u16 f.hi, .bool f.wants, .int .u8 f.blk, .int .u16 f.vinc, .int .u32 f.vseq, .int .u8 f.part, .int .u8 f.parts, .string f.bytes], .int .i64 0]) ∧ Below W.heap.size W w') := Lib.hid (dec_enc f hf hr)
  have HU : Hid (∀ W, Calls Tryd.prog 20 #[.string (encB f), .int .i64 a, .int .u16 (pt : Int)] W fun e w' => e = .returned (.string (encB f)) ∧ Below W.heap.size W w') := Lib.hid (fun W => by have h := burst_all (encB f) a ha63 pt hp (by omega) W; rw [hs] at h; exact h)
  clear hf hE hr ha63 hp hs hz hb
  generalize hs : encB f = s at *
  have HS := Lib.hid hs
  clear hs
  go_enter Tryd.func6, Tryd.ntmps6
  go_wp2_with fail
  refine world_cut (G := fun W => Calls _ _ _ W _) (fun W => TS w.heap.size #[.int .i64 f.kind, .int .u8 f.src, .int .u8 f.dst, .int .u16 f.sinc, .int .u16 f.dinc, .int .u16 f.ec, .int .u8 f.ea, .int .u16 f.ei, .int .u16 f.hop, .int .u16 f.hc, .int .u8 f.ha, .int .u16 f.hi, .bool f.wants, .int .u8 f.blk, .int .u16 f.vinc, .int .u32 f.vseq, .int .u8 f.part, .int .u8 f.parts, .string f.bytes] w W) (TS.new rfl HE.out) ?_
  rintro W hA
  generalize hn : w.heap.size = n at *
  have HN := Lib.hid hn
  clear hn
  refine (awake_any _ hA.env).mono ?_
  rintro e w1 ⟨rfl, hb1⟩
  have hA1 := hA.mem hb1
  clear hA hb1
  have hk := hA1.1.1
  have hr := hA1.1.2.1
  go_wp2_with fail
  refine (encode_any f _ HF.out).mono ?_
  rintro e w2 ⟨rfl, hb2⟩
  have hA2 := hA1.mem hb2
  clear hA1 hb2 hk hr
  rw [HEE.out]
  rw [HS.out]
  go_wp2_with fail
  refine (HU.out _).mono ?_
  rintro e w3 ⟨rfl, hb3⟩
  have hA3 := hA2.mem hb3
  clear hA2 hb3
  go_wp2_with fail
  refine (HD.out _).mono ?_
  rintro e w5 ⟨rfl, hb5⟩
  have hA5 := hA3.mem hb5
  have hk := hA5.1.1
  have hr := hA5.1.2.1
  have hlt := hA5.1.2.2.2
  have HA := Lib.hid hA5
  clear hA3 hA5 hb5
  go_wp2
  go_ret
  exact ⟨rfl, by rw [HN.out]; exact below_put (Nat.le_of_lt hlt) _ (below_new HA.out.1.2.2.1 (Nat.le_of_lt hlt) _)⟩

set_option maxRecDepth 100000 in
set_option maxHeartbeats 4000000 in
theorem bursts_hurt (f : Fr) (hf : f.fit) (a : Int) (ha63 : (Lit.int .i64 a).wf = true) (pt : Nat) (hp : (pt : Int) ≤ 65535) (w : World) (hE : Env w) (hr : rtB f = true) (hs : burstT (encB f) a pt ≠ encB f) : Calls Tryd.prog 6 #[.agg #[.int .i64 f.kind, .int .u8 f.src, .int .u8 f.dst, .int .u16 f.sinc, .int .u16 f.dinc, .int .u16 f.ec, .int .u8 f.ea, .int .u16 f.ei, .int .u16 f.hop, .int .u16 f.hc, .int .u8 f.ha, .int .u16 f.hi, .bool f.wants, .int .u8 f.blk, .int .u16 f.vinc, .int .u32 f.vseq, .int .u8 f.part, .int .u8 f.parts, .string f.bytes], .int .i64 a, .int .u16 (pt : Int)] w fun e w' => e = .returned (.bool true) ∧ Below w.heap.size w w' := by
  have HF := Lib.hid hf
  have HE := Lib.hid hE
  have HEE : Hid (encE f = 0) := Lib.hid (by unfold encE; rw [hr]; rfl)
  have hz := enc_size f hr
  have hb := size_bd f hr
  obtain ⟨n0, hn0, hd⟩ := dec_burst f hf hr a pt hs
  have HD := Lib.hid hd
  have HU : Hid (∀ W, Calls Tryd.prog 20 #[.string (encB f), .int .i64 a, .int .u16 (pt : Int)] W fun e w' => e = .returned (.string (burstT (encB f) a pt)) ∧ Below W.heap.size W w') := Lib.hid (fun W => burst_all (encB f) a ha63 pt hp (by omega) W)
  have q1 := str_ne hs
  have d1 : (n0 == 0) = false := by rcases hn0 with h | h <;> subst h <;> rfl
  have d2 : (n0 != 0) = true := by rcases hn0 with h | h <;> subst h <;> rfl
  clear hf hE hr ha63 hp hs hz hb hd hn0
  generalize burstT (encB f) a pt = t at *
  generalize hs : encB f = s at *
  have HS := Lib.hid hs
  clear hs
  go_enter Tryd.func6, Tryd.ntmps6
  go_wp2_with fail
  refine world_cut (G := fun W => Calls _ _ _ W _) (fun W => TS w.heap.size #[.int .i64 f.kind, .int .u8 f.src, .int .u8 f.dst, .int .u16 f.sinc, .int .u16 f.dinc, .int .u16 f.ec, .int .u8 f.ea, .int .u16 f.ei, .int .u16 f.hop, .int .u16 f.hc, .int .u8 f.ha, .int .u16 f.hi, .bool f.wants, .int .u8 f.blk, .int .u16 f.vinc, .int .u32 f.vseq, .int .u8 f.part, .int .u8 f.parts, .string f.bytes] w W) (TS.new rfl HE.out) ?_
  rintro W hA
  generalize hn : w.heap.size = n at *
  have HN := Lib.hid hn
  clear hn
  refine (awake_any _ hA.env).mono ?_
  rintro e w1 ⟨rfl, hb1⟩
  have hA1 := hA.mem hb1
  clear hA hb1
  have hk := hA1.1.1
  have hr := hA1.1.2.1
  go_wp2_with fail
  refine (encode_any f _ HF.out).mono ?_
  rintro e w2 ⟨rfl, hb2⟩
  have hA2 := hA1.mem hb2
  clear hA1 hb2 hk hr
  rw [HEE.out]
  rw [HS.out]
  go_wp2_with fail
  refine (HU.out _).mono ?_
  rintro e w3 ⟨rfl, hb3⟩
  have hA3 := hA2.mem hb3
  clear hA2 hb3
  go_wp2_with fail
  refine (HD.out _).mono ?_
  rintro e w5 ⟨rfl, hb5⟩
  have hA5 := hA3.mem hb5
  have hk := hA5.1.1
  have hr := hA5.1.2.1
  have hlt := hA5.1.2.2.2
  have HA := Lib.hid hA5
  clear hA3 hA5 hb5
  go_wp2
  go_ret
  exact ⟨rfl, by rw [HN.out]; exact below_put (Nat.le_of_lt hlt) _ (below_new HA.out.1.2.2.1 (Nat.le_of_lt hlt) _)⟩

theorem bursts_walk (f : Fr) (hf : f.fit) (a : Int) (ha63 : (Lit.int .i64 a).wf = true) (pt : Nat) (hp : (pt : Int) ≤ 65535) (w : World) (hE : Env w) : Calls Tryd.prog 6 #[.agg #[.int .i64 f.kind, .int .u8 f.src, .int .u8 f.dst, .int .u16 f.sinc, .int .u16 f.dinc, .int .u16 f.ec, .int .u8 f.ea, .int .u16 f.ei, .int .u16 f.hop, .int .u16 f.hc, .int .u8 f.ha, .int .u16 f.hi, .bool f.wants, .int .u8 f.blk, .int .u16 f.vinc, .int .u32 f.vseq, .int .u8 f.part, .int .u8 f.parts, .string f.bytes], .int .i64 a, .int .u16 (pt : Int)] w fun e w' => e = .returned (.bool true) ∧ Below w.heap.size w w' := by
  cases hr : rtB f
  · exact bursts_no f hf a ha63 pt hp w hE hr
  · by_cases hs : burstT (encB f) a pt = encB f
    · exact bursts_same f hf a ha63 pt hp w hE hr hs
    · exact bursts_hurt f hf a ha63 pt hp w hE hr hs

end Go.Proofs.YtindekpmicbbiaaDoor
