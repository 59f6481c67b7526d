/-
  A frame's bytes: the code, walked. Conditions: numbers such as their kinds hold.
-/
import Derived.Test.YtindekpmicbbiaaDoorPen
import Derived.Test.YtindekpmicbbiaaDoorSeal
namespace Go.Proofs.YtindekpmicbbiaaDoor
open Go.RowKit
open Oct Sums

set_option linter.unusedSimpArgs false
attribute [local go_sem ↓] exec_bd exec_ld exec_st load_row loadVar_row store_row
attribute [local go_sem] bd_0 bd_1 bd_5 bd_6 ld_row st_row set_cell_lt set_cell_gt one_int one_bool one_str row_new ok_new free_new row_old ok_old_iff free_old_iff put_in put_cell_lt put_cell_gt put_frozen row_put_in row_put_lt row_put_gt ok_put_iff free_put_iff put_size row_set_in row_set_lt row_set_gt ok_set_iff free_set_iff drew_cell drew_frozen drew_size row_drew ok_drew free_drew

/-- A frame lies in block n, as c; and nothing below it has changed. -/
def At (n : Nat) (c : Array Value) (w W : World) : Prop := RowOk W n ∧ rowArr W n = c ∧ Below n w W ∧ n < W.heap.size
theorem At.pen {n : Nat} {c : Array Value} {w W W' : World} (h : At n c w W) (hb : Below (n + 1) W W') : At n c w W' := by
  obtain ⟨h1, h2⟩ := row_below2 hb (Nat.lt_succ_self n) h.1
  exact ⟨h1, h2.trans h.2.1, h.2.2.1.trans (hb.mono (Nat.le_succ n)), Nat.lt_of_lt_of_le h.2.2.2 hb.size⟩
theorem At.mem {n : Nat} {c : Array Value} {w W W' : World} (h : At n c w W) (hb : Below W.heap.size W W') : At n c w W' := by
  obtain ⟨h1, h2⟩ := row_below hb h.1
  exact ⟨h1, h2.trans h.2.1, h.2.2.1.trans (hb.mono (Nat.le_of_lt h.2.2.2)), Nat.lt_of_lt_of_le h.2.2.2 hb.size⟩
theorem At.drew {n : Nat} {c : Array Value} {w W : World} (h : At n c w W) : At n c w W.drew := ⟨h.1, h.2.1, h.2.2.1.drew, h.2.2.2⟩
theorem At.cell {n : Nat} {c : Array Value} {w W : World} (h : At n c w W) (k : Nat) (v : Value) (hv : c[k]? = some v) : W.cell? ⟨n, k, none⟩ = some v := cell_of h.1 h.2.1 k v hv

/-- A frame's bytes without their sum. -/
def headL (k sz : Nat) (f : Fr) : List UInt8 := be k 1 ++ be sz 1 ++ be f.src 1 ++ be f.sinc 2 ++ be f.dst 1 ++ be f.dinc 2 ++ beE f.ec f.ea f.ei ++ be f.hop 2
def restL (f : Fr) : List UInt8 :=
  if f.kind = 3 then beE f.hc f.ha f.hi ++ oneB f.wants
  else if f.kind = 4 then be f.blk 1 ++ be f.vinc 2 ++ be f.vseq 4 ++ be f.part 1 ++ be f.parts 1 ++ f.bytes.data.toList
  else []
noncomputable def bodyL (f : Fr) : List UInt8 := headL f.kind.toNat (sizeN f) f ++ restL f
noncomputable def encB (f : Fr) : ByteArray := if rtB f then sealedB (S (bodyL f)) else ⟨#[]⟩
noncomputable def encE (f : Fr) : Int := if rtB f then 0 else 3

set_option maxRecDepth 100000 in
set_option maxHeartbeats 4000000 in
theorem encode_no (f : Fr) (w : World) (hb : f.bytes.size ≤ maxLen) (hr : rtB f = false) : Calls Tryd.prog 9 #[.agg #[.int .i64 f.kind, .int .u8 f.src, .int .u8 f.dst, .int .u16 f.sinc, .int .u16 f.dinc, .int .u16 f.ec, .int .u8 f.ea, .int .u16 f.ei, .int .u16 f.hop, .int .u16 f.hc, .int .u8 f.ha, .int .u16 f.hi, .bool f.wants, .int .u8 f.blk, .int .u16 f.vinc, .int .u32 f.vseq, .int .u8 f.part, .int .u8 f.parts, .string f.bytes]] w fun e w' => e = .returned (.tuple #[.string (encB f), .int .i64 (encE f)]) ∧ Below w.heap.size w w' := by
  have e1 : encB f = ⟨#[]⟩ := by unfold encB; rw [hr]; rfl
  have e2 : encE f = 3 := by unfold encE; rw [hr]; rfl
  rw [e1, e2]
  have HR := Lib.hid hr
  clear hr e1 e2
  go_enter Tryd.func9, Tryd.ntmps9
  go_wp2_with fail
  refine (right_any f _ hb).mono ?_
  rintro e w1 ⟨rfl, hb1⟩
  rw [HR.out]
  go_wp2
  go_ret2
  exact ⟨rfl, ((Below.refl _ _).alloc (Nat.le_refl _) _).trans (hb1.mono (by simp))⟩

theorem enc_nums (f : Fr) (hr : rtB f = true) : ∃ k sz : Nat, Hid (bodyL f = headL k sz f ++ restL f) ∧ Hid ((bodyL f).length ≤ 4000) ∧ IntKind.u8.wrap f.kind = (k : Int) ∧ IntKind.u8.wrap (sizeN f : Int) = (sz : Int) ∧ (k : Int) ≤ 255 ∧ (sz : Int) ≤ 255 := by
  have hR : Rt f := Classical.byContradiction fun hn => by rw [rtB_no hn] at hr; cases hr
  obtain ⟨k1, k2, -, -, -, -, -, h4⟩ := hR
  have hz : sizeN f ≤ 42 := by
    unfold sizeN
    rw [hr, if_pos rfl]
    split
    · omega
    · split
      · rename_i h; have := (h4 h).2.2.2.2; omega
      · omega
  have hh : (headL f.kind.toNat (sizeN f) f).length = 15 := by unfold headL; simp only [List.length_append, be_length, beE_length]
  have hr : (restL f).length ≤ 100 := by
    unfold restL
    split
    · simp only [List.length_append, oneB_length, beE_length]; omega
    · split
      · rename_i h; have := (h4 h).2.2.2.2; simp only [List.length_append, be_length, size_list]; omega
      · simp
  refine ⟨f.kind.toNat, sizeN f, Lib.hid rfl, Lib.hid (by unfold bodyL; rw [List.length_append]; omega), ?_, ?_, by omega, by omega⟩
  · rw [IntKind.wrap_u8]; omega
  · rw [IntKind.wrap_u8]; omega

set_option maxRecDepth 100000 in
set_option maxHeartbeats 4000000 in
theorem encode_plain (f : Fr) (w : World) (hf : f.fit) (hr : rtB f = true) (h3 : ¬ f.kind = 3) (h4 : ¬ f.kind = 4) : Calls Tryd.prog 9 #[.agg #[.int .i64 f.kind, .int .u8 f.src, .int .u8 f.dst, .int .u16 f.sinc, .int .u16 f.dinc, .int .u16 f.ec, .int .u8 f.ea, .int .u16 f.ei, .int .u16 f.hop, .int .u16 f.hc, .int .u8 f.ha, .int .u16 f.hi, .bool f.wants, .int .u8 f.blk, .int .u16 f.vinc, .int .u32 f.vseq, .int .u8 f.part, .int .u8 f.parts, .string f.bytes]] w fun e w' => e = .returned (.tuple #[.string (encB f), .int .i64 (encE f)]) ∧ Below w.heap.size w w' := by
  obtain ⟨k, sz, HL0, HZ, hk, hs, hkb, hsb⟩ := enc_nums f hr
  obtain ⟨usrc, udst, usinc, udinc, uec, uea, uei, uhop, uhc, uha, uhi, ublk, uvinc, uvseq, upart, uparts, ub⟩ := hf
  have HE : Hid (encB f = sealedB (S (bodyL f))) := Lib.hid (by unfold encB; rw [hr]; rfl)
  have HE2 : Hid (encE f = 0) := Lib.hid (by unfold encE; rw [hr]; rfl)
  have HL : Hid ((((((((([] ++ be k 1) ++ be sz 1) ++ be f.src 1) ++ be f.sinc 2) ++ be f.dst 1) ++ be f.dinc 2) ++ beE f.ec f.ea f.ei) ++ be f.hop 2) = bodyL f) := Lib.hid (by rw [HL0.out]; unfold headL restL; rw [if_neg h3, if_neg h4]; simp only [List.nil_append, List.append_assoc, List.append_nil])
  have HB := Lib.hid ub
  have HR := Lib.hid hr
  clear hr ub HL0
  have d3 : (f.kind == 3) = false := by simp [h3]
  have d4 : (f.kind == 4) = false := by simp [h4]
  clear h3 h4
  go_enter Tryd.func9, Tryd.ntmps9
  go_wp2_with fail
  refine (right_any f _ HB.out).mono ?_
  rintro e w1 ⟨rfl, hb1⟩
  rw [HR.out]
  have hA0 : At w.heap.size #[.int .i64 f.kind, .int .u8 f.src, .int .u8 f.dst, .int .u16 f.sinc, .int .u16 f.dinc, .int .u16 f.ec, .int .u8 f.ea, .int .u16 f.ei, .int .u16 f.hop, .int .u16 f.hc, .int .u8 f.ha, .int .u16 f.hi, .bool f.wants, .int .u8 f.blk, .int .u16 f.vinc, .int .u32 f.vseq, .int .u8 f.part, .int .u8 f.parts, .string f.bytes] w w1 := by
    obtain ⟨h1, h2⟩ := row_below hb1 (show RowOk _ w.heap.size by go_simp)
    exact ⟨h1, h2.trans (by go_simp), ((Below.refl _ _).alloc (Nat.le_refl _) _).trans (hb1.mono (by simp)), by have := hb1.size; simp at this; omega⟩
  clear hb1
  generalize hN : w.heap.size = n at *
  have HN := Lib.hid hN
  clear hN
  have hsz := hA0.2.2.2
  go_wp2_with fail
  refine (newpen_any (n + 1) _ hsz).mono ?_
  rintro e W ⟨rfl, hp2, hb2⟩
  have hA1 := hA0.mem hb2
  have hP1 : PenS (n + 1) W _ [] := ⟨hp2, Nat.le_trans hsz hb2.size⟩
  clear hA0 hp2 hb2 hsz
  generalize w1.heap.size = p at *
  go_wp2_with fail
  have hA2 := hA1.drew
  have hP2 := hP1
  rw [← PenS_drew] at hP2
  clear hA1 hP1
  have hA1 := hA2
  have hP1 := hP2
  clear hA2 hP2
  go_region_held3 (fun W' => RowOk W' n ∧ rowArr W' n = #[.int .i64 f.kind, .int .u8 f.src, .int .u8 f.dst, .int .u16 f.sinc, .int .u16 f.dinc, .int .u16 f.ec, .int .u8 f.ea, .int .u16 f.ei, .int .u16 f.hop, .int .u16 f.hc, .int .u8 f.ha, .int .u16 f.hi, .bool f.wants, .int .u8 f.blk, .int .u16 f.vinc, .int .u32 f.vseq, .int .u8 f.part, .int .u8 f.parts, .string f.bytes] ∧ W'.cell? ⟨n, 0, none⟩ = some (.int .i64 f.kind)) (exact ⟨hA1.1, hA1.2.1, hA1.cell 0 _ rfl⟩)
    ((first | (go_at_call 22; (with_reducible refine (pbyte (n + 1) p _ _ (by assumption) _ hP1 (by simp only [List.length_append, be_length, beE_length, oneB_length, List.length_nil]; omega)).mono ?_); rintro e w1 ⟨rfl, hP2, hb2, -⟩; have hA2 := At.pen hA1 hb2; clear hA1 hP1 hb2; have hA1 := hA2; have hP1 := hP2; clear hA2 hP2) | (go_at_call 14; (with_reducible refine (size_any f _ HB.out).mono ?_); rintro e w1 ⟨rfl, hb2⟩; have hA2 := At.mem hA1 hb2; have hP2 := PenS.below hP1 hb2; clear hA1 hP1 hb2; have hA1 := hA2; have hP1 := hP2; clear hA2 hP2)))
  go_wp2_with fail
  have hA2 := hA1.drew
  have hP2 := hP1
  rw [← PenS_drew] at hP2
  clear hA1 hP1
  have hA1 := hA2
  have hP1 := hP2
  clear hA2 hP2
  go_region_held3 (fun W' => W'.cell? ⟨n, 1, none⟩ = some (.int .u8 f.src) ∧ W'.cell? ⟨n, 3, none⟩ = some (.int .u16 f.sinc) ∧ W'.cell? ⟨n, 2, none⟩ = some (.int .u8 f.dst) ∧ W'.cell? ⟨n, 4, none⟩ = some (.int .u16 f.dinc)) (exact ⟨hA1.cell 1 _ rfl, hA1.cell 3 _ rfl, hA1.cell 2 _ rfl, hA1.cell 4 _ rfl⟩)
    ((first | (go_at_call 22; (with_reducible refine (pbyte (n + 1) p _ _ (by assumption) _ hP1 (by simp only [List.length_append, be_length, beE_length, oneB_length, List.length_nil]; omega)).mono ?_); rintro e w1 ⟨rfl, hP2, hb2, -⟩; have hA2 := At.pen hA1 hb2; clear hA1 hP1 hb2; have hA1 := hA2; have hP1 := hP2; clear hA2 hP2) | (go_at_call 23; (with_reducible refine (ptwo (n + 1) p _ _ (by assumption) _ hP1 (by simp only [List.length_append, be_length, beE_length, oneB_length, List.length_nil]; omega)).mono ?_); rintro e w1 ⟨rfl, hP2, hb2, -⟩; have hA2 := At.pen hA1 hb2; clear hA1 hP1 hb2; have hA1 := hA2; have hP1 := hP2; clear hA2 hP2)))
  have c5 := hA1.cell 5 _ rfl
  have c6 := hA1.cell 6 _ rfl
  have c7 := hA1.cell 7 _ rfl
  go_wp2_with fail
  refine (putEpoch_any (n + 1) p _ _ _ _ (by assumption) (by assumption) (by assumption) _ hP1 (by simp only [List.length_append, be_length, beE_length, oneB_length, List.length_nil]; omega)).mono ?_
  rintro e w5 ⟨rfl, hP2, hb2⟩
  have hA2 := At.pen hA1 hb2
  clear hA1 hP1 hb2
  have hA1 := hA2
  have hP1 := hP2
  clear hA2 hP2 c5 c6 c7
  have c8 := hA1.cell 8 _ rfl
  go_wp2_with fail
  refine (ptwo (n + 1) p _ _ (by assumption) _ hP1 (by simp only [List.length_append, be_length, beE_length, oneB_length, List.length_nil]; omega)).mono ?_
  rintro e w6 ⟨rfl, hP2, hb2, -⟩
  have hA2 := At.pen hA1 hb2
  clear hA1 hP1 hb2
  have hA1 := hA2
  have hP1 := hP2
  clear hA2 hP2 c8
  have c0 := hA1.cell 0 _ rfl
  go_wp2_with fail
  refine (pstr_any (n + 1) p _ _ hP1.1).mono ?_
  rintro e w9 ⟨rfl, rfl⟩
  rw [show _ = bodyL f from HL.out]
  go_wp2_with fail
  refine (sealed_any (S (bodyL f)) _ (by rw [S_size]; exact HZ.out)).mono ?_
  rintro e w10 ⟨rfl, hb3⟩
  go_wp2
  go_ret2
  exact ⟨by rw [HE.out, HE2.out]; rfl, by rw [HN.out]; exact hA1.2.2.1.trans (hb3.mono (Nat.le_of_lt hA1.2.2.2))⟩


set_option maxRecDepth 100000 in
set_option maxHeartbeats 4000000 in
theorem encode_status (f : Fr) (w : World) (hf : f.fit) (hr : rtB f = true) (h3 : f.kind = 3) : Calls Tryd.prog 9 #[.agg #[.int .i64 f.kind, .int .u8 f.src, .int .u8 f.dst, .int .u16 f.sinc, .int .u16 f.dinc, .int .u16 f.ec, .int .u8 f.ea, .int .u16 f.ei, .int .u16 f.hop, .int .u16 f.hc, .int .u8 f.ha, .int .u16 f.hi, .bool f.wants, .int .u8 f.blk, .int .u16 f.vinc, .int .u32 f.vseq, .int .u8 f.part, .int .u8 f.parts, .string f.bytes]] w fun e w' => e = .returned (.tuple #[.string (encB f), .int .i64 (encE f)]) ∧ Below w.heap.size w w' := by
  obtain ⟨k, sz, HL0, HZ, hk, hs, hkb, hsb⟩ := enc_nums f hr
  obtain ⟨usrc, udst, usinc, udinc, uec, uea, uei, uhop, uhc, uha, uhi, ublk, uvinc, uvseq, upart, uparts, ub⟩ := hf
  have HE : Hid (encB f = sealedB (S (bodyL f))) := Lib.hid (by unfold encB; rw [hr]; rfl)
  have HE2 : Hid (encE f = 0) := Lib.hid (by unfold encE; rw [hr]; rfl)
  have HL : Hid ((((((((((([] ++ be k 1) ++ be sz 1) ++ be f.src 1) ++ be f.sinc 2) ++ be f.dst 1) ++ be f.dinc 2) ++ beE f.ec f.ea f.ei) ++ be f.hop 2) ++ beE f.hc f.ha f.hi) ++ oneB f.wants) = bodyL f) := Lib.hid (by rw [HL0.out]; unfold headL restL; rw [if_pos h3]; simp only [List.nil_append, List.append_assoc, List.append_nil])
  have HB := Lib.hid ub
  have HR := Lib.hid hr
  clear hr ub HL0
  have d3 : (f.kind == 3) = true := by simp [h3]
  clear h3
  go_enter Tryd.func9, Tryd.ntmps9
  go_wp2_with fail
  refine (right_any f _ HB.out).mono ?_
  rintro e w1 ⟨rfl, hb1⟩
  rw [HR.out]
  have hA0 : At w.heap.size #[.int .i64 f.kind, .int .u8 f.src, .int .u8 f.dst, .int .u16 f.sinc, .int .u16 f.dinc, .int .u16 f.ec, .int .u8 f.ea, .int .u16 f.ei, .int .u16 f.hop, .int .u16 f.hc, .int .u8 f.ha, .int .u16 f.hi, .bool f.wants, .int .u8 f.blk, .int .u16 f.vinc, .int .u32 f.vseq, .int .u8 f.part, .int .u8 f.parts, .string f.bytes] w w1 := by
    obtain ⟨h1, h2⟩ := row_below hb1 (show RowOk _ w.heap.size by go_simp)
    exact ⟨h1, h2.trans (by go_simp), ((Below.refl _ _).alloc (Nat.le_refl _) _).trans (hb1.mono (by simp)), by have := hb1.size; simp at this; omega⟩
  clear hb1
  generalize hN : w.heap.size = n at *
  have HN := Lib.hid hN
  clear hN
  have hsz := hA0.2.2.2
  go_wp2_with fail
  refine (newpen_any (n + 1) _ hsz).mono ?_
  rintro e W ⟨rfl, hp2, hb2⟩
  have hA1 := hA0.mem hb2
  have hP1 : PenS (n + 1) W _ [] := ⟨hp2, Nat.le_trans hsz hb2.size⟩
  clear hA0 hp2 hb2 hsz
  generalize w1.heap.size = p at *
  go_wp2_with fail
  have hA2 := hA1.drew
  have hP2 := hP1
  rw [← PenS_drew] at hP2
  clear hA1 hP1
  have hA1 := hA2
  have hP1 := hP2
  clear hA2 hP2
  go_region_held3 (fun W' => RowOk W' n ∧ rowArr W' n = #[.int .i64 f.kind, .int .u8 f.src, .int .u8 f.dst, .int .u16 f.sinc, .int .u16 f.dinc, .int .u16 f.ec, .int .u8 f.ea, .int .u16 f.ei, .int .u16 f.hop, .int .u16 f.hc, .int .u8 f.ha, .int .u16 f.hi, .bool f.wants, .int .u8 f.blk, .int .u16 f.vinc, .int .u32 f.vseq, .int .u8 f.part, .int .u8 f.parts, .string f.bytes] ∧ W'.cell? ⟨n, 0, none⟩ = some (.int .i64 f.kind)) (exact ⟨hA1.1, hA1.2.1, hA1.cell 0 _ rfl⟩)
    ((first | (go_at_call 22; (with_reducible refine (pbyte (n + 1) p _ _ (by assumption) _ hP1 (by simp only [List.length_append, be_length, beE_length, oneB_length, List.length_nil]; omega)).mono ?_); rintro e w1 ⟨rfl, hP2, hb2, -⟩; have hA2 := At.pen hA1 hb2; clear hA1 hP1 hb2; have hA1 := hA2; have hP1 := hP2; clear hA2 hP2) | (go_at_call 14; (with_reducible refine (size_any f _ HB.out).mono ?_); rintro e w1 ⟨rfl, hb2⟩; have hA2 := At.mem hA1 hb2; have hP2 := PenS.below hP1 hb2; clear hA1 hP1 hb2; have hA1 := hA2; have hP1 := hP2; clear hA2 hP2)))
  go_wp2_with fail
  have hA2 := hA1.drew
  have hP2 := hP1
  rw [← PenS_drew] at hP2
  clear hA1 hP1
  have hA1 := hA2
  have hP1 := hP2
  clear hA2 hP2
  go_region_held3 (fun W' => W'.cell? ⟨n, 1, none⟩ = some (.int .u8 f.src) ∧ W'.cell? ⟨n, 3, none⟩ = some (.int .u16 f.sinc) ∧ W'.cell? ⟨n, 2, none⟩ = some (.int .u8 f.dst) ∧ W'.cell? ⟨n, 4, none⟩ = some (.int .u16 f.dinc)) (exact ⟨hA1.cell 1 _ rfl, hA1.cell 3 _ rfl, hA1.cell 2 _ rfl, hA1.cell 4 _ rfl⟩)
    ((first | (go_at_call 22; (with_reducible refine (pbyte (n + 1) p _ _ (by assumption) _ hP1 (by simp only [List.length_append, be_length, beE_length, oneB_length, List.length_nil]; omega)).mono ?_); rintro e w1 ⟨rfl, hP2, hb2, -⟩; have hA2 := At.pen hA1 hb2; clear hA1 hP1 hb2; have hA1 := hA2; have hP1 := hP2; clear hA2 hP2) | (go_at_call 23; (with_reducible refine (ptwo (n + 1) p _ _ (by assumption) _ hP1 (by simp only [List.length_append, be_length, beE_length, oneB_length, List.length_nil]; omega)).mono ?_); rintro e w1 ⟨rfl, hP2, hb2, -⟩; have hA2 := At.pen hA1 hb2; clear hA1 hP1 hb2; have hA1 := hA2; have hP1 := hP2; clear hA2 hP2)))
  have c5 := hA1.cell 5 _ rfl
  have c6 := hA1.cell 6 _ rfl
  have c7 := hA1.cell 7 _ rfl
  go_wp2_with fail
  refine (putEpoch_any (n + 1) p _ _ _ _ (by assumption) (by assumption) (by assumption) _ hP1 (by simp only [List.length_append, be_length, beE_length, oneB_length, List.length_nil]; omega)).mono ?_
  rintro e w5 ⟨rfl, hP2, hb2⟩
  have hA2 := At.pen hA1 hb2
  clear hA1 hP1 hb2
  have hA1 := hA2
  have hP1 := hP2
  clear hA2 hP2 c5 c6 c7
  have c8 := hA1.cell 8 _ rfl
  go_wp2_with fail
  refine (ptwo (n + 1) p _ _ (by assumption) _ hP1 (by simp only [List.length_append, be_length, beE_length, oneB_length, List.length_nil]; omega)).mono ?_
  rintro e w6 ⟨rfl, hP2, hb2, -⟩
  have hA2 := At.pen hA1 hb2
  clear hA1 hP1 hb2
  have hA1 := hA2
  have hP1 := hP2
  clear hA2 hP2 c8
  have c0 := hA1.cell 0 _ rfl
  have c9 := hA1.cell 9 _ rfl
  have c10 := hA1.cell 10 _ rfl
  have c11 := hA1.cell 11 _ rfl
  go_wp2_with fail
  refine (putEpoch_any (n + 1) p _ _ _ _ (by assumption) (by assumption) (by assumption) _ hP1 (by simp only [List.length_append, be_length, beE_length, oneB_length, List.length_nil]; omega)).mono ?_
  rintro e w7 ⟨rfl, hP2, hb2⟩
  have hA2 := At.pen hA1 hb2
  clear hA1 hP1 hb2
  have hA1 := hA2
  have hP1 := hP2
  clear hA2 hP2 c0 c9 c10 c11
  have c12 := hA1.cell 12 _ rfl
  go_wp2_with fail
  refine (putBool_any (n + 1) p _ _ _ hP1 (by simp only [List.length_append, be_length, beE_length, oneB_length, List.length_nil]; omega)).mono ?_
  rintro e w8 ⟨rfl, hP2, hb2⟩
  have hA2 := At.pen hA1 hb2
  clear hA1 hP1 hb2
  have hA1 := hA2
  have hP1 := hP2
  clear hA2 hP2 c12
  go_wp2_with fail
  refine (pstr_any (n + 1) p _ _ hP1.1).mono ?_
  rintro e w9 ⟨rfl, rfl⟩
  rw [show _ = bodyL f from HL.out]
  go_wp2_with fail
  refine (sealed_any (S (bodyL f)) _ (by rw [S_size]; exact HZ.out)).mono ?_
  rintro e w10 ⟨rfl, hb3⟩
  go_wp2
  go_ret2
  exact ⟨by rw [HE.out, HE2.out]; rfl, by rw [HN.out]; exact hA1.2.2.1.trans (hb3.mono (Nat.le_of_lt hA1.2.2.2))⟩


set_option maxRecDepth 100000 in
set_option maxHeartbeats 4000000 in
theorem encode_data (f : Fr) (w : World) (hf : f.fit) (hr : rtB f = true) (h3 : ¬ f.kind = 3) (h4 : f.kind = 4) : Calls Tryd.prog 9 #[.agg #[.int .i64 f.kind, .int .u8 f.src, .int .u8 f.dst, .int .u16 f.sinc, .int .u16 f.dinc, .int .u16 f.ec, .int .u8 f.ea, .int .u16 f.ei, .int .u16 f.hop, .int .u16 f.hc, .int .u8 f.ha, .int .u16 f.hi, .bool f.wants, .int .u8 f.blk, .int .u16 f.vinc, .int .u32 f.vseq, .int .u8 f.part, .int .u8 f.parts, .string f.bytes]] w fun e w' => e = .returned (.tuple #[.string (encB f), .int .i64 (encE f)]) ∧ Below w.heap.size w w' := by
  obtain ⟨k, sz, HL0, HZ, hk, hs, hkb, hsb⟩ := enc_nums f hr
  obtain ⟨usrc, udst, usinc, udinc, uec, uea, uei, uhop, uhc, uha, uhi, ublk, uvinc, uvseq, upart, uparts, ub⟩ := hf
  have HE : Hid (encB f = sealedB (S (bodyL f))) := Lib.hid (by unfold encB; rw [hr]; rfl)
  have HE2 : Hid (encE f = 0) := Lib.hid (by unfold encE; rw [hr]; rfl)
  have HL : Hid ((((((((((((((([] ++ be k 1) ++ be sz 1) ++ be f.src 1) ++ be f.sinc 2) ++ be f.dst 1) ++ be f.dinc 2) ++ beE f.ec f.ea f.ei) ++ be f.hop 2) ++ be f.blk 1) ++ be f.vinc 2) ++ be f.vseq 4) ++ be f.part 1) ++ be f.parts 1) ++ f.bytes.data.toList) = bodyL f) := Lib.hid (by rw [HL0.out]; unfold headL restL; rw [if_neg h3, if_pos h4]; simp only [List.nil_append, List.append_assoc, List.append_nil])
  have HB := Lib.hid ub
  have HR := Lib.hid hr
  clear hr ub HL0
  have hby : f.bytes.size ≤ 16 := by
    have hR : Rt f := Classical.byContradiction fun hn => by have h := HR.out; rw [rtB_no hn] at h; cases h
    exact (hR.2.2.2.2.2.2.2 h4).2.2.2.2
  have d3 : (f.kind == 3) = false := by simp [h3]
  have d4 : (f.kind == 4) = true := by simp [h4]
  clear h3 h4
  go_enter Tryd.func9, Tryd.ntmps9
  go_wp2_with fail
  refine (right_any f _ HB.out).mono ?_
  rintro e w1 ⟨rfl, hb1⟩
  rw [HR.out]
  have hA0 : At w.heap.size #[.int .i64 f.kind, .int .u8 f.src, .int .u8 f.dst, .int .u16 f.sinc, .int .u16 f.dinc, .int .u16 f.ec, .int .u8 f.ea, .int .u16 f.ei, .int .u16 f.hop, .int .u16 f.hc, .int .u8 f.ha, .int .u16 f.hi, .bool f.wants, .int .u8 f.blk, .int .u16 f.vinc, .int .u32 f.vseq, .int .u8 f.part, .int .u8 f.parts, .string f.bytes] w w1 := by
    obtain ⟨h1, h2⟩ := row_below hb1 (show RowOk _ w.heap.size by go_simp)
    exact ⟨h1, h2.trans (by go_simp), ((Below.refl _ _).alloc (Nat.le_refl _) _).trans (hb1.mono (by simp)), by have := hb1.size; simp at this; omega⟩
  clear hb1
  generalize hN : w.heap.size = n at *
  have HN := Lib.hid hN
  clear hN
  have hsz := hA0.2.2.2
  go_wp2_with fail
  refine (newpen_any (n + 1) _ hsz).mono ?_
  rintro e W ⟨rfl, hp2, hb2⟩
  have hA1 := hA0.mem hb2
  have hP1 : PenS (n + 1) W _ [] := ⟨hp2, Nat.le_trans hsz hb2.size⟩
  clear hA0 hp2 hb2 hsz
  generalize w1.heap.size = p at *
  go_wp2_with fail
  have hA2 := hA1.drew
  have hP2 := hP1
  rw [← PenS_drew] at hP2
  clear hA1 hP1
  have hA1 := hA2
  have hP1 := hP2
  clear hA2 hP2
  go_region_held3 (fun W' => RowOk W' n ∧ rowArr W' n = #[.int .i64 f.kind, .int .u8 f.src, .int .u8 f.dst, .int .u16 f.sinc, .int .u16 f.dinc, .int .u16 f.ec, .int .u8 f.ea, .int .u16 f.ei, .int .u16 f.hop, .int .u16 f.hc, .int .u8 f.ha, .int .u16 f.hi, .bool f.wants, .int .u8 f.blk, .int .u16 f.vinc, .int .u32 f.vseq, .int .u8 f.part, .int .u8 f.parts, .string f.bytes] ∧ W'.cell? ⟨n, 0, none⟩ = some (.int .i64 f.kind)) (exact ⟨hA1.1, hA1.2.1, hA1.cell 0 _ rfl⟩)
    ((first | (go_at_call 22; (with_reducible refine (pbyte (n + 1) p _ _ (by assumption) _ hP1 (by simp only [List.length_append, be_length, beE_length, oneB_length, List.length_nil]; omega)).mono ?_); rintro e w1 ⟨rfl, hP2, hb2, -⟩; have hA2 := At.pen hA1 hb2; clear hA1 hP1 hb2; have hA1 := hA2; have hP1 := hP2; clear hA2 hP2) | (go_at_call 14; (with_reducible refine (size_any f _ HB.out).mono ?_); rintro e w1 ⟨rfl, hb2⟩; have hA2 := At.mem hA1 hb2; have hP2 := PenS.below hP1 hb2; clear hA1 hP1 hb2; have hA1 := hA2; have hP1 := hP2; clear hA2 hP2)))
  go_wp2_with fail
  have hA2 := hA1.drew
  have hP2 := hP1
  rw [← PenS_drew] at hP2
  clear hA1 hP1
  have hA1 := hA2
  have hP1 := hP2
  clear hA2 hP2
  go_region_held3 (fun W' => W'.cell? ⟨n, 1, none⟩ = some (.int .u8 f.src) ∧ W'.cell? ⟨n, 3, none⟩ = some (.int .u16 f.sinc) ∧ W'.cell? ⟨n, 2, none⟩ = some (.int .u8 f.dst) ∧ W'.cell? ⟨n, 4, none⟩ = some (.int .u16 f.dinc)) (exact ⟨hA1.cell 1 _ rfl, hA1.cell 3 _ rfl, hA1.cell 2 _ rfl, hA1.cell 4 _ rfl⟩)
    ((first | (go_at_call 22; (with_reducible refine (pbyte (n + 1) p _ _ (by assumption) _ hP1 (by simp only [List.length_append, be_length, beE_length, oneB_length, List.length_nil]; omega)).mono ?_); rintro e w1 ⟨rfl, hP2, hb2, -⟩; have hA2 := At.pen hA1 hb2; clear hA1 hP1 hb2; have hA1 := hA2; have hP1 := hP2; clear hA2 hP2) | (go_at_call 23; (with_reducible refine (ptwo (n + 1) p _ _ (by assumption) _ hP1 (by simp only [List.length_append, be_length, beE_length, oneB_length, List.length_nil]; omega)).mono ?_); rintro e w1 ⟨rfl, hP2, hb2, -⟩; have hA2 := At.pen hA1 hb2; clear hA1 hP1 hb2; have hA1 := hA2; have hP1 := hP2; clear hA2 hP2)))
  have c5 := hA1.cell 5 _ rfl
  have c6 := hA1.cell 6 _ rfl
  have c7 := hA1.cell 7 _ rfl
  go_wp2_with fail
  refine (putEpoch_any (n + 1) p _ _ _ _ (by assumption) (by assumption) (by assumption) _ hP1 (by simp only [List.length_append, be_length, beE_length, oneB_length, List.length_nil]; omega)).mono ?_
  rintro e w5 ⟨rfl, hP2, hb2⟩
  have hA2 := At.pen hA1 hb2
  clear hA1 hP1 hb2
  have hA1 := hA2
  have hP1 := hP2
  clear hA2 hP2 c5 c6 c7
  have c8 := hA1.cell 8 _ rfl
  go_wp2_with fail
  refine (ptwo (n + 1) p _ _ (by assumption) _ hP1 (by simp only [List.length_append, be_length, beE_length, oneB_length, List.length_nil]; omega)).mono ?_
  rintro e w6 ⟨rfl, hP2, hb2, -⟩
  have hA2 := At.pen hA1 hb2
  clear hA1 hP1 hb2
  have hA1 := hA2
  have hP1 := hP2
  clear hA2 hP2 c8
  have c0 := hA1.cell 0 _ rfl
  go_wp2_with fail
  clear c0
  have hA2 := hA1.drew
  have hP2 := hP1
  rw [← PenS_drew] at hP2
  clear hA1 hP1
  have hA1 := hA2
  have hP1 := hP2
  clear hA2 hP2
  go_region_held3 (fun W' => W'.cell? ⟨n, 13, none⟩ = some (.int .u8 f.blk) ∧ W'.cell? ⟨n, 14, none⟩ = some (.int .u16 f.vinc) ∧ W'.cell? ⟨n, 15, none⟩ = some (.int .u32 f.vseq)) (exact ⟨hA1.cell 13 _ rfl, hA1.cell 14 _ rfl, hA1.cell 15 _ rfl⟩)
    ((first | (go_at_call 22; (with_reducible refine (pbyte (n + 1) p _ _ (by assumption) _ hP1 (by simp only [List.length_append, be_length, beE_length, oneB_length, List.length_nil]; omega)).mono ?_); rintro e w1 ⟨rfl, hP2, hb2, -⟩; have hA2 := At.pen hA1 hb2; clear hA1 hP1 hb2; have hA1 := hA2; have hP1 := hP2; clear hA2 hP2) | (go_at_call 23; (with_reducible refine (ptwo (n + 1) p _ _ (by assumption) _ hP1 (by simp only [List.length_append, be_length, beE_length, oneB_length, List.length_nil]; omega)).mono ?_); rintro e w1 ⟨rfl, hP2, hb2, -⟩; have hA2 := At.pen hA1 hb2; clear hA1 hP1 hb2; have hA1 := hA2; have hP1 := hP2; clear hA2 hP2) | (go_at_call 26; (with_reducible refine (pfour (n + 1) p _ _ (by assumption) _ hP1 (by simp only [List.length_append, be_length, beE_length, oneB_length, List.length_nil]; omega)).mono ?_); rintro e w1 ⟨rfl, hP2, hb2, -⟩; have hA2 := At.pen hA1 hb2; clear hA1 hP1 hb2; have hA1 := hA2; have hP1 := hP2; clear hA2 hP2)))
  go_wp2_with fail
  have hA2 := hA1.drew
  have hP2 := hP1
  rw [← PenS_drew] at hP2
  clear hA1 hP1
  have hA1 := hA2
  have hP1 := hP2
  clear hA2 hP2
  go_region_held3 (fun W' => W'.cell? ⟨n, 16, none⟩ = some (.int .u8 f.part) ∧ W'.cell? ⟨n, 17, none⟩ = some (.int .u8 f.parts) ∧ W'.cell? ⟨n, 18, none⟩ = some (.string f.bytes)) (exact ⟨hA1.cell 16 _ rfl, hA1.cell 17 _ rfl, hA1.cell 18 _ rfl⟩)
    ((first | (go_at_call 22; (with_reducible refine (pbyte (n + 1) p _ _ (by assumption) _ hP1 (by simp only [List.length_append, be_length, beE_length, oneB_length, List.length_nil]; omega)).mono ?_); rintro e w1 ⟨rfl, hP2, hb2, -⟩; have hA2 := At.pen hA1 hb2; clear hA1 hP1 hb2; have hA1 := hA2; have hP1 := hP2; clear hA2 hP2) | (go_at_call 27; (with_reducible refine (ptext (n + 1) p _ _ _ hP1 (by simp only [List.length_append, be_length, beE_length, oneB_length, List.length_nil]; omega)).mono ?_); rintro e w1 ⟨rfl, hP2, hb2, -⟩; have hA2 := At.pen hA1 hb2; clear hA1 hP1 hb2; have hA1 := hA2; have hP1 := hP2; clear hA2 hP2)))
  go_wp2_with fail
  refine (pstr_any (n + 1) p _ _ hP1.1).mono ?_
  rintro e w9 ⟨rfl, rfl⟩
  rw [show _ = bodyL f from HL.out]
  go_wp2_with fail
  refine (sealed_any (S (bodyL f)) _ (by rw [S_size]; exact HZ.out)).mono ?_
  rintro e w10 ⟨rfl, hb3⟩
  go_wp2
  go_ret2
  exact ⟨by rw [HE.out, HE2.out]; rfl, by rw [HN.out]; exact hA1.2.2.1.trans (hb3.mono (Nat.le_of_lt hA1.2.2.2))⟩

set_option maxRecDepth 100000 in
set_option maxHeartbeats 4000000 in
theorem encode_any (f : Fr) (w : World) (hf : f.fit) : Calls Tryd.prog 9 #[.agg #[.int .i64 f.kind, .int .u8 f.src, .int .u8 f.dst, .int .u16 f.sinc, .int .u16 f.dinc, .int .u16 f.ec, .int .u8 f.ea, .int .u16 f.ei, .int .u16 f.hop, .int .u16 f.hc, .int .u8 f.ha, .int .u16 f.hi, .bool f.wants, .int .u8 f.blk, .int .u16 f.vinc, .int .u32 f.vseq, .int .u8 f.part, .int .u8 f.parts, .string f.bytes]] w fun e w' => e = .returned (.tuple #[.string (encB f), .int .i64 (encE f)]) ∧ Below w.heap.size w w' := by
  cases hr : rtB f
  · exact encode_no f w (by unfold Fr.fit at hf; omega) hr
  · by_cases h3 : f.kind = 3
    · exact encode_status f w hf hr h3
    · by_cases h4 : f.kind = 4
      · exact encode_data f w hf hr h3 h4
      · exact encode_plain f w hf hr h3 h4

end Go.Proofs.YtindekpmicbbiaaDoor
