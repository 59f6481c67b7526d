/-
  An epoch's bytes by the document, walked. Conditions: numbers such as their kinds hold.
-/
import Derived.Test.YtindekpmicbbiaaDoorTxt
import Derived.Test.YtindekpmicbbiaaDoorEpRefText
import Derived.Test.YtindekpmicbbiaaDoorRFr
import Derived.Test.YtindekpmicbbiaaDoorAwk
namespace Go.Proofs.YtindekpmicbbiaaDoor
open Go.RowKit
open Oct Sums

set_option linter.unusedSimpArgs false
attribute [local go_sem ↓] exec_bd exec_ld exec_st load_row loadVar_row store_row
attribute [local go_sem] bd_0 bd_1 bd_5 bd_6 ld_row st_row set_cell_lt set_cell_gt one_int one_bool one_str row_new ok_new free_new row_old ok_old_iff free_old_iff put_in put_cell_lt put_cell_gt put_frozen row_put_in row_put_lt row_put_gt ok_put_iff free_put_iff put_size row_set_in row_set_lt row_set_gt ok_set_iff free_set_iff drew_cell drew_frozen drew_size row_drew ok_drew free_drew

open Epo
theorem bytes1 (n : Nat) (hn : (n : Int) ≤ 4294967295) (w : World) : Calls Tryd.prog 45 #[.int .u32 (n : Int), .int .i64 1] w fun e w' => e = .returned (.string (S (be n 1))) ∧ Below w.heap.size w w' := bytes_any n 1 hn (by decide) w
theorem bytes2 (n : Nat) (hn : (n : Int) ≤ 4294967295) (w : World) : Calls Tryd.prog 45 #[.int .u32 (n : Int), .int .i64 2] w fun e w' => e = .returned (.string (S (be n 2))) ∧ Below w.heap.size w w' := bytes_any n 2 hn (by decide) w
theorem bytes4 (n : Nat) (hn : (n : Int) ≤ 4294967295) (w : World) : Calls Tryd.prog 45 #[.int .u32 (n : Int), .int .i64 4] w fun e w' => e = .returned (.string (S (be n 4))) ∧ Below w.heap.size w w' := bytes_any n 4 hn (by decide) w
theorem S_size_le (l : List UInt8) (n : Nat) (h : l.length = n) : (S l).size ≤ n := by rw [S_size]; omega
set_option maxRecDepth 100000 in
set_option maxHeartbeats 4000000 in
theorem repoch_any (c a i : Nat) (hc : (c : Int) ≤ 65535) (ha : (a : Int) ≤ 255) (hi : (i : Int) ≤ 65535) (w : World) : Calls Tryd.prog 44 #[.agg #[.int .u16 c, .int .u8 a, .int .u16 i]] w fun e w' => e = .returned (.string (S (beE c a i))) ∧ Below w.heap.size w w' := by
  have w5 : IntKind.u32.wrap (c : Int) = c := by rw [IntKind.wrap_u32]; omega
  have w6 : IntKind.u32.wrap (a : Int) = a := by rw [IntKind.wrap_u32]; omega
  have w7 : IntKind.u32.wrap (i : Int) = i := by rw [IntKind.wrap_u32]; omega
  have HB := Lib.hid (box_mk w [.int .u16 c, .int .u8 a, .int .u16 i] 24)
  have s1 := S_size_le _ _ (be_length c 2)
  have s2 := S_size_le _ _ (be_length a 1)
  have s3 := S_size_le _ _ (be_length i 2)
  have a1 := add_run 2 1 s1 s2 (by omega)
  have a2 := add_run 3 2 (add_size s1 s2) s3 (by omega)
  have HS := Lib.hid (show S (be c 2) ++ S (be a 1) ++ S (be i 2) = S (beE c a i) by rw [S_app, S_app]; rfl)
  have n1 := Lib.hid (bytes2 c (by omega))
  have n2 := Lib.hid (bytes1 a (by omega))
  have n3 := Lib.hid (bytes2 i (by omega))
  clear s1 s2 s3 hc ha hi
  go_enter Tryd.func44, Tryd.ntmps44
  go_wp2_with fail
  obtain ⟨W, HW⟩ : ∃ W, Hid (W = (w.alloc (.cells [.int .u16 c, .int .u8 a, .int .u16 i].toArray 24))) := ⟨_, Lib.hid rfl⟩
  rw [← HW.out] at HB
  rw [← HW.out]
  have hlt := HB.out.2.1
  have c5 := HB.out.2.2.1
  have hbel := HB.out.2.2.2
  have hr : Epo.Next w.heap.size w W := ⟨hbel, hlt⟩
  have x0 := c5 0 _ rfl
  have x1 := c5 1 _ rfl
  have x2 := c5 2 _ rfl
  clear c5 HB HW hbel hlt
  generalize hN : w.heap.size = N at *
  go_region_held3 (fun W' => W'.cell? ⟨N, 0, none⟩ = some (.int .u16 c) ∧ W'.cell? ⟨N, 1, none⟩ = some (.int .u8 a) ∧ W'.cell? ⟨N, 2, none⟩ = some (.int .u16 i) ∧ Epo.Next N w W') (go_keep)
    ((go_at_call 45; have hS := ‹_ ∧ _ ∧ _ ∧ Epo.Next _ _ _›; (first | (with_reducible refine (n1.out _).mono ?_) | (with_reducible refine (n2.out _).mono ?_) | (with_reducible refine (n3.out _).mono ?_)); rintro e w1 ⟨rfl, hb1⟩; have y0 := kept_cell hb1 hS.1; have y1 := kept_cell hb1 hS.2.1; have y2 := kept_cell hb1 hS.2.2.1; have hr1 := hS.2.2.2.next hb1))
  clear a1 a2 w5 w6 w7 hr x0 x1 x2 y0 y1 y2 hS
  go_wp2
  go_ret
  exact ⟨ret_str HS.out, by rw [hN]; exact hr1.1⟩

theorem kind1 (f : Fr) (h1 : 0 ≤ f.kind) (h2 : f.kind ≤ 5) (w : World) : Calls Tryd.prog 45 #[.int .u32 f.kind, .int .i64 1] w fun e w' => e = .returned (.string (S (be f.kind.toNat 1))) ∧ Below w.heap.size w w' := by
  have h := bytes1 f.kind.toNat (by omega) w
  have e : ((f.kind.toNat : Nat) : Int) = f.kind := by omega
  rw [e] at h
  exact h

set_option maxRecDepth 100000 in
set_option maxHeartbeats 4000000 in
theorem rbytes_plain (f : Fr) (hf : f.fit) (hr : rtB f = true) (h3 : ¬ f.kind = 3) (h4 : ¬ f.kind = 4) (w : World) : Calls Tryd.prog 16 #[.agg #[.int .i64 f.kind, .int .u8 f.src, .int .u8 f.dst, .int .u16 f.sinc, .int .u16 f.dinc, .int .u16 f.ec, .int .u8 f.ea, .int .u16 f.ei, .int .u16 f.hop, .int .u16 f.hc, .int .u8 f.ha, .int .u16 f.hi, .bool f.wants, .int .u8 f.blk, .int .u16 f.vinc, .int .u32 f.vseq, .int .u8 f.part, .int .u8 f.parts, .string f.bytes]] w fun e w' => e = .returned (.string (encB f)) ∧ Below w.heap.size w w' := by
  obtain ⟨u1, u2, u3, u4, u5, u6, u7, u8, u9, u10, u11, u12, u13, u14, u15, u16, u17⟩ := hf
  obtain ⟨k1, k2, -⟩ := rt_of hr
  have d3 : (f.kind == 3) = false := by simp [h3]
  have d4 : (f.kind == 4) = false := by simp [h4]
  have wk : IntKind.u32.wrap f.kind = f.kind := by rw [IntKind.wrap_u32]; omega
  have wsrc : IntKind.u32.wrap (f.src : Int) = f.src := by rw [IntKind.wrap_u32]; omega
  have wdst : IntKind.u32.wrap (f.dst : Int) = f.dst := by rw [IntKind.wrap_u32]; omega
  have wsi : IntKind.u32.wrap (f.sinc : Int) = f.sinc := by rw [IntKind.wrap_u32]; omega
  have wdi : IntKind.u32.wrap (f.dinc : Int) = f.dinc := by rw [IntKind.wrap_u32]; omega
  have whop : IntKind.u32.wrap (f.hop : Int) = f.hop := by rw [IntKind.wrap_u32]; omega
  have nk := Lib.hid (kind1 f (by omega) (by omega))
  have nsrc := Lib.hid (bytes1 f.src (by omega))
  have ndst := Lib.hid (bytes1 f.dst (by omega))
  have nsi := Lib.hid (bytes2 f.sinc (by omega))
  have ndi := Lib.hid (bytes2 f.dinc (by omega))
  have nhop := Lib.hid (bytes2 f.hop (by omega))
  have nep := Lib.hid (repoch_any f.ec f.ea f.ei (by omega) (by omega) (by omega))
  have z1 := S_size_le _ _ (be_length f.src 1)
  have z2 := S_size_le _ _ (be_length f.sinc 2)
  have z3 := S_size_le _ _ (be_length f.dst 1)
  have z4 := S_size_le _ _ (be_length f.dinc 2)
  have z5 := S_size_le _ _ (beE_length f.ec f.ea f.ei)
  have z6 := S_size_le _ _ (be_length f.hop 2)
  have b1 := add_run 1 2 z1 z2 (by omega)
  have b2 := add_run 3 1 (add_size z1 z2) z3 (by omega)
  have b3 := add_run 4 2 (add_size (add_size z1 z2) z3) z4 (by omega)
  have b4 := add_run 6 5 (add_size (add_size (add_size z1 z2) z3) z4) z5 (by omega)
  have b5 := add_run 11 2 (add_size (add_size (add_size (add_size z1 z2) z3) z4) z5) z6 (by omega)
  have zall := add_size (add_size (add_size (add_size (add_size z1 z2) z3) z4) z5) z6
  have zR : (⟨#[]⟩ : ByteArray).size ≤ 0 := Nat.le_refl _
  have hRL : (⟨#[]⟩ : ByteArray) = S (restL f) := by unfold restL; rw [if_neg h3, if_neg h4]; rfl
  have b6 := add_run 13 0 zall zR (by omega)
  obtain ⟨T, hT⟩ : ∃ T, T = S (be f.src 1) ++ S (be f.sinc 2) ++ S (be f.dst 1) ++ S (be f.dinc 2) ++ S (beE f.ec f.ea f.ei) ++ S (be f.hop 2) ++ (⟨#[]⟩ : ByteArray) := ⟨_, rfl⟩
  have hTL : T = S (be f.src 1 ++ be f.sinc 2 ++ be f.dst 1 ++ be f.dinc 2 ++ beE f.ec f.ea f.ei ++ be f.hop 2 ++ restL f) := by
    rw [hT, hRL]; simp only [S_app]
  have hTz : T.size + 4 = sizeN f := by
    have h1 := enc_size f hr
    have h2 : encB f = sealedB (S (bodyL f)) := by unfold encB; rw [hr]; rfl
    rw [h2, sealed_size, S_size] at h1
    rw [hTL, S_size]
    unfold bodyL headL at h1
    simp only [List.length_append, be_length, beE_length] at *
    omega
  have hz9 := (size_bd f hr).2.1
  have hE : sealedB (S (be f.kind.toNat 1) ++ S (be (sizeN f) 1) ++ T) = encB f := by
    have h2 : encB f = sealedB (S (bodyL f)) := by unfold encB; rw [hr]; rfl
    rw [h2, hTL]
    simp only [S_app]
    unfold bodyL headL
    simp only [List.append_assoc]
  have HT := Lib.hid hT.symm
  have e1 : IntKind.i64.wrap ((T.size : Int) + 4) = (sizeN f : Int) := by rw [IntKind.wrap_i64]; omega
  have e2 : IntKind.u32.wrap (sizeN f : Int) = (sizeN f : Int) := by rw [IntKind.wrap_u32]; omega
  have nz := Lib.hid (bytes1 (sizeN f) (by omega))
  have y1 := S_size_le _ _ (be_length f.kind.toNat 1)
  have y2 := S_size_le _ _ (be_length (sizeN f) 1)
  have b7 := add_run 1 1 y1 y2 (by omega)
  have b8 := add_run 2 42 (add_size y1 y2) (show T.size ≤ 42 by omega) (by omega)
  have ns := Lib.hid (fun W => rsealed_any (S (be f.kind.toNat 1) ++ S (be (sizeN f) 1) ++ T) W (by have := add_size (add_size y1 y2) (show T.size ≤ 42 by omega); omega))
  rw [hE] at ns
  clear hT hTL hTz hz9 hE y1 y2 zR zall z1 z2 z3 z4 z5 z6
  generalize sizeN f = sz at *
  clear hRL h3 h4 hr k1 k2
  go_enter Tryd.func16, Tryd.ntmps16
  go_wp2_with fail
  refine world_cut (G := fun W => Code.wp _ _ _ _ W) (fun W => At w.heap.size #[.int .i64 f.kind, .int .u8 f.src, .int .u8 f.dst, .int .u16 f.sinc, .int .u16 f.dinc, .int .u16 f.ec, .int .u8 f.ea, .int .u16 f.ei, .int .u16 f.hop, .int .u16 f.hc, .int .u8 f.ha, .int .u16 f.hi, .bool f.wants, .int .u8 f.blk, .int .u16 f.vinc, .int .u32 f.vseq, .int .u8 f.part, .int .u8 f.parts, .string f.bytes] w W) ⟨ok_new _ _ _ _ rfl rfl, row_new _ _ _ _ rfl rfl, (Below.refl _ _).alloc (Nat.le_refl _) _, by simp⟩ ?_
  rintro W hA1
  generalize hn : w.heap.size = n at *
  have HN := Lib.hid hn
  clear hn
  have hA2 := hA1.drew
  clear hA1
  have hA1 := hA2
  clear hA2
  go_region_held3 (fun W' => W'.cell? ⟨n, 1, none⟩ = some (.int .u8 f.src) ∧ W'.cell? ⟨n, 2, none⟩ = some (.int .u8 f.dst) ∧ W'.cell? ⟨n, 3, none⟩ = some (.int .u16 f.sinc) ∧ W'.cell? ⟨n, 4, none⟩ = some (.int .u16 f.dinc) ∧ W'.cell? ⟨n, 5, none⟩ = some (.int .u16 f.ec) ∧ W'.cell? ⟨n, 6, none⟩ = some (.int .u8 f.ea) ∧ W'.cell? ⟨n, 7, none⟩ = some (.int .u16 f.ei) ∧ W'.cell? ⟨n, 8, none⟩ = some (.int .u16 f.hop) ∧ At n #[.int .i64 f.kind, .int .u8 f.src, .int .u8 f.dst, .int .u16 f.sinc, .int .u16 f.dinc, .int .u16 f.ec, .int .u8 f.ea, .int .u16 f.ei, .int .u16 f.hop, .int .u16 f.hc, .int .u8 f.ha, .int .u16 f.hi, .bool f.wants, .int .u8 f.blk, .int .u16 f.vinc, .int .u32 f.vseq, .int .u8 f.part, .int .u8 f.parts, .string f.bytes] w W') ((exact ⟨hA1.cell 1 _ rfl, hA1.cell 2 _ rfl, hA1.cell 3 _ rfl, hA1.cell 4 _ rfl, hA1.cell 5 _ rfl, hA1.cell 6 _ rfl, hA1.cell 7 _ rfl, hA1.cell 8 _ rfl, hA1⟩))
    (((first | (go_at_call 45; (with_reducible refine (nsrc.out _).mono ?_)) | (go_at_call 45; (with_reducible refine (nsi.out _).mono ?_)) | (go_at_call 45; (with_reducible refine (ndst.out _).mono ?_)) | (go_at_call 45; (with_reducible refine (ndi.out _).mono ?_)) | (go_at_call 44; (with_reducible refine (nep.out _).mono ?_)) | (go_at_call 45; (with_reducible refine (nhop.out _).mono ?_))); rintro e w1 ⟨rfl, hb1⟩; have hA2 := At.mem hA1 hb1; clear hA1 hb1; have hA1 := hA2; clear hA2))
  rw [HT.out]
  clear b1 b2 b3 b4 b5 b6 HT
  have c0 := hA1.cell 0 _ rfl
  go_wp2_with fail
  refine (nk.out _).mono ?_
  rintro e w1 ⟨rfl, hb1⟩
  go_wp2_with fail
  refine (nz.out _).mono ?_
  rintro e w2 ⟨rfl, hb2⟩
  go_wp2_with fail
  refine (ns.out _).mono ?_
  rintro e w3 ⟨rfl, hb3⟩
  go_wp2
  go_ret
  refine ⟨rfl, ?_⟩
  rw [HN.out]
  have q0 := Nat.le_of_lt hA1.2.2.2
  have q1 := hA1.2.2.1.trans (hb1.mono q0)
  have q2 := q1.trans (hb2.mono (Nat.le_trans q0 hb1.size))
  exact q2.trans (hb3.mono (Nat.le_trans q0 (Nat.le_trans hb1.size hb2.size)))


set_option maxRecDepth 100000 in
set_option maxHeartbeats 4000000 in
theorem rbytes_status_true (f : Fr) (hf : f.fit) (hr : rtB f = true) (h3 : f.kind = 3) (hw : f.wants = true) (w : World) : Calls Tryd.prog 16 #[.agg #[.int .i64 f.kind, .int .u8 f.src, .int .u8 f.dst, .int .u16 f.sinc, .int .u16 f.dinc, .int .u16 f.ec, .int .u8 f.ea, .int .u16 f.ei, .int .u16 f.hop, .int .u16 f.hc, .int .u8 f.ha, .int .u16 f.hi, .bool f.wants, .int .u8 f.blk, .int .u16 f.vinc, .int .u32 f.vseq, .int .u8 f.part, .int .u8 f.parts, .string f.bytes]] w fun e w' => e = .returned (.string (encB f)) ∧ Below w.heap.size w w' := by
  obtain ⟨u1, u2, u3, u4, u5, u6, u7, u8, u9, u10, u11, u12, u13, u14, u15, u16, u17⟩ := hf
  obtain ⟨k1, k2, -⟩ := rt_of hr
  have d3 : (f.kind == 3) = true := by simp [h3]
  have d4 : (f.kind == 4) = false := by simp [h3]
  have wk : IntKind.u32.wrap f.kind = f.kind := by rw [IntKind.wrap_u32]; omega
  have wsrc : IntKind.u32.wrap (f.src : Int) = f.src := by rw [IntKind.wrap_u32]; omega
  have wdst : IntKind.u32.wrap (f.dst : Int) = f.dst := by rw [IntKind.wrap_u32]; omega
  have wsi : IntKind.u32.wrap (f.sinc : Int) = f.sinc := by rw [IntKind.wrap_u32]; omega
  have wdi : IntKind.u32.wrap (f.dinc : Int) = f.dinc := by rw [IntKind.wrap_u32]; omega
  have whop : IntKind.u32.wrap (f.hop : Int) = f.hop := by rw [IntKind.wrap_u32]; omega
  have nk := Lib.hid (kind1 f (by omega) (by omega))
  have nsrc := Lib.hid (bytes1 f.src (by omega))
  have ndst := Lib.hid (bytes1 f.dst (by omega))
  have nsi := Lib.hid (bytes2 f.sinc (by omega))
  have ndi := Lib.hid (bytes2 f.dinc (by omega))
  have nhop := Lib.hid (bytes2 f.hop (by omega))
  have nep := Lib.hid (repoch_any f.ec f.ea f.ei (by omega) (by omega) (by omega))
  have z1 := S_size_le _ _ (be_length f.src 1)
  have z2 := S_size_le _ _ (be_length f.sinc 2)
  have z3 := S_size_le _ _ (be_length f.dst 1)
  have z4 := S_size_le _ _ (be_length f.dinc 2)
  have z5 := S_size_le _ _ (beE_length f.ec f.ea f.ei)
  have z6 := S_size_le _ _ (be_length f.hop 2)
  have b1 := add_run 1 2 z1 z2 (by omega)
  have b2 := add_run 3 1 (add_size z1 z2) z3 (by omega)
  have b3 := add_run 4 2 (add_size (add_size z1 z2) z3) z4 (by omega)
  have b4 := add_run 6 5 (add_size (add_size (add_size z1 z2) z3) z4) z5 (by omega)
  have b5 := add_run 11 2 (add_size (add_size (add_size (add_size z1 z2) z3) z4) z5) z6 (by omega)
  have zall := add_size (add_size (add_size (add_size (add_size z1 z2) z3) z4) z5) z6
  have nhe := Lib.hid (repoch_any f.hc f.ha f.hi (by omega) (by omega) (by omega))
  have nw := Lib.hid (bytes1 1 (by decide))
  have r1 := S_size_le _ _ (beE_length f.hc f.ha f.hi)
  have r2 := S_size_le _ _ (be_length 1 1)
  have b0 := add_run 5 1 r1 r2 (by omega)
  have zR := add_size r1 r2
  have hRL : S (beE f.hc f.ha f.hi) ++ S (be 1 1) = S (restL f) := by
    unfold restL oneB; rw [if_pos h3, S_app, hw]; rfl
  have b6 := add_run 13 6 zall zR (by omega)
  obtain ⟨T, hT⟩ : ∃ T, T = S (be f.src 1) ++ S (be f.sinc 2) ++ S (be f.dst 1) ++ S (be f.dinc 2) ++ S (beE f.ec f.ea f.ei) ++ S (be f.hop 2) ++ (S (beE f.hc f.ha f.hi) ++ S (be 1 1)) := ⟨_, rfl⟩
  have hTL : T = S (be f.src 1 ++ be f.sinc 2 ++ be f.dst 1 ++ be f.dinc 2 ++ beE f.ec f.ea f.ei ++ be f.hop 2 ++ restL f) := by
    rw [hT, hRL]; simp only [S_app]
  have hTz : T.size + 4 = sizeN f := by
    have h1 := enc_size f hr
    have h2 : encB f = sealedB (S (bodyL f)) := by unfold encB; rw [hr]; rfl
    rw [h2, sealed_size, S_size] at h1
    rw [hTL, S_size]
    unfold bodyL headL at h1
    simp only [List.length_append, be_length, beE_length] at *
    omega
  have hz9 := (size_bd f hr).2.1
  have hE : sealedB (S (be f.kind.toNat 1) ++ S (be (sizeN f) 1) ++ T) = encB f := by
    have h2 : encB f = sealedB (S (bodyL f)) := by unfold encB; rw [hr]; rfl
    rw [h2, hTL]
    simp only [S_app]
    unfold bodyL headL
    simp only [List.append_assoc]
  have HT := Lib.hid hT.symm
  have e1 : IntKind.i64.wrap ((T.size : Int) + 4) = (sizeN f : Int) := by rw [IntKind.wrap_i64]; omega
  have e2 : IntKind.u32.wrap (sizeN f : Int) = (sizeN f : Int) := by rw [IntKind.wrap_u32]; omega
  have nz := Lib.hid (bytes1 (sizeN f) (by omega))
  have y1 := S_size_le _ _ (be_length f.kind.toNat 1)
  have y2 := S_size_le _ _ (be_length (sizeN f) 1)
  have b7 := add_run 1 1 y1 y2 (by omega)
  have b8 := add_run 2 42 (add_size y1 y2) (show T.size ≤ 42 by omega) (by omega)
  have ns := Lib.hid (fun W => rsealed_any (S (be f.kind.toNat 1) ++ S (be (sizeN f) 1) ++ T) W (by have := add_size (add_size y1 y2) (show T.size ≤ 42 by omega); omega))
  rw [hE] at ns
  clear hT hTL hTz hz9 hE y1 y2 zR zall z1 z2 z3 z4 z5 z6
  generalize sizeN f = sz at *
  clear hRL h3 hr k1 k2 r1 r2
  go_enter Tryd.func16, Tryd.ntmps16
  go_wp2_with fail
  refine world_cut (G := fun W => Calls _ _ _ W _) (fun W => At w.heap.size #[.int .i64 f.kind, .int .u8 f.src, .int .u8 f.dst, .int .u16 f.sinc, .int .u16 f.dinc, .int .u16 f.ec, .int .u8 f.ea, .int .u16 f.ei, .int .u16 f.hop, .int .u16 f.hc, .int .u8 f.ha, .int .u16 f.hi, .bool true, .int .u8 f.blk, .int .u16 f.vinc, .int .u32 f.vseq, .int .u8 f.part, .int .u8 f.parts, .string f.bytes] w W) ⟨ok_new _ _ _ _ rfl rfl, row_new _ _ _ _ rfl rfl, (Below.refl _ _).alloc (Nat.le_refl _) _, by simp⟩ ?_
  rintro W hA1
  generalize hn : w.heap.size = n at *
  have HN := Lib.hid hn
  clear hn
  refine (nhe.out _).mono ?_
  rintro e w1 ⟨rfl, hb1⟩
  have hA2 := At.mem hA1 hb1
  clear hA1 hb1
  have hA1 := hA2
  clear hA2
  go_wp2_with fail
  refine (nw.out _).mono ?_
  rintro e w1 ⟨rfl, hb1⟩
  have hA2 := At.mem hA1 hb1
  clear hA1 hb1
  have hA1 := hA2
  clear hA2
  have c0 := hA1.cell 0 _ rfl
  go_wp2
  clear c0 b0
  have hA2 := hA1.drew
  clear hA1
  have hA1 := hA2
  clear hA2
  go_region_held3 (fun W' => W'.cell? ⟨n, 1, none⟩ = some (.int .u8 f.src) ∧ W'.cell? ⟨n, 2, none⟩ = some (.int .u8 f.dst) ∧ W'.cell? ⟨n, 3, none⟩ = some (.int .u16 f.sinc) ∧ W'.cell? ⟨n, 4, none⟩ = some (.int .u16 f.dinc) ∧ W'.cell? ⟨n, 5, none⟩ = some (.int .u16 f.ec) ∧ W'.cell? ⟨n, 6, none⟩ = some (.int .u8 f.ea) ∧ W'.cell? ⟨n, 7, none⟩ = some (.int .u16 f.ei) ∧ W'.cell? ⟨n, 8, none⟩ = some (.int .u16 f.hop) ∧ At n #[.int .i64 f.kind, .int .u8 f.src, .int .u8 f.dst, .int .u16 f.sinc, .int .u16 f.dinc, .int .u16 f.ec, .int .u8 f.ea, .int .u16 f.ei, .int .u16 f.hop, .int .u16 f.hc, .int .u8 f.ha, .int .u16 f.hi, .bool true, .int .u8 f.blk, .int .u16 f.vinc, .int .u32 f.vseq, .int .u8 f.part, .int .u8 f.parts, .string f.bytes] w W') ((exact ⟨hA1.cell 1 _ rfl, hA1.cell 2 _ rfl, hA1.cell 3 _ rfl, hA1.cell 4 _ rfl, hA1.cell 5 _ rfl, hA1.cell 6 _ rfl, hA1.cell 7 _ rfl, hA1.cell 8 _ rfl, hA1⟩))
    (((first | (go_at_call 45; (with_reducible refine (nsrc.out _).mono ?_)) | (go_at_call 45; (with_reducible refine (nsi.out _).mono ?_)) | (go_at_call 45; (with_reducible refine (ndst.out _).mono ?_)) | (go_at_call 45; (with_reducible refine (ndi.out _).mono ?_)) | (go_at_call 44; (with_reducible refine (nep.out _).mono ?_)) | (go_at_call 45; (with_reducible refine (nhop.out _).mono ?_))); rintro e w1 ⟨rfl, hb1⟩; have hA2 := At.mem hA1 hb1; clear hA1 hb1; have hA1 := hA2; clear hA2))
  rw [HT.out]
  clear b1 b2 b3 b4 b5 b6 HT
  have c0 := hA1.cell 0 _ rfl
  go_wp2_with fail
  refine (nk.out _).mono ?_
  rintro e w1 ⟨rfl, hb1⟩
  go_wp2_with fail
  refine (nz.out _).mono ?_
  rintro e w2 ⟨rfl, hb2⟩
  go_wp2_with fail
  refine (ns.out _).mono ?_
  rintro e w3 ⟨rfl, hb3⟩
  go_wp2
  go_ret
  refine ⟨rfl, ?_⟩
  rw [HN.out]
  have q0 := Nat.le_of_lt hA1.2.2.2
  have q1 := hA1.2.2.1.trans (hb1.mono q0)
  have q2 := q1.trans (hb2.mono (Nat.le_trans q0 hb1.size))
  exact q2.trans (hb3.mono (Nat.le_trans q0 (Nat.le_trans hb1.size hb2.size)))

set_option maxRecDepth 100000 in
set_option maxHeartbeats 4000000 in
theorem rbytes_status_false (f : Fr) (hf : f.fit) (hr : rtB f = true) (h3 : f.kind = 3) (hw : f.wants = false) (w : World) : Calls Tryd.prog 16 #[.agg #[.int .i64 f.kind, .int .u8 f.src, .int .u8 f.dst, .int .u16 f.sinc, .int .u16 f.dinc, .int .u16 f.ec, .int .u8 f.ea, .int .u16 f.ei, .int .u16 f.hop, .int .u16 f.hc, .int .u8 f.ha, .int .u16 f.hi, .bool f.wants, .int .u8 f.blk, .int .u16 f.vinc, .int .u32 f.vseq, .int .u8 f.part, .int .u8 f.parts, .string f.bytes]] w fun e w' => e = .returned (.string (encB f)) ∧ Below w.heap.size w w' := by
  obtain ⟨u1, u2, u3, u4, u5, u6, u7, u8, u9, u10, u11, u12, u13, u14, u15, u16, u17⟩ := hf
  obtain ⟨k1, k2, -⟩ := rt_of hr
  have d3 : (f.kind == 3) = true := by simp [h3]
  have d4 : (f.kind == 4) = false := by simp [h3]
  have wk : IntKind.u32.wrap f.kind = f.kind := by rw [IntKind.wrap_u32]; omega
  have wsrc : IntKind.u32.wrap (f.src : Int) = f.src := by rw [IntKind.wrap_u32]; omega
  have wdst : IntKind.u32.wrap (f.dst : Int) = f.dst := by rw [IntKind.wrap_u32]; omega
  have wsi : IntKind.u32.wrap (f.sinc : Int) = f.sinc := by rw [IntKind.wrap_u32]; omega
  have wdi : IntKind.u32.wrap (f.dinc : Int) = f.dinc := by rw [IntKind.wrap_u32]; omega
  have whop : IntKind.u32.wrap (f.hop : Int) = f.hop := by rw [IntKind.wrap_u32]; omega
  have nk := Lib.hid (kind1 f (by omega) (by omega))
  have nsrc := Lib.hid (bytes1 f.src (by omega))
  have ndst := Lib.hid (bytes1 f.dst (by omega))
  have nsi := Lib.hid (bytes2 f.sinc (by omega))
  have ndi := Lib.hid (bytes2 f.dinc (by omega))
  have nhop := Lib.hid (bytes2 f.hop (by omega))
  have nep := Lib.hid (repoch_any f.ec f.ea f.ei (by omega) (by omega) (by omega))
  have z1 := S_size_le _ _ (be_length f.src 1)
  have z2 := S_size_le _ _ (be_length f.sinc 2)
  have z3 := S_size_le _ _ (be_length f.dst 1)
  have z4 := S_size_le _ _ (be_length f.dinc 2)
  have z5 := S_size_le _ _ (beE_length f.ec f.ea f.ei)
  have z6 := S_size_le _ _ (be_length f.hop 2)
  have b1 := add_run 1 2 z1 z2 (by omega)
  have b2 := add_run 3 1 (add_size z1 z2) z3 (by omega)
  have b3 := add_run 4 2 (add_size (add_size z1 z2) z3) z4 (by omega)
  have b4 := add_run 6 5 (add_size (add_size (add_size z1 z2) z3) z4) z5 (by omega)
  have b5 := add_run 11 2 (add_size (add_size (add_size (add_size z1 z2) z3) z4) z5) z6 (by omega)
  have zall := add_size (add_size (add_size (add_size (add_size z1 z2) z3) z4) z5) z6
  have nhe := Lib.hid (repoch_any f.hc f.ha f.hi (by omega) (by omega) (by omega))
  have nw := Lib.hid (bytes1 0 (by decide))
  have r1 := S_size_le _ _ (beE_length f.hc f.ha f.hi)
  have r2 := S_size_le _ _ (be_length 0 1)
  have b0 := add_run 5 1 r1 r2 (by omega)
  have zR := add_size r1 r2
  have hRL : S (beE f.hc f.ha f.hi) ++ S (be 0 1) = S (restL f) := by
    unfold restL oneB; rw [if_pos h3, S_app, hw]; rfl
  have b6 := add_run 13 6 zall zR (by omega)
  obtain ⟨T, hT⟩ : ∃ T, T = S (be f.src 1) ++ S (be f.sinc 2) ++ S (be f.dst 1) ++ S (be f.dinc 2) ++ S (beE f.ec f.ea f.ei) ++ S (be f.hop 2) ++ (S (beE f.hc f.ha f.hi) ++ S (be 0 1)) := ⟨_, rfl⟩
  have hTL : T = S (be f.src 1 ++ be f.sinc 2 ++ be f.dst 1 ++ be f.dinc 2 ++ beE f.ec f.ea f.ei ++ be f.hop 2 ++ restL f) := by
    rw [hT, hRL]; simp only [S_app]
  have hTz : T.size + 4 = sizeN f := by
    have h1 := enc_size f hr
    have h2 : encB f = sealedB (S (bodyL f)) := by unfold encB; rw [hr]; rfl
    rw [h2, sealed_size, S_size] at h1
    rw [hTL, S_size]
    unfold bodyL headL at h1
    simp only [List.length_append, be_length, beE_length] at *
    omega
  have hz9 := (size_bd f hr).2.1
  have hE : sealedB (S (be f.kind.toNat 1) ++ S (be (sizeN f) 1) ++ T) = encB f := by
    have h2 : encB f = sealedB (S (bodyL f)) := by unfold encB; rw [hr]; rfl
    rw [h2, hTL]
    simp only [S_app]
    unfold bodyL headL
    simp only [List.append_assoc]
  have HT := Lib.hid hT.symm
  have e1 : IntKind.i64.wrap ((T.size : Int) + 4) = (sizeN f : Int) := by rw [IntKind.wrap_i64]; omega
  have e2 : IntKind.u32.wrap (sizeN f : Int) = (sizeN f : Int) := by rw [IntKind.wrap_u32]; omega
  have nz := Lib.hid (bytes1 (sizeN f) (by omega))
  have y1 := S_size_le _ _ (be_length f.kind.toNat 1)
  have y2 := S_size_le _ _ (be_length (sizeN f) 1)
  have b7 := add_run 1 1 y1 y2 (by omega)
  have b8 := add_run 2 42 (add_size y1 y2) (show T.size ≤ 42 by omega) (by omega)
  have ns := Lib.hid (fun W => rsealed_any (S (be f.kind.toNat 1) ++ S (be (sizeN f) 1) ++ T) W (by have := add_size (add_size y1 y2) (show T.size ≤ 42 by omega); omega))
  rw [hE] at ns
  clear hT hTL hTz hz9 hE y1 y2 zR zall z1 z2 z3 z4 z5 z6
  generalize sizeN f = sz at *
  clear hRL h3 hr k1 k2 r1 r2
  go_enter Tryd.func16, Tryd.ntmps16
  go_wp2_with fail
  refine world_cut (G := fun W => Calls _ _ _ W _) (fun W => At w.heap.size #[.int .i64 f.kind, .int .u8 f.src, .int .u8 f.dst, .int .u16 f.sinc, .int .u16 f.dinc, .int .u16 f.ec, .int .u8 f.ea, .int .u16 f.ei, .int .u16 f.hop, .int .u16 f.hc, .int .u8 f.ha, .int .u16 f.hi, .bool false, .int .u8 f.blk, .int .u16 f.vinc, .int .u32 f.vseq, .int .u8 f.part, .int .u8 f.parts, .string f.bytes] w W) ⟨ok_new _ _ _ _ rfl rfl, row_new _ _ _ _ rfl rfl, (Below.refl _ _).alloc (Nat.le_refl _) _, by simp⟩ ?_
  rintro W hA1
  generalize hn : w.heap.size = n at *
  have HN := Lib.hid hn
  clear hn
  refine (nhe.out _).mono ?_
  rintro e w1 ⟨rfl, hb1⟩
  have hA2 := At.mem hA1 hb1
  clear hA1 hb1
  have hA1 := hA2
  clear hA2
  go_wp2_with fail
  refine (nw.out _).mono ?_
  rintro e w1 ⟨rfl, hb1⟩
  have hA2 := At.mem hA1 hb1
  clear hA1 hb1
  have hA1 := hA2
  clear hA2
  have c0 := hA1.cell 0 _ rfl
  go_wp2
  clear c0 b0
  have hA2 := hA1.drew
  clear hA1
  have hA1 := hA2
  clear hA2
  go_region_held3 (fun W' => W'.cell? ⟨n, 1, none⟩ = some (.int .u8 f.src) ∧ W'.cell? ⟨n, 2, none⟩ = some (.int .u8 f.dst) ∧ W'.cell? ⟨n, 3, none⟩ = some (.int .u16 f.sinc) ∧ W'.cell? ⟨n, 4, none⟩ = some (.int .u16 f.dinc) ∧ W'.cell? ⟨n, 5, none⟩ = some (.int .u16 f.ec) ∧ W'.cell? ⟨n, 6, none⟩ = some (.int .u8 f.ea) ∧ W'.cell? ⟨n, 7, none⟩ = some (.int .u16 f.ei) ∧ W'.cell? ⟨n, 8, none⟩ = some (.int .u16 f.hop) ∧ At n #[.int .i64 f.kind, .int .u8 f.src, .int .u8 f.dst, .int .u16 f.sinc, .int .u16 f.dinc, .int .u16 f.ec, .int .u8 f.ea, .int .u16 f.ei, .int .u16 f.hop, .int .u16 f.hc, .int .u8 f.ha, .int .u16 f.hi, .bool false, .int .u8 f.blk, .int .u16 f.vinc, .int .u32 f.vseq, .int .u8 f.part, .int .u8 f.parts, .string f.bytes] w W') ((exact ⟨hA1.cell 1 _ rfl, hA1.cell 2 _ rfl, hA1.cell 3 _ rfl, hA1.cell 4 _ rfl, hA1.cell 5 _ rfl, hA1.cell 6 _ rfl, hA1.cell 7 _ rfl, hA1.cell 8 _ rfl, hA1⟩))
    (((first | (go_at_call 45; (with_reducible refine (nsrc.out _).mono ?_)) | (go_at_call 45; (with_reducible refine (nsi.out _).mono ?_)) | (go_at_call 45; (with_reducible refine (ndst.out _).mono ?_)) | (go_at_call 45; (with_reducible refine (ndi.out _).mono ?_)) | (go_at_call 44; (with_reducible refine (nep.out _).mono ?_)) | (go_at_call 45; (with_reducible refine (nhop.out _).mono ?_))); rintro e w1 ⟨rfl, hb1⟩; have hA2 := At.mem hA1 hb1; clear hA1 hb1; have hA1 := hA2; clear hA2))
  rw [HT.out]
  clear b1 b2 b3 b4 b5 b6 HT
  have c0 := hA1.cell 0 _ rfl
  go_wp2_with fail
  refine (nk.out _).mono ?_
  rintro e w1 ⟨rfl, hb1⟩
  go_wp2_with fail
  refine (nz.out _).mono ?_
  rintro e w2 ⟨rfl, hb2⟩
  go_wp2_with fail
  refine (ns.out _).mono ?_
  rintro e w3 ⟨rfl, hb3⟩
  go_wp2
  go_ret
  refine ⟨rfl, ?_⟩
  rw [HN.out]
  have q0 := Nat.le_of_lt hA1.2.2.2
  have q1 := hA1.2.2.1.trans (hb1.mono q0)
  have q2 := q1.trans (hb2.mono (Nat.le_trans q0 hb1.size))
  exact q2.trans (hb3.mono (Nat.le_trans q0 (Nat.le_trans hb1.size hb2.size)))

set_option maxRecDepth 100000 in
set_option maxHeartbeats 4000000 in
theorem rbytes_data (f : Fr) (hf : f.fit) (hr : rtB f = true) (h4 : f.kind = 4) (w : World) : Calls Tryd.prog 16 #[.agg #[.int .i64 f.kind, .int .u8 f.src, .int .u8 f.dst, .int .u16 f.sinc, .int .u16 f.dinc, .int .u16 f.ec, .int .u8 f.ea, .int .u16 f.ei, .int .u16 f.hop, .int .u16 f.hc, .int .u8 f.ha, .int .u16 f.hi, .bool f.wants, .int .u8 f.blk, .int .u16 f.vinc, .int .u32 f.vseq, .int .u8 f.part, .int .u8 f.parts, .string f.bytes]] w fun e w' => e = .returned (.string (encB f)) ∧ Below w.heap.size w w' := by
  obtain ⟨u1, u2, u3, u4, u5, u6, u7, u8, u9, u10, u11, u12, u13, u14, u15, u16, u17⟩ := hf
  obtain ⟨k1, k2, -⟩ := rt_of hr
  have hd := (rt_of hr).2.2.2.2.2.2.2 h4
  have d3 : (f.kind == 3) = false := by simp [h4]
  have d4 : (f.kind == 4) = true := by simp [h4]
  have wk : IntKind.u32.wrap f.kind = f.kind := by rw [IntKind.wrap_u32]; omega
  have wsrc : IntKind.u32.wrap (f.src : Int) = f.src := by rw [IntKind.wrap_u32]; omega
  have wdst : IntKind.u32.wrap (f.dst : Int) = f.dst := by rw [IntKind.wrap_u32]; omega
  have wsi : IntKind.u32.wrap (f.sinc : Int) = f.sinc := by rw [IntKind.wrap_u32]; omega
  have wdi : IntKind.u32.wrap (f.dinc : Int) = f.dinc := by rw [IntKind.wrap_u32]; omega
  have whop : IntKind.u32.wrap (f.hop : Int) = f.hop := by rw [IntKind.wrap_u32]; omega
  have nk := Lib.hid (kind1 f (by omega) (by omega))
  have nsrc := Lib.hid (bytes1 f.src (by omega))
  have ndst := Lib.hid (bytes1 f.dst (by omega))
  have nsi := Lib.hid (bytes2 f.sinc (by omega))
  have ndi := Lib.hid (bytes2 f.dinc (by omega))
  have nhop := Lib.hid (bytes2 f.hop (by omega))
  have nep := Lib.hid (repoch_any f.ec f.ea f.ei (by omega) (by omega) (by omega))
  have z1 := S_size_le _ _ (be_length f.src 1)
  have z2 := S_size_le _ _ (be_length f.sinc 2)
  have z3 := S_size_le _ _ (be_length f.dst 1)
  have z4 := S_size_le _ _ (be_length f.dinc 2)
  have z5 := S_size_le _ _ (beE_length f.ec f.ea f.ei)
  have z6 := S_size_le _ _ (be_length f.hop 2)
  have b1 := add_run 1 2 z1 z2 (by omega)
  have b2 := add_run 3 1 (add_size z1 z2) z3 (by omega)
  have b3 := add_run 4 2 (add_size (add_size z1 z2) z3) z4 (by omega)
  have b4 := add_run 6 5 (add_size (add_size (add_size z1 z2) z3) z4) z5 (by omega)
  have b5 := add_run 11 2 (add_size (add_size (add_size (add_size z1 z2) z3) z4) z5) z6 (by omega)
  have zall := add_size (add_size (add_size (add_size (add_size z1 z2) z3) z4) z5) z6
  have wblk : IntKind.u32.wrap (f.blk : Int) = f.blk := by rw [IntKind.wrap_u32]; omega
  have wvi : IntKind.u32.wrap (f.vinc : Int) = f.vinc := by rw [IntKind.wrap_u32]; omega
  have wpa : IntKind.u32.wrap (f.part : Int) = f.part := by rw [IntKind.wrap_u32]; omega
  have wps : IntKind.u32.wrap (f.parts : Int) = f.parts := by rw [IntKind.wrap_u32]; omega
  have nblk := Lib.hid (bytes1 f.blk (by omega))
  have nvi := Lib.hid (bytes2 f.vinc (by omega))
  have nvs := Lib.hid (bytes4 f.vseq (by omega))
  have npa := Lib.hid (bytes1 f.part (by omega))
  have nps := Lib.hid (bytes1 f.parts (by omega))
  have r1 := S_size_le _ _ (be_length f.blk 1)
  have r2 := S_size_le _ _ (be_length f.vinc 2)
  have r3 := S_size_le _ _ (be_length f.vseq 4)
  have r4 := S_size_le _ _ (be_length f.part 1)
  have r5 := S_size_le _ _ (be_length f.parts 1)
  have r6 : f.bytes.size ≤ 16 := hd.2.2.2.2
  have p1 := add_run 1 2 r1 r2 (by omega)
  have p2 := add_run 3 4 (add_size r1 r2) r3 (by omega)
  have p3 := add_run 7 1 (add_size (add_size r1 r2) r3) r4 (by omega)
  have p4 := add_run 8 1 (add_size (add_size (add_size r1 r2) r3) r4) r5 (by omega)
  have p5 := add_run 9 16 (add_size (add_size (add_size (add_size r1 r2) r3) r4) r5) r6 (by omega)
  have zR := add_size (add_size (add_size (add_size (add_size r1 r2) r3) r4) r5) r6
  have hRL : S (be f.blk 1) ++ S (be f.vinc 2) ++ S (be f.vseq 4) ++ S (be f.part 1) ++ S (be f.parts 1) ++ f.bytes = S (restL f) := by
    unfold restL; rw [if_neg (by omega), if_pos h4]
    rw [show f.bytes = S f.bytes.data.toList from rfl]
    simp only [S_app]
    rfl
  have b6 := add_run 13 25 zall zR (by omega)
  obtain ⟨T, hT⟩ : ∃ T, T = S (be f.src 1) ++ S (be f.sinc 2) ++ S (be f.dst 1) ++ S (be f.dinc 2) ++ S (beE f.ec f.ea f.ei) ++ S (be f.hop 2) ++ (S (be f.blk 1) ++ S (be f.vinc 2) ++ S (be f.vseq 4) ++ S (be f.part 1) ++ S (be f.parts 1) ++ f.bytes) := ⟨_, rfl⟩
  have hTL : T = S (be f.src 1 ++ be f.sinc 2 ++ be f.dst 1 ++ be f.dinc 2 ++ beE f.ec f.ea f.ei ++ be f.hop 2 ++ restL f) := by
    rw [hT, hRL]; simp only [S_app]
  have hTz : T.size + 4 = sizeN f := by
    have h1 := enc_size f hr
    have h2 : encB f = sealedB (S (bodyL f)) := by unfold encB; rw [hr]; rfl
    rw [h2, sealed_size, S_size] at h1
    rw [hTL, S_size]
    unfold bodyL headL at h1
    simp only [List.length_append, be_length, beE_length] at *
    omega
  have hz9 := (size_bd f hr).2.1
  have hE : sealedB (S (be f.kind.toNat 1) ++ S (be (sizeN f) 1) ++ T) = encB f := by
    have h2 : encB f = sealedB (S (bodyL f)) := by unfold encB; rw [hr]; rfl
    rw [h2, hTL]
    simp only [S_app]
    unfold bodyL headL
    simp only [List.append_assoc]
  have HT := Lib.hid hT.symm
  have e1 : IntKind.i64.wrap ((T.size : Int) + 4) = (sizeN f : Int) := by rw [IntKind.wrap_i64]; omega
  have e2 : IntKind.u32.wrap (sizeN f : Int) = (sizeN f : Int) := by rw [IntKind.wrap_u32]; omega
  have nz := Lib.hid (bytes1 (sizeN f) (by omega))
  have y1 := S_size_le _ _ (be_length f.kind.toNat 1)
  have y2 := S_size_le _ _ (be_length (sizeN f) 1)
  have b7 := add_run 1 1 y1 y2 (by omega)
  have b8 := add_run 2 42 (add_size y1 y2) (show T.size ≤ 42 by omega) (by omega)
  have ns := Lib.hid (fun W => rsealed_any (S (be f.kind.toNat 1) ++ S (be (sizeN f) 1) ++ T) W (by have := add_size (add_size y1 y2) (show T.size ≤ 42 by omega); omega))
  rw [hE] at ns
  clear hT hTL hTz hz9 hE y1 y2 zR zall z1 z2 z3 z4 z5 z6
  generalize sizeN f = sz at *
  clear hRL h4 hr k1 k2 r1 r2 r3 r4 r5 r6 hd
  go_enter Tryd.func16, Tryd.ntmps16
  go_wp2_with fail
  refine world_cut (G := fun W => Code.wp _ _ _ _ W) (fun W => At w.heap.size #[.int .i64 f.kind, .int .u8 f.src, .int .u8 f.dst, .int .u16 f.sinc, .int .u16 f.dinc, .int .u16 f.ec, .int .u8 f.ea, .int .u16 f.ei, .int .u16 f.hop, .int .u16 f.hc, .int .u8 f.ha, .int .u16 f.hi, .bool f.wants, .int .u8 f.blk, .int .u16 f.vinc, .int .u32 f.vseq, .int .u8 f.part, .int .u8 f.parts, .string f.bytes] w W) ⟨ok_new _ _ _ _ rfl rfl, row_new _ _ _ _ rfl rfl, (Below.refl _ _).alloc (Nat.le_refl _) _, by simp⟩ ?_
  rintro W hA1
  generalize hn : w.heap.size = n at *
  have HN := Lib.hid hn
  clear hn
  have hA2 := hA1.drew
  clear hA1
  have hA1 := hA2
  clear hA2
  go_region_held3 (fun W' => W'.cell? ⟨n, 13, none⟩ = some (.int .u8 f.blk) ∧ W'.cell? ⟨n, 14, none⟩ = some (.int .u16 f.vinc) ∧ W'.cell? ⟨n, 15, none⟩ = some (.int .u32 f.vseq) ∧ W'.cell? ⟨n, 16, none⟩ = some (.int .u8 f.part) ∧ W'.cell? ⟨n, 17, none⟩ = some (.int .u8 f.parts) ∧ W'.cell? ⟨n, 18, none⟩ = some (.string f.bytes) ∧ At n #[.int .i64 f.kind, .int .u8 f.src, .int .u8 f.dst, .int .u16 f.sinc, .int .u16 f.dinc, .int .u16 f.ec, .int .u8 f.ea, .int .u16 f.ei, .int .u16 f.hop, .int .u16 f.hc, .int .u8 f.ha, .int .u16 f.hi, .bool f.wants, .int .u8 f.blk, .int .u16 f.vinc, .int .u32 f.vseq, .int .u8 f.part, .int .u8 f.parts, .string f.bytes] w W') ((exact ⟨hA1.cell 13 _ rfl, hA1.cell 14 _ rfl, hA1.cell 15 _ rfl, hA1.cell 16 _ rfl, hA1.cell 17 _ rfl, hA1.cell 18 _ rfl, hA1⟩))
    (((first | (go_at_call 45; (with_reducible refine (nblk.out _).mono ?_)) | (go_at_call 45; (with_reducible refine (nvi.out _).mono ?_)) | (go_at_call 45; (with_reducible refine (nvs.out _).mono ?_)) | (go_at_call 45; (with_reducible refine (npa.out _).mono ?_)) | (go_at_call 45; (with_reducible refine (nps.out _).mono ?_))); rintro e w1 ⟨rfl, hb1⟩; have hA2 := At.mem hA1 hb1; clear hA1 hb1; have hA1 := hA2; clear hA2))
  clear p1 p2 p3 p4 p5
  go_wp2
  have hA2 := hA1.drew
  clear hA1
  have hA1 := hA2
  clear hA2
  go_region_held3 (fun W' => W'.cell? ⟨n, 1, none⟩ = some (.int .u8 f.src) ∧ W'.cell? ⟨n, 2, none⟩ = some (.int .u8 f.dst) ∧ W'.cell? ⟨n, 3, none⟩ = some (.int .u16 f.sinc) ∧ W'.cell? ⟨n, 4, none⟩ = some (.int .u16 f.dinc) ∧ W'.cell? ⟨n, 5, none⟩ = some (.int .u16 f.ec) ∧ W'.cell? ⟨n, 6, none⟩ = some (.int .u8 f.ea) ∧ W'.cell? ⟨n, 7, none⟩ = some (.int .u16 f.ei) ∧ W'.cell? ⟨n, 8, none⟩ = some (.int .u16 f.hop) ∧ At n #[.int .i64 f.kind, .int .u8 f.src, .int .u8 f.dst, .int .u16 f.sinc, .int .u16 f.dinc, .int .u16 f.ec, .int .u8 f.ea, .int .u16 f.ei, .int .u16 f.hop, .int .u16 f.hc, .int .u8 f.ha, .int .u16 f.hi, .bool f.wants, .int .u8 f.blk, .int .u16 f.vinc, .int .u32 f.vseq, .int .u8 f.part, .int .u8 f.parts, .string f.bytes] w W') ((exact ⟨hA1.cell 1 _ rfl, hA1.cell 2 _ rfl, hA1.cell 3 _ rfl, hA1.cell 4 _ rfl, hA1.cell 5 _ rfl, hA1.cell 6 _ rfl, hA1.cell 7 _ rfl, hA1.cell 8 _ rfl, hA1⟩))
    (((first | (go_at_call 45; (with_reducible refine (nsrc.out _).mono ?_)) | (go_at_call 45; (with_reducible refine (nsi.out _).mono ?_)) | (go_at_call 45; (with_reducible refine (ndst.out _).mono ?_)) | (go_at_call 45; (with_reducible refine (ndi.out _).mono ?_)) | (go_at_call 44; (with_reducible refine (nep.out _).mono ?_)) | (go_at_call 45; (with_reducible refine (nhop.out _).mono ?_))); rintro e w1 ⟨rfl, hb1⟩; have hA2 := At.mem hA1 hb1; clear hA1 hb1; have hA1 := hA2; clear hA2))
  rw [HT.out]
  clear b1 b2 b3 b4 b5 b6 HT
  have c0 := hA1.cell 0 _ rfl
  go_wp2_with fail
  refine (nk.out _).mono ?_
  rintro e w1 ⟨rfl, hb1⟩
  go_wp2_with fail
  refine (nz.out _).mono ?_
  rintro e w2 ⟨rfl, hb2⟩
  go_wp2_with fail
  refine (ns.out _).mono ?_
  rintro e w3 ⟨rfl, hb3⟩
  go_wp2
  go_ret
  refine ⟨rfl, ?_⟩
  rw [HN.out]
  have q0 := Nat.le_of_lt hA1.2.2.2
  have q1 := hA1.2.2.1.trans (hb1.mono q0)
  have q2 := q1.trans (hb2.mono (Nat.le_trans q0 hb1.size))
  exact q2.trans (hb3.mono (Nat.le_trans q0 (Nat.le_trans hb1.size hb2.size)))

theorem rbytes_any (f : Fr) (hf : f.fit) (hr : rtB f = true) (w : World) : Calls Tryd.prog 16 #[.agg #[.int .i64 f.kind, .int .u8 f.src, .int .u8 f.dst, .int .u16 f.sinc, .int .u16 f.dinc, .int .u16 f.ec, .int .u8 f.ea, .int .u16 f.ei, .int .u16 f.hop, .int .u16 f.hc, .int .u8 f.ha, .int .u16 f.hi, .bool f.wants, .int .u8 f.blk, .int .u16 f.vinc, .int .u32 f.vseq, .int .u8 f.part, .int .u8 f.parts, .string f.bytes]] w fun e w' => e = .returned (.string (encB f)) ∧ Below w.heap.size w w' := by
  by_cases h3 : f.kind = 3
  · rcases Bool.eq_false_or_eq_true f.wants with hw | hw
    · exact rbytes_status_true f hf hr h3 hw w
    · exact rbytes_status_false f hf hr h3 hw w
  · by_cases h4 : f.kind = 4
    · exact rbytes_data f hf hr h4 w
    · exact rbytes_plain f hf hr h3 h4 w

end Go.Proofs.YtindekpmicbbiaaDoor
