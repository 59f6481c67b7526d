/-
  The code's reading of a slot, walked by case, where the library's Trim answers as it does. Conditions: the slot's 74 bytes are there.
-/
import Derived.Test.YtahmngmbgbcmhaaDoorRtEye
import Derived.Test.YtahmngmbgbcmhaaDoorRtLaw
namespace Go.Proofs.YtahmngmbgbcmhaaDoor.Ret
open Go.RowKit
open Oct
open Sto (St CodeAt Only)

theorem list_S (l : List UInt8) : (S l).toList = l := by rw [Lib.toList_data]; rfl
theorem mark_yes {c : UInt8} (h : c.toNat = 165) : (S [c]).toList = [165] := by
  have : c = 165 := UInt8.toNat_inj.1 h
  rw [list_S, this]
theorem mark_no {c : UInt8} (h : c.toNat ≠ 165) : ¬ (S [c]).toList = [165] := by
  rw [list_S]
  intro e
  injection e with e
  exact h (by rw [e]; rfl)
theorem got_all (l : List UInt8) : got (l.length : Int) l = l := by
  simp only [got, fits_yes (n := (l.length : Int)) (l := l) (by omega) (Int.le_refl _), if_true, Int.toNat_natCast, List.take_length]
theorem inner_length {L : List UInt8} (hl : L.length = 74) : (inner L).length = 71 := by
  unfold inner; rw [List.length_take, List.length_drop, hl]; rfl
theorem rest_length {L : List UInt8} (hl : L.length = 74) : (rest L).length = 64 - dlen L := by
  unfold rest; rw [List.length_drop, inner_length hl]; omega
theorem trim_yes {L : List UInt8} (hl : L.length = 74) (h : rest L = List.replicate (64 - dlen L) 0) : (S (Lib.trimB (rest L) 0)).toList.isEmpty = true := by
  rw [list_S, List.isEmpty_iff]
  exact (trim_zeros _).2 (by rw [rest_length hl]; exact h)
theorem trim_no {L : List UInt8} (hl : L.length = 74) (h : rest L ≠ List.replicate (64 - dlen L) 0) : (S (Lib.trimB (rest L) 0)).toList.isEmpty = false := by
  rw [list_S, ← Bool.not_eq_true, List.isEmpty_iff]
  intro e
  have h2 := (trim_zeros _).1 e
  rw [rest_length hl] at h2
  exact h h2

set_option maxRecDepth 100000 in
set_option maxHeartbeats 4000000 in
theorem slot_unsealed (p g cap : Nat) (x : St) (k : Nat) (kk : Int) (L : List UInt8) (w : World) (hx : CodeAt w p g cap x) (hkk : kk = k) (hk : k + 74 ≤ x.l.length) (hL : L = (x.l.drop k).take 74) (h : sealL (inner L) ≠ L.drop 1) :
    Calls Tryd.prog 35 #[.pointer (some ⟨p, 0, none⟩), .int .i64 kk] w (SlotRead Rc.zero false w) := by
  have hfw := few_of hx
  have hb1 : -9223372036854775808 ≤ kk := by omega
  have hb2 : kk ≤ 1000 := by omega
  obtain ⟨hl, ⟨r1, t1⟩, ⟨r2, t2⟩⟩ := read_parts hkk hk hL
  obtain ⟨M, hM⟩ : ∃ M, M = S [L.getD 0 0] := ⟨_, rfl⟩
  rw [← hM] at r1
  obtain ⟨T, hT⟩ : ∃ T, T = S (L.drop 1) := ⟨_, rfl⟩
  rw [← hT] at r2
  have HR1 := Lib.hid (fun w hx => Sto.read_any p g cap x kk 1 w hx hb1 (by omega))
  have HR2 := Lib.hid (fun w hx => Sto.read_any p g cap x (kk + 1) 73 w hx (by omega) (by omega))
  rw [r1, t1] at HR1
  rw [r2, t2] at HR2
  have hp := hx.plt
  have hg := hx.glt
  have HX := Lib.hid hx
  have HO := Lib.hid (fun w => (open_of L hl w).2 h)
  clear h hl
  rw [← hT] at HO
  clear hx hk hkk hfw hL r1 r2 t1 t2 hM hT
  go_enter Tryd.func35, Tryd.ntmps35
  have hA := (Below.refl w.heap.size w).alloc (Nat.le_refl _) (Obj.cells #[Value.int IntKind.u32 0, Value.int IntKind.u16 0, Value.string { data := #[] }] 39)
  have hz : RecAt _ w.heap.size 0 0 ⟨#[]⟩ := RecAt.new w 0 0 ⟨#[]⟩ 39
  have HZ := Lib.hid (⟨hA, hz, HX.out.below hA hp hg⟩ : _ ∧ _ ∧ _)
  clear hA hz HX
  go_wp2_with fail
  obtain ⟨hA, hz, hx⟩ := HZ.out
  clear HZ
  generalize w.alloc (Obj.cells #[Value.int IntKind.u32 0, Value.int IntKind.u16 0, Value.string { data := #[] }] 39) = W0 at *
  generalize hNN : w.heap.size = N at *
  have HNN := Lib.hid hNN
  clear hNN hp hg
  refine (HR1.out _ hx).mono ?_
  rintro e w1 ⟨rfl, rfl⟩
  go_wp2_with fail
  refine (HR2.out _ hx).mono ?_
  rintro e w1 ⟨rfl, rfl⟩
  go_wp2_with fail
  refine (HO.out _).mono ?_
  rintro e w1 ⟨rfl, ho⟩
  have hz1 := hz.below ho
  have hA1 := hA.trans (ho.mono (Nat.le_of_lt hz.lt))
  clear hA hz hx ho HR1 HR2 HO
  have r0 := hz1.c0
  have r1 := hz1.c1
  have r2 := hz1.c2
  have g0 := hz1.f0
  have g1 := hz1.f1
  have g2 := hz1.f2
  have HB := Lib.hid hA1
  clear hz1 hA1
  by_cases hm : M.toList = [165]
  all_goals
    go_wp2_with fail
    exact bodyPost_ret (v := .tuple #[.agg #[.int .u32 0, .int .u16 0, .string ⟨#[]⟩], .bool false]) (by simp [results, Tryd.results35, go_sem, *]) rfl ⟨rfl, by rw [HNN.out]; exact (((HB.out.setCell (p := ⟨N, 0, none⟩) (Nat.le_refl _) _).setCell (p := ⟨N, 1, none⟩) (Nat.le_refl _) _).setCell (p := ⟨N, 2, none⟩) (Nat.le_refl _) _)⟩

set_option maxRecDepth 100000 in
set_option maxHeartbeats 4000000 in
theorem slot_unmarked (p g cap : Nat) (x : St) (k : Nat) (kk : Int) (L : List UInt8) (w : World) (hx : CodeAt w p g cap x) (hkk : kk = k) (hk : k + 74 ≤ x.l.length) (hL : L = (x.l.drop k).take 74) (h : sealL (inner L) = L.drop 1) (h0 : (L.getD 0 0).toNat ≠ 165) :
    Calls Tryd.prog 35 #[.pointer (some ⟨p, 0, none⟩), .int .i64 kk] w (SlotRead Rc.zero false w) := by
  have hfw := few_of hx
  have hb1 : -9223372036854775808 ≤ kk := by omega
  have hb2 : kk ≤ 1000 := by omega
  obtain ⟨hl, ⟨r1, t1⟩, ⟨r2, t2⟩⟩ := read_parts hkk hk hL
  obtain ⟨M, hM⟩ : ∃ M, M = S [L.getD 0 0] := ⟨_, rfl⟩
  rw [← hM] at r1
  obtain ⟨T, hT⟩ : ∃ T, T = S (L.drop 1) := ⟨_, rfl⟩
  rw [← hT] at r2
  have HR1 := Lib.hid (fun w hx => Sto.read_any p g cap x kk 1 w hx hb1 (by omega))
  have HR2 := Lib.hid (fun w hx => Sto.read_any p g cap x (kk + 1) 73 w hx (by omega) (by omega))
  rw [r1, t1] at HR1
  rw [r2, t2] at HR2
  have hp := hx.plt
  have hg := hx.glt
  have HX := Lib.hid hx
  have HO := Lib.hid (fun w => (open_of L hl w).1 h)
  have hm : ¬ M.toList = [165] := by rw [hM]; exact mark_no h0
  clear h h0 hl
  rw [← hT] at HO
  clear hx hk hkk hfw hL r1 r2 t1 t2 hM hT
  go_enter Tryd.func35, Tryd.ntmps35
  have hA := (Below.refl w.heap.size w).alloc (Nat.le_refl _) (Obj.cells #[Value.int IntKind.u32 0, Value.int IntKind.u16 0, Value.string { data := #[] }] 39)
  have hz : RecAt _ w.heap.size 0 0 ⟨#[]⟩ := RecAt.new w 0 0 ⟨#[]⟩ 39
  have HZ := Lib.hid (⟨hA, hz, HX.out.below hA hp hg⟩ : _ ∧ _ ∧ _)
  clear hA hz HX
  go_wp2_with fail
  obtain ⟨hA, hz, hx⟩ := HZ.out
  clear HZ
  generalize w.alloc (Obj.cells #[Value.int IntKind.u32 0, Value.int IntKind.u16 0, Value.string { data := #[] }] 39) = W0 at *
  generalize hNN : w.heap.size = N at *
  have HNN := Lib.hid hNN
  clear hNN hp hg
  refine (HR1.out _ hx).mono ?_
  rintro e w1 ⟨rfl, rfl⟩
  go_wp2_with fail
  refine (HR2.out _ hx).mono ?_
  rintro e w1 ⟨rfl, rfl⟩
  go_wp2_with fail
  refine (HO.out _).mono ?_
  rintro e w1 ⟨rfl, ho⟩
  have hz1 := hz.below ho
  have hA1 := hA.trans (ho.mono (Nat.le_of_lt hz.lt))
  clear hA hz hx ho HR1 HR2 HO
  have r0 := hz1.c0
  have r1 := hz1.c1
  have r2 := hz1.c2
  have g0 := hz1.f0
  have g1 := hz1.f1
  have g2 := hz1.f2
  have HB := Lib.hid hA1
  clear hz1 hA1
  go_wp2_with fail
  exact bodyPost_ret (v := .tuple #[.agg #[.int .u32 0, .int .u16 0, .string ⟨#[]⟩], .bool false]) (by simp [results, Tryd.results35, go_sem, *]) rfl ⟨rfl, by rw [HNN.out]; exact (((HB.out.setCell (p := ⟨N, 0, none⟩) (Nat.le_refl _) _).setCell (p := ⟨N, 1, none⟩) (Nat.le_refl _) _).setCell (p := ⟨N, 2, none⟩) (Nat.le_refl _) _)⟩

set_option maxRecDepth 100000 in
set_option maxHeartbeats 4000000 in
theorem slot_long (p g cap : Nat) (x : St) (k : Nat) (kk : Int) (L : List UInt8) (w : World) (hx : CodeAt w p g cap x) (hkk : kk = k) (hk : k + 74 ≤ x.l.length) (hL : L = (x.l.drop k).take 74) (h : sealL (inner L) = L.drop 1) (h0 : (L.getD 0 0).toNat = 165) (hd : ¬ dlen L ≤ 64) :
    Calls Tryd.prog 35 #[.pointer (some ⟨p, 0, none⟩), .int .i64 kk] w (SlotRead Rc.zero false w) := by
  have hfw := few_of hx
  have hb1 : -9223372036854775808 ≤ kk := by omega
  have hb2 : kk ≤ 1000 := by omega
  obtain ⟨hl, ⟨r1, t1⟩, ⟨r2, t2⟩⟩ := read_parts hkk hk hL
  obtain ⟨M, hM⟩ : ∃ M, M = S [L.getD 0 0] := ⟨_, rfl⟩
  rw [← hM] at r1
  obtain ⟨T, hT⟩ : ∃ T, T = S (L.drop 1) := ⟨_, rfl⟩
  rw [← hT] at r2
  have HR1 := Lib.hid (fun w hx => Sto.read_any p g cap x kk 1 w hx hb1 (by omega))
  have HR2 := Lib.hid (fun w hx => Sto.read_any p g cap x (kk + 1) 73 w hx (by omega) (by omega))
  rw [r1, t1] at HR1
  rw [r2, t2] at HR2
  have hp := hx.plt
  have hg := hx.glt
  have HX := Lib.hid hx
  have HO := Lib.hid (fun w => (open_of L hl w).1 h)
  have hm : M.toList = [165] := by rw [hM]; exact mark_yes h0
  obtain ⟨a1, a2, a3, a4, a5, a6, a7, a8, a9⟩ := eye_of hl
  have H4 := Lib.hid (fun q w he => efour_any q (inner L) false w he)
  have H2 := Lib.hid (fun q w he => etwo_any q ((inner L).drop 4) false w he)
  have HS := Lib.hid (fun q w he => esmall_any q ((inner L).drop 6) false w he)
  rw [a1, a2, a3] at H4
  rw [a4, a5, a6] at H2
  rw [a7, a8, a9] at HS
  obtain ⟨I, hI⟩ : ∃ I, I = inner L := ⟨_, rfl⟩
  obtain ⟨I4, hI4⟩ : ∃ I4, I4 = (inner L).drop 4 := ⟨_, rfl⟩
  obtain ⟨I6, hI6⟩ : ∃ I6, I6 = (inner L).drop 6 := ⟨_, rfl⟩
  rw [← hI4, ← hI] at H4
  rw [← hI4, ← hI6] at H2
  rw [← hI6] at HS
  rw [← hI] at HO
  have c3 := eye_no hl hd
  rw [c3] at HS
  obtain ⟨D, hD⟩ : ∃ D, D = S (got (dlen L : Int) ((inner L).drop 7)) := ⟨_, rfl⟩
  obtain ⟨R, hR⟩ : ∃ R, R = left (dlen L : Int) ((inner L).drop 7) := ⟨_, rfl⟩
  rw [← hD, ← hR] at HS
  generalize (recOf (L.drop 1)).q = q at H4
  generalize (recOf (L.drop 1)).i = i at H2
  clear c3 hd hD hR
  clear a1 a2 a3 a4 a5 a6 a7 a8 a9 h h0 hl hI hI4 hI6

  rw [← hT] at HO
  clear hx hk hkk hfw hL r1 r2 t1 t2 hM hT
  go_enter Tryd.func35, Tryd.ntmps35
  have hA := (Below.refl w.heap.size w).alloc (Nat.le_refl _) (Obj.cells #[Value.int IntKind.u32 0, Value.int IntKind.u16 0, Value.string { data := #[] }] 39)
  have hz : RecAt _ w.heap.size 0 0 ⟨#[]⟩ := RecAt.new w 0 0 ⟨#[]⟩ 39
  have HZ := Lib.hid (⟨hA, hz, HX.out.below hA hp hg⟩ : _ ∧ _ ∧ _)
  clear hA hz HX
  go_wp2_with fail
  obtain ⟨hA, hz, hx⟩ := HZ.out
  clear HZ
  generalize w.alloc (Obj.cells #[Value.int IntKind.u32 0, Value.int IntKind.u16 0, Value.string { data := #[] }] 39) = W0 at *
  generalize hNN : w.heap.size = N at *
  have HNN := Lib.hid hNN
  clear hNN hp hg
  refine (HR1.out _ hx).mono ?_
  rintro e w1 ⟨rfl, rfl⟩
  go_wp2_with fail
  refine (HR2.out _ hx).mono ?_
  rintro e w1 ⟨rfl, rfl⟩
  go_wp2_with fail
  refine (HO.out _).mono ?_
  rintro e w1 ⟨rfl, ho⟩
  have hz1 := hz.below ho
  have hA1 := hA.trans (ho.mono (Nat.le_of_lt hz.lt))
  clear hA hz hx ho HR1 HR2 HO
  go_wp2_with fail
  generalize hw1 : w1.heap.size = b at *
  refine (neweye_any _ _).mono ?_
  rintro e w2 ⟨rfl, he2, hb2⟩
  rw [hw1] at he2 hb2 ⊢
  have hz2 : RecAt w2 N 0 0 ⟨#[]⟩ := hz1.of (hb2.block N (by rw [← hw1]; exact hz1.lt))
  have hNb : N < b := by rw [← hw1]; exact hz1.lt
  have hA2 := hA1.trans (hb2.mono (by omega))
  clear hb2 hz1 hA1 hw1
  go_wp2_with fail
  refine (H4.out _ _ he2).mono ?_
  rintro e w3 ⟨rfl, he3, hg3⟩
  have hz3 := hz2.of (hg3.block N hz2.lt (by simp; omega))
  have hA3 := hA2.trans (below_only hg3 (by omega) (Nat.le_of_lt hz2.lt))
  clear he2 hz2 hg3 hA2
  go_wp2_with fail
  refine (H2.out _ _ he3).mono ?_
  rintro e w4 ⟨rfl, he4, hg4⟩
  have hz4 := hz3.of (hg4.block N hz3.lt (by simp; omega))
  have hA4 := hA3.trans (below_only hg4 (by omega) (Nat.le_of_lt hz3.lt))
  clear he3 hz3 hg4 hA3
  go_wp2_with fail
  refine (HS.out _ _ he4).mono ?_
  rintro e w5 ⟨rfl, he5, hg5⟩
  have hz5 := hz4.of (hg5.block N hz4.lt (by simp; omega))
  have hA5 := hA4.trans (below_only hg5 (by omega) (Nat.le_of_lt hz4.lt))
  clear he4 hz4 hg5 hA4
  go_wp2_with fail
  refine (blind_any _ _ _ _ he5).mono ?_
  rintro e w6 ⟨rfl, rfl⟩
  have r0 := hz5.c0
  have r1 := hz5.c1
  have r2 := hz5.c2
  have g0 := hz5.f0
  have g1 := hz5.f1
  have g2 := hz5.f2
  have HB := Lib.hid hA5
  clear hz5 hA5 he5
  go_wp2_with fail
  exact bodyPost_ret (v := .tuple #[.agg #[.int .u32 0, .int .u16 0, .string ⟨#[]⟩], .bool false]) (by simp [results, Tryd.results35, go_sem, *]) rfl ⟨rfl, by rw [HNN.out]; exact (((HB.out.setCell (p := ⟨N, 0, none⟩) (Nat.le_refl _) _).setCell (p := ⟨N, 1, none⟩) (Nat.le_refl _) _).setCell (p := ⟨N, 2, none⟩) (Nat.le_refl _) _)⟩

set_option maxRecDepth 100000 in
set_option maxHeartbeats 4000000 in
theorem slot_dirty (TR : ∀ l : List UInt8, l.length ≤ 1000 → ∀ w : World, Calls Tryd.prog 48 #[.string (S l), .string ⟨#[0]⟩] w fun e w' => e = .returned (.string (S (Lib.trimB l 0))) ∧ Below w.heap.size w w')
    (p g cap : Nat) (x : St) (k : Nat) (kk : Int) (L : List UInt8) (w : World) (hx : CodeAt w p g cap x) (hkk : kk = k) (hk : k + 74 ≤ x.l.length) (hL : L = (x.l.drop k).take 74) (h : sealL (inner L) = L.drop 1) (h0 : (L.getD 0 0).toNat = 165) (hd : dlen L ≤ 64) (hr : rest L ≠ List.replicate (64 - dlen L) 0) :
    Calls Tryd.prog 35 #[.pointer (some ⟨p, 0, none⟩), .int .i64 kk] w (SlotRead Rc.zero false w) := by
  have hfw := few_of hx
  have hb1 : -9223372036854775808 ≤ kk := by omega
  have hb2 : kk ≤ 1000 := by omega
  obtain ⟨hl, ⟨r1, t1⟩, ⟨r2, t2⟩⟩ := read_parts hkk hk hL
  obtain ⟨M, hM⟩ : ∃ M, M = S [L.getD 0 0] := ⟨_, rfl⟩
  rw [← hM] at r1
  obtain ⟨T, hT⟩ : ∃ T, T = S (L.drop 1) := ⟨_, rfl⟩
  rw [← hT] at r2
  have HR1 := Lib.hid (fun w hx => Sto.read_any p g cap x kk 1 w hx hb1 (by omega))
  have HR2 := Lib.hid (fun w hx => Sto.read_any p g cap x (kk + 1) 73 w hx (by omega) (by omega))
  rw [r1, t1] at HR1
  rw [r2, t2] at HR2
  have hp := hx.plt
  have hg := hx.glt
  have HX := Lib.hid hx
  have HO := Lib.hid (fun w => (open_of L hl w).1 h)
  have hm : M.toList = [165] := by rw [hM]; exact mark_yes h0
  obtain ⟨a1, a2, a3, a4, a5, a6, a7, a8, a9⟩ := eye_of hl
  have H4 := Lib.hid (fun q w he => efour_any q (inner L) false w he)
  have H2 := Lib.hid (fun q w he => etwo_any q ((inner L).drop 4) false w he)
  have HS := Lib.hid (fun q w he => esmall_any q ((inner L).drop 6) false w he)
  rw [a1, a2, a3] at H4
  rw [a4, a5, a6] at H2
  rw [a7, a8, a9] at HS
  obtain ⟨I, hI⟩ : ∃ I, I = inner L := ⟨_, rfl⟩
  obtain ⟨I4, hI4⟩ : ∃ I4, I4 = (inner L).drop 4 := ⟨_, rfl⟩
  obtain ⟨I6, hI6⟩ : ∃ I6, I6 = (inner L).drop 6 := ⟨_, rfl⟩
  rw [← hI4, ← hI] at H4
  rw [← hI4, ← hI6] at H2
  rw [← hI6] at HS
  rw [← hI] at HO
  obtain ⟨c1, c2, c3⟩ := eye_yes hl hd
  rw [c1, c2, c3] at HS
  have HT := Lib.hid (fun q w he => take_any q ((rest L).length : Int) (rest L) false w he)
  have t1 : got ((rest L).length : Int) (rest L) = rest L := got_all _
  rw [t1] at HT
  have hrl : (rest L).length ≤ 1000 := by have := rest_length hl; omega
  have HTR := Lib.hid (TR (rest L) hrl)
  have hty : (S (Lib.trimB (rest L) 0)).toList.isEmpty = false := trim_no hl hr
  obtain ⟨R, hR⟩ : ∃ R, R = rest L := ⟨_, rfl⟩
  obtain ⟨Z, hZ⟩ : ∃ Z, Z = S (Lib.trimB (rest L) 0) := ⟨_, rfl⟩
  rw [← hZ] at hty HTR
  rw [← hR] at HTR HT HS
  clear c1 c2 c3 hd TR t1 hr hrl hR hZ
  generalize (recOf (L.drop 1)).q = q at H4
  generalize (recOf (L.drop 1)).i = i at H2
  generalize (recOf (L.drop 1)).d = D at HS
  clear a1 a2 a3 a4 a5 a6 a7 a8 a9 h h0 hl hI hI4 hI6

  rw [← hT] at HO
  clear hx hk hkk hfw hL r1 r2 t1 t2 hM hT
  go_enter Tryd.func35, Tryd.ntmps35
  have hA := (Below.refl w.heap.size w).alloc (Nat.le_refl _) (Obj.cells #[Value.int IntKind.u32 0, Value.int IntKind.u16 0, Value.string { data := #[] }] 39)
  have hz : RecAt _ w.heap.size 0 0 ⟨#[]⟩ := RecAt.new w 0 0 ⟨#[]⟩ 39
  have HZ := Lib.hid (⟨hA, hz, HX.out.below hA hp hg⟩ : _ ∧ _ ∧ _)
  clear hA hz HX
  go_wp2_with fail
  obtain ⟨hA, hz, hx⟩ := HZ.out
  clear HZ
  generalize w.alloc (Obj.cells #[Value.int IntKind.u32 0, Value.int IntKind.u16 0, Value.string { data := #[] }] 39) = W0 at *
  generalize hNN : w.heap.size = N at *
  have HNN := Lib.hid hNN
  clear hNN hp hg
  refine (HR1.out _ hx).mono ?_
  rintro e w1 ⟨rfl, rfl⟩
  go_wp2_with fail
  refine (HR2.out _ hx).mono ?_
  rintro e w1 ⟨rfl, rfl⟩
  go_wp2_with fail
  refine (HO.out _).mono ?_
  rintro e w1 ⟨rfl, ho⟩
  have hz1 := hz.below ho
  have hA1 := hA.trans (ho.mono (Nat.le_of_lt hz.lt))
  clear hA hz hx ho HR1 HR2 HO
  go_wp2_with fail
  generalize hw1 : w1.heap.size = b at *
  refine (neweye_any _ _).mono ?_
  rintro e w2 ⟨rfl, he2, hb2⟩
  rw [hw1] at he2 hb2 ⊢
  have hz2 : RecAt w2 N 0 0 ⟨#[]⟩ := hz1.of (hb2.block N (by rw [← hw1]; exact hz1.lt))
  have hNb : N < b := by rw [← hw1]; exact hz1.lt
  have hA2 := hA1.trans (hb2.mono (by omega))
  clear hb2 hz1 hA1 hw1
  go_wp2_with fail
  refine (H4.out _ _ he2).mono ?_
  rintro e w3 ⟨rfl, he3, hg3⟩
  have hz3 := hz2.of (hg3.block N hz2.lt (by simp; omega))
  have hA3 := hA2.trans (below_only hg3 (by omega) (Nat.le_of_lt hz2.lt))
  clear he2 hz2 hg3 hA2
  go_wp2_with fail
  refine (H2.out _ _ he3).mono ?_
  rintro e w4 ⟨rfl, he4, hg4⟩
  have hz4 := hz3.of (hg4.block N hz3.lt (by simp; omega))
  have hA4 := hA3.trans (below_only hg4 (by omega) (Nat.le_of_lt hz3.lt))
  clear he3 hz3 hg4 hA3
  go_wp2_with fail
  refine (HS.out _ _ he4).mono ?_
  rintro e w5 ⟨rfl, he5, hg5⟩
  have hz5 := hz4.of (hg5.block N hz4.lt (by simp; omega))
  have hA5 := hA4.trans (below_only hg5 (by omega) (Nat.le_of_lt hz4.lt))
  clear he4 hz4 hg5 hA4
  go_wp2_with fail
  refine (blind_any _ _ _ _ he5).mono ?_
  rintro e w6 ⟨rfl, rfl⟩
  go_wp2_with fail
  refine (left_any _ _ _ _ he5).mono ?_
  rintro e w6 ⟨rfl, rfl⟩
  go_wp2_with fail
  refine (HT.out _ _ he5).mono ?_
  rintro e w6 ⟨rfl, -, hg6⟩
  have hz6 := hz5.of (hg6.block N hz5.lt (by simp; omega))
  have hA6 := hA5.trans (below_only hg6 (by omega) (Nat.le_of_lt hz5.lt))
  clear he5 hz5 hg6 hA5
  go_wp2_with fail
  refine (HTR.out _).mono ?_
  rintro e w7 ⟨rfl, hb7⟩
  have hz7 := hz6.below hb7
  have hA7 := hA6.trans (hb7.mono (Nat.le_of_lt hz6.lt))
  clear hz6 hb7 hA6
  have r0 := hz7.c0
  have r1 := hz7.c1
  have r2 := hz7.c2
  have g0 := hz7.f0
  have g1 := hz7.f1
  have g2 := hz7.f2
  have HB := Lib.hid hA7
  clear hz7 hA7
  go_wp2_with fail
  exact bodyPost_ret (v := .tuple #[.agg #[.int .u32 0, .int .u16 0, .string ⟨#[]⟩], .bool false]) (by simp [results, Tryd.results35, go_sem, *]) rfl ⟨rfl, by rw [HNN.out]; exact (((HB.out.setCell (p := ⟨N, 0, none⟩) (Nat.le_refl _) _).setCell (p := ⟨N, 1, none⟩) (Nat.le_refl _) _).setCell (p := ⟨N, 2, none⟩) (Nat.le_refl _) _)⟩

set_option maxRecDepth 100000 in
set_option maxHeartbeats 4000000 in
theorem slot_good (TR : ∀ l : List UInt8, l.length ≤ 1000 → ∀ w : World, Calls Tryd.prog 48 #[.string (S l), .string ⟨#[0]⟩] w fun e w' => e = .returned (.string (S (Lib.trimB l 0))) ∧ Below w.heap.size w w')
    (p g cap : Nat) (x : St) (k : Nat) (kk : Int) (L : List UInt8) (w : World) (hx : CodeAt w p g cap x) (hkk : kk = k) (hk : k + 74 ≤ x.l.length) (hL : L = (x.l.drop k).take 74) (h : sealL (inner L) = L.drop 1) (h0 : (L.getD 0 0).toNat = 165) (hd : dlen L ≤ 64) (hr : rest L = List.replicate (64 - dlen L) 0) :
    Calls Tryd.prog 35 #[.pointer (some ⟨p, 0, none⟩), .int .i64 kk] w (SlotRead (recOf (L.drop 1)) true w) := by
  have hfw := few_of hx
  have hb1 : -9223372036854775808 ≤ kk := by omega
  have hb2 : kk ≤ 1000 := by omega
  obtain ⟨hl, ⟨r1, t1⟩, ⟨r2, t2⟩⟩ := read_parts hkk hk hL
  obtain ⟨M, hM⟩ : ∃ M, M = S [L.getD 0 0] := ⟨_, rfl⟩
  rw [← hM] at r1
  obtain ⟨T, hT⟩ : ∃ T, T = S (L.drop 1) := ⟨_, rfl⟩
  rw [← hT] at r2
  have HR1 := Lib.hid (fun w hx => Sto.read_any p g cap x kk 1 w hx hb1 (by omega))
  have HR2 := Lib.hid (fun w hx => Sto.read_any p g cap x (kk + 1) 73 w hx (by omega) (by omega))
  rw [r1, t1] at HR1
  rw [r2, t2] at HR2
  have hp := hx.plt
  have hg := hx.glt
  have HX := Lib.hid hx
  have HO := Lib.hid (fun w => (open_of L hl w).1 h)
  have hm : M.toList = [165] := by rw [hM]; exact mark_yes h0
  obtain ⟨a1, a2, a3, a4, a5, a6, a7, a8, a9⟩ := eye_of hl
  have H4 := Lib.hid (fun q w he => efour_any q (inner L) false w he)
  have H2 := Lib.hid (fun q w he => etwo_any q ((inner L).drop 4) false w he)
  have HS := Lib.hid (fun q w he => esmall_any q ((inner L).drop 6) false w he)
  rw [a1, a2, a3] at H4
  rw [a4, a5, a6] at H2
  rw [a7, a8, a9] at HS
  obtain ⟨I, hI⟩ : ∃ I, I = inner L := ⟨_, rfl⟩
  obtain ⟨I4, hI4⟩ : ∃ I4, I4 = (inner L).drop 4 := ⟨_, rfl⟩
  obtain ⟨I6, hI6⟩ : ∃ I6, I6 = (inner L).drop 6 := ⟨_, rfl⟩
  rw [← hI4, ← hI] at H4
  rw [← hI4, ← hI6] at H2
  rw [← hI6] at HS
  rw [← hI] at HO
  obtain ⟨c1, c2, c3⟩ := eye_yes hl hd
  rw [c1, c2, c3] at HS
  have HT := Lib.hid (fun q w he => take_any q ((rest L).length : Int) (rest L) false w he)
  have t1 : got ((rest L).length : Int) (rest L) = rest L := got_all _
  rw [t1] at HT
  have hrl : (rest L).length ≤ 1000 := by have := rest_length hl; omega
  have HTR := Lib.hid (TR (rest L) hrl)
  have hty : (S (Lib.trimB (rest L) 0)).toList.isEmpty = true := trim_yes hl hr
  obtain ⟨R, hR⟩ : ∃ R, R = rest L := ⟨_, rfl⟩
  obtain ⟨Z, hZ⟩ : ∃ Z, Z = S (Lib.trimB (rest L) 0) := ⟨_, rfl⟩
  rw [← hZ] at hty HTR
  rw [← hR] at HTR HT HS
  clear c1 c2 c3 hd TR t1 hr hrl hR hZ
  generalize recOf (L.drop 1) = Q at H4 H2 HS ⊢
  clear a1 a2 a3 a4 a5 a6 a7 a8 a9 h h0 hl hI hI4 hI6
  obtain ⟨q, i, D⟩ := Q
  rw [← hT] at HO
  clear hx hk hkk hfw hL r1 r2 t1 t2 hM hT
  go_enter Tryd.func35, Tryd.ntmps35
  have hA := (Below.refl w.heap.size w).alloc (Nat.le_refl _) (Obj.cells #[Value.int IntKind.u32 0, Value.int IntKind.u16 0, Value.string { data := #[] }] 39)
  have hz : RecAt _ w.heap.size 0 0 ⟨#[]⟩ := RecAt.new w 0 0 ⟨#[]⟩ 39
  have HZ := Lib.hid (⟨hA, hz, HX.out.below hA hp hg⟩ : _ ∧ _ ∧ _)
  clear hA hz HX
  go_wp2_with fail
  obtain ⟨hA, hz, hx⟩ := HZ.out
  clear HZ
  generalize w.alloc (Obj.cells #[Value.int IntKind.u32 0, Value.int IntKind.u16 0, Value.string { data := #[] }] 39) = W0 at *
  generalize hNN : w.heap.size = N at *
  have HNN := Lib.hid hNN
  clear hNN hp hg
  refine (HR1.out _ hx).mono ?_
  rintro e w1 ⟨rfl, rfl⟩
  go_wp2_with fail
  refine (HR2.out _ hx).mono ?_
  rintro e w1 ⟨rfl, rfl⟩
  go_wp2_with fail
  refine (HO.out _).mono ?_
  rintro e w1 ⟨rfl, ho⟩
  have hz1 := hz.below ho
  have hA1 := hA.trans (ho.mono (Nat.le_of_lt hz.lt))
  clear hA hz hx ho HR1 HR2 HO
  go_wp2_with fail
  generalize hw1 : w1.heap.size = b at *
  refine (neweye_any _ _).mono ?_
  rintro e w2 ⟨rfl, he2, hb2⟩
  rw [hw1] at he2 hb2 ⊢
  have hz2 : RecAt w2 N 0 0 ⟨#[]⟩ := hz1.of (hb2.block N (by rw [← hw1]; exact hz1.lt))
  have hNb : N < b := by rw [← hw1]; exact hz1.lt
  have hA2 := hA1.trans (hb2.mono (by omega))
  clear hb2 hz1 hA1 hw1
  go_wp2_with fail
  refine (H4.out _ _ he2).mono ?_
  rintro e w3 ⟨rfl, he3, hg3⟩
  have hz3 := hz2.of (hg3.block N hz2.lt (by simp; omega))
  have hA3 := hA2.trans (below_only hg3 (by omega) (Nat.le_of_lt hz2.lt))
  clear he2 hz2 hg3 hA2
  go_wp2_with fail
  refine (H2.out _ _ he3).mono ?_
  rintro e w4 ⟨rfl, he4, hg4⟩
  have hz4 := hz3.of (hg4.block N hz3.lt (by simp; omega))
  have hA4 := hA3.trans (below_only hg4 (by omega) (Nat.le_of_lt hz3.lt))
  clear he3 hz3 hg4 hA3
  go_wp2_with fail
  refine (HS.out _ _ he4).mono ?_
  rintro e w5 ⟨rfl, he5, hg5⟩
  have hz5 := hz4.of (hg5.block N hz4.lt (by simp; omega))
  have hA5 := hA4.trans (below_only hg5 (by omega) (Nat.le_of_lt hz4.lt))
  clear he4 hz4 hg5 hA4
  go_wp2_with fail
  refine (blind_any _ _ _ _ he5).mono ?_
  rintro e w6 ⟨rfl, rfl⟩
  go_wp2_with fail
  refine (left_any _ _ _ _ he5).mono ?_
  rintro e w6 ⟨rfl, rfl⟩
  go_wp2_with fail
  refine (HT.out _ _ he5).mono ?_
  rintro e w6 ⟨rfl, -, hg6⟩
  have hz6 := hz5.of (hg6.block N hz5.lt (by simp; omega))
  have hA6 := hA5.trans (below_only hg6 (by omega) (Nat.le_of_lt hz5.lt))
  clear he5 hz5 hg6 hA5
  go_wp2_with fail
  refine (HTR.out _).mono ?_
  rintro e w7 ⟨rfl, hb7⟩
  have hz7 := hz6.below hb7
  have hA7 := hA6.trans (hb7.mono (Nat.le_of_lt hz6.lt))
  clear hz6 hb7 hA6
  have r0 := hz7.c0
  have r1 := hz7.c1
  have r2 := hz7.c2
  have g0 := hz7.f0
  have g1 := hz7.f1
  have g2 := hz7.f2
  have HB := Lib.hid hA7
  clear hz7 hA7
  go_wp2_with fail
  exact bodyPost_ret (v := .tuple #[.agg #[.int .u32 q, .int .u16 i, .string D], .bool true]) (by simp [results, Tryd.results35, go_sem, *]) rfl ⟨rfl, by rw [HNN.out]; exact (((HB.out.setCell (p := ⟨N, 0, none⟩) (Nat.le_refl _) _).setCell (p := ⟨N, 1, none⟩) (Nat.le_refl _) _).setCell (p := ⟨N, 2, none⟩) (Nat.le_refl _) _)⟩

end Go.Proofs.YtahmngmbgbcmhaaDoor.Ret
