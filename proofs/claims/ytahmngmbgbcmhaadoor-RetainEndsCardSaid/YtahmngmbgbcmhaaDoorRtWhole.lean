/-
  The reference's look whether a slot is whole, walked. Conditions: slots of 74 bytes.
-/
import Derived.Test.YtahmngmbgbcmhaaDoorRtSlot
import Derived.Deep.RegionWith
namespace Go.Proofs.YtahmngmbgbcmhaaDoor.Ret
open Go.RowKit
open Oct

theorem at_list (s : ByteArray) (k : Nat) (h : k < s.size) : s.data.toList.getD k 0 = s[k] := by
  simp [List.getD_eq_getElem?_getD, h]
  rfl

set_option maxRecDepth 100000 in
set_option maxHeartbeats 2000000 in
theorem rwhole_no (s : ByteArray) (w : World) (hs : s.size = 74) (h : (s.data.toList.getD 0 0).toNat ≠ 165 ∨ 64 < (s.data.toList.getD 7 0).toNat) :
    Calls Tryd.prog 33 #[.string s] w fun e w' => e = .returned (.tuple #[.agg #[.int .u32 0, .int .u16 0, .string ⟨#[]⟩], .bool false]) ∧ Below w.heap.size w w' := by
  have h0 : 0 < s.size := by omega
  have h7 : 7 < s.size := by omega
  rw [at_list s 0 h0, at_list s 7 h7] at h
  go_enter Tryd.func33, Tryd.ntmps33
  go_wp2
  all_goals
    exact bodyPost_ret (v := .tuple #[.agg #[.int .u32 0, .int .u16 0, .string ⟨#[]⟩], .bool false]) (by simp [results, Tryd.results33, go_sem]) rfl ⟨rfl, (Below.refl _ _).alloc (Nat.le_refl _) _⟩

/-- The eye's parts, of 73 bytes. -/
theorem eye_parts (l : List UInt8) (hl : l.length = 73) (h6 : (l.getD 6 0).toNat ≤ 64) :
    (num (rgot 4 l false) = num (l.take 4) ∧ rleft 4 l false = l.drop 4 ∧ rlost 4 l false = false) ∧
    (num (rgot 2 (l.drop 4) false) = num ((l.drop 4).take 2) ∧ rleft 2 (l.drop 4) false = l.drop 6 ∧ rlost 2 (l.drop 4) false = false) ∧
    rgot (num (rgot 1 (l.drop 6) false)) (rleft 1 (l.drop 6) false) (rlost 1 (l.drop 6) false) = (l.drop 7).take (num ((l.drop 6).take 1)) := by
  have f4 : fits 4 l = true := fits_yes (by decide) (by omega)
  have f2 : fits 2 (l.drop 4) = true := fits_yes (by decide) (by rw [List.length_drop]; omega)
  have f1 : fits 1 (l.drop 6) = true := fits_yes (by decide) (by rw [List.length_drop]; omega)
  refine ⟨⟨by simp [rgot, f4], by simp [rleft, f4], by simp [rlost, f4]⟩, ⟨by simp [rgot, f2], by simp [rleft, f2], by simp [rlost, f2]⟩, ?_⟩
  have e1 : rgot 1 (l.drop 6) false = (l.drop 6).take 1 := by simp [rgot, f1]
  have e2 : rleft 1 (l.drop 6) false = l.drop 7 := by simp [rleft, f1]
  have e3 : rlost 1 (l.drop 6) false = false := by simp [rlost, f1]
  rw [e1, e2, e3]
  have hn := take_one l (by omega)
  have fn : fits (num ((l.drop 6).take 1) : Int) (l.drop 7) = true := fits_yes (by omega) (by rw [hn, List.length_drop]; omega)
  simp [rgot, fn]

/-- Block b is a record. -/
structure RecAt (w : World) (b : Nat) (q i : Nat) (d : ByteArray) : Prop where
  c0 : w.cell? ⟨b, 0, none⟩ = some (.int .u32 q)
  c1 : w.cell? ⟨b, 1, none⟩ = some (.int .u16 i)
  c2 : w.cell? ⟨b, 2, none⟩ = some (.string d)
  f0 : w.frozen? ⟨b, 0, none⟩ = false
  f1 : w.frozen? ⟨b, 1, none⟩ = false
  f2 : w.frozen? ⟨b, 2, none⟩ = false
theorem RecAt.of {w w' : World} {b q i : Nat} {d : ByteArray} (h : RecAt w b q i d) (hb : w'.heap[b]? = w.heap[b]?) : RecAt w' b q i d :=
  ⟨(World.cell?_of_block (a := ⟨b, 0, none⟩) hb).trans h.c0, (World.cell?_of_block (a := ⟨b, 1, none⟩) hb).trans h.c1, (World.cell?_of_block (a := ⟨b, 2, none⟩) hb).trans h.c2,
    (World.frozen?_of_block (a := ⟨b, 0, none⟩) hb).trans h.f0, (World.frozen?_of_block (a := ⟨b, 1, none⟩) hb).trans h.f1, (World.frozen?_of_block (a := ⟨b, 2, none⟩) hb).trans h.f2⟩
theorem RecAt.lt {w : World} {b q i : Nat} {d : ByteArray} (h : RecAt w b q i d) : b < w.heap.size := World.block_lt_of_cell? w ⟨b, 0, none⟩ h.c0
theorem RecAt.new (w : World) (q i : Nat) (d : ByteArray) (t : TypeId) : RecAt (w.alloc (.cells #[.int .u32 q, .int .u16 i, .string d] t)) w.heap.size q i d := by
  have hc := rec_cells w q i d t
  exact ⟨hc 0 _ rfl, hc 1 _ rfl, hc 2 _ rfl, by simp [go_sem], by simp [go_sem], by simp [go_sem]⟩
theorem off_ne (p : Nat) {i j : Nat} (h : i ≠ j) : (⟨p, i, none⟩ : Addr) ≠ ⟨p, j, none⟩ := by intro e; injection e; contradiction
theorem RecAt.set1 {w : World} {b q i : Nat} {d : ByteArray} (h : RecAt w b q i d) (j : Nat) : RecAt (w.setCell ⟨b, 1, none⟩ (.int .u16 j)) b q j d := by
  have hf : ∀ o, (w.setCell ⟨b, 1, none⟩ (.int .u16 j)).frozen? ⟨b, o, none⟩ = w.frozen? ⟨b, o, none⟩ := fun o => World.frozen?_setCell _ _ _ _
  have hc : ∀ o, o ≠ 1 → (w.setCell ⟨b, 1, none⟩ (.int .u16 j)).cell? ⟨b, o, none⟩ = w.cell? ⟨b, o, none⟩ := fun o ho => World.cell?_setCell_other _ _ _ _ (off_ne b (fun e => ho e.symm))
  exact ⟨(hc 0 (by decide)).trans h.c0, World.cell?_setCell_same _ _ _ h.c1, (hc 2 (by decide)).trans h.c2, (hf 0).trans h.f0, (hf 1).trans h.f1, (hf 2).trans h.f2⟩
theorem RecAt.set2 {w : World} {b q i : Nat} {d : ByteArray} (h : RecAt w b q i d) (s : ByteArray) : RecAt (w.setCell ⟨b, 2, none⟩ (.string s)) b q i s := by
  have hf : ∀ o, (w.setCell ⟨b, 2, none⟩ (.string s)).frozen? ⟨b, o, none⟩ = w.frozen? ⟨b, o, none⟩ := fun o => World.frozen?_setCell _ _ _ _
  have hc : ∀ o, o ≠ 2 → (w.setCell ⟨b, 2, none⟩ (.string s)).cell? ⟨b, o, none⟩ = w.cell? ⟨b, o, none⟩ := fun o ho => World.cell?_setCell_other _ _ _ _ (off_ne b (fun e => ho e.symm))
  exact ⟨(hc 0 (by decide)).trans h.c0, (hc 1 (by decide)).trans h.c1, World.cell?_setCell_same _ _ _ h.c2, (hf 0).trans h.f0, (hf 1).trans h.f1, (hf 2).trans h.f2⟩
theorem set_block (w : World) (b o : Nat) (v : Value) (k : Nat) (h : k ≠ b) : (w.setCell ⟨b, o, none⟩ v).heap[k]? = w.heap[k]? := Below.heap_setCell _ _ _ _ h

/-- What lies there when the eye opens. -/
theorem start_of (w : World) (s : ByteArray) :
    let W := (w.alloc (Obj.cells #[Value.int IntKind.u32 0, Value.int IntKind.u16 0, Value.string { data := #[] }] 39)).alloc (Obj.cells #[Value.string s, Value.bool false] 75)
    EyeAt W (w.heap.size + 1) s.data.toList false ∧ Below w.heap.size w W ∧ w.heap.size + 1 < W.heap.size ∧ RecAt W w.heap.size 0 0 ⟨#[]⟩ := by
  intro W
  have he := eye_new (w.alloc (Obj.cells #[Value.int IntKind.u32 0, Value.int IntKind.u16 0, Value.string { data := #[] }] 39)) s 75
  have hz : (w.alloc (Obj.cells #[Value.int IntKind.u32 0, Value.int IntKind.u16 0, Value.string { data := #[] }] 39)).heap.size = w.heap.size + 1 := by simp
  rw [hz] at he
  have hb1 := (Below.refl (w.alloc (Obj.cells #[Value.int IntKind.u32 0, Value.int IntKind.u16 0, Value.string { data := #[] }] 39)).heap.size (w.alloc (Obj.cells #[Value.int IntKind.u32 0, Value.int IntKind.u16 0, Value.string { data := #[] }] 39))).alloc (Nat.le_refl _) (Obj.cells #[Value.string s, Value.bool false] 75)
  have hb0 := (Below.refl w.heap.size w).alloc (Nat.le_refl _) (Obj.cells #[Value.int IntKind.u32 0, Value.int IntKind.u16 0, Value.string { data := #[] }] 39)
  exact ⟨he, hb0.trans (hb1.mono (by rw [hz]; omega)), by simp [W], (RecAt.new w 0 0 ⟨#[]⟩ 39).of (hb1.block _ (by rw [hz]; omega))⟩

theorem eq_S (a b : List UInt8) : ((S a).toList == (S b).toList) = decide (a = b) := by
  by_cases h : a = b
  · rw [str_eq (by rw [h])]; simp [h]
  · rw [str_ne (fun e => h (S_inj e))]; simp [h]

theorem below_of {N : Nat} {w W W' w4 : World} (h : Below N w W) (h1 : Below N W W') (hb4 : Below W'.heap.size W' w4) (hN : N ≤ W'.heap.size) : Below N w w4 := (h.trans h1).trans (hb4.mono hN)

theorem run_rslot (r : Rc) (h : r.Ok) : Hid (∀ w, Calls Tryd.prog 20 #[.agg #[.int .u32 r.q, .int .u16 r.i, .string r.d]] w fun e w' => e = .returned (.string (S (slot r))) ∧ Below w.heap.size w w') := Lib.hid (fun w => rslot_any r w h)

set_option maxRecDepth 100000 in
set_option maxHeartbeats 2000000 in
theorem rwhole_yes (s : ByteArray) (w : World) (hs : s.size = 74) (h0 : (s.data.toList.getD 0 0).toNat = 165) (h7 : (s.data.toList.getD 7 0).toNat ≤ 64) :
    Calls Tryd.prog 33 #[.string s] w fun e w' => e = .returned (.tuple #[(recOf (s.data.toList.drop 1)).val, .bool (decide (slot (recOf (s.data.toList.drop 1)) = s.data.toList.drop 1))]) ∧ Below w.heap.size w w' := by
  have k0 : 0 < s.size := by omega
  have k7 : 7 < s.size := by omega
  have hl : (s.data.toList.drop 1).length = 73 := by rw [List.length_drop, Sto.size_list]; omega
  have h6 : ((s.data.toList.drop 1).getD 6 0).toNat ≤ 64 := by
    have : (s.data.toList.drop 1).getD 6 0 = s.data.toList.getD 7 0 := by simp [List.getD_eq_getElem?_getD]
    rw [this]; exact h7
  have hp := eye_parts _ hl h6
  have hok := recOf_ok hl h6
  have hd : s.extract 1 s.size = S (s.data.toList.drop 1) := S_drop s.data.toList 1
  rw [hs] at hd
  rw [at_list s 0 k0] at h0
  rw [at_list s 7 k7] at h7
  have h0 : (s[0].toNat : Int) = 165 := by omega
  have h7 : ¬ 64 < (s[7].toNat : Int) := by omega
  obtain ⟨L, hL⟩ : ∃ L, L = s.data.toList.drop 1 := ⟨_, rfl⟩
  rw [← hL] at hl h6 hp hok hd ⊢
  clear hL
  obtain ⟨R, hR⟩ : ∃ R, R = recOf L := ⟨_, rfl⟩
  obtain ⟨⟨p1, p2, p3⟩, ⟨p4, p5, p6⟩, p7⟩ := hp
  have p1 : num (rgot 4 L false) = R.q := by rw [hR]; exact p1
  have p4 : num (rgot 2 (L.drop 4) false) = R.i := by rw [hR]; exact p4
  have p7 : S (rgot (num (rgot 1 (L.drop 6) false)) (rleft 1 (L.drop 6) false) (rlost 1 (L.drop 6) false)) = R.d := by rw [hR, p7]; rfl
  rw [← hR] at hok ⊢
  have HT1 := Lib.hid (fun p w he => rnumber_any p 4 L false w he (by decide))
  have HT2 := Lib.hid (fun p w he => rnumber_any p 2 (L.drop 4) false w he (by decide))
  have HT3 := Lib.hid (fun p w he => rsmall_any p (L.drop 6) false w he)
  rw [p1, p2, p3] at HT1
  rw [p4, p5, p6] at HT2
  rw [p7] at HT3
  generalize rleft (num (rgot 1 (L.drop 6) false)) (rleft 1 (L.drop 6) false) (rlost 1 (L.drop 6) false) = L3 at *
  generalize rlost (num (rgot 1 (L.drop 6) false)) (rleft 1 (L.drop 6) false) (rlost 1 (L.drop 6) false) = B3 at *
  clear hR hl h6 p1 p2 p3 p4 p5 p6 p7
  have hiw : IntKind.u16.wrap (R.i : Int) = R.i := IntWalk.u16_in _ (by have := hok.i; omega)
  have hs1 := run_rslot R hok
  have HW0 := Lib.hid (start_of w (S L))
  have HOK := Lib.hid hok
  clear hok
  go_enter Tryd.func33, Tryd.ntmps33
  go_wp2_with fail
  have hW0 := HW0.out
  clear HW0
  generalize (w.alloc (Obj.cells #[Value.int IntKind.u32 0, Value.int IntKind.u16 0, Value.string { data := #[] }] 39)).alloc (Obj.cells #[Value.string (S L), Value.bool false] 75) = W0 at *
  obtain ⟨he0, hb0, hlt0, hz0⟩ := hW0
  generalize hNN : w.heap.size = N at *
  have HNN := Lib.hid hNN
  clear hNN
  refine (HT1.out _ _ he0).mono ?_
  rintro e w1 ⟨rfl, he1, hg1⟩
  have hz1 := hz0.of (hg1.block N (by omega) (by simp))
  have hb1 := hb0.trans (below_only hg1 (by omega) (by omega))
  have hs1' := hg1.size
  have hA := (Below.refl w1.heap.size w1).alloc (Nat.le_refl _) (Obj.cells #[Value.int IntKind.u32 R.q, Value.int IntKind.u16 0, Value.string { data := #[] }] 39)
  have hea := he1.kept (only_below hA none) (by simp)
  have hza := hz1.of (hA.block N (by omega))
  have hba := hb1.trans (hA.mono (by omega))
  have hra : RecAt _ w1.heap.size R.q 0 ⟨#[]⟩ := RecAt.new w1 R.q 0 ⟨#[]⟩ 39
  have hbN : N + 1 < w1.heap.size := by omega
  clear hA hb1 hz1 he1 hg1 hb0 hz0 he0 hs1' hlt0
  have HA := Lib.hid (⟨hea, hza, hba, hra⟩ : _ ∧ _ ∧ _ ∧ _)
  clear hea hza hba hra
  go_wp2_with fail
  obtain ⟨hea, hza, hba, hra⟩ := HA.out
  clear HA
  have hrb := hra.lt
  generalize w1.alloc (Obj.cells #[Value.int IntKind.u32 R.q, Value.int IntKind.u16 0, Value.string { data := #[] }] 39) = W1 at *
  generalize w1.heap.size = b at *
  refine (HT2.out _ _ hea).mono ?_
  rintro e w2 ⟨rfl, he2, hg2⟩
  have hz2 := hza.of (hg2.block N (by omega) (by simp))
  have hr2 := hra.of (hg2.block b hrb (by simp; omega))
  have hb2 := hba.trans (below_only hg2 (by omega) (by omega))
  have hs2' := hg2.size
  have HB := Lib.hid (⟨he2.kept (only_set w2 b 1 (.int .u16 R.i)) (by simp; omega), hz2.of (set_block w2 b 1 (.int .u16 R.i) N (by omega)), hb2.setCell (p := ⟨b, 1, none⟩) (show N ≤ b by omega) (.int .u16 R.i), hr2.set1 R.i⟩ : _ ∧ _ ∧ _ ∧ _)
  have x1 := hr2.c1
  have x2 := hr2.f1
  have hlt2 : b < w2.heap.size := hr2.lt
  clear he2 hz2 hb2 hg2 hea hza hba hra hrb hs2' hr2
  go_wp2_with fail
  obtain ⟨heb, hzb, hbb, hrb⟩ := HB.out
  clear HB x1 x2
  generalize w2.setCell ⟨b, 1, none⟩ (.int .u16 R.i) = W2 at *
  refine (HT3.out _ _ heb).mono ?_
  rintro e w3 ⟨rfl, he3, hg3⟩
  have hz3 := hzb.of (hg3.block N (by have := hzb.lt; omega) (by simp))
  have hr3 := hrb.of (hg3.block b hrb.lt (by simp; omega))
  have hb3 := hbb.trans (below_only hg3 (by omega) (by have := hzb.lt; omega))
  have HC := Lib.hid (⟨hz3.of (set_block w3 b 2 (.string R.d) N (by omega)), hb3.setCell (p := ⟨b, 2, none⟩) (show N ≤ b by omega) (.string R.d), hr3.set2 R.d⟩ : _ ∧ _ ∧ _)
  have x1 := hr3.c2
  have x2 := hr3.f2
  clear he3 hz3 hb3 hg3 heb hzb hbb hrb hr3
  go_wp2_with fail
  obtain ⟨hz, hb, hr⟩ := HC.out
  clear HC x1 x2
  generalize w3.setCell ⟨b, 2, none⟩ (.string R.d) = W3 at *
  have r0 := hr.c0
  have r1 := hr.c1
  have r2 := hr.c2
  have z0 := hz.c0
  have z1 := hz.c1
  have z2 := hz.c2
  have g0 := hz.f0
  have g1 := hz.f1
  have g2 := hz.f2
  have hlb := hr.lt
  have hlN := hz.lt
  have hq := eq_S (slot R) L
  have HB := Lib.hid hb
  clear hz hr hb
  go_region_with (go_at_call 20; refine (hs1.out _).mono ?_; rintro e w4 ⟨rfl, hb4⟩; have y := fun o => hb4.cell (p := ⟨b, o, none⟩) (by simp; omega); have yn := fun o => hb4.cell (p := ⟨N, o, none⟩) (by simp; omega); have yf := fun o => hb4.frozen (p := ⟨N, o, none⟩) (by simp; omega); have hbw := Lib.hid (below_of HB.out (by first | exact (Below.refl _ _).drew | exact ((((Below.refl _ _).drew.setCell (p := ⟨N, 0, none⟩) (Nat.le_refl _) _).setCell (p := ⟨N, 1, none⟩) (Nat.le_refl _) _).setCell (p := ⟨N, 2, none⟩) (Nat.le_refl _) _)) hb4 (by simp; omega)); clear hb4)
  all_goals
    go_wp2
    rw [HNN.out]
    first
    | exact bodyPost_ret (v := .tuple #[R.val, .bool (decide (slot R = L))]) (by simp [results, Tryd.results33, go_sem, Rc.val, *]) rfl ⟨rfl, hbw.out⟩
    | exact bodyPost_ret (v := .tuple #[R.val, .bool (decide (slot R = L))]) (by simp [results, Tryd.results33, go_sem, Rc.val, *]) rfl ⟨rfl, ((hbw.out.setCell (p := ⟨N, 0, none⟩) (Nat.le_refl _) _).setCell (p := ⟨N, 1, none⟩) (Nat.le_refl _) _).setCell (p := ⟨N, 2, none⟩) (Nat.le_refl _) _⟩
    | trace_state

/-- Whole at any slot of 74 bytes. -/
theorem rwhole_any (s : ByteArray) (w : World) (hs : s.size = 74) :
    Calls Tryd.prog 33 #[.string s] w fun e w' => e = .returned (.tuple #[.agg #[.int .u32 (wholeV s.data.toList).q, .int .u16 (wholeV s.data.toList).i, .string (wholeV s.data.toList).d], .bool (wholeB s.data.toList)]) ∧ Below w.heap.size w w' := by
  by_cases h : (s.data.toList.getD 0 0).toNat ≠ 165 ∨ 64 < (s.data.toList.getD 7 0).toNat
  · have e1 : wholeV s.data.toList = Rc.zero := by unfold wholeV; rw [if_pos h]
    have e2 : wholeB s.data.toList = false := by unfold wholeB; rw [if_pos h]
    rw [e1, e2]
    exact rwhole_no s w hs h
  · have e1 : wholeV s.data.toList = recOf (s.data.toList.drop 1) := by unfold wholeV; rw [if_neg h]
    have e2 : wholeB s.data.toList = decide (slot (recOf (s.data.toList.drop 1)) = s.data.toList.drop 1) := by unfold wholeB; rw [if_neg h]
    rw [e1, e2]
    exact rwhole_yes s w hs (by omega) (by omega)

end Go.Proofs.YtahmngmbgbcmhaaDoor.Ret
