/-
  What the code writes behind a slot's mark, walked. Conditions: records such as may be.
-/
import Derived.Test.YtahmngmbgbcmhaaDoorRtRd
namespace Go.Proofs.YtahmngmbgbcmhaaDoor.Ret
open Go.RowKit
open Oct
open Sto (St CodeAt Only)

/-- What else is known in the region's worlds. -/
def Held2 (M : Nat) (w W' : World) : Prop := Below M w W' ∧ M + 1 ≤ W'.heap.size
theorem Held2.next {M : Nat} {w W' W'' : World} (h : Held2 M w W') (hb : Below W'.heap.size W' W'') : Held2 M w W'' :=
  ⟨h.1.trans (hb.mono (Nat.le_trans (Nat.le_succ M) h.2)), Nat.le_trans h.2 hb.size⟩
theorem Held2.more {M : Nat} {w W' W'' : World} (h : Held2 M w W') (hb : Below (M + 1) W' W'') : Held2 M w W'' :=
  ⟨h.1.trans (hb.mono (Nat.le_succ M)), Nat.le_trans h.2 hb.size⟩
theorem Held2.size {M : Nat} {w W' : World} (h : Held2 M w W') : M + 1 ≤ W'.heap.size := h.2
@[simp] theorem held2_drew (M : Nat) (w W' : World) : Held2 M w W'.drew ↔ Held2 M w W' := ⟨fun h => ⟨⟨h.1.os, h.1.tape, h.1.output, h.1.size, h.1.block⟩, h.2⟩, fun h => ⟨h.1.drew, h.2⟩⟩
theorem low_cell {M o : Nat} {w w1 : World} {v : Value} (hb : Below (M + 1) w w1) (h : w.cell? ⟨M, o, none⟩ = some v) : w1.cell? ⟨M, o, none⟩ = some v :=
  (hb.cell (p := ⟨M, o, none⟩) (Nat.lt_succ_self M)).trans h

theorem body_is (r : Rc) (h : r.d.size ≤ 64) : ((([] ++ be r.q 4) ++ be r.i 2) ++ (be r.d.size 1 ++ r.d.data.toList)) ++ List.replicate (64 - r.d.size) 0 = body r := by
  unfold body
  rw [pre_length]
  unfold pre
  rw [show 71 - (7 + r.d.size) = 64 - r.d.size by omega]
  simp [List.append_assoc]

set_option maxRecDepth 100000 in
set_option maxHeartbeats 4000000 in
theorem csealed_any (r : Rc) (w : World) (hr : r.Ok) :
    Calls Tryd.prog 41 #[.agg #[.int .u32 r.q, .int .u16 r.i, .string r.d]] w fun e w' => e = .returned (.string (S (slot r))) ∧ Below w.heap.size w w' := by
  have HBo := Lib.hid (body_is r hr.d)
  have HSl : Hid (sealedB (S (body r)) = S (slot r)) := Lib.hid (sealed_list _)
  have HLn := Lib.hid (body_length hr.d)
  obtain ⟨q, i, d⟩ := r
  obtain ⟨h1, h2, h3⟩ := hr
  have hd : d.size ≤ 64 := h3
  have hq : (q : Int) ≤ 4294967295 := h1
  have hi : i < 65536 := by have : (i : Int) ≤ 65535 := h2; omega
  replace HBo : Hid (((([] ++ be q 4) ++ be i 2) ++ (be d.size 1 ++ d.data.toList)) ++ List.replicate (64 - d.size) 0 = body ⟨q, i, d⟩) := HBo
  generalize body ⟨q, i, d⟩ = B at *
  generalize slot ⟨q, i, d⟩ = L at *
  have l0 : ([] ++ be q 4 : List UInt8).length ≤ 900000 := by simp [be_length]
  have l1 : (([] ++ be q 4) ++ be i 2 : List UInt8).length ≤ 900000 := by simp [be_length]
  have l2 : ((([] ++ be q 4) ++ be i 2) ++ (be d.size 1 ++ d.data.toList) : List UInt8).length ≤ 900000 := by simp [be_length]; omega
  generalize hA : ([] ++ be q 4 : List UInt8) = A at *
  generalize hC : A ++ be i 2 = C at *
  generalize hD : C ++ (be d.size 1 ++ d.data.toList) = D at *
  have HA := Lib.hid hA
  have HC := Lib.hid hC
  have HD := Lib.hid hD
  have H4 := Lib.hid (fun N p w hp hN => four_any N p [] q hq w hp hN (by simp))
  have H2 := Lib.hid (fun N p w hp hN => two_any N p A i hi w hp hN l0)
  have HS := Lib.hid (fun N p w hp hN => psmall_yes N p C d (by omega) w hp hN l1)
  have HT := Lib.hid (fun N p w hp hN => text_any N p D (S (List.replicate (64 - d.size) 0)) w hp hN (by rw [S_size, List.length_replicate]; omega))
  have HR := Lib.hid (repeat_any (64 - d.size) (by omega))
  rw [HA.out] at H4
  rw [HC.out] at H2
  rw [HD.out] at HS
  replace HT : Hid (∀ (N p : Nat) (w : World), PenAt N w p D → N ≤ w.heap.size → Calls Tryd.prog 58 #[.pointer (some ⟨p, 0, none⟩), .string (S (List.replicate (64 - d.size) 0))] w fun e w' => e = .returned (.pointer (some ⟨p, 0, none⟩)) ∧ PenAt N w' p (D ++ List.replicate (64 - d.size) 0) ∧ Below N w w' ∧ Beside w w' p) := HT
  rw [HBo.out] at HT
  have hsub : ((64 - d.size : Nat) : Int) = 64 - (d.size : Int) := by omega
  replace HR : Hid (∀ w : World, Calls Tryd.prog 59 #[.string ⟨#[0]⟩, .int .i64 ((64 - d.size : Nat) : Int)] w fun e w' => e = .returned (.string (S (List.replicate (64 - d.size) 0))) ∧ Below w.heap.size w w') := HR
  rw [hsub] at HR
  generalize S (List.replicate (64 - d.size) 0) = Zs at *
  have HO : Hid (∀ w : World, Calls Tryd.prog 60 #[.string (S B)] w fun e w' => e = .returned (.string (S L)) ∧ Below w.heap.size w w') := by
    have := fun w => sealed_any (S B) w (by rw [S_size, HLn.out]; omega)
    rw [HSl.out] at this
    exact Lib.hid this
  have hc := rec_cells w q i d 39
  have k0 := hc 0 _ rfl
  have k1 := hc 1 _ rfl
  have k2 := hc 2 _ rfl
  have hb0 : Held2 w.heap.size w (w.alloc (.cells #[.int .u32 q, .int .u16 i, .string d] 39)) := ⟨(Below.refl w.heap.size w).alloc (Nat.le_refl _) _, by simp⟩
  clear hc hA hC hD HA HC HD HBo HSl HLn l0 l1 l2 hq hi hsub h1 h2 h3
  go_enter Tryd.func41, Tryd.ntmps41
  obtain ⟨W, hW⟩ : ∃ W, W = w.alloc (.cells #[.int .u32 q, .int .u16 i, .string d] 39) := ⟨_, rfl⟩
  go_wp2_with fail
  rw [← hW] at k0 k1 k2 hb0 ⊢
  clear hW
  generalize hNN : w.heap.size = N at *
  have HNN := Lib.hid hNN
  clear hNN
  go_region_held3 (fun W' => W'.cell? ⟨N, 0, none⟩ = some (.int .u32 q) ∧ W'.cell? ⟨N, 1, none⟩ = some (.int .u16 i) ∧ W'.cell? ⟨N, 2, none⟩ = some (.string d) ∧ Held2 N w W') (go_keep)
    (first
      | (go_at_call 54; have hS := ‹_ ∧ _ ∧ _ ∧ Held2 _ _ _›; (with_reducible refine (newpen_any (N + 1) _ hS.2.2.2.size).mono ?_); rintro e w1 ⟨rfl, hP0, hb1⟩; have hP : PenAt (N + 1) w1 W.heap.size [] := hP0; clear hP0; have y0 := kept_cell hb1 hS.1; have y1 := kept_cell hb1 hS.2.1; have y2 := kept_cell hb1 hS.2.2.1; have hr1 := hS.2.2.2.next hb1)
      | (go_at_call 55; have hS := ‹_ ∧ _ ∧ _ ∧ Held2 _ _ _›; (with_reducible refine (H4.out (N + 1) _ _ (by assumption) hS.2.2.2.size).mono ?_); rintro e w1 ⟨rfl, hP, hb1, -⟩; have y0 := low_cell hb1 hS.1; have y1 := low_cell hb1 hS.2.1; have y2 := low_cell hb1 hS.2.2.1; have hr1 := hS.2.2.2.more hb1)
      | (go_at_call 56; have hS := ‹_ ∧ _ ∧ _ ∧ Held2 _ _ _›; (with_reducible refine (H2.out (N + 1) _ _ (by assumption) hS.2.2.2.size).mono ?_); rintro e w1 ⟨rfl, hP, hb1, -⟩; have y0 := low_cell hb1 hS.1; have y1 := low_cell hb1 hS.2.1; have y2 := low_cell hb1 hS.2.2.1; have hr1 := hS.2.2.2.more hb1))
  have HY2 := Lib.hid y2
  have HRr := Lib.hid hr1
  have HPp := Lib.hid hP
  clear hS hb1 hP y0 y1 y2 hr1 k0 k1 k2 hb0 H4 H2
  generalize W.heap.size = P at *
  have y2 := HY2.out
  go_wp2_with fail
  refine (HS.out _ _ _ HPp.out HRr.out.size).mono ?_
  rintro e w2 ⟨rfl, hP2, hb2, -⟩
  have y3 := low_cell hb2 y2
  have hr2 := HRr.out.more hb2
  clear y2 HY2 HRr HPp hb2 HS
  go_wp2_with fail
  refine (HR.out _).mono ?_
  rintro e w3 ⟨rfl, hb3⟩
  have hP3 := hP2.below hb3
  have hr3 := hr2.next hb3
  clear y3 hP2 hr2 hb3 HR
  go_wp2_with fail
  refine (HT.out _ _ _ hP3 hr3.size).mono ?_
  rintro e w4 ⟨rfl, hP4, hb4, -⟩
  have hr4 := hr3.more hb4
  clear hP3 hr3 hb4 HT
  go_wp2_with fail
  refine (pstr_any _ _ _ _ hP4).mono ?_
  rintro e w5 ⟨rfl, rfl⟩
  go_wp2_with fail
  refine (HO.out _).mono ?_
  rintro e w6 ⟨rfl, hb6⟩
  have hr6 := hr4.next hb6
  clear hP4 hr4 hb6 HO
  go_wp2
  go_ret
  exact ⟨rfl, by rw [HNN.out]; exact hr6.1⟩

end Go.Proofs.YtahmngmbgbcmhaaDoor.Ret
