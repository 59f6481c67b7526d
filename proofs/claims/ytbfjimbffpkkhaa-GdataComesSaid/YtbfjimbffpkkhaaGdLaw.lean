/-
  What the laws share: awake. Conditions: as each states.
-/
import Derived.Test.YtbfjimbffpkkhaaGdNext
import Derived.Test.YtbfjimbffpkkhaaGdPut
namespace Go.Proofs.Ytbfjimbffpkkhaa.Pa
open Go.RowKit

/-! ### awake -/
def wkP : Pb := comP 2 pb0 [97, 98]
def wkF : Fr := nxF 5 wkP
def wkQ : Pb := nxP 5 wkP
def wkS : Sb := putS 2 (sb0 [120, 121]) wkF
theorem wk_c : comE 2 pb0 [97, 98] = 0 := rfl
theorem wk_p : wkP = ⟨1, [97, 98], []⟩ := rfl
theorem wk_d : doneB 2 g0 wkF = true ∧ errB 2 g0 wkF = 0 := by decide +kernel
theorem wk_s : wkS = ⟨putG 2 g0 wkF, [120, 121], 0, 0, [97, 98], 5, 1, true, false⟩ := by
  have h : outB 2 g0 wkF = [97, 98] ∧ wkF.vinc = 5 ∧ wkF.vseq = 1 := by decide +kernel
  have e : wkS = ⟨putG 2 g0 wkF, [120, 121], 0, 0, if doneB 2 g0 wkF then outB 2 g0 wkF else [], if doneB 2 g0 wkF then wkF.vinc else 0, if doneB 2 g0 wkF then wkF.vseq else 0, false || doneB 2 g0 wkF, false || decide (errB 2 g0 wkF = 3)⟩ := rfl
  rw [e, wk_d.1, wk_d.2, h.1, h.2.1, h.2.2]
  rfl
theorem wk_l : latS wkS = ⟨putG 2 g0 wkF, [97, 98], 5, 1, [], 0, 0, false, false⟩ := by rw [wk_s]; rfl
theorem wk_wp : WP 2 5 wkP := wp_com (wp_0 (by decide) (by decide) (by decide))
theorem wk_fit : FitW wkF := nx_fit wk_wp
theorem pad_xy : padV 2 [120, 121] = [120, 121] := rfl
attribute [local go_sem ↓] exec_ldF exec_stF
attribute [local go_sem] stF_new0
set_option maxRecDepth 100000 in
set_option maxHeartbeats 4000000 in
theorem wake_any (w : World) : Calls Try.prog 7 #[] w (Tells (.bool true) w) := by
  have HP := Lib.hid (show Calls Try.prog 8 #[.int .i64 2, .int .u16 5] w (fun e w' => e = .returned (.pointer (some ⟨w.heap.size, 0, none⟩)) ∧ PubAt w' w.heap.size (w.heap.size + 1) 2 5 pb0 ∧ Below w.heap.size w w' ∧ w'.heap.size = w.heap.size + 1) from cNewPub 2 5 w (by decide))
  have HS := Lib.hid (fun W => show Calls Try.prog 15 #[.int .i64 2, .string ⟨#[120, 121]⟩] W (fun e w' => e = .returned (.pointer (some ⟨W.heap.size + 1 + 1, 0, none⟩)) ∧ SubAt w' (W.heap.size + 1 + 1) W.heap.size 2 (sb0 [120, 121]) ∧ Below W.heap.size W w' ∧ w'.heap.size = W.heap.size + 1 + 1 + 1) from cNewSub 2 [120, 121] W (by decide))
  have HC := Lib.hid (fun W b g (h : PubAt W b g 2 5 pb0) => show Calls Try.prog 10 #[.pointer (some ⟨b, 0, none⟩), .string ⟨#[97, 98]⟩] W (fun e w' => e = .returned (.int .i64 0) ∧ PubAt w' b g 2 5 wkP ∧ OnlyL [b] W w') from
    cCom b g 2 5 pb0 [97, 98] W h (wp_0 (by decide) (by decide) (by decide)) (by decide))
  have HNx := Lib.hid (fun W b g (h : PubAt W b g 2 5 wkP) => show Calls Try.prog 9 #[.pointer (some ⟨b, 0, none⟩)] W (fun e w' => e = .returned (.tuple #[.agg (frA wkF), .bool true]) ∧ ∃ g', PubAt w' b g' 2 5 wkQ ∧ OnlyL [b] W w' ∧ (g' = g ∨ W.heap.size ≤ g')) from
    cNext b g 2 5 wkP W h wk_wp)
  have HPt := Lib.hid (fun W b q (h : SubAt W b q 2 (sb0 [120, 121])) => show Calls Try.prog 16 #[.pointer (some ⟨b, 0, none⟩), .agg (frA wkF)] W (fun e w' => e = .returned (.tuple #[.bool true, .int .i64 0]) ∧ SubAt w' b q 2 wkS ∧ OnlyL [b, q] W w') from by
    have := cSPut b q 2 (sb0 [120, 121]) wkF W h (ws_0 _ (by decide) (by decide)) wk_fit.fit (by have := wk_fit.len; unfold maxLen; omega)
    rwa [show (sb0 [120, 121]).gl = g0 from rfl, wk_d.1, wk_d.2] at this)
  have HFr1 := Lib.hid (fun W b q (h : SubAt W b q 2 wkS) => show Calls Try.prog 17 #[.pointer (some ⟨b, 0, none⟩)] W (Tells (.tuple #[.string ⟨#[120, 121]⟩, .agg #[.int .u16 0, .int .u32 0]]) W) from by
    have := cFront b q 2 wkS W h
    unfold frontV at this
    rwa [wk_s] at this)
  have HLt := Lib.hid (fun W b q (h : SubAt W b q 2 wkS) => show Calls Try.prog 18 #[.pointer (some ⟨b, 0, none⟩)] W (fun e w' => e = .returned (.bool true) ∧ SubAt w' b q 2 (latS wkS) ∧ OnlyL [b] W w') from by
    have := cLatch b q 2 wkS W h
    rwa [show wkS.waits = true by rw [wk_s]] at this)
  have HFr2 := Lib.hid (fun W b q (h : SubAt W b q 2 (latS wkS)) => show Calls Try.prog 17 #[.pointer (some ⟨b, 0, none⟩)] W (Tells (.tuple #[.string ⟨#[97, 98]⟩, .agg #[.int .u16 5, .int .u32 1]]) W) from by
    have := cFront b q 2 (latS wkS) W h
    unfold frontV at this
    rwa [wk_l] at this)
  have HLd := Lib.hid (fun W R (h : FrAt W R 0 wkF) => h.ld)
  have HNew := Lib.hid (fun W => FrAt.new W wkF 33)
  generalize wkS = s1 at *
  generalize latS s1 = s2 at *
  generalize wkP = P1 at *
  generalize wkQ = P2 at *
  generalize wkF = F at *
  go_enter Try.func7, Try.ntmps7
  go_wp2_with fail
  refine HP.out.mono ?_
  rintro e w1 ⟨rfl, hp, hb1, hz1⟩
  go_wp2_with fail
  refine (HS.out _).mono ?_
  rintro e w2 ⟨rfl, hs, hb2, hz2⟩
  have hp2 := hp.below hb2
  generalize hpb : w.heap.size = b at *
  have HPb := Lib.hid hpb
  have HB2 := Lib.hid (show Below b w w2 from hb1.trans (hb2.mono (by omega)))
  generalize w1.heap.size = m at *
  subst hz1
  have hbz : b + 4 ≤ w2.heap.size := by omega
  clear hb1 hb2 hp hz2 HP HS hpb
  go_wp2_with fail
  refine (HC.out _ _ _ hp2).mono ?_
  rintro e w3 ⟨rfl, hp3, ho3⟩
  have hs3 := hs.only ho3 (by simp <;> omega) (by simp <;> omega)
  have HB3 := Lib.hid (HB2.out.trans (ho3.below (by simp <;> omega) (by omega)))
  have hbz3 : b + 4 ≤ w3.heap.size := by have := ho3.size; omega
  clear hp2 hs ho3 HB2 HC hbz
  go_wp2_with fail
  refine (HNx.out _ _ _ hp3).mono ?_
  rintro e w4 ⟨rfl, g', -, ho4, -⟩
  have hs4 := hs3.only ho4 (by simp <;> omega) (by simp <;> omega)
  have HB4 := Lib.hid (HB3.out.trans (ho4.below (by simp <;> omega) (by omega)))
  have hbz4 : b + 4 ≤ w4.heap.size := by have := ho4.size; omega
  clear hp3 hs3 ho4 HB3 HNx hbz3
  have hld := HLd.out _ _ (HNew.out w4)
  have hs5 := hs4.below (one_S w4 (frA F) 33)
  have hn5 := stF_new0 w4 F
  generalize hX : frA F = X at *
  go_wp2_with fail
  refine (HPt.out _ _ _ hs5).mono ?_
  rintro e w5 ⟨rfl, hs6, ho6⟩
  have HB6 := Lib.hid (HB4.out.trans ((one_S w4 X 33).mono (by omega) |>.trans (ho6.below (by simp <;> omega) (by simp <;> omega))))
  have hbz5 : b + 4 ≤ w5.heap.size := by have := ho6.size; simp at this <;> omega
  clear hs4 hs5 ho6 HB4 HPt hld hn5 HNew HLd
  go_wp2_with fail
  refine (HFr1.out _ _ _ hs6).mono ?_
  rintro e w6 ⟨rfl, hb7⟩
  have hs7 := hs6.below hb7
  have HB7 := Lib.hid (HB6.out.trans (hb7.mono (by omega)))
  have hbz6 : b + 4 ≤ w6.heap.size := by have := hb7.size; omega
  clear hb7 hs6 HB6 HFr1 hbz5
  have hs8 := hs7.below (one_S w6 #[.int .u16 0, .int .u32 0] 31)
  have HL8 := Lib.hid (laid_ver w6 (.int .u16 0) (.int .u32 0))
  go_wp2_with fail
  refine (HLt.out _ _ _ hs8).mono ?_
  rintro e w7 ⟨rfl, hs9, ho9⟩
  have l1 := (ho9.cell (by simp <;> omega) HL8.out.1)
  have l2 := (ho9.cell (by simp <;> omega) HL8.out.2)
  have HB9 := Lib.hid (HB7.out.trans ((one_S w6 #[.int .u16 0, .int .u32 0] 31).mono (by omega) |>.trans (ho9.below (by simp <;> omega) (by simp <;> omega))))
  have hbz7 : w6.heap.size + 1 ≤ w7.heap.size := by have := ho9.size; simp at this <;> omega
  clear hs7 hs8 ho9 HL8 HB7 HLt
  generalize w6.heap.size = B at *
  go_wp2_with fail
  refine (HFr2.out _ _ _ hs9).mono ?_
  rintro e w8 ⟨rfl, hb10⟩
  have l3 := kept_own hb10 l1
  have l4 := kept_own hb10 l2
  have hB8 : B < w8.heap.size := by have := hb10.size; omega
  have HB10 := Lib.hid ((HB9.out.trans (hb10.mono (by omega))).alloc (by have := hb10.size; omega) (.cells #[.int .u16 5, .int .u32 1] 31))
  have hBne : B ≠ w8.heap.size := by omega
  clear hs9 hb10 HB9 HFr2 l1 l2 hbz7
  go_wp2
  go_ret
  exact ⟨rfl, HPb.out ▸ HB10.out⟩
end Go.Proofs.Ytbfjimbffpkkhaa.Pa
