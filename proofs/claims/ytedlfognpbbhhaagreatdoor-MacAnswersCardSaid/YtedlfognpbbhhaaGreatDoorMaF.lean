/-
  Hopping: walked. Conditions: as each states.
-/
import Derived.Test.YtedlfognpbbhhaaGreatDoorMaE
namespace Go.Proofs.YtedlfognpbbhhaaGreatDoor.Ma
open Go.RowKit
open Go.Proofs.YtedlfognpbbhhaaGreatDoor.Epo (Ep cmpE newB maxE numE numM)
open Go.Proofs.YtedlfognpbbhhaaGreatDoor.Mem (St withB woB hasB passB nextI turnI gapB sv)
open Go.Proofs.YtedlfognpbbhhaaGreatDoor.Frm (Fr world_cut)
attribute [local go_sem ↓] exec_ldF exec_stF exec_bdF
attribute [local go_sem] bdF_5 bdF_9 bdF_0 stF_new0

/-- A row of its own beside a mac. -/
structure Rx (w W : World) (b : Nat) (M : Mc) (g : Nat) (A : List Value) (t : TypeId) : Prop where
  mw : Mw W b M
  only : OnlyL [b] w W
  row : W.heap[g]? = some (.cells A.toArray t (0, 0))
  ge : w.heap.size ≤ g
  blt : b < w.heap.size
section
variable {w W W' : World} {b g : Nat} {M M' : Mc} {A A' : List Value} {t : TypeId}
theorem Rx.new (h : Mw W b M) (ho : OnlyL [b] w W) (hb : b < w.heap.size) (A : List Value) (t : TypeId) : Rx w (W.alloc (.cells A.toArray t)) b M W.heap.size A t :=
  ⟨h.alloc _, ho.alloc _, heap_alloc_new _ _, ho.size, hb⟩
theorem Rx.ne (h : Rx w W b M g A t) : g ≠ b := by have := h.ge; have := h.blt; omega
theorem Rx.lt (h : Rx w W b M g A t) : g < W.heap.size := lt_of_heap h.row
theorem Rx.cell (h : Rx w W b M g A t) (k : Nat) {v : Value} (hk : A[k]? = some v) : W.cell? ⟨g, k, none⟩ = some v := by
  rw [cell_of_row _ _ _ _ _ _ h.row]
  simpa using hk
theorem Rx.free (h : Rx w W b M g A t) (k : Nat) : W.frozen? ⟨g, k, none⟩ = false := frozen_of _ _ _ _ _ h.row
theorem Rx.turn (h : Rx w W b M g A t) (hm : Mw W' b M' ∧ OnlyL [b] W W') : Rx w W' b M' g A t :=
  ⟨hm.1, h.only.tr hm.2, (hm.2.block g h.lt (by simpa using h.ne)).trans h.row, h.ge, h.blt⟩
theorem Rx.below (h : Rx w W b M g A t) (hb : Below W.heap.size W W') : Rx w W' b M g A t := h.turn ⟨h.mw.below hb, OnlyL.of_below hb⟩
theorem Rx.put (h : Rx w W b M g A t) (l : List (Nat × Value)) (e : setA A l = A') : Rx w (setL W g l) b M g A' t :=
  ⟨h.mw.only (ms := [g]) (setL_only (by simp) l W) (by have := h.ne; simp; omega) (by have := h.ge; have := h.blt; simp; omega), h.only.trans (ns := [g]) (setL_only (by simp) l W) (by simpa using .inr h.ge),
    by rw [← e]; exact setL_heap t l A W h.row, h.ge, h.blt⟩
theorem Rx.fin (h : Rx w W b M g A t) (l : List (Nat × Value)) (e : setA (macL M) l = macL M') : Mw (setL W b l) b M' ∧ OnlyL [b] w (setL W b l) :=
  ⟨h.mw.sets l e, h.only.tr (setL_only (by simp) l W)⟩
theorem Rx.does (h : Rx w W b M g A t) : Mw W b M ∧ OnlyL [b] w W := ⟨h.mw, h.only⟩
theorem finA {w1 : World} (h : Mw w1 b M) (l : List (Nat × Value)) (e : setA (macL M) l = macL M') (o : Obj) : Mw ((setL w1 b l).alloc o) b M' ∧ OnlyL [b] w1 ((setL w1 b l).alloc o) :=
  ⟨(h.sets l e).alloc o, (setL_only (by simp) l w1).alloc o⟩
end
/-- The numbers are such as a walk wants them. -/
structure Ok (n : Int) (M : Mc) : Prop where
  ad : M.ad < 32
  sl : 4 ≤ M.sl ∧ M.sl ≤ 50
  gp : 1 ≤ M.gp
  clock : 0 ≤ M.clock ∧ M.clock ≤ n
  silence : 0 ≤ M.silence ∧ M.silence ≤ n
  timer : 0 ≤ M.timer ∧ M.timer ≤ n
  visits : 0 ≤ M.visits ∧ M.visits ≤ n
  arrived : 0 ≤ M.arrived ∧ M.arrived ≤ M.clock
  rot : 0 ≤ M.rot ∧ M.rot ≤ n
  tries : 0 ≤ M.tries ∧ M.tries ≤ n
  part : -1 ≤ M.partner ∧ M.partner < 32
  p8 : M.st = 8 → 0 ≤ M.partner
  ask : -1 ≤ M.ask ∧ M.ask < 32
  high : M.high.fit
  tok : M.tok.e.fit ∧ M.tok.h ≤ 65535
variable {b : Nat} {M : Mc} {w : World}
set_option maxRecDepth 100000 in
set_option maxHeartbeats 2000000 in
theorem cHop_yes (h : Mw w b M) (hh : M.tok.h < 65535) : Calls Tryz.prog 82 #[.pointer (some ⟨b, 0, none⟩)] w (Does w b (.bool true) { M with tok := ⟨M.tok.e, M.tok.h + 1⟩ }) := by
  have HO := Lib.hid (fun W => Epo.hop_yes M.tok.e M.tok.h W (by omega))
  have c56 := h.cell 56 rfl
  have c57 := h.cell 57 rfl
  have c58 := h.cell 58 rfl
  have c59 := h.cell 59 rfl
  have f56 := h.free 56
  have f57 := h.free 57
  have f58 := h.free 58
  have f59 := h.free 59
  have hlt := h.lt
  have HW := Lib.hid h
  clear h hh
  generalize M.tok.h + 1 = k at *
  go_enter Tryz.func82, Tryz.ntmps82
  go_wp2_with fail
  refine (HO.out _).mono ?_
  rintro e w1 ⟨rfl, hb1⟩
  have hm1 := HW.out.below hb1
  have d56 := hm1.cell 56 rfl
  have d57 := hm1.cell 57 rfl
  have d58 := hm1.cell 58 rfl
  have d59 := hm1.cell 59 rfl
  have g56 := hm1.free 56
  have g57 := hm1.free 57
  have g58 := hm1.free 58
  have g59 := hm1.free 59
  have hlt1 := hm1.lt
  have HZ := Lib.hid (finA (M' := { M with tok := ⟨M.tok.e, k⟩ }) hm1 [(56, .int .u16 M.tok.e.c), (57, .int .u8 M.tok.e.a), (58, .int .u16 M.tok.e.i), (59, .int .u16 k)] rfl (.cells #[.int .u16 M.tok.e.c, .int .u8 M.tok.e.a, .int .u16 M.tok.e.i, .int .u16 k] 43))
  have HB := Lib.hid hb1
  clear hm1 hb1
  go_wp2
  go_ret
  exact ⟨rfl, HZ.out.1, (OnlyL.of_below HB.out).tr HZ.out.2⟩
set_option maxRecDepth 100000 in
set_option maxHeartbeats 2000000 in
theorem cHop_off (h : Mw w b M) (had : M.ad < 32) (hh : M.tok.h = 65535) (hc : M.high.c ≤ 65535) (hm : mintB M = false) : Calls Tryz.prog 82 #[.pointer (some ⟨b, 0, none⟩)] w (Does w b (.bool false) (offM M)) := by
  have HO := Lib.hid (fun W => Epo.hop_no M.tok.e W)
  have HM := Lib.hid (fun W (k : Mw W b M) => cMint_no k had hc hm)
  have c56 := h.cell 56 rfl
  have c57 := h.cell 57 rfl
  have c58 := h.cell 58 rfl
  have c59 : w.cell? ⟨b, 59, none⟩ = some (.int .u16 65535) := by rw [h.cell 59 rfl, hh]; rfl
  have f56 := h.free 56
  have f57 := h.free 57
  have f58 := h.free 58
  have f59 := h.free 59
  have hlt := h.lt
  have HW := Lib.hid h
  clear h hh had hc hm
  go_enter Tryz.func82, Tryz.ntmps82
  go_wp2_with fail
  refine (HO.out _).mono ?_
  rintro e w1 ⟨rfl, hb1⟩
  have HR := Lib.hid (Rx.new (HW.out.below hb1) (OnlyL.of_below hb1) hlt [.int .u16 0, .int .u8 0, .int .u16 0, .int .u16 0] 43)
  clear hb1
  go_wp2_with fail
  refine (HM.out _ HR.out.mw).mono ?_
  rintro e w2 ⟨rfl, hm2⟩
  have HZ := Lib.hid (HR.out.turn hm2).does
  clear hm2 HR
  go_wp2
  go_ret
  exact ⟨rfl, HZ.out⟩
set_option maxRecDepth 100000 in
set_option maxHeartbeats 2000000 in
theorem cHop_new (h : Mw w b M) (had : M.ad < 32) (hh : M.tok.h = 65535) (hm : mintB M = true) : Calls Tryz.prog 82 #[.pointer (some ⟨b, 0, none⟩)] w (Does w b (.bool true) { newM M with tok := ⟨freshE M, 1⟩ }) := by
  have HO := Lib.hid (fun W => Epo.hop_no M.tok.e W)
  obtain ⟨A, hA⟩ : ∃ A, A = newM M := ⟨_, rfl⟩
  have HM : Hid (∀ W (k : Mw W b M), Calls Tryz.prog 75 #[.pointer (some ⟨b, 0, none⟩)] W (Does W b (.bool true) A)) := Lib.hid (fun W (k : Mw W b M) => by rw [hA]; exact cMint_yes k had hm)
  have HP := Lib.hid (fun W => Epo.hop_yes (freshE M) 0 W (by omega))
  have HE : Hid (A.tok = ⟨freshE M, 0⟩) := Lib.hid (by rw [hA]; rfl)
  rw [← hA]
  have c56 := h.cell 56 rfl
  have c57 := h.cell 57 rfl
  have c58 := h.cell 58 rfl
  have c59 : w.cell? ⟨b, 59, none⟩ = some (.int .u16 65535) := by rw [h.cell 59 rfl, hh]; rfl
  have f56 := h.free 56
  have f57 := h.free 57
  have f58 := h.free 58
  have f59 := h.free 59
  have hlt := h.lt
  have HW := Lib.hid h
  clear h hh had hm hA
  generalize freshE M = x at *
  go_enter Tryz.func82, Tryz.ntmps82
  go_wp2_with fail
  refine (HO.out _).mono ?_
  rintro e w1 ⟨rfl, hb1⟩
  have HR := Lib.hid (Rx.new (HW.out.below hb1) (OnlyL.of_below hb1) hlt [.int .u16 0, .int .u8 0, .int .u16 0, .int .u16 0] 43)
  clear hb1
  go_wp2_with fail
  refine (HM.out _ HR.out.mw).mono ?_
  rintro e w2 ⟨rfl, hm2⟩
  have HQ := Lib.hid (HR.out.turn hm2)
  clear hm2 HR
  generalize w1.heap.size = g at *
  have d56 : w2.cell? ⟨b, 56, none⟩ = some (.int .u16 x.c) := by rw [HQ.out.mw.cell 56 rfl, HE.out]
  have d57 : w2.cell? ⟨b, 57, none⟩ = some (.int .u8 x.a) := by rw [HQ.out.mw.cell 57 rfl, HE.out]
  have d58 : w2.cell? ⟨b, 58, none⟩ = some (.int .u16 x.i) := by rw [HQ.out.mw.cell 58 rfl, HE.out]
  have d59 : w2.cell? ⟨b, 59, none⟩ = some (.int .u16 0) := by rw [HQ.out.mw.cell 59 rfl, HE.out]; rfl
  go_wp2_with fail
  refine (HP.out _).mono ?_
  rintro e w3 ⟨rfl, hb3⟩
  have HS := Lib.hid (HQ.out.below hb3)
  have hne : g ≠ b := HS.out.ne
  have hlb : b < g := by have := HS.out.ge; have := HS.out.blt; omega
  have r0 := HS.out.cell 0 rfl
  have r1 := HS.out.cell 1 rfl
  have r2 := HS.out.cell 2 rfl
  have r3 := HS.out.cell 3 rfl
  have q0 := HS.out.free 0
  have q1 := HS.out.free 1
  have q2 := HS.out.free 2
  have q3 := HS.out.free 3
  have e56 := HS.out.mw.cell 56 rfl
  have e57 := HS.out.mw.cell 57 rfl
  have e58 := HS.out.mw.cell 58 rfl
  have e59 := HS.out.mw.cell 59 rfl
  have g56 := HS.out.mw.free 56
  have g57 := HS.out.mw.free 57
  have g58 := HS.out.mw.free 58
  have g59 := HS.out.mw.free 59
  have HZ := Lib.hid ((HS.out.put [(0, .int .u16 x.c), (1, .int .u8 x.a), (2, .int .u16 x.i), (3, .int .u16 1)] rfl).fin (M' := { A with tok := ⟨x, 1⟩ }) [(56, .int .u16 x.c), (57, .int .u8 x.a), (58, .int .u16 x.i), (59, .int .u16 1)] rfl)
  clear hb3 HQ d56 d57 d58 d59
  go_wp2
  go_ret
  exact ⟨rfl, HZ.out⟩
theorem cHop (h : Mw w b M) (had : M.ad < 32) (hh : M.tok.h ≤ 65535) (hc : M.high.c ≤ 65535) : Calls Tryz.prog 82 #[.pointer (some ⟨b, 0, none⟩)] w (Does w b (.bool (hopB M)) (hopM M)) := by
  by_cases e : M.tok.h = 65535
  · cases hm : mintB M
    · have e1 : hopB M = false := by unfold hopB; rw [hm, decide_eq_false (by omega)]; rfl
      have e2 : hopM M = offM M := by unfold hopM; rw [if_pos e, if_neg (by rw [hm]; decide)]
      rw [e1, e2]
      exact cHop_off h had e hc hm
    · have e1 : hopB M = true := by unfold hopB; rw [hm, Bool.or_true]
      have e2 : hopM M = { newM M with tok := ⟨freshE M, 1⟩ } := by unfold hopM; rw [if_pos e, if_pos hm]
      rw [e1, e2]
      exact cHop_new h had e hm
  · have e1 : hopB M = true := by unfold hopB; rw [decide_eq_true e]; rfl
    have e2 : hopM M = { M with tok := ⟨M.tok.e, M.tok.h + 1⟩ } := by unfold hopM; rw [if_neg e]
    rw [e1, e2]
    exact cHop_yes h (by omega)
end Go.Proofs.YtedlfognpbbhhaaGreatDoor.Ma
