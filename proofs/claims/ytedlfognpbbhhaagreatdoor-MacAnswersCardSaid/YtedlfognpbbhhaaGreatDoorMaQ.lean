/-
  Hearing: walked. Conditions: as each states.
-/
import Derived.Test.YtedlfognpbbhhaaGreatDoorMaM
import Derived.Test.YtedlfognpbbhhaaGreatDoorMaN
import Derived.Test.YtedlfognpbbhhaaGreatDoorMaO
import Derived.Test.YtedlfognpbbhhaaGreatDoorMaP
import Derived.Deep.DeepCutAuto
namespace Go.Proofs.YtedlfognpbbhhaaGreatDoor.Ma
open Go.RowKit
open Go.Proofs.YtedlfognpbbhhaaGreatDoor.Epo (Ep cmpE newB maxE numE numM)
open Go.Proofs.YtedlfognpbbhhaaGreatDoor.Mem (St withB woB hasB passB nextI turnI gapB sv)
open Go.Proofs.YtedlfognpbbhhaaGreatDoor.Frm (Fr world_cut)
attribute [local go_sem ↓] exec_ldF exec_stF exec_bdF
attribute [local go_sem] bdF_5 bdF_9 bdF_0 stF_new0

variable {b : Nat} {M : Mc} {w : World}
theorem Mw.there (h : Mw w b M) : w.there b 74 19 := fun j hj => by
  refine ⟨?_, h.free _⟩
  have hs : 74 + j < (macL M).toArray.size := by simp [macL]; omega
  rw [cell_of_row _ _ _ _ _ _ h.head, Array.getElem?_eq_getElem hs]
  rfl
theorem Mw.stp (h : Mw w b M) (f : Fr) : stF (.pointer (some ⟨b, 74, none⟩)) (.agg (frA f)) w = .ok .skip (w.setCells b 74 (frC f)) := stF_of w b 74 _ h.there rfl (frA_one f)
def idx : Nat → List Value → List (Nat × Value)
  | _, [] => []
  | o, v :: r => (o, v) :: idx (o + 1) r
theorem setCells_setL (b : Nat) : ∀ (l : List Value) (o : Nat) (W : World), W.setCells b o l = setL W b (idx o l)
  | [], _, _ => rfl
  | v :: r, o, W => by rw [World.setCells, idx, setL, setCells_setL b r]
theorem setA_mid : ∀ (l mid pre post : List Value), mid.length = l.length → setA (pre ++ (mid ++ post)) (idx pre.length l) = pre ++ (l ++ post)
  | [], mid, pre, post, h => by
    have : mid = [] := List.length_eq_zero_iff.1 (by simpa using h)
    subst this
    rfl
  | v :: r, [], _, _, h => by simp at h
  | v :: r, m :: mid, pre, post, h => by
    have e : (pre ++ (m :: mid ++ post)).set pre.length v = (pre ++ [v]) ++ (mid ++ post) := by
      rw [List.set_append_right _ _ (Nat.le_refl _)]
      simp
    have k := setA_mid r mid (pre ++ [v]) post (by simpa using h)
    rw [List.length_append, List.length_singleton] at k
    rw [idx, setA, e, k]
    simp
theorem macL_poll (M : Mc) : macL M = (macL M).take 74 ++ (frC M.poll ++ [.bool M.polled]) := (List.take_append_drop 74 (macL M)).symm
theorem idx_poll (M : Mc) (f : Fr) : setA (macL M) (idx 74 (frC f)) = macL { M with poll := f } := by
  have h := setA_mid (frC f) (frC M.poll) ((macL M).take 74) [.bool M.polled] rfl
  rw [← macL_poll M] at h
  exact h.trans (macL_poll { M with poll := f }).symm
theorem Px.poll {W : World} {R : Nat} {f : Fr} (h : Px w W b M R f) : Px w (W.setCells b 74 (frC f)) b { M with poll := f } R f := by
  rw [setCells_setL]
  exact h.sets (M' := { M with poll := f }) (idx 74 (frC f)) (idx_poll M f)
theorem Kx.make {W : World} {R : Nat} {f : Fr} (h : Px w W b M R f) (k : Mk) : Kx w (W.alloc (.cells #[.int .u16 k.e.c, .int .u8 k.e.a, .int .u16 k.e.i, .int .u16 k.h] 43)) b M R f W.heap.size k :=
  ⟨h.alloc _, heap_alloc_new _ _, h.fx.only.size⟩
theorem way_keeps (M : Mc) (k : Mk) : (wayM M k).arrived = M.arrived ∧ (wayM M k).clock = M.clock ∧ (wayM M k).visits = M.visits := by
  have h1 : (way1 M k).arrived = M.arrived ∧ (way1 M k).clock = M.clock ∧ (way1 M k).visits = M.visits := by
    unfold way1
    split
    · split <;> exact ⟨rfl, rfl, rfl⟩
    · exact ⟨rfl, rfl, rfl⟩
  have h2 : ∀ A : Mc, (way2 A k).arrived = A.arrived ∧ (way2 A k).clock = A.clock ∧ (way2 A k).visits = A.visits := by
    intro A
    unfold way2
    split
    · split <;> exact ⟨rfl, rfl, rfl⟩
    · exact ⟨rfl, rfl, rfl⟩
  have h3 := h2 (way1 M k)
  exact ⟨h3.1.trans h1.1, h3.2.1.trans h1.2.1, h3.2.2.trans h1.2.2⟩
theorem hear_0 (f : Fr) (h : M.st = 0) : hearM M f = M := by unfold hearM; rw [if_pos h]
theorem hear_no (f : Fr) (h : mindsB M f = false) : hearM M f = M := by
  unfold hearM
  by_cases e : M.st = 0
  · rw [if_pos e]
  · rw [if_neg e, if_neg (by rw [h]; decide)]
theorem hear_3 (f : Fr) (h0 : M.st ≠ 0) (h : mindsB M f = true) (hk : f.kind = 3) : hearM M f = hearSM (mindM M f) f := by unfold hearM; rw [if_neg h0, if_pos h, if_pos hk]
theorem hear_n (f : Fr) (h0 : M.st ≠ 0) (h : mindsB M f = true) (hk : f.kind ≠ 3) : hearM M f = restM (pollM (mindM M f) f) f := by unfold hearM; rw [if_neg h0, if_pos h, if_neg hk]
theorem poll_y (f : Fr) (h : f.kind = 2 ∧ f.dst = M.ad) : pollM M f = { M with poll := f, polled := true } := by unfold pollM; rw [if_pos h]
theorem poll_n (f : Fr) (h : ¬ (f.kind = 2 ∧ f.dst = M.ad)) : pollM M f = M := by unfold pollM; rw [if_neg h]
theorem poll_keeps (M : Mc) (f : Fr) : (pollM M f).arrived = M.arrived ∧ (pollM M f).clock = M.clock ∧ (pollM M f).visits = M.visits := by
  unfold pollM
  split <;> exact ⟨rfl, rfl, rfl⟩
theorem rest_low (f : Fr) (h : cmpE (epF f) M.high < 0) : restM M f = M := by unfold restM; rw [if_pos h]
theorem rest_fol (f : Fr) (h : ¬ cmpE (epF f) M.high < 0) (hk : f.kind = 1 ∨ f.kind = 5) : restM M f = follM (wayM M (mkF f)) f (mkF f) := by unfold restM; rw [if_neg h, if_pos hk]
theorem rest_way (f : Fr) (h : ¬ cmpE (epF f) M.high < 0) (hk : ¬ (f.kind = 1 ∨ f.kind = 5)) : restM M f = wayM M (mkF f) := by unfold restM; rw [if_neg h, if_neg hk]
theorem minds_rt {f : Fr} (h : mindsB M f = true) : Frm.rtB f = true := by unfold mindsB at h; rw [Bool.and_eq_true] at h; exact h.1
set_option maxRecDepth 100000 in
set_option maxHeartbeats 2000000 in
theorem cMarkOf (f : Fr) (w : World) : Calls Tryz.prog 30 #[.agg (frA f)] w (Tells (.agg #[.int .u16 f.ec, .int .u8 f.ea, .int .u16 f.ei, .int .u16 f.hop]) w) := by
  have a5 : (frA f)[5]? = some (.int .u16 f.ec) := rfl
  have a6 : (frA f)[6]? = some (.int .u8 f.ea) := rfl
  have a7 : (frA f)[7]? = some (.int .u16 f.ei) := rfl
  have a8 : (frA f)[8]? = some (.int .u16 f.hop) := rfl
  have HB := Lib.hid ((one_S w (frA f) 38).trans ((one_S (w.alloc (.cells (frA f) 38)) #[.int .u16 f.ec, .int .u8 f.ea, .int .u16 f.ei, .int .u16 f.hop] 43).mono (by simp)))
  go_enter Tryz.func30, Tryz.ntmps30
  go_wp2
  refine bodyPost_ret (results_4 Tryz.results30 _ _ (w.heap.size + 1) (mkF f) rfl ?_ ?_ ?_ ?_) rfl ⟨rfl, HB.out⟩
  all_goals simp [go_sem, mkF, epF]
set_option maxRecDepth 100000 in
set_option maxHeartbeats 8000000 in
theorem cHear {n : Int} (h : Mw w b M) (ok : Ok n M) (hn : n ≤ 1000000000) (f : Fr) (hf : f.fit) : Calls Tryz.prog 15 #[.pointer (some ⟨b, 0, none⟩), .agg (frA f)] w (Turns w b (hearM M f)) := by
  have HX := Lib.hid (Px.first h f)
  have hlt := h.lt
  have c10 := h.cell 10 rfl
  by_cases h0 : M.st = 0
  · have HV := Lib.hid (hear_0 f h0)
    rw [h0] at c10
    clear h ok hn hf h0
    go_enter Tryz.func15, Tryz.ntmps15
    go_wp2
    go_end0
    exact ⟨rfl, by rw [HV.out]; exact (HX.out).does⟩
  have e0 : (M.st == 0) = false := by rw [beq_eq_false_iff_ne]; exact h0
  have HMi := Lib.hid (fun W (k : Mw W b M) => cMinds k f hf)
  cases hm : mindsB M f
  · have HV := Lib.hid (hear_no f hm)
    rw [hm] at HMi
    have hld := HX.out.fx.box.at.ld
    have hld2 : ldF (.pointer (some ⟨w.heap.size, 0, none⟩)) (w.alloc (.cells (frA f) 38)) = .ok (.value (.agg (frA f))) (w.alloc (.cells (frA f) 38)) := hld
    clear h ok hn hf h0 hm hld
    go_enter Tryz.func15, Tryz.ntmps15
    go_wp2_with fail
    refine world_cut (G := fun W => Calls _ _ _ W _) (fun W => Px w W b M w.heap.size f) (by exact HX.out) ?_
    rintro W hx
    clear hlt c10 hld2
    generalize w.heap.size = R at *
    refine (HMi.out _ hx.mw).mono ?_
    rintro e w1 ⟨rfl, hm1, ho1⟩
    have HP := Lib.hid (hx.turn hm1 ho1)
    clear HX hx hm1 ho1
    go_wp2
    go_end0
    exact ⟨rfl, by rw [HV.out]; exact (HP.out).does⟩
  have hs := rt_src (minds_rt hm)
  have b0 : (0 : Int) ≤ (f.src : Int) := by omega
  have b1 : (f.src : Int) < 32 := by omega
  rw [hm] at HMi
  have HKn := Lib.hid (⟨macL_known M f.src hs, macL_upd M f.sinc f.src hs⟩ : _ ∧ _)
  obtain ⟨A, hA⟩ : ∃ A, A = mindM M f := ⟨_, rfl⟩
  have HA : Hid (∀ W R, Px w W b { M with kn := upd M.kn f.src f.sinc } R f → Px w (setL W b [(15, .int .i64 0)]) b A R f) := Lib.hid (fun W R k => by rw [hA]; exact k.sets _ rfl)
  have ed : IntKind.i64.wrap (f.dst : Int) = f.dst := by rw [IntKind.wrap_i64]; have := hf.2.1; omega
  have HBs : Hid (f.fit ∧ (0 ≤ A.arrived ∧ A.arrived ≤ A.clock) ∧ A.clock ≤ 1000000000 ∧ (0 ≤ A.visits ∧ A.visits ≤ 1000000000)) := Lib.hid ⟨hf, by rw [hA]; exact ok.arrived, by rw [hA]; have := ok.clock; show M.clock ≤ _; omega, by rw [hA]; have := ok.visits; show 0 ≤ M.visits ∧ M.visits ≤ _; omega⟩
  have HAd : Hid (A.ad = M.ad) := Lib.hid (by rw [hA]; rfl)
  have HSt : Hid (∀ W, Mw W b A → Calls Tryz.prog 29 #[.pointer (some ⟨b, 0, none⟩), .agg (frA f)] W (Turns W b (hearSM A f))) := Lib.hid (fun W k => cHearStatus k f hf)
  have hld2 : ldF (.pointer (some ⟨w.heap.size, 0, none⟩)) (w.alloc (.cells (frA f) 38)) = .ok (.value (.agg (frA f))) (w.alloc (.cells (frA f) 38)) := HX.out.fx.box.at.ld
  have HH0 := Lib.hid (⟨h0, hm⟩ : _ ∧ _)
  have HAA := Lib.hid hA
  clear h ok hn hf h0 hm hA
  go_enter Tryz.func15, Tryz.ntmps15
  go_wp2_with fail
  refine world_cut (G := fun W => Calls _ _ _ W _) (fun W => Px w W b M w.heap.size f) (by exact HX.out) ?_
  rintro W hx
  clear hlt c10 hld2
  generalize w.heap.size = R at *
  refine (HMi.out _ hx.mw).mono ?_
  rintro e w1 ⟨rfl, hm1, ho1⟩
  have HP := Lib.hid (hx.turn hm1 ho1)
  clear HX hx hm1 ho1 HMi
  have x1 := HP.out.fx.box.at.at 1 rfl
  have x3 := HP.out.fx.box.at.at 3 rfl
  have ck := HP.out.mw.cell (21 + f.src) HKn.out.1
  have fk := HP.out.mw.free (21 + f.src)
  go_wp2
  go_cut [] (fun wx => Hid (Px w wx b { M with kn := upd M.kn f.src f.sinc } R f))
  case first =>
    go_region
    go_wp2
    go_meet
    exact Lib.hid (HP.out.sets (M' := { M with kn := upd M.kn f.src f.sinc }) [(21 + f.src, .int .u16 f.sinc)] HKn.out.2).drew
  case rest =>
    replace HP := Lib.hid hcut.out
    clear hcut x1 x3 ck fk b0 b1 hs HKn
    have c15 := HP.out.mw.cell 15 rfl
    have f15 := HP.out.mw.free 15
    have nRb : R ≠ b := by have := HP.out.fx.le; have := HP.out.blt; omega
    have HB := Lib.hid (HA.out _ _ HP.out)
    by_cases k3 : f.kind = 3
    · have x0 : wc.cell? ⟨R, 0, none⟩ = some (.int .i64 3) := by rw [HP.out.fx.box.at.at 0 rfl, k3]
      have HV := Lib.hid ((hear_3 f HH0.out.1 HH0.out.2 k3).trans (by rw [← HAA.out]))
      have hld : ldF (.pointer (some ⟨R, 0, none⟩)) (wc.setCell ⟨b, 15, none⟩ (.int .i64 0)) = .ok (.value (.agg (frA f))) (wc.setCell ⟨b, 15, none⟩ (.int .i64 0)) := HB.out.fx.box.at.ld
      clear k3 HP HA
      go_wp2_with fail
      refine world_cut (G := fun W => Calls _ _ _ W _) (fun W => Px w W b A R f) (by exact HB.out) ?_
      rintro W2 hx2
      refine (HSt.out _ hx2.mw).mono ?_
      rintro e w5 ⟨rfl, hm5, ho5⟩
      have HY := Lib.hid (hx2.turn hm5 ho5)
      clear hx2 hm5 ho5 hld HB c15 f15 x0
      go_wp2
      go_end0
      exact ⟨rfl, by rw [HV.out]; exact (HY.out).does⟩
    · have x0 := HP.out.fx.box.at.at 0 rfl
      have e3 : (f.kind == 3) = false := by rw [beq_eq_false_iff_ne]; exact k3
      have HRr := Lib.hid ((hear_n f HH0.out.1 HH0.out.2 k3).trans (show restM (pollM (mindM M f) f) f = restM (pollM A f) f by rw [HAA.out]))
      go_wp2
      refine world_cut (G := fun W => Code.wp _ _ _ _ W) (fun W => Px w W b A R f) (by exact HB.out) ?_
      rintro W2 hx2
      clear HP HA HB c15 f15 x0 k3
      have HP := Lib.hid hx2
      clear hx2
      have x0 := HP.out.fx.box.at.at 0 rfl
      have x2 := HP.out.fx.box.at.at 2 rfl
      have c0 := HP.out.mw.cell 0 rfl
      have hpk := poll_keeps A f
      obtain ⟨B, hB⟩ : ∃ B, B = pollM A f := ⟨_, rfl⟩
      have HR := Lib.hid (HRr.out.trans (by rw [← hB]))
      have hwk := way_keeps B (mkF f)
      have HBd : Hid (f.fit ∧ (0 ≤ (wayM B (mkF f)).arrived ∧ (wayM B (mkF f)).arrived ≤ (wayM B (mkF f)).clock) ∧ (wayM B (mkF f)).clock ≤ 1000000000 ∧ (0 ≤ (wayM B (mkF f)).visits ∧ (wayM B (mkF f)).visits ≤ 1000000000)) := Lib.hid (by
        rw [hwk.1, hwk.2.1, hwk.2.2, hB, hpk.1, hpk.2.1, hpk.2.2]; exact HBs.out)
      clear hpk hwk
      by_cases k2 : f.kind = 2
      · have e2 : (f.kind == 2) = true := by rw [beq_iff_eq]; exact k2
        by_cases kd : f.dst = A.ad
        · have ed2 : ((f.dst : Int) == (A.ad : Int)) = true := by rw [beq_iff_eq]; omega
          have HBp : Hid (B = { A with poll := f, polled := true }) := Lib.hid (by rw [hB]; exact poll_y f ⟨k2, kd⟩)
          have e1 : (f.kind == 1) = false := by rw [beq_eq_false_iff_ne]; omega
          have e5 : (f.kind == 5) = false := by rw [beq_eq_false_iff_ne]; omega
          have HKK := Lib.hid (show ¬ (f.kind = 1 ∨ f.kind = 5) by omega)
          clear k2 kd hB
          go_quiet (fail)
          refine world_cut (G := fun W => Exit.then _ _ Exit.normal _ W) (fun W => Px w W b A R f) (by exact HP.out.drewN _) ?_
          rintro W3 hx3
          clear HP x0 x2 c0
          have hld := hx3.fx.box.at.ld
          have hst := hx3.mw.stp f
          have q93 : (W3.setCells b 74 (frC f)).cell? ⟨b, 93, none⟩ = some (.bool A.polled) := hx3.poll.mw.cell 93 rfl
          have g93 := hx3.poll.mw.free 93
          have HB3 : Hid (Px w ((W3.setCells b 74 (frC f)).setCell ⟨b, 93, none⟩ (.bool true)) b B R f) := Lib.hid (by rw [HBp.out]; exact hx3.poll.sets [(93, .bool true)] rfl)
          clear hx3
          have hld3 : ldF (.pointer (some ⟨R, 0, none⟩)) ((W3.setCells b 74 (frC f)).setCell ⟨b, 93, none⟩ (.bool true)) = .ok (.value (.agg (frA f))) ((W3.setCells b 74 (frC f)).setCell ⟨b, 93, none⟩ (.bool true)) := HB3.out.fx.box.at.ld
          go_wp2_with fail
          refine world_cut (G := fun W => Calls _ _ _ W _) (fun W => Px w W b B R f) (by exact HB3.out) ?_
          rintro W4 hx4
          have HP := Lib.hid hx4
          clear hx4 HB3 hld hst q93 g93 hld3
          refine (cMarkOf f _).mono ?_
          rintro e w7 ⟨rfl, hb7⟩
          have HK := Lib.hid (Kx.make (HP.out.below hb7) (mkF f))
          clear hb7 HP
          go_wp2
          refine world_cut (G := fun W => Code.wp _ _ _ _ W) (fun W => Kx w W b B R f w7.heap.size (mkF f)) (by exact HK.out) ?_
          rintro W8 hx8
          generalize w7.heap.size = G at *
          obtain ⟨y0, y1, y2, y3⟩ := hx8.y
          have c53 := hx8.px.mw.cell 53 rfl
          have c54 := hx8.px.mw.cell 54 rfl
          have c55 := hx8.px.mw.cell 55 rfl
          have HQ := Lib.hid hx8.drew
          clear HK hx8
          have HC := Lib.hid (fun W => Epo.cmpE_any (mkF f).e B.high W)
          obtain ⟨q, hq⟩ : ∃ q, q = decide (cmpE (mkF f).e B.high < 0) := ⟨_, rfl⟩
          have HQq := Lib.hid hq
          go_cut [66] (fun s wx => s = .bool q ∧ Hid (Kx w wx b B R f G (mkF f)))
          case first =>
            clear hq
            go_region_with ((go_at_call 31; refine (HC.out _).mono ?_; rintro e w9 ⟨rfl, hb9⟩; have HQ1 := Lib.hid (HQ.out.below hb9)))
            all_goals
              go_wp2
              go_meet
              exact ⟨by rw [HQq.out], Lib.hid HQ1.out⟩
          case rest =>
            obtain ⟨rfl, hr⟩ := hcut
            have HP := Lib.hid hr.out
            clear hr y0 y1 y2 y3 c53 c54 c55 HQ HC
            cases q
            rotate_left 1
            · have HV := Lib.hid (HR.out.trans (rest_low f (of_decide_eq_true hq.symm)))
              clear hq
              go_wp2
              go_end0
              exact ⟨rfl, by rw [HV.out]; exact (HP.out).does⟩
            have hnl : ¬ cmpE (epF f) B.high < 0 := of_decide_eq_false hq.symm
            clear hq
            obtain ⟨y0, y1, y2, y3⟩ := HP.out.y
            have HV := Lib.hid (HR.out.trans (rest_way f hnl HKK.out))
            clear hnl
            go_wp2_with fail
            refine (cGiveWay HP.out.px.mw (mkF f)).mono ?_
            rintro e w5 ⟨rfl, hm5, ho5⟩
            replace HP := Lib.hid (HP.out.turn hm5 ho5)
            clear hm5 ho5 y0 y1 y2 y3
            have x0 := HP.out.px.fx.box.at.at 0 rfl
            go_wp2
            go_end0
            exact ⟨rfl, by rw [HV.out]; exact (HP.out).does⟩
        · have ed2 : ((f.dst : Int) == (A.ad : Int)) = false := by rw [beq_eq_false_iff_ne]; omega
          have HBp : Hid (B = A) := Lib.hid (by rw [hB]; exact poll_n f (fun z => kd z.2))
          have e1 : (f.kind == 1) = false := by rw [beq_eq_false_iff_ne]; omega
          have e5 : (f.kind == 5) = false := by rw [beq_eq_false_iff_ne]; omega
          have HKK := Lib.hid (show ¬ (f.kind = 1 ∨ f.kind = 5) by omega)
          clear k2 kd hB
          go_quiet (fail)
          refine world_cut (G := fun W => Exit.then _ _ Exit.normal _ W) (fun W => Px w W b B R f) (by rw [HBp.out]; exact HP.out.drewN _) ?_
          rintro W3 hx3
          clear HP x0 x2 c0
          have HP := Lib.hid hx3
          clear hx3
          have hld := HP.out.fx.box.at.ld
          have hRlt := HP.out.fx.box.lt
          go_wp2_with fail
          refine (cMarkOf f _).mono ?_
          rintro e w7 ⟨rfl, hb7⟩
          have HK := Lib.hid (Kx.make (HP.out.below hb7) (mkF f))
          clear hld hb7 HP
          go_wp2
          refine world_cut (G := fun W => Code.wp _ _ _ _ W) (fun W => Kx w W b B R f w7.heap.size (mkF f)) (by exact HK.out) ?_
          rintro W8 hx8
          generalize w7.heap.size = G at *
          obtain ⟨y0, y1, y2, y3⟩ := hx8.y
          have c53 := hx8.px.mw.cell 53 rfl
          have c54 := hx8.px.mw.cell 54 rfl
          have c55 := hx8.px.mw.cell 55 rfl
          have HQ := Lib.hid hx8.drew
          clear HK hx8
          have HC := Lib.hid (fun W => Epo.cmpE_any (mkF f).e B.high W)
          obtain ⟨q, hq⟩ : ∃ q, q = decide (cmpE (mkF f).e B.high < 0) := ⟨_, rfl⟩
          have HQq := Lib.hid hq
          go_cut [66] (fun s wx => s = .bool q ∧ Hid (Kx w wx b B R f G (mkF f)))
          case first =>
            clear hq
            go_region_with ((go_at_call 31; refine (HC.out _).mono ?_; rintro e w9 ⟨rfl, hb9⟩; have HQ1 := Lib.hid (HQ.out.below hb9)))
            all_goals
              go_wp2
              go_meet
              exact ⟨by rw [HQq.out], Lib.hid HQ1.out⟩
          case rest =>
            obtain ⟨rfl, hr⟩ := hcut
            have HP := Lib.hid hr.out
            clear hr y0 y1 y2 y3 c53 c54 c55 HQ HC
            cases q
            rotate_left 1
            · have HV := Lib.hid (HR.out.trans (rest_low f (of_decide_eq_true hq.symm)))
              clear hq
              go_wp2
              go_end0
              exact ⟨rfl, by rw [HV.out]; exact (HP.out).does⟩
            have hnl : ¬ cmpE (epF f) B.high < 0 := of_decide_eq_false hq.symm
            clear hq
            obtain ⟨y0, y1, y2, y3⟩ := HP.out.y
            have HV := Lib.hid (HR.out.trans (rest_way f hnl HKK.out))
            clear hnl
            go_wp2_with fail
            refine (cGiveWay HP.out.px.mw (mkF f)).mono ?_
            rintro e w5 ⟨rfl, hm5, ho5⟩
            replace HP := Lib.hid (HP.out.turn hm5 ho5)
            clear hm5 ho5 y0 y1 y2 y3
            have x0 := HP.out.px.fx.box.at.at 0 rfl
            go_wp2
            go_end0
            exact ⟨rfl, by rw [HV.out]; exact (HP.out).does⟩
      · have e2 : (f.kind == 2) = false := by rw [beq_eq_false_iff_ne]; exact k2
        have HBp : Hid (B = A) := Lib.hid (by rw [hB]; exact poll_n f (fun z => k2 z.1))
        clear k2 hB
        go_quiet (fail)
        refine world_cut (G := fun W => Exit.then _ _ Exit.normal _ W) (fun W => Px w W b B R f) (by rw [HBp.out]; exact HP.out.drewN _) ?_
        rintro W3 hx3
        clear HP x0 x2 c0
        have HP := Lib.hid hx3
        clear hx3
        have hld := HP.out.fx.box.at.ld
        have hRlt := HP.out.fx.box.lt
        go_wp2_with fail
        refine (cMarkOf f _).mono ?_
        rintro e w7 ⟨rfl, hb7⟩
        have HK := Lib.hid (Kx.make (HP.out.below hb7) (mkF f))
        clear hld hb7 HP
        go_wp2
        refine world_cut (G := fun W => Code.wp _ _ _ _ W) (fun W => Kx w W b B R f w7.heap.size (mkF f)) (by exact HK.out) ?_
        rintro W8 hx8
        generalize w7.heap.size = G at *
        obtain ⟨y0, y1, y2, y3⟩ := hx8.y
        have c53 := hx8.px.mw.cell 53 rfl
        have c54 := hx8.px.mw.cell 54 rfl
        have c55 := hx8.px.mw.cell 55 rfl
        have HQ := Lib.hid hx8.drew
        clear HK hx8
        have HC := Lib.hid (fun W => Epo.cmpE_any (mkF f).e B.high W)
        obtain ⟨q, hq⟩ : ∃ q, q = decide (cmpE (mkF f).e B.high < 0) := ⟨_, rfl⟩
        have HQq := Lib.hid hq
        go_cut [66] (fun s wx => s = .bool q ∧ Hid (Kx w wx b B R f G (mkF f)))
        case first =>
          clear hq
          go_region_with ((go_at_call 31; refine (HC.out _).mono ?_; rintro e w9 ⟨rfl, hb9⟩; have HQ1 := Lib.hid (HQ.out.below hb9)))
          all_goals
            go_wp2
            go_meet
            exact ⟨by rw [HQq.out], Lib.hid HQ1.out⟩
        case rest =>
          obtain ⟨rfl, hr⟩ := hcut
          have HP := Lib.hid hr.out
          clear hr y0 y1 y2 y3 c53 c54 c55 HQ HC
          cases q
          rotate_left 1
          · have HV := Lib.hid (HR.out.trans (rest_low f (of_decide_eq_true hq.symm)))
            clear hq
            go_wp2
            go_end0
            exact ⟨rfl, by rw [HV.out]; exact (HP.out).does⟩
          have hnl : ¬ cmpE (epF f) B.high < 0 := of_decide_eq_false hq.symm
          clear hq
          obtain ⟨y0, y1, y2, y3⟩ := HP.out.y
          by_cases k1 : f.kind = 1
          · have HV := Lib.hid (HR.out.trans (rest_fol f hnl (by omega)))
            have HKd := Lib.hid k1
            clear hnl
            go_wp2_with fail
            refine (cGiveWay HP.out.px.mw (mkF f)).mono ?_
            rintro e w5 ⟨rfl, hm5, ho5⟩
            replace HP := Lib.hid (HP.out.turn hm5 ho5)
            clear hm5 ho5 y0 y1 y2 y3
            have x0 : w5.cell? ⟨R, 0, none⟩ = some (.int .i64 1) := by rw [HP.out.px.fx.box.at.at 0 rfl, HKd.out]
            obtain ⟨y0, y1, y2, y3⟩ := HP.out.y
            have hld := HP.out.px.fx.box.at.ld
            clear k1
            go_wp2_with fail
            refine (cFollow HP.out.px.mw f (mkF f) HBd.out.1 HBd.out.2.1 HBd.out.2.2.1 HBd.out.2.2.2).mono ?_
            rintro e w4 ⟨rfl, hm4, ho4⟩
            have HY := Lib.hid (HP.out.turn hm4 ho4)
            clear hm4 ho4
            go_wp2
            go_end0
            exact ⟨rfl, by rw [HV.out]; exact (HY.out).does⟩
          by_cases k5 : f.kind = 5
          · have HV := Lib.hid (HR.out.trans (rest_fol f hnl (by omega)))
            have HKd := Lib.hid k5
            clear hnl k1
            go_wp2_with fail
            refine (cGiveWay HP.out.px.mw (mkF f)).mono ?_
            rintro e w5 ⟨rfl, hm5, ho5⟩
            replace HP := Lib.hid (HP.out.turn hm5 ho5)
            clear hm5 ho5 y0 y1 y2 y3
            have x0 : w5.cell? ⟨R, 0, none⟩ = some (.int .i64 5) := by rw [HP.out.px.fx.box.at.at 0 rfl, HKd.out]
            obtain ⟨y0, y1, y2, y3⟩ := HP.out.y
            have hld := HP.out.px.fx.box.at.ld
            clear k5
            go_wp2_with fail
            refine (cFollow HP.out.px.mw f (mkF f) HBd.out.1 HBd.out.2.1 HBd.out.2.2.1 HBd.out.2.2.2).mono ?_
            rintro e w4 ⟨rfl, hm4, ho4⟩
            have HY := Lib.hid (HP.out.turn hm4 ho4)
            clear hm4 ho4
            go_wp2
            go_end0
            exact ⟨rfl, by rw [HV.out]; exact (HY.out).does⟩
          have HV := Lib.hid (HR.out.trans (rest_way f hnl (fun z => z.elim k1 k5)))
          clear hnl
          go_wp2_with fail
          refine (cGiveWay HP.out.px.mw (mkF f)).mono ?_
          rintro e w5 ⟨rfl, hm5, ho5⟩
          replace HP := Lib.hid (HP.out.turn hm5 ho5)
          clear hm5 ho5 y0 y1 y2 y3
          have x0 := HP.out.px.fx.box.at.at 0 rfl
          have e1 : (f.kind == 1) = false := by rw [beq_eq_false_iff_ne]; exact k1
          have e5 : (f.kind == 5) = false := by rw [beq_eq_false_iff_ne]; exact k5
          clear k1 k5
          go_wp2
          go_end0
          exact ⟨rfl, by rw [HV.out]; exact (HP.out).does⟩
end Go.Proofs.YtedlfognpbbhhaaGreatDoor.Ma
