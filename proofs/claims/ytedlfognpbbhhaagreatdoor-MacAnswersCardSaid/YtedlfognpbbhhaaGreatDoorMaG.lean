/-
  Skipping, passing anew, asking: walked. Conditions: as each states.
-/
import Derived.Test.YtedlfognpbbhhaaGreatDoorMaC
import Derived.Test.YtedlfognpbbhhaaGreatDoorMaD
import Derived.Test.YtedlfognpbbhhaaGreatDoorMaF
namespace Go.Proofs.YtedlfognpbbhhaaGreatDoor.Ma
open Go.RowKit
open Go.Proofs.YtedlfognpbbhhaaGreatDoor.Epo (Ep cmpE newB maxE numE numM)
open Go.Proofs.YtedlfognpbbhhaaGreatDoor.Mem (St withB woB hasB passB nextI turnI gapB sv)
open Go.Proofs.YtedlfognpbbhhaaGreatDoor.Frm (Fr world_cut)
attribute [local go_sem ↓] exec_ldF exec_stF exec_bdF
attribute [local go_sem] bdF_5 bdF_9 bdF_0 stF_new0

variable {b : Nat} {M : Mc} {w : World}
theorem tells_of {f : FuncId} {args : Array Value} {v : Value} (h : Calls Tryz.prog f args w fun e w' => e = .returned v ∧ ∃ m, w' = w.drewN m) : Calls Tryz.prog f args w (Tells v w) :=
  h.mono fun _ _ ⟨he, m, hm⟩ => ⟨he, by rw [hm]; exact below_drewN _ _ _⟩
set_option maxRecDepth 100000 in
set_option maxHeartbeats 2000000 in
theorem cSkip_yes (h : Mw w b M) (had : M.ad < 32) (hm : mintB M = true) : Calls Tryz.prog 59 #[.pointer (some ⟨b, 0, none⟩)] w (Does w b (.bool true) (newM (skipM M))) := by
  have HM := Lib.hid (fun W (k : Mw W b (skipM M)) => cMint_yes k had hm)
  have HC := Lib.hid (fun W => Mem.Without_any M.list M.partner W)
  have c20 := h.cell 20 rfl
  have c68 := h.cell 68 rfl
  have f20 := h.free 20
  have HW := Lib.hid h
  clear h had hm
  go_enter Tryz.func59, Tryz.ntmps59
  go_wp2
  go_region_with ((go_at_call 40; refine (HC.out _).mono ?_; rintro e w1 ⟨rfl, rfl⟩))
  all_goals
    refine world_cut (G := fun W => Exit.then _ _ Exit.normal _ W) (fun W => Mw W b (skipM M) ∧ OnlyL [b] w W) (by exact finD HW.out [(20, _)] rfl) ?_
    rintro W hB
    have HB := Lib.hid hB
    clear hB c20 c68 f20
    go_wp2_with fail
    refine (HM.out _ HB.out.1).mono ?_
    rintro e w2 ⟨rfl, hm2⟩
    have HZ := Lib.hid (⟨hm2.1, HB.out.2.tr hm2.2⟩ : _ ∧ _)
    clear hm2 HB
    go_wp2
    go_ret
    exact ⟨rfl, HZ.out⟩
set_option maxRecDepth 100000 in
set_option maxHeartbeats 2000000 in
theorem cSkip_no (h : Mw w b M) (had : M.ad < 32) (hc : M.high.c ≤ 65535) (hm : mintB M = false) : Calls Tryz.prog 59 #[.pointer (some ⟨b, 0, none⟩)] w (Does w b (.bool false) (offM (skipM M))) := by
  have HM := Lib.hid (fun W (k : Mw W b (skipM M)) => cMint_no k had hc hm)
  have HC := Lib.hid (fun W => Mem.Without_any M.list M.partner W)
  have c20 := h.cell 20 rfl
  have c68 := h.cell 68 rfl
  have f20 := h.free 20
  have HW := Lib.hid h
  clear h had hc hm
  go_enter Tryz.func59, Tryz.ntmps59
  go_wp2
  go_region_with ((go_at_call 40; refine (HC.out _).mono ?_; rintro e w1 ⟨rfl, rfl⟩))
  all_goals
    refine world_cut (G := fun W => Exit.then _ _ Exit.normal _ W) (fun W => Mw W b (skipM M) ∧ OnlyL [b] w W) (by exact finD HW.out [(20, _)] rfl) ?_
    rintro W hB
    have HB := Lib.hid hB
    clear hB c20 c68 f20
    go_wp2_with fail
    refine (HM.out _ HB.out.1).mono ?_
    rintro e w2 ⟨rfl, hm2⟩
    have HZ := Lib.hid (⟨hm2.1, HB.out.2.tr hm2.2⟩ : _ ∧ _)
    clear hm2 HB
    go_wp2
    go_ret
    exact ⟨rfl, HZ.out⟩
set_option maxRecDepth 100000 in
set_option maxHeartbeats 2000000 in
theorem cPassAnew (h : Mw w b M) (had : M.ad < 32) (p : Nat) (hp : M.partner = p) (hp2 : p < 256) (ht : 0 ≤ M.tries ∧ M.tries ≤ 1000000000) : Calls Tryz.prog 58 #[.pointer (some ⟨b, 0, none⟩)] w (Does w b (.agg (frA (passF M))) { M with tries := M.tries + 1, timer := 0 }) := by
  have ew : IntKind.i64.wrap (M.tries + 1) = M.tries + 1 := by rw [IntKind.wrap_i64]; omega
  obtain ⟨A, hA⟩ : ∃ A, A = { M with tries := M.tries + 1, timer := 0 } := ⟨_, rfl⟩
  have HA : Hid (Px w ((setL w b [(70, .int .i64 (M.tries + 1)), (16, .int .i64 0)]).alloc (.cells (frA noF) 38)) b A w.heap.size noF) := Lib.hid (by
    have k := h.sets (M' := A) [(70, .int .i64 (M.tries + 1)), (16, .int .i64 0)] (by rw [hA]; rfl)
    exact Px.firstS h _ k noF)
  have HT := Lib.hid (fun W (hm : Mw W b A) => cPassing hm (by rw [hA]; exact had) p (by rw [hA]; exact hp) hp2)
  have HF := Lib.hid (show passF A = passF M by rw [hA]; rfl)
  rw [← hA, ← HF.out]
  have hlt := h.lt
  have c70 := h.cell 70 rfl
  have c16 := h.cell 16 rfl
  have f70 := h.free 70
  have f16 := h.free 16
  clear h had hp hp2 ht HF hA
  generalize passF A = F at *
  go_enter Tryz.func58, Tryz.ntmps58
  go_wp2_with fail
  refine world_cut (G := fun W => Calls _ _ _ W _) (fun W => Px w W b A w.heap.size noF) (by exact HA.out) ?_
  rintro W hx
  generalize w.heap.size = R at *
  refine (HT.out _ hx.mw).mono ?_
  rintro e w2 ⟨rfl, hm2, ho2⟩
  have HY := Lib.hid ((hx.turn hm2 ho2).put F)
  have hst := (hx.turn hm2 ho2).fx.box.st F
  clear hx hm2 ho2 HA
  go_wp2
  refine bodyPost_ret (results_F1 Tryz.results58 _ _ R _ rfl HY.out.fx.box.at) rfl ⟨rfl, HY.out.does⟩
set_option maxRecDepth 100000 in
set_option maxHeartbeats 2000000 in
theorem cSelf (h : Mw w b M) (had : M.ad < 32) (h1 : 0 ≤ M.arrived ∧ M.arrived ≤ M.clock) (h2 : M.clock ≤ 1000000000) (h3 : 0 ≤ M.visits ∧ M.visits ≤ 1000000000) : Calls Tryz.prog 76 #[.pointer (some ⟨b, 0, none⟩)] w (Does w b (.agg (frA (toF (selfM M) 1 M.ad M.inc))) (selfM M)) := by
  have HX := Lib.hid (Px.first h noF)
  have HA := Lib.hid (fun W (k : Mw W b (marksM M)) => cArrive k h1 h2 h3)
  have HT := Lib.hid (fun W (k : Mw W b (selfM M)) => cTo k had 1 M.ad M.inc (by omega))
  clear h had h1 h2 h3
  generalize toF (selfM M) 1 M.ad M.inc = F at *
  go_enter Tryz.func76, Tryz.ntmps76
  go_wp2_with fail
  refine world_cut (G := fun W => Calls _ _ _ W _) (fun W => Px w W b M w.heap.size noF) (by exact HX.out) ?_
  rintro W hx
  generalize w.heap.size = R at *
  refine (cMarks hx.mw).mono ?_
  rintro e w1 ⟨rfl, hm1, ho1⟩
  have HQ1 := Lib.hid (hx.turn hm1 ho1)
  clear HX hx hm1 ho1
  go_wp2_with fail
  refine (HA.out _ HQ1.out.mw).mono ?_
  rintro e w2 ⟨rfl, hm2, ho2⟩
  have c0 : w2.cell? ⟨b, 0, none⟩ = some (.int .i64 M.ad) := hm2.cell 0 rfl
  have c1 : w2.cell? ⟨b, 1, none⟩ = some (.int .u16 M.inc) := hm2.cell 1 rfl
  have HQ := Lib.hid (HQ1.out.turn hm2 ho2).drew
  clear HQ1 hm2 ho2 HA
  go_wp2
  go_region_with ((go_at_call 92; refine (HT.out _ HQ.out.mw).mono ?_; rintro e w3 ⟨rfl, hb3⟩; have HY := Lib.hid ((HQ.out.below hb3).put F); have hst := (HQ.out.below hb3).fx.box.stc F))
  all_goals
    go_wp2
    refine bodyPost_ret (results_F1 Tryz.results76 _ _ R _ rfl HY.out.fx.box.at) rfl ⟨rfl, HY.out.does⟩
set_option maxRecDepth 100000 in
set_option maxHeartbeats 2000000 in
theorem cAskWished (h : Mw w b M) (had : M.ad < 32) (p : Nat) (hp : M.ask = p) (hp2 : p < 32) : Calls Tryz.prog 78 #[.pointer (some ⟨b, 0, none⟩)] w (Does w b (.agg (frA (toF M 2 p (M.kn p)))) { M with ask := -1, st := 5, timer := 0, partner := p, answered := false }) := by
  obtain ⟨A, hA⟩ : ∃ A, A = { M with ask := -1 } := ⟨_, rfl⟩
  have HA : Hid (Px w ((setL w b [(73, .int .i64 (-1))]).alloc (.cells (frA noF) 38)) b A w.heap.size noF) := Lib.hid (by
    have k := h.sets (M' := A) [(73, .int .i64 (-1))] (by rw [hA]; rfl)
    exact Px.firstS h _ k noF)
  have HT := Lib.hid (fun W (hm : Mw W b A) => cAskF hm (by rw [hA]; exact had) p hp2 5)
  have HF := Lib.hid (show toF M 2 p (M.kn p) = toF A 2 p (A.kn p) by rw [hA]; rfl)
  have HG := Lib.hid (show { M with ask := -1, st := 5, timer := 0, partner := (p : Int), answered := false } = { A with st := 5, timer := 0, partner := (p : Int), answered := false } by rw [hA])
  rw [HF.out, HG.out]
  have hlt := h.lt
  have c73 : w.cell? ⟨b, 73, none⟩ = some (.int .i64 p) := by rw [h.cell 73 rfl, hp]
  have f73 := h.free 73
  clear h had hp hp2 HF HG hA
  generalize toF A 2 p (A.kn p) = F at *
  generalize { A with st := 5, timer := 0, partner := (p : Int), answered := false } = A2 at *
  go_enter Tryz.func78, Tryz.ntmps78
  go_wp2_with fail
  refine world_cut (G := fun W => Calls _ _ _ W _) (fun W => Px w W b A w.heap.size noF) (by exact HA.out) ?_
  rintro W hx
  generalize w.heap.size = R at *
  refine (HT.out _ hx.mw).mono ?_
  rintro e w2 ⟨rfl, hm2, ho2⟩
  have HY := Lib.hid ((hx.turn hm2 ho2).put F)
  have hst := (hx.turn hm2 ho2).fx.box.st F
  clear hx hm2 ho2 HA
  go_wp2
  refine bodyPost_ret (results_F1 Tryz.results78 _ _ R _ rfl HY.out.fx.box.at) rfl ⟨rfl, HY.out.does⟩
set_option maxRecDepth 100000 in
set_option maxHeartbeats 2000000 in
theorem cAskInGap (h : Mw w b M) (had : M.ad < 32) (p : Nat) (hp : turnM M = p) (hp2 : p < 32) : Calls Tryz.prog 80 #[.pointer (some ⟨b, 0, none⟩)] w (Does w b (.agg (frA (toF M 2 p (M.kn p)))) { M with last := p, st := 9, timer := 0, partner := p, answered := false }) := by
  have HX := Lib.hid (Px.first h noF)
  obtain ⟨A, hA⟩ : ∃ A, A = { M with last := (p : Int) } := ⟨_, rfl⟩
  have HT := Lib.hid (fun W (hm : Mw W b A) => cAskF hm (by rw [hA]; exact had) p hp2 9)
  have HF := Lib.hid (show toF M 2 p (M.kn p) = toF A 2 p (A.kn p) by rw [hA]; rfl)
  have HG := Lib.hid (show { M with last := (p : Int), st := 9, timer := 0, partner := (p : Int), answered := false } = { A with st := 9, timer := 0, partner := (p : Int), answered := false } by rw [hA])
  rw [HF.out, HG.out]
  have HS : Hid (∀ W R, Px w W b M R noF → Px w (setL W b [(72, .int .i64 p)]) b A R noF) := Lib.hid (fun W R k => by rw [hA]; exact k.sets _ rfl)
  have HL : Hid (∀ W, Mw W b A → W.cell? ⟨b, 72, none⟩ = some (.int .i64 p)) := Lib.hid (fun W k => by subst hA; exact k.cell 72 rfl)
  obtain ⟨z, hz⟩ : ∃ z, Hid (Mem.ans (turnI (gapM M) M.last) = .tuple #[.int .i64 p, .bool z]) := ⟨_, Lib.hid (by rw [← hp]; rfl)⟩
  have HU : Hid (∀ W, Mw W b M → Calls Tryz.prog 95 #[sv (gapM M), .int .i64 M.last] W fun e w' => e = .returned (.tuple #[.int .i64 p, .bool z]) ∧ W = w') := Lib.hid (fun W k => by rw [← hz.out]; exact Mem.Turn_any _ _ W k.tz)
  clear h had hp hp2 HF HG hA hz
  generalize toF A 2 p (A.kn p) = F at *
  generalize { A with st := 9, timer := 0, partner := (p : Int), answered := false } = A2 at *
  go_enter Tryz.func80, Tryz.ntmps80
  go_wp2
  refine world_cut (G := fun W => Code.wp _ _ _ _ W) (fun W => Px w W b M w.heap.size noF) (by exact HX.out) ?_
  rintro W hx
  generalize w.heap.size = R at *
  have c72 := hx.mw.cell 72 rfl
  have HQ := Lib.hid hx.drew
  clear HX hx
  go_region_with ((first | (go_at_call 79; refine (tells_of (cGap HQ.out.mw)).mono ?_; rintro e w1 ⟨rfl, hb1⟩; have HQ1 := Lib.hid (HQ.out.below hb1); have k72 := HQ1.out.mw.cell 72 rfl) | (go_at_call 95; refine (HU.out _ HQ1.out.mw).mono ?_; rintro e w2 ⟨rfl, rfl⟩; have f72 := HQ1.out.mw.free 72)))
  all_goals
    refine world_cut (G := fun W => Exit.then _ _ Exit.normal _ W) (fun W => Px w W b A R noF) (by exact HS.out _ _ HQ1.out) ?_
    rintro W2 hx2
    have e72 := HL.out _ hx2.mw
    have HX2 := Lib.hid hx2
    clear hx2 c72 k72 f72 HQ HQ1
    go_wp2_with fail
    refine (HT.out _ HX2.out.mw).mono ?_
    rintro e w3 ⟨rfl, hm3, ho3⟩
    have HY := Lib.hid ((HX2.out.turn hm3 ho3).put F)
    have hst := (HX2.out.turn hm3 ho3).fx.box.st F
    clear hm3 ho3 HX2
    go_wp2
    refine bodyPost_ret (results_F1 Tryz.results80 _ _ R _ rfl HY.out.fx.box.at) rfl ⟨rfl, HY.out.does⟩
end Go.Proofs.YtedlfognpbbhhaaGreatDoor.Ma
