/-
  A tick: walked. Conditions: as each states.
-/
import Derived.Test.YtedlfognpbbhhaaGreatDoorMaK
namespace Go.Proofs.YtedlfognpbbhhaaGreatDoor.Ma
open Go.RowKit
open Go.Proofs.YtedlfognpbbhhaaGreatDoor.Epo (Ep cmpE newB maxE numE numM)
open Go.Proofs.YtedlfognpbbhhaaGreatDoor.Mem (St withB woB hasB passB nextI turnI gapB sv)
open Go.Proofs.YtedlfognpbbhhaaGreatDoor.Frm (Fr world_cut)
attribute [local go_sem ↓] exec_ldF exec_stF exec_bdF
attribute [local go_sem] bdF_5 bdF_9 bdF_0 stF_new0

variable {b : Nat} {M : Mc} {w : World}
set_option maxRecDepth 100000 in
set_option maxHeartbeats 2000000 in
theorem cAct {n : Int} (h : Mw w b M) (ok : Ok n M) (hn : n ≤ 1000000000) (hi lo : Int) : Calls Tryz.prog 27 #[.pointer (some ⟨b, 0, none⟩), .int .i64 hi, .int .i64 lo] w (Gives w b (actR M hi lo)) := by
  have HX := Lib.hid (Px.first h noF)
  have hlt := h.lt
  have c93 := h.cell 93 rfl
  cases hp : M.polled
  · have HR := Lib.hid (show actR M hi lo = goOnR M hi lo by unfold actR; rw [if_neg (by rw [hp]; decide)])
    obtain ⟨r, hr⟩ : ∃ r, r = goOnR M hi lo := ⟨_, rfl⟩
    rw [← hr] at HR
    have HC : Hid (∀ W, Mw W b M → Calls Tryz.prog 36 #[.pointer (some ⟨b, 0, none⟩), .int .i64 hi, .int .i64 lo] W (Gives W b r)) := Lib.hid (fun W k => by rw [hr]; exact cGoOn k ok hn hi lo)
    rw [hp] at c93
    clear h ok hn hp hr
    go_enter Tryz.func27, Tryz.ntmps27
    go_wp2_with fail
    refine world_cut (G := fun W => Calls _ _ _ W _) (fun W => Px w W b M w.heap.size noF) (by exact HX.out) ?_
    rintro W hx
    clear hlt c93
    generalize w.heap.size = R at *
    refine (HC.out _ hx.mw).mono ?_
    rintro e w9 ⟨rfl, hm9, ho9⟩
    have HY := Lib.hid ((hx.turn hm9 ho9).put r.f)
    have hst := (hx.turn hm9 ho9).fx.box.st r.f
    clear HX hx hm9 ho9 HC
    go_wp2
    refine bodyPost_ret (results_F Tryz.results27 _ _ R (r.f) (.int .i64 (r.k)) rfl rfl HY.out.fx.box.at) rfl ?_
    rw [HR.out]
    exact ⟨rfl, HY.out.does⟩
  · have HR := Lib.hid (show actR M hi lo = ⟨{ M with polled := false }, statF M, 1⟩ by unfold actR; rw [if_pos hp])
    have had := ok.ad
    rw [hp] at c93
    clear h ok hn hp
    go_enter Tryz.func27, Tryz.ntmps27
    go_wp2_with fail
    refine world_cut (G := fun W => Calls _ _ _ W _) (fun W => Px w W b M w.heap.size noF) (by exact HX.out) ?_
    rintro W hx
    clear hlt c93
    generalize w.heap.size = R at *
    refine (cStatus hx.mw had).mono ?_
    rintro e w9 ⟨rfl, hm9, ho9⟩
    have HY := Lib.hid ((hx.turn hm9 ho9).put (statF M))
    have hst := (hx.turn hm9 ho9).fx.box.st (statF M)
    clear HX hx hm9 ho9
    go_wp2
    refine bodyPost_ret (results_F Tryz.results27 _ _ R (statF M) (.int .i64 (1)) rfl rfl HY.out.fx.box.at) rfl ?_
    rw [HR.out]
    exact ⟨rfl, HY.out.does⟩
theorem Ok.tick {n : Int} (h : Ok n M) : Ok (n + 1) (tickM M) :=
  ⟨h.ad, h.sl, h.gp, by have := h.clock; show 0 ≤ M.clock + 1 ∧ M.clock + 1 ≤ n + 1; omega, by have := h.silence; show 0 ≤ M.silence + 1 ∧ M.silence + 1 ≤ n + 1; omega, by have := h.timer; show 0 ≤ M.timer + 1 ∧ M.timer + 1 ≤ n + 1; omega,
    by have := h.visits; show 0 ≤ M.visits ∧ M.visits ≤ n + 1; omega, by have := h.arrived; show 0 ≤ M.arrived ∧ M.arrived ≤ M.clock + 1; omega, by have := h.rot; show 0 ≤ M.rot ∧ M.rot ≤ n + 1; omega,
    by have := h.tries; show 0 ≤ M.tries ∧ M.tries ≤ n + 1; omega, h.part, h.p8, h.ask, h.high, h.tok⟩
set_option maxRecDepth 100000 in
set_option maxHeartbeats 2000000 in
theorem cTick {n : Int} (h : Mw w b M) (ok : Ok n M) (hn : n + 1 ≤ 1000000000) (hi lo : Int) : Calls Tryz.prog 14 #[.pointer (some ⟨b, 0, none⟩), .int .i64 hi, .int .i64 lo] w (Gives w b (tickR M hi lo)) := by
  have hlt := h.lt
  have c10 := h.cell 10 rfl
  by_cases hs : M.st = 0
  · have HX := Lib.hid (Px.first h noF)
    have HR := Lib.hid (show tickR M hi lo = nothing M by unfold tickR; rw [if_pos hs])
    rw [hs] at c10
    clear h ok hn hs
    go_enter Tryz.func14, Tryz.ntmps14
    go_wp2
    have HY : Hid (Px w (w.alloc (.cells (frA noF) 38)) b M w.heap.size noF) := HX
    generalize w.heap.size = R at *
    refine bodyPost_ret (results_F Tryz.results14 _ _ R (noF) (.int .i64 (0)) rfl rfl HY.out.fx.box.at) rfl ?_
    rw [HR.out]
    exact ⟨rfl, HY.out.does⟩
  · have e0 : (M.st == 0) = false := by simpa using hs
    have e1 : IntKind.i64.wrap (M.clock + 1) = M.clock + 1 := by have := ok.clock; rw [IntKind.wrap_i64]; omega
    have e2 : IntKind.i64.wrap (M.silence + 1) = M.silence + 1 := by have := ok.silence; rw [IntKind.wrap_i64]; omega
    have e3 : IntKind.i64.wrap (M.timer + 1) = M.timer + 1 := by have := ok.timer; rw [IntKind.wrap_i64]; omega
    obtain ⟨A, hA⟩ : ∃ A, A = tickM M := ⟨_, rfl⟩
    obtain ⟨r, hr⟩ : ∃ r, r = actR A hi lo := ⟨_, rfl⟩
    have HX := Lib.hid (Px.firstS h _ (h.sets (M' := A) [(14, .int .i64 (M.clock + 1)), (15, .int .i64 (M.silence + 1)), (16, .int .i64 (M.timer + 1))] (by rw [hA]; rfl)) noF)
    have HR0 := Lib.hid (show tickR M hi lo = quiet r by unfold tickR; rw [if_neg hs, hr, hA])
    have HC : Hid (∀ W, Mw W b A → Calls Tryz.prog 27 #[.pointer (some ⟨b, 0, none⟩), .int .i64 hi, .int .i64 lo] W (Gives W b r)) := Lib.hid (fun W k => by rw [hr]; exact cAct k (by rw [hA]; exact ok.tick) hn hi lo)
    have c14 := h.cell 14 rfl
    have c15 := h.cell 15 rfl
    have c16 := h.cell 16 rfl
    have f14 := h.free 14
    have f15 := h.free 15
    have f16 := h.free 16
    clear h ok hn hs hA hr
    go_enter Tryz.func14, Tryz.ntmps14
    go_wp2_with fail
    refine world_cut (G := fun W => Calls _ _ _ W _) (fun W => Px w W b A w.heap.size noF) (by exact HX.out) ?_
    rintro W hx
    clear hlt c10 c14 c15 c16 f14 f15 f16
    generalize w.heap.size = R at *
    refine (HC.out _ hx.mw).mono ?_
    rintro e w9 ⟨rfl, hm9, ho9⟩
    have HQ := Lib.hid (hx.turn hm9 ho9)
    have hRlt := HQ.out.fx.box.lt
    have hblt := hm9.lt
    by_cases hk : r.k = 0
    · have e4 : (r.k != 0) = false := by rw [hk]; rfl
      have HR := Lib.hid (HR0.out.trans (show quiet r = r by unfold quiet; rw [if_pos hk]))
      have hld := (FrOwn.new w9 r.f).at.ld
      have HQ3 := Lib.hid (HQ.out.alloc (.cells (frA r.f) 38))
      have HY := Lib.hid (HQ3.out.put r.f)
      have hst := HQ3.out.fx.box.st r.f
      clear HX hx hm9 ho9 HC HQ HQ3 hk
      go_wp2
      refine bodyPost_ret (results_F Tryz.results14 _ _ R (r.f) (.int .i64 (r.k)) rfl rfl HY.out.fx.box.at) rfl ?_
      rw [HR.out]
      exact ⟨rfl, HY.out.does⟩
    · have e4 : (r.k != 0) = true := by rw [bne_iff_ne]; exact hk
      have HR := Lib.hid (HR0.out.trans (show quiet r = ⟨{ r.m with silence := 0 }, r.f, r.k⟩ by unfold quiet; rw [if_neg hk]))
      have c15 := hm9.cell 15 rfl
      have f15 := hm9.free 15
      have HQ2 := Lib.hid (HQ.out.sets (M' := { r.m with silence := 0 }) [(15, .int .i64 0)] rfl)
      have hn := FrOwn.new (setL w9 b [(15, .int .i64 0)]) r.f
      rw [setL_size] at hn
      have hld := hn.at.ld
      have HQ3 := Lib.hid (HQ2.out.alloc (.cells (frA r.f) 38))
      have HY := Lib.hid (HQ3.out.put r.f)
      have hst := HQ3.out.fx.box.st r.f
      unfold setL setL at hld hst
      clear HX hx hm9 ho9 HC HQ HQ2 HQ3 hk hn
      go_wp2
      refine bodyPost_ret (results_F Tryz.results14 _ _ R (r.f) (.int .i64 (r.k)) rfl rfl HY.out.fx.box.at) rfl ?_
      rw [HR.out]
      exact ⟨rfl, HY.out.does⟩
end Go.Proofs.YtedlfognpbbhhaaGreatDoor.Ma
