/-
  Passing, asking, answering, minting, hopping: walked. Conditions: as each states.
-/
import Derived.Test.YtedlfognpbbhhaaGreatDoorMaB
namespace Go.Proofs.YtedlfognpbbhhaaGreatDoor.Ma
open Go.RowKit
open Go.Proofs.YtedlfognpbbhhaaGreatDoor.Epo (Ep cmpE newB maxE numE numM)
open Go.Proofs.YtedlfognpbbhhaaGreatDoor.Mem (St withB woB hasB passB nextI turnI gapB sv)
open Go.Proofs.YtedlfognpbbhhaaGreatDoor.Frm (Fr world_cut)
attribute [local go_sem ↓] exec_ldF exec_stF exec_bdF
attribute [local go_sem] bdF_5 bdF_9 bdF_0 stF_new0

variable {b : Nat} {M : Mc} {w : World}
set_option maxRecDepth 100000 in
set_option maxHeartbeats 2000000 in
theorem cAskF (h : Mw w b M) (had : M.ad < 32) (p : Nat) (hp2 : p < 32) (s : Int) : Calls Tryz.prog 93 #[.pointer (some ⟨b, 0, none⟩), .int .i64 p, .int .i64 s] w (Does w b (.agg (frA (toF M 2 p (M.kn p)))) { M with st := s, timer := 0, partner := p, answered := false }) := by
  have HX := Lib.hid (Px.first h noF)
  obtain ⟨A, hA⟩ : ∃ A, A = { M with st := s, timer := 0, partner := (p : Int), answered := false } := ⟨_, rfl⟩
  have HA : Hid (Px w ((setL w b [(10, .int .i64 s), (16, .int .i64 0), (68, .int .i64 p), (71, .bool false)]).alloc (.cells (frA noF) 38)) b A w.heap.size noF) := Lib.hid (by
    have k := h.sets (M' := A) [(10, .int .i64 s), (16, .int .i64 0), (68, .int .i64 p), (71, .bool false)] (by rw [hA]; rfl)
    exact Px.firstS h _ k noF)
  have HT := Lib.hid (fun W (hm : Mw W b A) => cTo hm (by rw [hA]; exact had) 2 p (M.kn p) (by omega))
  have HF := Lib.hid (show toF M 2 p (M.kn p) = toF A 2 p (M.kn p) by rw [hA]; rfl)
  have HK := Lib.hid (macL_known M p hp2)
  rw [← hA, HF.out]
  have hlt := h.lt
  have c10 := h.cell 10 rfl
  have c16 := h.cell 16 rfl
  have c68 := h.cell 68 rfl
  have c71 := h.cell 71 rfl
  have f10 := h.free 10
  have f16 := h.free 16
  have f68 := h.free 68
  have f71 := h.free 71
  have ck := h.cell (21 + p) HK.out
  clear h had HF hA HK
  generalize toF A 2 p (M.kn p) = F at *
  go_enter Tryz.func93, Tryz.ntmps93
  go_wp2_with fail
  refine world_cut (G := fun W => Calls _ _ _ W _) (fun W => Px w W b A w.heap.size noF) (by exact HA.out) ?_
  rintro W hx
  generalize w.heap.size = R at *
  refine (HT.out _ hx.mw).mono ?_
  rintro e w2 ⟨rfl, hb2⟩
  have HY := Lib.hid ((hx.below hb2).put F)
  have hst := (hx.below hb2).fx.box.st F
  clear HX hx hb2 HA
  go_wp2
  refine bodyPost_ret (results_F1 Tryz.results93 _ _ R _ rfl HY.out.fx.box.at) rfl ⟨rfl, HY.out.does⟩
set_option maxRecDepth 100000 in
set_option maxHeartbeats 2000000 in
theorem cStatus (h : Mw w b M) (had : M.ad < 32) : Calls Tryz.prog 35 #[.pointer (some ⟨b, 0, none⟩)] w (Does w b (.agg (frA (statF M))) { M with polled := false }) := by
  have HX := Lib.hid (Px.first h noF)
  have ew : IntKind.u8.wrap (M.ad : Int) = M.ad := by rw [IntKind.wrap_u8]; omega
  have HV : Hid (∀ W R, FrOwn W R noF → stF (.pointer (some ⟨R, 0, none⟩)) (.agg #[.int .i64 3, .int .u8 M.ad, .int .u8 M.poll.src, .int .u16 M.inc, .int .u16 M.poll.sinc, .int .u16 M.poll.ec, .int .u8 M.poll.ea, .int .u16 M.poll.ei, .int .u16 M.poll.hop, .int .u16 M.high.c, .int .u8 M.high.a, .int .u16 M.high.i, .bool M.wants, .int .u8 0, .int .u16 0, .int .u32 0, .int .u8 0, .int .u8 0, .string ⟨#[]⟩]) W = .ok .skip (W.setCells R 0 (frC (statF M)))) :=
    Lib.hid (fun W R h => h.st (statF M))
  obtain ⟨A, hA⟩ : ∃ A, A = { M with polled := false } := ⟨_, rfl⟩
  have HA : Hid (Px w ((setL w b [(93, .bool false)]).alloc (.cells (frA noF) 38)) b A w.heap.size noF) := Lib.hid (by
    have k := h.sets (M' := A) [(93, .bool false)] (by rw [hA]; rfl)
    exact Px.firstS h _ k noF)
  have HC : Hid (∀ W, Mw W b A → W.cell? ⟨b, 0, none⟩ = some (.int .i64 M.ad) ∧ W.cell? ⟨b, 1, none⟩ = some (.int .u16 M.inc) ∧ W.cell? ⟨b, 11, none⟩ = some (.bool M.wants) ∧ W.cell? ⟨b, 53, none⟩ = some (.int .u16 M.high.c) ∧ W.cell? ⟨b, 54, none⟩ = some (.int .u8 M.high.a) ∧ W.cell? ⟨b, 55, none⟩ = some (.int .u16 M.high.i) ∧ W.cell? ⟨b, 75, none⟩ = some (.int .u8 M.poll.src) ∧ W.cell? ⟨b, 77, none⟩ = some (.int .u16 M.poll.sinc) ∧ W.cell? ⟨b, 79, none⟩ = some (.int .u16 M.poll.ec) ∧ W.cell? ⟨b, 80, none⟩ = some (.int .u8 M.poll.ea) ∧ W.cell? ⟨b, 81, none⟩ = some (.int .u16 M.poll.ei) ∧ W.cell? ⟨b, 82, none⟩ = some (.int .u16 M.poll.hop)) := Lib.hid (fun W k => by subst hA; exact ⟨k.cell 0 rfl, k.cell 1 rfl, k.cell 11 rfl, k.cell 53 rfl, k.cell 54 rfl, k.cell 55 rfl, k.cell 75 rfl, k.cell 77 rfl, k.cell 79 rfl, k.cell 80 rfl, k.cell 81 rfl, k.cell 82 rfl⟩)
  rw [← hA]
  have hlt := h.lt
  have c93 := h.cell 93 rfl
  have f93 := h.free 93
  clear h had hA
  generalize statF M = F at *
  go_enter Tryz.func35, Tryz.ntmps35
  go_wp2
  refine world_cut (G := fun W => Code.wp _ _ _ _ W) (fun W => Px w W b A w.heap.size noF) (by exact HA.out) ?_
  rintro W hx
  generalize w.heap.size = R at *
  obtain ⟨c0, c1, c11, c53, c54, c55, c75, c77, c79, c80, c81, c82⟩ := HC.out W hx.mw
  have hst := HV.out W.drew R hx.fx.box
  have HY := Lib.hid (hx.drew.put F)
  clear HX hx c93 f93
  go_region
  go_wp2
  refine bodyPost_ret (results_F1 Tryz.results35 _ _ R F rfl HY.out.fx.box.at) rfl ⟨rfl, HY.out.does⟩
end Go.Proofs.YtedlfognpbbhhaaGreatDoor.Ma
