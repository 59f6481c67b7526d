/-
  Small and awake: walked. Conditions: the library's table of lowest bits is as the program lays it.
-/
import Derived.Test.YtedlfognpbbhhaaGreatDoorMaL
import Derived.Test.YtedlfognpbbhhaaGreatDoorMaR
namespace Go.Proofs.YtedlfognpbbhhaaGreatDoor.Ma
open Go.RowKit
open Go.Proofs.YtedlfognpbbhhaaGreatDoor.Epo (Ep cmpE newB maxE numE numM)
open Go.Proofs.YtedlfognpbbhhaaGreatDoor.Mem (St withB woB hasB passB nextI turnI gapB sv)
open Go.Proofs.YtedlfognpbbhhaaGreatDoor.Frm (Fr world_cut)
attribute [local go_sem ↓] exec_ldF exec_stF exec_bdF
attribute [local go_sem] bdF_5 bdF_9 bdF_0 stF_new0

set_option maxRecDepth 100000 in
theorem cSmall (w : World) : Calls Tryz.prog 9 #[] w (Tells (.agg #[.int .i64 4, .int .i64 10, .int .i64 1, .int .i64 0, .int .i64 100, .int .i64 5, .slice none 0 0, .slice none 0 0]) w) := by
  have HB := Lib.hid (one_S w #[.int .i64 4, .int .i64 10, .int .i64 1, .int .i64 0, .int .i64 100, .int .i64 5, .slice none 0 0, .slice none 0 0] 28)
  go_enter Tryz.func9, Tryz.ntmps9
  go_wp2
  exact bodyPost_ret (v := .agg #[.int .i64 4, .int .i64 10, .int .i64 1, .int .i64 0, .int .i64 100, .int .i64 5, .slice none 0 0, .slice none 0 0]) (by simp [results, Tryz.results9, go_sem]) rfl ⟨rfl, HB.out⟩
theorem nums_small (lm : Int) (h : 1 ≤ lm ∧ lm ≤ 65535) : Nums 4 10 1 0 lm 5 := ⟨by decide, by decide, by decide, by decide, h, by decide⟩
/-- A mac of Small's numbers, with another limit. -/
def smallM (lm : Int) (ad inc : Nat) : Mc := mac0 4 10 1 0 lm 5 ad inc true
theorem ok_small (lm : Int) (ad inc : Nat) (h : ad < 6) : Ok 0 (smallM lm ad inc) :=
  ⟨by show ad < 32; omega, by show (4 : Int) ≤ 4 ∧ (4 : Int) ≤ 50; decide, by show (1 : Int) ≤ 1; decide, ⟨Int.le_refl _, Int.le_refl _⟩, ⟨Int.le_refl _, Int.le_refl _⟩, ⟨Int.le_refl _, Int.le_refl _⟩, ⟨Int.le_refl _, Int.le_refl _⟩, ⟨Int.le_refl _, Int.le_refl _⟩, ⟨Int.le_refl _, Int.le_refl _⟩, ⟨Int.le_refl _, Int.le_refl _⟩,
    ⟨Int.le_refl _, by show (-1 : Int) < 32; decide⟩, fun e => absurd (show (1 : Int) = 8 from e) (by decide), ⟨Int.le_refl _, by show (-1 : Int) < 32; decide⟩, ⟨by show 0 ≤ 65535; decide, by show 0 ≤ 255; decide, by show 0 ≤ 65535; decide⟩, ⟨⟨by show 0 ≤ 65535; decide, by show 0 ≤ 255; decide, by show 0 ≤ 65535; decide⟩, by show 0 ≤ 65535; decide⟩⟩
/-- Alone, behind so many ticks. -/
def Lk (k : Int) : Mc := { smallM 100 0 1 with clock := k, silence := k, timer := k }
theorem ok_Lk (k : Int) (h : 0 ≤ k) : Ok k (Lk k) :=
  ⟨by show 0 < 32; decide, by show (4 : Int) ≤ 4 ∧ (4 : Int) ≤ 50; decide, by show (1 : Int) ≤ 1; decide, ⟨h, Int.le_refl _⟩, ⟨h, Int.le_refl _⟩, ⟨h, Int.le_refl _⟩, ⟨Int.le_refl _, h⟩, ⟨Int.le_refl _, h⟩, ⟨Int.le_refl _, h⟩, ⟨Int.le_refl _, h⟩,
    ⟨Int.le_refl _, by show (-1 : Int) < 32; decide⟩, fun e => absurd (show (1 : Int) = 8 from e) (by decide), ⟨Int.le_refl _, by show (-1 : Int) < 32; decide⟩, ⟨by show 0 ≤ 65535; decide, by show 0 ≤ 255; decide, by show 0 ≤ 65535; decide⟩, ⟨⟨by show 0 ≤ 65535; decide, by show 0 ≤ 255; decide, by show 0 ≤ 65535; decide⟩, by show 0 ≤ 65535; decide⟩⟩
theorem tick_Lk (k : Int) (h : k < 15) : tickR (Lk k) 0 0 = nothing (Lk (k + 1)) := by
  have h1 : waitB (Lk (k + 1)) = true := by
    unfold waitB
    rw [if_pos (show (Lk (k + 1)).st = 1 ∨ (Lk (k + 1)).st = 2 from .inl rfl)]
    show (!true || decide (k + 1 < 4 * (4 + 2 * ((0 : Nat) : Int)))) = true
    rw [decide_eq_true (by omega)]; rfl
  unfold tickR
  rw [if_neg (show ¬ (Lk k).st = 0 from by show ¬ (1 : Int) = 0; decide)]
  have h2 : actR (tickM (Lk k)) 0 0 = nothing (Lk (k + 1)) := by
    unfold actR
    rw [if_neg (show ¬ (tickM (Lk k)).polled = true from by show ¬ false = true; decide)]
    unfold goOnR
    rw [if_pos (show waitB (tickM (Lk k)) = true from h1)]
    rfl
  rw [h2]
  rfl
def R16 : Out := tickR (Lk 15) 0 0
def R17 : Out := tickR R16.m 0 0
theorem r16_k : R16.k = 1 ∧ R16.f.kind = 1 ∧ R16.f.ec = 1 ∧ R16.f.ea = 0 ∧ R16.f.ei = 1 := by decide +kernel
theorem r17_k : R17.k = 1 ∧ R17.f.kind = 2 ∧ R17.f.dst = 1 ∧ R17.m.st = 9 := by decide +kernel
theorem ok_16 : Ok 16 R16.m :=
  ⟨by decide +kernel, by decide +kernel, by decide +kernel, by decide +kernel, by decide +kernel, by decide +kernel, by decide +kernel, by decide +kernel, by decide +kernel, by decide +kernel, by decide +kernel, by decide +kernel, by decide +kernel,
    by unfold Epo.Ep.fit; decide +kernel, by unfold Epo.Ep.fit; decide +kernel⟩
/-- A mac that the call made itself. -/
structure Own1 (w W : World) (b : Nat) (M : Mc) : Prop where
  mw : Mw W b M
  bel : Below w.heap.size w W
  ge : w.heap.size ≤ b
theorem Own1.turn {w W W' : World} {b : Nat} {M M' : Mc} (h : Own1 w W b M) (hm : Mw W' b M') (ho : OnlyL [b] W W') : Own1 w W' b M' :=
  ⟨hm, h.bel.trans (ho.below (N := w.heap.size) (by simpa using h.ge) h.bel.size), h.ge⟩
theorem Own1.below {w W W' : World} {b : Nat} {M : Mc} (h : Own1 w W b M) (hb : Below W.heap.size W W') : Own1 w W' b M := ⟨h.mw.below hb, h.bel.trans (hb.mono h.bel.size), h.ge⟩
theorem Own1.alloc {w W : World} {b : Nat} {M : Mc} (h : Own1 w W b M) (o : Obj) : Own1 w (W.alloc o) b M := h.below ((Below.refl _ _).alloc (Nat.le_refl _) o)
theorem Own1.drewN {w W : World} {b : Nat} {M : Mc} (h : Own1 w W b M) (n : Nat) : Own1 w (W.drewN n) b M := h.below (below_drewN _ _ _)
set_option maxRecDepth 100000 in
set_option maxHeartbeats 4000000 in
theorem cAwake (w : World) (hT : Mem.Tz w) : Calls Tryz.prog 8 #[] w (Tells (.bool true) w) := by
  have HN := Lib.hid (fun W (k : Mem.Tz W) => cNew W (nums_small 100 (by decide)) 0 1 (by decide) true k)
  have HS := Lib.hid (cSmall w)
  have HT := Lib.hid hT
  clear hT
  go_enter Tryz.func8, Tryz.ntmps8
  go_wp2_with fail
  refine HS.out.mono ?_
  rintro e w1 ⟨rfl, hb1⟩
  have HT1 := Lib.hid (⟨HT.out.below hb1, hb1⟩ : _ ∧ _)
  clear hb1 HS
  go_wp2_with fail
  refine (HN.out _ HT1.out.1).mono ?_
  rintro e w2 ⟨b, rfl, hm2, hb2, hge⟩
  have H2 := Lib.hid (⟨hm2, HT1.out.2.trans (hb2.mono HT1.out.2.size), Nat.le_trans HT1.out.2.size hge⟩ : Own1 w w2 b (Lk 0))
  clear hm2 hb2 hge HN HT HT1
  go_wp2
  go_loopw [10] (fun i W => ∃ k : Nat, k ≤ 15 ∧ i = .int .i64 k ∧ Hid (Own1 w W b (Lk k))) (fun i _ => 15 - (intOf i).toNat)
  case atStart => exact ⟨0, by omega, rfl, H2⟩
  case round =>
    obtain ⟨k, hk, rfl, hS⟩ := hrel
    by_cases hlt : k < 15
    · have HR := Lib.hid (tick_Lk k (by omega))
      have HK := Lib.hid (fun W (z : Mw W b (Lk k)) => cTick z (ok_Lk k (by omega)) (by omega) 0 0)
      rw [HR.out] at HK
      go_wp2_with fail
      refine (HK.out _ hS.out.mw).mono ?_
      rintro e w3 ⟨rfl, hm3, ho3⟩
      have H3 := Lib.hid ((hS.out.turn hm3 ho3).alloc (.cells (frA noF) 38))
      have hz : (nothing (Lk (↑k + 1))).k = 0 := rfl
      have hf : (nothing (Lk (↑k + 1))).f = noF := rfl
      rw [hz, hf]
      clear hm3 ho3 HR HK hS hz hf
      go_wp2
      go_roundw
      case rel => exact ⟨k + 1, by omega, by go_num, H3⟩
      case measure => simp [intOf]; omega
    · obtain rfl : k = 15 := by omega
      have H15 := Lib.hid (show Own1 w wr b (Lk 15) from hS.out)
      have HK := Lib.hid (fun W (z : Mw W b (Lk 15)) => show Calls Tryz.prog 14 #[.pointer (some ⟨b, 0, none⟩), .int .i64 0, .int .i64 0] W (Gives W b R16) from cTick z (ok_Lk 15 (by decide)) (by decide) 0 0)
      have HK2 := Lib.hid (fun W (z : Mw W b R16.m) => show Calls Tryz.prog 14 #[.pointer (some ⟨b, 0, none⟩), .int .i64 0, .int .i64 0] W (Gives W b R17) from cTick z ok_16 (by decide) 0 0)
      have HF := Lib.hid r16_k
      have HF2 := Lib.hid r17_k
      generalize R16 = r at *
      generalize R17 = q at *
      clear hS
      go_wp2_with fail
      refine (HK.out _ H15.out.mw).mono ?_
      rintro e w3 ⟨rfl, hm3, ho3⟩
      have H3 := Lib.hid (⟨(H15.out.turn hm3 ho3).alloc (.cells (frA r.f) 38), FrOwn.new w3 r.f⟩ : Own1 w (w3.alloc (.cells (frA r.f) 38)) b r.m ∧ FrOwn (w3.alloc (.cells (frA r.f) 38)) w3.heap.size r.f)
      have hbl := hm3.lt
      rw [HF.out.1]
      clear hm3 ho3 HK H15
      go_wp2_with fail
      refine world_cut (G := fun W => Calls _ _ _ W _) (fun W => Own1 w W b r.m ∧ FrOwn W w3.heap.size r.f) (by exact H3.out) ?_
      rintro W4 h4
      generalize w3.heap.size = g at *
      refine (HK2.out _ h4.1.mw).mono ?_
      rintro e w5 ⟨rfl, hm5, ho5⟩
      have H5 := Lib.hid (⟨(h4.1.turn hm5 ho5).alloc (.cells (frA q.f) 38), (h4.2.only ho5 (by simp; omega)).below (one_S w5 (frA q.f) 38), FrOwn.new w5 q.f⟩ : Own1 w (w5.alloc (.cells (frA q.f) 38)) b q.m ∧ FrOwn (w5.alloc (.cells (frA q.f) 38)) g r.f ∧ FrOwn (w5.alloc (.cells (frA q.f) 38)) w5.heap.size q.f)
      rw [HF2.out.1]
      have x0 : (w5.alloc (.cells (frA q.f) 38)).cell? ⟨g, 0, none⟩ = some (.int .i64 1) := by rw [H5.out.2.1.at.at 0 rfl, HF.out.2.1]
      have x5 : (w5.alloc (.cells (frA q.f) 38)).cell? ⟨g, 5, none⟩ = some (.int .u16 1) := by rw [H5.out.2.1.at.at 5 rfl, HF.out.2.2.1]; rfl
      have x6 : (w5.alloc (.cells (frA q.f) 38)).cell? ⟨g, 6, none⟩ = some (.int .u8 0) := by rw [H5.out.2.1.at.at 6 rfl, HF.out.2.2.2.1]; rfl
      have x7 : (w5.alloc (.cells (frA q.f) 38)).cell? ⟨g, 7, none⟩ = some (.int .u16 1) := by rw [H5.out.2.1.at.at 7 rfl, HF.out.2.2.2.2]; rfl
      have z0 : (w5.alloc (.cells (frA q.f) 38)).cell? ⟨w5.heap.size, 0, none⟩ = some (.int .i64 2) := by rw [H5.out.2.2.at.at 0 rfl, HF2.out.2.1]
      have z2 : (w5.alloc (.cells (frA q.f) 38)).cell? ⟨w5.heap.size, 2, none⟩ = some (.int .u8 1) := by rw [H5.out.2.2.at.at 2 rfl, HF2.out.2.2.1]; rfl
      have HSt := Lib.hid (cState H5.out.1.mw)
      have HHo := Lib.hid (cHolds H5.out.1.mw)
      rw [HF2.out.2.2.2] at HSt HHo
      clear h4 hm5 ho5 H3 HK2
      rw [show holdsB 9 = true from rfl] at HHo
      have HB := Lib.hid H5.out.1.bel
      clear H5 HF HF2
      go_wp2_with fail
      refine (HSt.out).mono ?_
      rintro e w6 ⟨rfl, rfl⟩
      go_wp2_with fail
      refine (HHo.out).mono ?_
      rintro e w7 ⟨rfl, rfl⟩
      go_wp2
      go_ret
      exact ⟨rfl, HB.out⟩
end Go.Proofs.YtedlfognpbbhhaaGreatDoor.Ma
