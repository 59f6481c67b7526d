/-
  A token to another incarnation of its own is not taken: walked. Conditions: the library's table of lowest bits is as the program lays it.
-/
import Derived.Test.YtedlfognpbbhhaaGreatDoorMaS
import Derived.Test.YtedlfognpbbhhaaGreatDoorMaQ
namespace Go.Proofs.YtedlfognpbbhhaaGreatDoor.Ma
open Go.RowKit
open Go.Proofs.YtedlfognpbbhhaaGreatDoor.Epo (Ep cmpE newB maxE numE numM)
open Go.Proofs.YtedlfognpbbhhaaGreatDoor.Mem (St withB woB hasB passB nextI turnI gapB sv)
open Go.Proofs.YtedlfognpbbhhaaGreatDoor.Frm (Fr world_cut)
attribute [local go_sem ↓] exec_ldF exec_stF exec_bdF
attribute [local go_sem] bdF_5 bdF_9 bdF_0 stF_new0

/-! ### What comes of it -/
theorem way1_still (M : Mc) (k : Mk) (h : M.st = 1 ∨ M.st = 2) : ((way1 M k).st = 1 ∨ (way1 M k).st = 2) ∧ (way1 M k).visits = M.visits ∧ (way1 M k).inc = M.inc := by
  have h8 : ¬ M.st = 8 := by omega
  have hh : holdsB M.st = false := by rcases h with h | h <;> rw [h] <;> rfl
  unfold way1
  rw [if_neg (c := holdsB M.st = true ∨ M.st = 8) (fun z => z.elim (fun y => by rw [hh] at y; cases y) h8)]
  split
  · exact ⟨h, rfl, rfl⟩
  · exact ⟨h, rfl, rfl⟩
theorem way_still (M : Mc) (k : Mk) (h : M.st = 1 ∨ M.st = 2) : ((wayM M k).st = 1 ∨ (wayM M k).st = 2) ∧ (wayM M k).visits = M.visits ∧ (wayM M k).inc = M.inc := by
  have h1 := way1_still M k h
  unfold wayM way2
  rw [if_neg (fun z => by have := h1.1; have := z.1; omega)]
  exact h1
theorem foll_still (M : Mc) (f : Fr) (k : Mk) (h : M.st = 1 ∨ M.st = 2) (hn : f.dinc ≠ M.inc) : ((follM M f k).st = 1 ∨ (follM M f k).st = 2) ∧ (follM M f k).visits = M.visits := by
  have hb : isToB M f = false := by unfold isToB; rw [decide_eq_false hn, Bool.and_false]
  unfold follM
  rw [if_neg (c := isToB M f = true ∧ newB k.e M.mark.e k.h M.mark.h = true) (fun z => by rw [hb] at z; exact Bool.noConfusion z.1)]
  split
  · exact ⟨h, rfl⟩
  · split
    · exact ⟨.inl rfl, rfl⟩
    · exact ⟨h, rfl⟩
theorem rest_still (M : Mc) (f : Fr) (h : M.st = 1 ∨ M.st = 2) (hn : f.dinc ≠ M.inc) : ((restM M f).st = 1 ∨ (restM M f).st = 2) ∧ (restM M f).visits = M.visits := by
  have hw := way_still M (mkF f) h
  unfold restM
  split
  · exact ⟨h, rfl⟩
  · split
    · have := foll_still (wayM M (mkF f)) f (mkF f) hw.1 (by rw [hw.2.2]; exact hn)
      exact ⟨this.1, this.2.trans hw.2.1⟩
    · exact ⟨hw.1, hw.2.1⟩
theorem poll_still (M : Mc) (f : Fr) : (pollM M f).st = M.st ∧ (pollM M f).visits = M.visits ∧ (pollM M f).inc = M.inc := by
  unfold pollM
  split <;> exact ⟨rfl, rfl, rfl⟩
theorem hear_other (inc : Nat) (f : Fr) (hk : f.kind ≠ 3) (hn : f.dinc ≠ inc) :
    ((hearM (smallM 100 2 inc) f).st = 1 ∨ (hearM (smallM 100 2 inc) f).st = 2) ∧ (hearM (smallM 100 2 inc) f).visits = 0 := by
  unfold hearM
  rw [if_neg (show ¬ (smallM 100 2 inc).st = 0 from by show ¬ (1 : Int) = 0; decide)]
  split
  · first | rw [if_neg hk] | skip
    have hp := poll_still (mindM (smallM 100 2 inc) f) f
    have := rest_still (pollM (mindM (smallM 100 2 inc) f) f) f (.inl hp.1) (by rw [hp.2.2]; exact hn)
    exact ⟨this.1, this.2.trans hp.2.1⟩
  · exact ⟨.inl rfl, rfl⟩
theorem hear_none (inc : Nat) (f : Fr) (hk : f.kind ≠ 3) (hn : f.dinc ≠ inc) : holdsB (hearM (smallM 100 2 inc) f).st = false ∧ (hearM (smallM 100 2 inc) f).visits = 0 := by
  have h := hear_other inc f hk hn
  refine ⟨?_, h.2⟩
  rcases h.1 with h | h <;> rw [h] <;> rfl

/-! ### The law -/
theorem bdF_7 (a b c d e x y z h : Int) (W : World) : bdF #[(0, .int .i64 a), (1, .int .u8 b), (3, .int .u16 c), (2, .int .u8 d), (4, .int .u16 e), (5, .agg #[.int .u16 x, .int .u8 y, .int .u16 z]), (6, .int .u16 h)] W =
    .ok (.value (.agg #[.int .i64 a, .int .u8 b, .int .u8 d, .int .u16 c, .int .u16 e, .int .u16 x, .int .u8 y, .int .u16 z, .int .u16 h, .int .u16 0, .int .u8 0, .int .u16 0, .bool false, .int .u8 0, .int .u16 0, .int .u32 0, .int .u8 0, .int .u8 0, .string ⟨#[]⟩])) W := bdF_of _ _ W (by kernel_rfl)
attribute [local go_sem] bdF_7
/-- The token of another one. -/
def mineF (k : Int) (f : Fr) (other : Nat) : Fr := ⟨k, f.src % 32, 2, f.sinc, other, f.ec, f.ea % 32, f.ei, f.hop, 0, 0, 0, false, 0, 0, 0, 0, 0, ⟨#[]⟩⟩
theorem mineF_fit (k : Int) (f : Fr) (other : Nat) (hf : f.fit) (ho : (other : Int) ≤ 65535) : (mineF k f other).fit := by
  obtain ⟨h1, h2, h3, h4, h5, h6, h7, h8, -⟩ := hf
  refine ⟨?_, by show ((2 : Nat) : Int) ≤ 255; decide, h3, ho, h5, ?_, h7, h8, by show ((0 : Nat) : Int) ≤ 65535; decide, by show ((0 : Nat) : Int) ≤ 255; decide, by show ((0 : Nat) : Int) ≤ 65535; decide, by show ((0 : Nat) : Int) ≤ 255; decide, by show ((0 : Nat) : Int) ≤ 65535; decide, by show ((0 : Nat) : Int) ≤ 4294967295; decide, by show ((0 : Nat) : Int) ≤ 255; decide, by show ((0 : Nat) : Int) ≤ 255; decide, by show (0 : Nat) ≤ maxLen; unfold maxLen; omega⟩
  · show ((f.src % 32 : Nat) : Int) ≤ 255
    omega
  · show ((f.ea % 32 : Nat) : Int) ≤ 255
    omega
theorem mineF_A (k : Int) (f : Fr) (other : Nat) : frA (mineF k f other) = #[.int .i64 k, .int .u8 ((f.src : Int) % 32), .int .u8 2, .int .u16 f.sinc, .int .u16 other, .int .u16 f.ec, .int .u8 ((f.ea : Int) % 32), .int .u16 f.ei, .int .u16 f.hop, .int .u16 0, .int .u8 0, .int .u16 0, .bool false, .int .u8 0, .int .u16 0, .int .u32 0, .int .u8 0, .int .u8 0, .string ⟨#[]⟩] := by
  have e1 : ((f.src % 32 : Nat) : Int) = (f.src : Int) % 32 := by omega
  have e2 : ((f.ea % 32 : Nat) : Int) = (f.ea : Int) % 32 := by omega
  show (#[.int .i64 k, .int .u8 ((f.src % 32 : Nat) : Int), .int .u8 2, .int .u16 f.sinc, .int .u16 other, .int .u16 f.ec, .int .u8 ((f.ea % 32 : Nat) : Int), .int .u16 f.ei, .int .u16 f.hop, .int .u16 0, .int .u8 0, .int .u16 0, .bool false, .int .u8 0, .int .u16 0, .int .u32 0, .int .u8 0, .int .u8 0, .string ⟨#[]⟩] : Array Value) = _
  rw [e1, e2]
set_option maxRecDepth 100000 in
set_option maxHeartbeats 4000000 in
theorem cMine (w : World) (hT : Mem.Tz w) (f : Fr) (hf : f.fit) (inc other : Nat) (ho : (other : Int) ≤ 65535) :
    Calls Tryz.prog 6 #[.agg (frA f), .int .u16 inc, .int .u16 other] w (Tells (.bool true) w) := by
  have HA := Lib.hid (fun W (k : Mem.Tz W) => cAwake W k)
  have HN := Lib.hid (fun W (k : Mem.Tz W) => cNew W (nums_small 100 (by decide)) 2 inc (by decide) true k)
  have HS := Lib.hid (fun W => cSmall W)
  have HB := Lib.hid (one_S w (frA f) 38)
  have HF := Lib.hid (FrOwn.new w f)
  have HT := Lib.hid hT
  have HO := Lib.hid (fun (k : Int) W b (z : Mw W b (smallM 100 2 inc)) => cHear z (ok_small 100 2 inc (by decide)) (by decide) (mineF k f other) (mineF_fit k f other hf ho))
  simp only [mineF_A] at HO
  clear hT hf ho
  go_enter Tryz.func6, Tryz.ntmps6
  go_wp2_with fail
  refine (HA.out _ (HT.out.below HB.out)).mono ?_
  rintro e w1 ⟨rfl, hb1⟩
  have H1 := Lib.hid (⟨HF.out.below hb1, (HT.out.below HB.out).below hb1, HB.out.trans (hb1.mono HB.out.size)⟩ : FrOwn w1 w.heap.size f ∧ Mem.Tz w1 ∧ Below w.heap.size w w1)
  clear hb1 HA HF HT HB
  by_cases hio : inc = other
  · subst hio
    go_wp2
    go_ret
    exact ⟨rfl, H1.out.2.2⟩
  have hio2 : ((inc : Int) == (other : Int)) = false := by rw [beq_eq_false_iff_ne]; omega
  have hio3 : (other : Int) ≠ inc := by omega
  have x0 : w1.cell? ⟨w.heap.size, 0, none⟩ = some (.int .i64 f.kind) := H1.out.1.at.at 0 rfl
  have x1 : w1.cell? ⟨w.heap.size, 1, none⟩ = some (.int .u8 f.src) := H1.out.1.at.at 1 rfl
  have x3 : w1.cell? ⟨w.heap.size, 3, none⟩ = some (.int .u16 f.sinc) := H1.out.1.at.at 3 rfl
  have x5 : w1.cell? ⟨w.heap.size, 5, none⟩ = some (.int .u16 f.ec) := H1.out.1.at.at 5 rfl
  have x6 : w1.cell? ⟨w.heap.size, 6, none⟩ = some (.int .u8 f.ea) := H1.out.1.at.at 6 rfl
  have x7 : w1.cell? ⟨w.heap.size, 7, none⟩ = some (.int .u16 f.ei) := H1.out.1.at.at 7 rfl
  have x8 : w1.cell? ⟨w.heap.size, 8, none⟩ = some (.int .u16 f.hop) := H1.out.1.at.at 8 rfl
  go_wp2_with fail
  all_goals
    have HQ := Lib.hid (fun k (z : k = 1 ∨ k = 5) => hear_none inc (mineF k f other) (show k ≠ 3 by omega) (show other ≠ inc by omega))
    clear hio hio2 hio3 x0 x1 x3 x5 x6 x7 x8
    refine (HS.out _).mono ?_
    rintro e w2 ⟨rfl, hb2⟩
    have H2 := Lib.hid (⟨H1.out.1.below hb2, H1.out.2.1.below hb2, H1.out.2.2.trans (hb2.mono H1.out.2.2.size)⟩ : FrOwn w2 w.heap.size f ∧ Mem.Tz w2 ∧ Below w.heap.size w w2)
    clear H1 hb2 HS
    go_wp2_with fail
    refine (HN.out _ H2.out.2.1).mono ?_
    rintro e w3 ⟨b, rfl, hm3, hb3, hge3⟩
    have H3 := Lib.hid (⟨H2.out.1.below hb3, ⟨hm3, H2.out.2.2.trans (hb3.mono H2.out.2.2.size), Nat.le_trans H2.out.2.2.size hge3⟩⟩ : FrOwn w3 w.heap.size f ∧ Own1 w w3 b (smallM 100 2 inc))
    clear H2 hm3 hb3 hge3 HN
    have x1 : w3.cell? ⟨w.heap.size, 1, none⟩ = some (.int .u8 f.src) := H3.out.1.at.at 1 rfl
    have x3 : w3.cell? ⟨w.heap.size, 3, none⟩ = some (.int .u16 f.sinc) := H3.out.1.at.at 3 rfl
    have x5 : w3.cell? ⟨w.heap.size, 5, none⟩ = some (.int .u16 f.ec) := H3.out.1.at.at 5 rfl
    have x6 : w3.cell? ⟨w.heap.size, 6, none⟩ = some (.int .u8 f.ea) := H3.out.1.at.at 6 rfl
    have x7 : w3.cell? ⟨w.heap.size, 7, none⟩ = some (.int .u16 f.ei) := H3.out.1.at.at 7 rfl
    have x8 : w3.cell? ⟨w.heap.size, 8, none⟩ = some (.int .u16 f.hop) := H3.out.1.at.at 8 rfl
    go_wp2_with fail
    refine (HO.out _ _ _ H3.out.2.mw).mono ?_
    rintro e w4 ⟨rfl, hm4, ho4⟩
    have H4 := Lib.hid (H3.out.2.turn hm4 ho4)
    clear hm4 ho4 H3 HO x1 x3 x5 x6 x7 x8
    go_wp2_with fail
    refine (cVisits H4.out.mw).mono ?_
    rintro e w5 ⟨rfl, m, rfl⟩
    have H5 := Lib.hid (H4.out.drewN m)
    clear H4
    go_wp2_with fail
    refine (cHolds H5.out.mw).mono ?_
    rintro e w6 ⟨rfl, rfl⟩
    rw [(HQ.out _ (by decide)).1, (HQ.out _ (by decide)).2]
    have HB := Lib.hid H5.out.bel
    clear H5 HQ
    go_wp2
    go_ret
    exact ⟨rfl, HB.out⟩
end Go.Proofs.YtedlfognpbbhhaaGreatDoor.Ma
