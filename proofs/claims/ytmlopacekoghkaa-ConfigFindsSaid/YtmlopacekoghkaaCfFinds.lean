/-
  The law ConfigFinds, walked: it returns true. Conditions: none.
-/
import Derived.Test.YtmlopacekoghkaaCfLaw
import Derived.Test.YtmlopacekoghkaaCfSame
import Derived.Test.YtmlopacekoghkaaCfQFind
import Derived.Test.YtmlopacekoghkaaCfValues
namespace Go.Proofs.Ytmlopacekoghkaa.Cf
open Go.RowKit
open Go.Proofs.Ytmlopacekoghkaa.Bl (Blk Spt findB layO noS Tells I64 one_S cell_of_row kept_own blkV spV Own2 Own4)
open Go.Proofs.Ytmlopacekoghkaa.Il (In)
open Go.Proofs.Ytmlopacekoghkaa.Mem (sv)

/-- A world of the law: the cluster, a station that was found, its box. -/
structure Tx (w W : World) (c : Clu) (s : Sta) (p : Nat) : Prop where
  cw : Cw w W c w.heap.size
  ls : StaL W W.heap.size s
  os : Own6 W p s 36
theorem Tx.next {w W W' : World} {c : Clu} {s : Sta} {p : Nat} (h : Tx w W c s p) (hb : Below W.heap.size W W') : Tx w W' c s p := ⟨h.cw.next hb, (h.ls.below hb).more hb.size, h.os.kept hb h.os.lt⟩
/-- .. and one that the reference found. -/
structure Ux (w W : World) (c : Clu) (s : Sta) (p : Nat) (t : Sta) (q : Nat) : Prop where
  tx : Tx w W c s p
  lt : StaL W W.heap.size t
  ot : Own6 W q t 36
theorem Ux.next {w W W' : World} {c : Clu} {s t : Sta} {p q : Nat} (h : Ux w W c s p t q) (hb : Below W.heap.size W W') : Ux w W' c s p t q := ⟨h.tx.next hb, (h.lt.below hb).more hb.size, h.ot.kept hb h.ot.lt⟩

set_option maxRecDepth 100000 in
set_option maxHeartbeats 8000000 in
theorem finds_walk (c : Clu) (addr block : Int) (w : World) (hL : CluL w w.heap.size c) (hF : FitC c) :
    Calls Try.prog 4 #[.agg (cluC c), .int .i64 addr, .int .i64 block] w (Tells (.bool true) w) := by
  have hA := Cw.first hL
  obtain ⟨g0, g1, g2, g3, g4, g5, g6, g7⟩ := hA.ow.cells
  have HA := Lib.hid hA
  have HK := Lib.hid wake_any
  have HS := Lib.hid (fun W (h : Ca w W c) => small_any c W h.self.lies hF)
  obtain ⟨b, hb⟩ : ∃ b, b = smallC c := ⟨_, rfl⟩
  rw [← hb] at HS
  have HB := Lib.hid hb
  have HFi := Lib.hid hF
  clear hA hL hF hb
  unfold cluC at g0 g1 g2 g3 g4 g5 g6 g7 HA HS ⊢
  go_enter Try.func4, Try.ntmps4
  go_wp2_with fail
  refine (HK.out _).mono ?_
  rintro e w1 ⟨rfl, hb⟩
  have HA1 := Lib.hid (HA.out.next hb)
  clear hb HA
  obtain ⟨g0, g1, g2, g3, g4, g5, g6, g7⟩ := HA1.out.ow.cells
  go_wp2_with fail
  refine (HS.out _ HA1.out.ca).mono ?_
  rintro e w2 ⟨rfl, hb⟩
  have HA2 := Lib.hid (HA1.out.next hb)
  clear hb HA1 HS
  obtain ⟨g0, g1, g2, g3, g4, g5, g6, g7⟩ := HA2.out.ow.cells
  cases b
  · go_wp2
    go_ret
    exact ⟨rfl, HA2.out.ca.below⟩
  obtain ⟨h40, hb40, hsm⟩ := small_of HB.out.symm
  have hShort : ShortC c := fun k x hx => by
    have := hsm k x hx
    exact ⟨by omega, by omega, by omega⟩
  obtain ⟨r, hr⟩ : ∃ r, r = findC c.st addr := ⟨_, rfl⟩
  have hr40 : r.1.sb.length ≤ 40 := by
    rw [hr]
    rcases findC_mem c.st addr with h | ⟨k, x, hx, h⟩
    · rw [h]; exact Nat.zero_le _
    · rw [h]; exact (hsm k x hx).2.1
  have HcF := Lib.hid (fun W (h : Ca w W c) => cFind_any c addr W h.self.lies HFi.out hShort)
  have HqF := Lib.hid (fun W (h : Ca w W c) => qFind_any c addr W h.self.lies HFi.out)
  have HcA := Lib.hid (fun W (h : Ca w W c) => cAddrs_any c W h.self.lies HFi.out)
  have HqA := Lib.hid (fun W (h : Ca w W c) => qAddrs_any c W h.self.lies HFi.out)
  have HcR := Lib.hid (fun W (h : Ca w W c) => cReaders_any c block W h.self.lies HFi.out)
  have HqR := Lib.hid (fun W (h : Ca w W c) => qReaders_any c block W h.self.lies HFi.out)
  have HcV := Lib.hid (fun W (h : Ca w W c) (s : Sta) (hs : StaL W W.heap.size s) (hf : FitS s) (hl : s.sb.length ≤ 40) => cValues_any c s W h.self.lies HFi.out hs.sb hf.2.1 hl)
  have HqV := Lib.hid (fun W (h : Ca w W c) (s : Sta) (hs : StaL W W.heap.size s) (hf : FitS s) (hl : s.sb.length ≤ 40) => qValues_any c s W h.self.lies HFi.out hs.sb hf.2.1 hl)
  rw [← hr] at HcF HqF
  obtain ⟨A, hA⟩ : ∃ A, A = addrK c.st c.st.length := ⟨_, rfl⟩
  obtain ⟨B, hB⟩ : ∃ B, B = rdK c.st block c.st.length := ⟨_, rfl⟩
  rw [← hA] at HcA HqA
  rw [← hB] at HcR HqR
  obtain ⟨x, ok⟩ := r
  unfold Found at HcF HqF
  dsimp only at HcF HqF hr40
  have t1 : (ok != ok) = false := by simp
  have t2 : ((A.toNat : Int) != (A.toNat : Int)) = false := by simp
  have t3 : ((B.toNat : Int) != (B.toNat : Int)) = false := by simp
  clear hr hA hB HB h40 hb40 hsm hShort HK
  unfold cluC at HcF HqF HcA HqA HcR HqR HcV HqV
  unfold staC at HcF HqF HcV HqV
  go_wp2_with fail
  refine (HcF.out _ HA2.out.ca).mono ?_
  rintro e w3 ⟨a1, b1, d1, rfl, hf1, hl1, hb⟩
  unfold withH
  dsimp only
  have HT := Lib.hid (show Tx w _ c (withH x a1 b1 d1) w3.heap.size from ⟨(HA2.out.next hb).next (one_S w3 (staC (withH x a1 b1 d1)) 36), (hl1.below (one_S w3 (staC (withH x a1 b1 d1)) 36)).more (one_S w3 (staC (withH x a1 b1 d1)) 36).size, Own6.new w3 _ 36⟩)
  have HF1 := Lib.hid hf1
  unfold staC at HT
  unfold withH at HT HF1
  dsimp only at HT
  obtain ⟨g0, g1, g2, g3, g4, g5, g6, g7⟩ := HT.out.cw.ow.cells
  clear hf1 hl1 hb HA2
  go_wp2_with fail
  refine (HqF.out _ HT.out.cw.ca).mono ?_
  rintro e w4 ⟨a2, b2, d2, rfl, hf2, hl2, hb⟩
  unfold withH
  dsimp only
  have HU := Lib.hid (show Ux w (w4.alloc (.cells (staC (withH x a2 b2 d2)) 36)) c ⟨x.ad, x.sc, x.lo, x.cd, x.sb, x.pb, a1, b1, d1⟩ w3.heap.size (withH x a2 b2 d2) w4.heap.size from
    ⟨(HT.out.next hb).next (one_S w4 (staC (withH x a2 b2 d2)) 36), (hl2.below (one_S w4 (staC (withH x a2 b2 d2)) 36)).more (one_S w4 (staC (withH x a2 b2 d2)) 36).size, Own6.new w4 _ 36⟩)
  have HF2 := Lib.hid hf2
  unfold staC at HU
  unfold withH at HU HF2
  dsimp only at HU
  have hltp := (HT.out.next hb).os.lt
  have hltc := (HT.out.next hb).cw.ow.lt
  obtain ⟨d0, d1', d2', d3, d4, d5⟩ := HU.out.tx.os.cells
  obtain ⟨k0, k1, k2, k3, k4, k5⟩ := HU.out.ot.cells
  dsimp only at d0 d1' d2' d3 d4 d5 k0 k1 k2 k3 k4 k5
  obtain ⟨g0, g1, g2, g3, g4, g5, g6, g7⟩ := HU.out.tx.cw.ow.cells
  have HSm := Lib.hid (fun W (h : Ux w W c ⟨x.ad, x.sc, x.lo, x.cd, x.sb, x.pb, a1, b1, d1⟩ w3.heap.size ⟨x.ad, x.sc, x.lo, x.cd, x.sb, x.pb, a2, b2, d2⟩ w4.heap.size) => same_any ⟨x.ad, x.sc, x.lo, x.cd, x.sb, x.pb, a1, b1, d1⟩ a2 b2 d2 W h.tx.ls h.lt HF1.out HF2.out)
  have HcVs := Lib.hid (fun W (h : Ux w W c ⟨x.ad, x.sc, x.lo, x.cd, x.sb, x.pb, a1, b1, d1⟩ w3.heap.size ⟨x.ad, x.sc, x.lo, x.cd, x.sb, x.pb, a2, b2, d2⟩ w4.heap.size) => HcV.out W h.tx.cw.ca _ h.tx.ls HF1.out hr40)
  have HqVs := Lib.hid (fun W (h : Ux w W c ⟨x.ad, x.sc, x.lo, x.cd, x.sb, x.pb, a1, b1, d1⟩ w3.heap.size ⟨x.ad, x.sc, x.lo, x.cd, x.sb, x.pb, a2, b2, d2⟩ w4.heap.size) => HqV.out W h.tx.cw.ca _ h.lt HF2.out hr40)
  unfold staC withH at HSm
  unfold Valued at HcVs HqVs
  dsimp only at HSm HcVs HqVs
  clear hf2 hl2 hb HT HF1 HF2 HcV HqV HcF HqF
  generalize w3.heap.size = p3 at *
  generalize hp4 : w4.heap.size = p4 at *
  have HSo := Lib.hid (fun W' (h : Ux w W' c ⟨x.ad, x.sc, x.lo, x.cd, x.sb, x.pb, a1, b1, d1⟩ p3 ⟨x.ad, x.sc, x.lo, x.cd, x.sb, x.pb, a2, b2, d2⟩ p4) => (show W'.cell? ⟨p3, 0, none⟩ = some (.int .i64 x.ad) ∧ W'.cell? ⟨p3, 1, none⟩ = some (.int .i64 x.sc) ∧ W'.cell? ⟨p3, 2, none⟩ = some (.int .i64 x.lo) ∧ W'.cell? ⟨p3, 3, none⟩ = some (.slice a1.ao x.cd.length a1.cap) ∧ W'.cell? ⟨p3, 4, none⟩ = some (.slice b1.ao x.sb.length b1.cap) ∧ W'.cell? ⟨p3, 5, none⟩ = some (.slice d1.ao x.pb.length d1.cap) ∧ W'.cell? ⟨p4, 0, none⟩ = some (.int .i64 x.ad) ∧ W'.cell? ⟨p4, 1, none⟩ = some (.int .i64 x.sc) ∧ W'.cell? ⟨p4, 2, none⟩ = some (.int .i64 x.lo) ∧ W'.cell? ⟨p4, 3, none⟩ = some (.slice a2.ao x.cd.length a2.cap) ∧ W'.cell? ⟨p4, 4, none⟩ = some (.slice b2.ao x.sb.length b2.cap) ∧ W'.cell? ⟨p4, 5, none⟩ = some (.slice d2.ao x.pb.length d2.cap) ∧ W'.cell? ⟨w.heap.size, 0, none⟩ = some (.int .i64 c.sl) ∧ W'.cell? ⟨w.heap.size, 1, none⟩ = some (.int .i64 c.tt) ∧ W'.cell? ⟨w.heap.size, 2, none⟩ = some (.int .i64 c.gp) ∧ W'.cell? ⟨w.heap.size, 3, none⟩ = some (.int .i64 c.rt) ∧ W'.cell? ⟨w.heap.size, 4, none⟩ = some (.int .i64 c.lm) ∧ W'.cell? ⟨w.heap.size, 5, none⟩ = some (.int .i64 c.tp) ∧ W'.cell? ⟨w.heap.size, 6, none⟩ = some (.slice c.bo.ao c.bl.length c.bo.cap) ∧ W'.cell? ⟨w.heap.size, 7, none⟩ = some (.slice c.sh.ao c.st.length c.sh.cap) from by
    obtain ⟨d0, d1', d2', d3, d4, d5⟩ := h.tx.os.cells
    obtain ⟨k0, k1, k2, k3, k4, k5⟩ := h.ot.cells
    obtain ⟨g0, g1, g2, g3, g4, g5, g6, g7⟩ := h.tx.cw.ow.cells
    exact ⟨d0, d1', d2', d3, d4, d5, k0, k1, k2, k3, k4, k5, g0, g1, g2, g3, g4, g5, g6, g7⟩))
  replace HU := Lib.hid (HU.out.next (Below.refl _ _).drew)
  go_wp2_with fail
  go_region_held3 (fun W' => W'.cell? ⟨p3, 0, none⟩ = some (.int .i64 x.ad) ∧ W'.cell? ⟨p3, 1, none⟩ = some (.int .i64 x.sc) ∧ W'.cell? ⟨p3, 2, none⟩ = some (.int .i64 x.lo) ∧ W'.cell? ⟨p3, 3, none⟩ = some (.slice a1.ao x.cd.length a1.cap) ∧ W'.cell? ⟨p3, 4, none⟩ = some (.slice b1.ao x.sb.length b1.cap) ∧ W'.cell? ⟨p3, 5, none⟩ = some (.slice d1.ao x.pb.length d1.cap) ∧ W'.cell? ⟨p4, 0, none⟩ = some (.int .i64 x.ad) ∧ W'.cell? ⟨p4, 1, none⟩ = some (.int .i64 x.sc) ∧ W'.cell? ⟨p4, 2, none⟩ = some (.int .i64 x.lo) ∧ W'.cell? ⟨p4, 3, none⟩ = some (.slice a2.ao x.cd.length a2.cap) ∧ W'.cell? ⟨p4, 4, none⟩ = some (.slice b2.ao x.sb.length b2.cap) ∧ W'.cell? ⟨p4, 5, none⟩ = some (.slice d2.ao x.pb.length d2.cap) ∧ W'.cell? ⟨w.heap.size, 0, none⟩ = some (.int .i64 c.sl) ∧ W'.cell? ⟨w.heap.size, 1, none⟩ = some (.int .i64 c.tt) ∧ W'.cell? ⟨w.heap.size, 2, none⟩ = some (.int .i64 c.gp) ∧ W'.cell? ⟨w.heap.size, 3, none⟩ = some (.int .i64 c.rt) ∧ W'.cell? ⟨w.heap.size, 4, none⟩ = some (.int .i64 c.lm) ∧ W'.cell? ⟨w.heap.size, 5, none⟩ = some (.int .i64 c.tp) ∧ W'.cell? ⟨w.heap.size, 6, none⟩ = some (.slice c.bo.ao c.bl.length c.bo.cap) ∧ W'.cell? ⟨w.heap.size, 7, none⟩ = some (.slice c.sh.ao c.st.length c.sh.cap))
    (with_reducible exact HSo.out _ HU.out)
    ((first
    | (go_at_call 12; (with_reducible refine (HSm.out _ HU.out).mono ?_); rintro e w20 ⟨rfl, hb⟩; have HU2 := Lib.hid (HU.out.next hb); clear hb HU; have HU := HU2; clear HU2)
    | (go_at_call 13; (with_reducible refine (HcA.out _ HU.out.tx.cw.ca).mono ?_); rintro e w20 ⟨rfl, hb⟩; have HU2 := Lib.hid (HU.out.next hb); clear hb HU; have HU := HU2; clear HU2)
    | (go_at_call 14; (with_reducible refine (HqA.out _ HU.out.tx.cw.ca).mono ?_); rintro e w20 ⟨rfl, hb⟩; have HU2 := Lib.hid (HU.out.next hb); clear hb HU; have HU := HU2; clear HU2)
    | (go_at_call 15; (with_reducible refine (HcR.out _ HU.out.tx.cw.ca).mono ?_); rintro e w20 ⟨rfl, hb⟩; have HU2 := Lib.hid (HU.out.next hb); clear hb HU; have HU := HU2; clear HU2)
    | (go_at_call 16; (with_reducible refine (HqR.out _ HU.out.tx.cw.ca).mono ?_); rintro e w20 ⟨rfl, hb⟩; have HU2 := Lib.hid (HU.out.next hb); clear hb HU; have HU := HU2; clear HU2)))
  obtain ⟨g0, g1, g2, g3, g4, g5, g6, g7⟩ := HU.out.tx.cw.ow.cells
  obtain ⟨d0, d1', d2', d3, d4, d5⟩ := HU.out.tx.os.cells
  obtain ⟨k0, k1, k2, k3, k4, k5⟩ := HU.out.ot.cells
  dsimp only at d0 d1' d2' d3 d4 d5 k0 k1 k2 k3 k4 k5
  clear HcA HqA HcR HqR HSm
  obtain ⟨V, hV⟩ : ∃ V, V = valL c.bl x.sb := ⟨_, rfl⟩
  rw [← hV] at HcVs HqVs
  replace HU := Lib.hid (HU.out.next (Below.refl _ _).drew)
  clear hV g0 g1 g2 g3 g4 g5 g6 g7 d0 d1' d2' d3 d4 d5 k0 k1 k2 k3 k4 k5
  go_wp2_with fail
  go_region_held3 (fun W' => W'.cell? ⟨p3, 0, none⟩ = some (.int .i64 x.ad) ∧ W'.cell? ⟨p3, 1, none⟩ = some (.int .i64 x.sc) ∧ W'.cell? ⟨p3, 2, none⟩ = some (.int .i64 x.lo) ∧ W'.cell? ⟨p3, 3, none⟩ = some (.slice a1.ao x.cd.length a1.cap) ∧ W'.cell? ⟨p3, 4, none⟩ = some (.slice b1.ao x.sb.length b1.cap) ∧ W'.cell? ⟨p3, 5, none⟩ = some (.slice d1.ao x.pb.length d1.cap) ∧ W'.cell? ⟨p4, 0, none⟩ = some (.int .i64 x.ad) ∧ W'.cell? ⟨p4, 1, none⟩ = some (.int .i64 x.sc) ∧ W'.cell? ⟨p4, 2, none⟩ = some (.int .i64 x.lo) ∧ W'.cell? ⟨p4, 3, none⟩ = some (.slice a2.ao x.cd.length a2.cap) ∧ W'.cell? ⟨p4, 4, none⟩ = some (.slice b2.ao x.sb.length b2.cap) ∧ W'.cell? ⟨p4, 5, none⟩ = some (.slice d2.ao x.pb.length d2.cap) ∧ W'.cell? ⟨w.heap.size, 0, none⟩ = some (.int .i64 c.sl) ∧ W'.cell? ⟨w.heap.size, 1, none⟩ = some (.int .i64 c.tt) ∧ W'.cell? ⟨w.heap.size, 2, none⟩ = some (.int .i64 c.gp) ∧ W'.cell? ⟨w.heap.size, 3, none⟩ = some (.int .i64 c.rt) ∧ W'.cell? ⟨w.heap.size, 4, none⟩ = some (.int .i64 c.lm) ∧ W'.cell? ⟨w.heap.size, 5, none⟩ = some (.int .i64 c.tp) ∧ W'.cell? ⟨w.heap.size, 6, none⟩ = some (.slice c.bo.ao c.bl.length c.bo.cap) ∧ W'.cell? ⟨w.heap.size, 7, none⟩ = some (.slice c.sh.ao c.st.length c.sh.cap))
    (with_reducible exact HSo.out _ HU.out)
    ((first
    | (go_at_call 17; (with_reducible refine (HcVs.out _ HU.out).mono ?_); rintro e w20 ⟨h1, rfl, hk1, hl1, hb⟩; have HU2 := Lib.hid (HU.out.next hb); have HL1 := Lib.hid (⟨hk1, hl1⟩ : _ ∧ _); clear hb HU hk1 hl1; have HU := HU2; clear HU2)
    | (go_at_call 18; (with_reducible refine (HqVs.out _ HU.out).mono ?_); rintro e w21 ⟨h2, rfl, hk2, hl2, hb⟩; have HU2 := Lib.hid (HU.out.next hb); have HL2 := Lib.hid (⟨HL1.out.1, (HL1.out.2.below hb).more hb.size, hk2, hl2⟩ : _ ∧ _ ∧ _ ∧ _); clear hb HU hk2 hl2 HL1; have HU := HU2; clear HU2)))
  have t4 : ((V.length : Int) != (V.length : Int)) = false := by simp
  have hml : (V.length : Int) ≤ 9223372036854775807 := by have h1 := HL2.out.1.1; have := HL2.out.1.2.1; unfold maxLen at this; omega
  have hm1 : V.length ≤ h1.cap := HL2.out.1.1
  have hm2 : V.length ≤ h2.cap := HL2.out.2.2.1.1
  have HE := Lib.hid (⟨HL2.out.2.1, HL2.out.2.2.2, HU.out.tx.cw.ca.below⟩ : LiesN w21 w21.heap.size h1.ao V ∧ LiesN w21 w21.heap.size h2.ao V ∧ Below w.heap.size w w21)
  clear HU HL2 HSo HcVs HqVs
  go_wp2
  go_loopw [69] (fun j W => ∃ q : Nat, q ≤ V.length ∧ j = .int .i64 q ∧ Hid (LiesN W w21.heap.size h1.ao V ∧ LiesN W w21.heap.size h2.ao V ∧ Below w.heap.size w W ∧ w21.heap.size ≤ W.heap.size)) (fun j _ => V.length - (intOf j).toNat)
  case atStart => exact ⟨0, Nat.zero_le _, rfl, Lib.hid ⟨HE.out.1, HE.out.2.1, HE.out.2.2, Nat.le_refl _⟩⟩
  case round =>
    obtain ⟨q, hq, rfl, hE⟩ := hrel
    clear HE
    by_cases hlt : q < V.length
    · have r1 : decide ((q : Int) < (V.length : Int)) = true := by simp; omega
      obtain ⟨y, hy⟩ : ∃ y, V[q]? = some y := ⟨_, List.getElem?_eq_getElem (by omega)⟩
      obtain ⟨m1, o1, hbo, -, hcs⟩ := hE.out.1 (by omega)
      obtain ⟨m2, o2, hbp, -, hzs⟩ := hE.out.2.1 (by omega)
      have c0 := hcs q y hy
      have z0 := hzs q y hy
      have t5 : (y != y) = false := by simp
      clear hcs hzs hy
      go_wp2_with fail
      go_quiet (fail)
      have hE2 := Lib.hid (show LiesN (wr.drewN nq) w21.heap.size h1.ao V ∧ LiesN (wr.drewN nq) w21.heap.size h2.ao V ∧ Below w.heap.size w (wr.drewN nq) ∧ w21.heap.size ≤ (wr.drewN nq).heap.size from ⟨hE.out.1.below (Bl.dn _ _ _), hE.out.2.1.below (Bl.dn _ _ _), hE.out.2.2.1.trans (Bl.dn _ _ _), hE.out.2.2.2⟩)
      go_wp2
      exact ⟨⟨q + 1, by omega, by go_num, hE2⟩, by simp [intOf]; omega⟩
    · obtain rfl : q = V.length := by omega
      go_wp2
      go_ret
      exact ⟨rfl, hE.out.2.2.1⟩
end Go.Proofs.Ytmlopacekoghkaa.Cf
