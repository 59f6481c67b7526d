/-
  The law GdataComes' own function: walked. Conditions: as it states.
-/
import Derived.Test.YtbfjimbffpkkhaaGdCmMath
import Derived.Test.YtbfjimbffpkkhaaGdLaw
namespace Go.Proofs.Ytbfjimbffpkkhaa.Pa
open Go.RowKit

structure Dc (w W : World) (N b g n : Nat) (P : Pb) (sb q : Nat) (s : Sb) (vb vs : Nat) : Prop where
  pub : PubAt W b g n 1 P
  sub : SubAt W sb q n s
  cp : W.cell? ⟨vb, 0, none⟩ = some (.pointer (some ⟨b, 0, none⟩))
  cs : W.cell? ⟨vs, 0, none⟩ = some (.pointer (some ⟨sb, 0, none⟩))
  bel : Below N w W
  low : N ≤ b ∧ N ≤ sb ∧ N ≤ q
  bn : b ≠ sb ∧ b ≠ q ∧ b ≠ vb ∧ b ≠ vs
  gn : g ≠ sb ∧ g ≠ q
  vn : vb ≠ sb ∧ vb ≠ q ∧ vs ≠ sb ∧ vs ≠ q
section
variable {w W W' : World} {N b g n sb q vb vs : Nat} {P : Pb} {s : Sb}
theorem Dc.NW (h : Dc w W N b g n P sb q s vb vs) : N ≤ W.heap.size := by have := h.pub.lt; have := h.low.1; omega
theorem Dc.below (h : Dc w W N b g n P sb q s vb vs) (hb : Below W.heap.size W W') : Dc w W' N b g n P sb q s vb vs :=
  ⟨h.pub.below hb, h.sub.below hb, kept_own hb h.cp, kept_own hb h.cs, h.bel.trans (hb.mono h.NW), h.low, h.bn, h.gn, h.vn⟩
theorem Dc.pubs {g' : Nat} {P' : Pb} (h : Dc w W N b g n P sb q s vb vs) (hp : PubAt W' b g' n 1 P') (ho : OnlyL [b] W W') (hg : g' = g ∨ W.heap.size ≤ g') : Dc w W' N b g' n P' sb q s vb vs := by
  obtain ⟨b1, b2, b3, b4⟩ := h.bn
  obtain ⟨g1, g2⟩ := h.gn
  have l2 := h.sub.lt
  have l3 := h.sub.qlt
  refine ⟨hp, h.sub.only ho (by simp; omega) (by simp; omega), ho.cell (by simp; omega) h.cp, ho.cell (by simp; omega) h.cs, h.bel.trans (ho.below (by have := h.low.1; simp; omega) h.NW), h.low, h.bn, ?_, h.vn⟩
  rcases hg with e | e <;> omega
theorem Dc.subs {s' : Sb} (h : Dc w W N b g n P sb q s vb vs) (hp : SubAt W' sb q n s') (ho : OnlyL [sb, q] W W') : Dc w W' N b g n P sb q s' vb vs := by
  obtain ⟨b1, b2, b3, b4⟩ := h.bn
  obtain ⟨g1, g2⟩ := h.gn
  obtain ⟨v1, v2, v3, v4⟩ := h.vn
  obtain ⟨n1, n2, n3⟩ := h.low
  exact ⟨h.pub.only ho (by simp; omega) (by simp; omega), hp, ho.cell (by simp; omega) h.cp, ho.cell (by simp; omega) h.cs, h.bel.trans (ho.below (by simp; omega) h.NW), h.low, h.bn, h.gn, h.vn⟩
end
def Ac (w W : World) (N b n : Nat) (x : Pb × Sb) (sb q vb vs : Nat) : Prop := ∃ g, Dc w W N b g n x.1 sb q x.2 vb vs

attribute [local go_sem ↓] exec_ldF exec_stF
attribute [local go_sem] stF_new0
set_option maxRecDepth 100000 in
set_option maxHeartbeats 4000000 in
theorem all_any (w : World) (N b n k c : Nat) (P : Pb) (s : Sb) (sb q vb vs : Nat) (W : World) (h : Ac w W N b n (P, s) sb q vb vs) (hm : Cm n k P s) (hs : 1 ≤ P.seq) (hc : c ≤ 100) :
    Calls Try.prog 25 #[.int .i64 c, .pointer (some ⟨vb, 0, none⟩), .pointer (some ⟨vs, 0, none⟩)] W fun e w' => e = .returned (.bool true) ∧ Ac w w' N b n (allN n c (P, s)) sb q vb vs := by
  have HA := Lib.hid h
  have HM := Lib.hid (fun j => cm_all hm hs j)
  clear h hm
  go_enter Try.func25, Try.ntmps25
  go_wp2
  go_loopw [10] (fun i W => ∃ j : Nat, j ≤ c ∧ i = .int .i64 j ∧ Hid (Ac w W N b n (allN n j (P, s)) sb q vb vs)) (fun i _ => c - (intOf i).toNat)
  case atStart => exact ⟨0, Nat.zero_le _, rfl, HA⟩
  case round =>
    clear HA
    obtain ⟨j, hj, rfl, hA⟩ := hrel
    by_cases hlt : j < c
    · have d1 : decide (j < c) = true := decide_eq_true hlt
      obtain ⟨g, hD⟩ := hA.out
      obtain ⟨hcm, hsq, -⟩ := HM.out j
      have hs1 : 1 ≤ (allN n j (P, s)).1.seq := by omega
      have hst := cm_stp hcm hs1
      obtain ⟨went, m, hwi⟩ := hcm.wi
      have HE := Lib.hid hst.1
      have HNx := Lib.hid (show allN n (j + 1) (P, s) = (nxP 1 (allN n j (P, s)).1, putS n (allN n j (P, s)).2 (nxF 1 (allN n j (P, s)).1)) from rfl)
      generalize (allN n j (P, s)).1 = P1 at *
      generalize (allN n j (P, s)).2 = s1 at *
      have hvp := hD.cp
      have hvs := hD.cs
      have e1 : decide (0 < P1.seq) = true := decide_eq_true (by omega)
      have HC := Lib.hid (cNext b g n 1 P1 wr hD.pub hwi.wp)
      rw [e1] at HC
      have hfit := nx_fit hwi.wp
      have HPt := Lib.hid (fun W (h : SubAt W sb q n s1) => cSPut sb q n s1 (nxF 1 P1) W h hwi.ws hfit.fit (by have := hfit.len; unfold maxLen; omega))
      have HD := Lib.hid hD
      have HSt := Lib.hid (fun (W : World) => stF_new0 W (nxF 1 P1))
      have HLd := Lib.hid (fun (W : World) => (FrAt.new W (nxF 1 P1) 33).ld)
      clear hA hD hcm hst hwi hfit e1 hs1 hsq
      generalize nxF 1 P1 = F at *
      generalize frA F = X at *
      go_wp2_with fail
      refine HC.out.mono ?_
      rintro e w3 ⟨rfl, g1, hp1, ho1, hg1⟩
      have HD3 := Lib.hid ((HD.out.pubs hp1 ho1 hg1).below (one_S _ X 33))
      have hvs3 := HD3.out.cs
      have hst := HSt.out w3
      have hld := HLd.out w3
      have HP := Lib.hid (HPt.out _ HD3.out.sub)
      clear HC hp1 ho1 hg1 HD HSt HLd HPt hvp hvs
      go_wp2_with fail
      refine HP.out.mono ?_
      rintro e w4 ⟨rfl, hs4, ho4⟩
      have HZ : Hid (Ac w w4 N b n (allN n (j + 1) (P, s)) sb q vb vs) := Lib.hid (by rw [HNx.out]; exact ⟨g1, HD3.out.subs hs4 ho4⟩)
      clear HP hs4 ho4 HD3 hst hld hvs3 HNx
      generalize doneB n s1.gl F = D at *
      obtain ⟨E, hE⟩ : ∃ E, errB n s1.gl F = E := ⟨_, rfl⟩
      rw [hE] at HE
      simp only [hE]
      clear hE
      rcases HE.out with rfl | rfl | rfl
      all_goals
        go_wp2
        go_roundw
        case rel => exact ⟨j + 1, by omega, by go_num, HZ⟩
        case measure => simp [intOf]; omega
    · obtain rfl : j = c := by omega
      have d1 : decide (j < j) = false := by simp
      go_wp2
      go_ret
      exact ⟨rfl, hA.out⟩
end Go.Proofs.Ytbfjimbffpkkhaa.Pa
