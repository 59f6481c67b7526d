/-
  The station and the Check of the reference, walked. Conditions: as each states.
-/
import Derived.Test.YtmlopacekoghkaaCfFault
import Derived.Test.YtmlopacekoghkaaBlRefC
import Derived.Test.YtmlopacekoghkaaImRef
import Derived.Test.YtmlopacekoghkaaVrAll
import Derived.Test.YtmlopacekoghkaaCfCheck
namespace Go.Proofs.Ytmlopacekoghkaa.Cf
open Go.RowKit
open Go.Proofs.Ytmlopacekoghkaa.Bl (Blk Spt findB layO noS Tells I64 one_S cell_of_row kept_own blkV spV Own2 Own4)
open Go.Proofs.Ytmlopacekoghkaa.Il (In)

theorem four_set0 {W : World} {N : Nat} {c1 : Value} (h1 : W.cell? ⟨N, 1, none⟩ = some c1) (v0 v1 v2 v3 : Value) :
    ((((W.setCell ⟨N, 0, none⟩ v0).setCell ⟨N, 1, none⟩ v1).setCell ⟨N, 2, none⟩ v2).setCell ⟨N, 3, none⟩ v3).cell? ⟨N, 1, none⟩ = some v1 := by
  rw [World.cell?_setCell_other _ _ _ _ (Bl.off_ne N (by decide)), World.cell?_setCell_other _ _ _ _ (Bl.off_ne N (by decide))]
  exact World.cell?_setCell_same _ _ _ ((World.cell?_setCell_other _ _ _ _ (Bl.off_ne N (by decide))).trans h1)
theorem rlay_of {w W : World} {c : Clu} {b : Nat} {s : Sta} {d : Nat} (h : Cs w W c b s d) (hF : FitC c) {k : Nat} (hs : c.st[k]? = some s) :
    Calls Try.prog 36 #[.int .i64 s.lo, .slice s.so.ao s.sb.length s.so.cap, .slice c.bo.ao c.bl.length c.bo.cap, .bool true] W (Tells (Bl.errV (layO true s.lo s.sb c.bl)) W) :=
  Bl.rLay_any true s.lo s.sb s.so.ao s.so.cap c.bl c.bo.ao c.bo.cap W (Bl.Im.first (h.cw.ca.self.lies.st k s hs).sb h.cw.ca.self.lies.bl) (hF.2.2 k s hs).2.1.1 (hF.2.2 k s hs).2.1.2.1 (Nat.le_trans hF.1.1 hF.1.2.1)
theorem rreach_of {w W : World} {c : Clu} {b : Nat} {s : Sta} {d : Nat} (h : Cs w W c b s d) (hF : FitC c) {k : Nat} (hs : c.st[k]? = some s) :
    Calls Try.prog 36 #[.int .i64 0, .slice s.po.ao s.pb.length s.po.cap, .slice c.bo.ao c.bl.length c.bo.cap, .bool false] W (Tells (Bl.errV (layO false 0 s.pb c.bl)) W) :=
  Bl.rLay_any false 0 s.pb s.po.ao s.po.cap c.bl c.bo.ao c.bo.cap W (Bl.Im.first (h.cw.ca.self.lies.st k s hs).pb h.cw.ca.self.lies.bl) (hF.2.2 k s hs).2.2.1.1 (hF.2.2 k s hs).2.2.1.2.1 (Nat.le_trans hF.1.1 hF.1.2.1)
theorem rcode_of {w W : World} {c : Clu} {b : Nat} {s : Sta} {d : Nat} (h : Cs w W c b s d) (hF : FitC c) {k : Nat} (hs : c.st[k]? = some s) :
    Calls Try.prog 37 #[.slice s.co.ao s.cd.length s.co.cap] W fun e w' => ∃ (v : Value) (k2 : Int), e = .returned (.tuple #[v, .int .i64 (codE s.cd : Nat), .int .i64 k2]) ∧ Below W.heap.size W w' := by
  refine (Ve.rAll_any s.cd s.co.ao s.co.cap W (h.cw.ca.self.lies.st k s hs).cd (hF.2.2 k s hs).2.2.2 (Nat.le_trans (hF.2.2 k s hs).1.1 (hF.2.2 k s hs).1.2.1)).mono ?_
  intro e w' h
  unfold Ve.Alls at h
  unfold codE
  cases hc : Ve.allB s.cd with
  | error p =>
    obtain ⟨r, q⟩ := p
    rw [hc] at h
    exact ⟨_, _, h.1, h.2⟩
  | ok l =>
    rw [hc] at h
    obtain ⟨g, h1, -, h2⟩ := h
    exact ⟨_, _, h1, h2⟩
theorem rfind_of {w W : World} {c : Clu} {b : Nat} {s : Sta} {d : Nat} (h : Cs w W c b s d) (hF : FitC c) (id : Int) :
    Calls Try.prog 30 #[.slice c.bo.ao c.bl.length c.bo.cap, .int .i64 id] W (Tells (Bl.foundV (findB c.bl id)) W) :=
  Bl.rFind_any c.bl c.bo.ao c.bo.cap id W h.cw.ca.self.lies.bl (Nat.le_trans hF.1.1 hF.1.2.1)

set_option maxRecDepth 100000 in
set_option maxHeartbeats 8000000 in
theorem station_any (c : Clu) (i : Nat) (w : World) (hL : CluL w w.heap.size c) (hF : FitC c) (hi : i < c.st.length) :
    Calls Try.prog 24 #[.agg (cluC c), .int .i64 i] w (Tells (.int .i64 (fauB c i)) w) := by
  obtain ⟨s, hs⟩ : ∃ s, c.st[i]? = some s := ⟨_, List.getElem?_eq_getElem hi⟩
  have hlc : c.st.length ≤ c.sh.cap := hF.2.1.1
  have hml : (c.sh.cap : Int) ≤ 9223372036854775807 := by have := hF.2.1.2.1; unfold maxLen at this; omega
  obtain ⟨E, hE⟩ : ∃ E, E = fauB c i := ⟨_, rfl⟩
  rw [← hE]
  unfold fauB at hE
  rw [tget_at hs] at hE
  have hC := Cw.first hL
  obtain ⟨b0, o0, hao, hb0, hcs⟩ := hC.ca.lies.row (by omega)
  obtain ⟨s0, s1, s2, s3, s4, s5⟩ := hcs i s hs
  obtain ⟨q0, q1, q2, q3, q4, q5, q6, q7⟩ := hC.ow.cells
  rw [hao] at q7
  have hb := one_S (w.alloc (.cells (cluC c) 25)) (staC s) 36
  have hS : Cs w _ c w.heap.size s (w.heap.size + 1) := ⟨hC.next hb, by have := Own6.new (w.alloc (.cells (cluC c) 25)) s 36; rwa [show (w.alloc (.cells (cluC c) 25)).heap.size = w.heap.size + 1 by simp] at this⟩
  obtain ⟨d0, d1, d2, d3, d4, d5⟩ := hS.os.cells
  obtain ⟨g0, g1, g2, g3, g4, g5, g6, g7⟩ := hS.cw.ow.cells
  rw [hao] at g7
  have HS := Lib.hid hS
  have HX := Lib.hid (⟨hs, hE, hF, hao⟩ : _ ∧ _ ∧ _ ∧ _)
  have HW := Lib.hid qin_any
  clear hS hs hE hF hb hL hC hcs hao
  unfold staC cluC at *
  generalize hbb : w.heap.size = bb at *
  cases b1 : inB s.ad 0 c.tp
  · have b1 := Lib.hid b1
    obtain rfl : E = 3 := by rw [HX.out.2.1]; unfold fauS; rw [b1.out]; rfl
    clear HX
    go_enter Try.func24, Try.ntmps24
    go_wp2_with fail
    refine (HW.out _ _ _ _).mono ?_
    rintro e w1 ⟨rfl, rfl⟩
    rw [b1.out]
    go_wp2
    go_ret
    exact ⟨rfl, HS.out.cw.ca.below⟩
  have b1 := Lib.hid b1
  cases b2 : inB s.sc 1 1000
  · have b2 := Lib.hid b2
    obtain rfl : E = 3 := by rw [HX.out.2.1]; unfold fauS; rw [b1.out, b2.out]; rfl
    clear HX
    go_enter Try.func24, Try.ntmps24
    go_wp2_with fail
    refine (HW.out _ _ _ _).mono ?_
    rintro e w1 ⟨rfl, rfl⟩
    rw [b1.out]
    go_wp2_with fail
    refine (HW.out _ _ _ _).mono ?_
    rintro e w1 ⟨rfl, rfl⟩
    rw [b2.out]
    go_wp2
    go_ret
    exact ⟨rfl, HS.out.cw.ca.below⟩
  have b2 := Lib.hid b2
  go_enter Try.func24, Try.ntmps24
  go_wp2_with fail
  refine (HW.out _ _ _ _).mono ?_
  rintro e w1 ⟨rfl, rfl⟩
  rw [b1.out]
  go_wp2_with fail
  refine (HW.out _ _ _ _).mono ?_
  rintro e w1 ⟨rfl, rfl⟩
  rw [b2.out]
  go_wp2
  clear s0 s1 s2 s3 s4 s5 q0 q1 q2 q3 q4 q5 q6 q7 d0 d1 d2 d3 d4 d5 g0 g1 g2 g3 g4 g5 g6 g7
  have HE : Hid (E = if ahB c.st i 0 s.ad = true then 14 else ownE c s) := Lib.hid (by rw [HX.out.2.1]; unfold fauS; rw [b1.out, b2.out]; rfl)
  clear b1 b2
  go_loopw [6] (fun j W => ∃ k : Nat, k ≤ i ∧ j = .int .i64 k ∧ Hid (ahB c.st i 0 s.ad = ahB c.st i k s.ad) ∧ Hid (Cs w W c bb s (bb + 1))) (fun j _ => i - (intOf j).toNat)
  case atStart => exact ⟨0, Nat.zero_le _, rfl, Lib.hid rfl, HS⟩
  case round =>
    obtain ⟨k, hk, rfl, hT, hR⟩ := hrel
    clear HS
    obtain ⟨d0, d1, d2, d3, d4, d5⟩ := hR.out.os.cells
    obtain ⟨g0, g1, g2, g3, g4, g5, g6, g7⟩ := hR.out.cw.ow.cells
    by_cases hlt : k < i
    · have e1 : decide ((k : Int) < (i : Int)) = true := by simp; omega
      obtain ⟨y, hy⟩ : ∃ y, c.st[k]? = some y := ⟨_, List.getElem?_eq_getElem (by omega)⟩
      obtain ⟨b1, o1, hbo, hb1, hcs⟩ := hR.out.cw.ca.lies.row (by omega)
      rw [HX.out.2.2.2] at hbo
      obtain ⟨c0, c1, c2, c3, c4, c5⟩ := hcs k y hy
      injection hbo with hbo
      injection hbo with hbo hbo2
      subst hbo hbo2
      rw [HX.out.2.2.2] at g7
      have htw := ah_at hy hlt s.ad
      clear hcs hy
      by_cases he : y.ad = s.ad
      · have e2 : (y.ad == s.ad) = true := beq_iff_eq.2 he
        rw [decide_eq_true he, Bool.true_or] at htw
        obtain rfl : E = 14 := by rw [HE.out, hT.out, htw]; rfl
        clear HE HX htw hT he
        go_wp2_with fail
        go_quiet (fail)
        go_wp2
        go_ret
        exact ⟨rfl, (hR.out.next (Bl.dn _ _ _)).cw.ca.below⟩
      · have e2 : (y.ad == s.ad) = false := beq_eq_false_iff_ne.2 he
        rw [decide_eq_false he, Bool.false_or] at htw
        have HT2 := Lib.hid (hT.out.trans htw)
        clear htw hT he
        go_wp2_with fail
        go_quiet (fail)
        have hR2 := Lib.hid (hR.out.next (Bl.dn wr wr.heap.size nq))
        go_wp2
        go_roundw
        case rel => exact ⟨k + 1, by omega, by go_num, HT2, hR2⟩
        case measure => simp [intOf]; omega
    · obtain rfl : k = i := by omega
      have hE : E = ownE c s := by rw [HE.out, hT.out, ah_end]; rfl
      clear HE hT
      obtain ⟨hs, -, hF, hao⟩ := HX.out
      have HLay := Lib.hid (fun W (h : Cs w W c bb s (bb + 1)) => rlay_of h hF hs)
      have HRea := Lib.hid (fun W (h : Cs w W c bb s (bb + 1)) => rreach_of h hF hs)
      have HCod := Lib.hid (fun W (h : Cs w W c bb s (bb + 1)) => rcode_of h hF hs)
      have HFin := Lib.hid (fun W (h : Cs w W c bb s (bb + 1)) => rfind_of h hF)
      have HPb := Lib.hid (fun W (h : Ca w W c) => (h.lies.st k s hs).pb)
      have hFp := (hF.2.2 k s hs).2.2.1
      have hmp : (s.po.cap : Int) ≤ 9223372036854775807 := by have := hFp.2.1; unfold maxLen at this; omega
      have hmp2 := hFp.1
      clear hs hF hao HX hFp
      obtain ⟨⟨r1, r2⟩, hr⟩ : ∃ r, r = layO true s.lo s.sb c.bl := ⟨_, rfl⟩
      obtain ⟨⟨p1, p2⟩, hp⟩ : ∃ r, r = layO false 0 s.pb c.bl := ⟨_, rfl⟩
      obtain ⟨q1, hq⟩ : ∃ q, q = codE s.cd := ⟨_, rfl⟩
      unfold ownE at hE
      rw [← hr, ← hp, ← hq] at hE
      rw [← hr] at HLay
      rw [← hp] at HRea
      rw [← hq] at HCod
      unfold Bl.errV at HLay HRea
      dsimp only at hE HLay HRea
      clear hr hp hq
      by_cases h1 : r1 = 0
      · rw [if_pos h1] at hE
        subst h1
        by_cases h2 : q1 = 0
        · rw [if_pos h2] at hE
          subst h2
          by_cases h3 : p1 = 0
          · rw [if_pos h3] at hE
            subst h3
            have HE := Lib.hid hE
            clear hE
            go_wp2_with fail
            refine (HLay.out _ hR.out).mono ?_
            rintro e w3 ⟨rfl, hb⟩
            have HR3 := Lib.hid (hR.out.next hb)
            clear hb hR
            obtain ⟨d0, d1, d2, d3, d4, d5⟩ := HR3.out.os.cells
            obtain ⟨g0, g1, g2, g3, g4, g5, g6, g7⟩ := HR3.out.cw.ow.cells
            go_wp2_with fail
            refine (HCod.out _ HR3.out).mono ?_
            rintro e w4 ⟨cv, ck, rfl, hb⟩
            have HR4 := Lib.hid (HR3.out.next hb)
            clear hb HR3
            obtain ⟨d0, d1, d2, d3, d4, d5⟩ := HR4.out.os.cells
            obtain ⟨g0, g1, g2, g3, g4, g5, g6, g7⟩ := HR4.out.cw.ow.cells
            go_wp2_with fail
            refine (HRea.out _ HR4.out).mono ?_
            rintro e w5 ⟨rfl, hb⟩
            have HR5 := Lib.hid (HR4.out.next hb)
            clear hb HR4
            obtain ⟨d0, d1, d2, d3, d4, d5⟩ := HR5.out.os.cells
            obtain ⟨g0, g1, g2, g3, g4, g5, g6, g7⟩ := HR5.out.cw.ow.cells
            go_wp2
            clear d0 d1 d2 d3 d4 d5 g0 g1 g2 g3 g4 g5 g6 g7
            go_loopw [9] (fun j W => ∃ q : Nat, q ≤ s.pb.length ∧ j = .int .i64 q ∧ Hid (E = if namB c.bl s.ad s.pb q = true then 5 else 0) ∧ Hid (Cs w W c bb s (bb + 1))) (fun j _ => s.pb.length - (intOf j).toNat)
            case atStart => exact ⟨0, Nat.zero_le _, rfl, HE, HR5⟩
            case round =>
              obtain ⟨q, hq, rfl, hT, hR⟩ := hrel
              clear HR5 HE
              obtain ⟨d0, d1, d2, d3, d4, d5⟩ := hR.out.os.cells
              obtain ⟨g0, g1, g2, g3, g4, g5, g6, g7⟩ := hR.out.cw.ow.cells
              by_cases hlt : q < s.pb.length
              · have e1 : decide ((q : Int) < (s.pb.length : Int)) = true := by simp; omega
                obtain ⟨y, hy⟩ : ∃ y, s.pb[q]? = some y := ⟨_, List.getElem?_eq_getElem (by omega)⟩
                obtain ⟨b1, o1, hbo, hb1, hcs⟩ := HPb.out _ hR.out.cw.ca (by omega)
                obtain ⟨c0, c1⟩ := hcs q y hy
                have hgo := hT.out
                rw [nam_at hy] at hgo
                rw [hbo] at d5
                have HFq := Lib.hid (fun W (h : Cs w W c bb s (bb + 1)) => HFin.out W h y.b)
                obtain ⟨⟨x, fd⟩, hx⟩ : ∃ r, r = findB c.bl y.b := ⟨_, rfl⟩
                rw [← hx] at HFq hgo
                unfold Bl.foundV blkV at HFq
                dsimp only at HFq hgo
                have HK := Lib.hid (fun W' (hb : Below wr.heap.size wr W') => (⟨kept_own hb g6, kept_own hb d5, kept_own hb c0, kept_own hb d0⟩ : W'.cell? ⟨bb, 6, none⟩ = some (.slice c.bo.ao c.bl.length c.bo.cap) ∧ W'.cell? ⟨bb + 1, 0 + 5, none⟩ = some (.slice (some ⟨b1, o1, none⟩) s.pb.length s.po.cap) ∧ W'.cell? ⟨b1, o1 + q * 2, none⟩ = some (.int .i64 y.b) ∧ W'.cell? ⟨bb + 1, 0, none⟩ = some (.int .i64 s.ad)))
                have oz := one_S wr #[.int .i64 0, .int .i64 0, .int .i64 0, .bool false] 61
                have hQ1 := Lib.hid (show Below wr.heap.size wr (wr.alloc (.cells #[.int .i64 0, .int .i64 0, .int .i64 0, .bool false] 61)).drew ∧ Cs w (wr.alloc (.cells #[.int .i64 0, .int .i64 0, .int .i64 0, .bool false] 61)).drew c bb s (bb + 1) ∧ Own4 (wr.alloc (.cells #[.int .i64 0, .int .i64 0, .int .i64 0, .bool false] 61)).drew wr.heap.size Bl.noB 61 from ⟨oz.drew, (hR.out.next oz).next (Below.refl _ _).drew, Own4.new wr Bl.noB 61⟩)
                clear oz
                have hA1 := Lib.hid (hR.out.next (Below.refl _ _).drew)
                have hP1 := Lib.hid (show Below wr.heap.size wr wr.drew from (Below.refl _ _).drew)
                clear hcs hx hT hy c1
                obtain ⟨B, e3⟩ : ∃ B, (x.ad != s.ad) = B := ⟨_, rfl⟩
                rw [e3] at hgo
                go_wp2_with fail
                go_region_held3 (fun W' => W'.cell? ⟨bb, 6, none⟩ = some (.slice c.bo.ao c.bl.length c.bo.cap) ∧ W'.cell? ⟨bb + 1, 0 + 5, none⟩ = some (.slice (some ⟨b1, o1, none⟩) s.pb.length s.po.cap) ∧ W'.cell? ⟨b1, o1 + q * 2, none⟩ = some (.int .i64 y.b) ∧ W'.cell? ⟨bb + 1, 0, none⟩ = some (.int .i64 s.ad))
                  (first | with_reducible exact HK.out _ hP1.out | with_reducible exact HK.out _ (Bl.alloc_below hP1.out _ _) | with_reducible exact HK.out _ hQ1.out.1 | with_reducible exact HK.out _ (Bl.set4_below hP1.out _ _ _ _))
                  ((first
                    | (go_at_call 30; (with_reducible refine (HFq.out _ hA1.out).mono ?_); rintro e w20 ⟨rfl, hb20⟩; have hP2 := Lib.hid (show Below wr.heap.size wr w20 from (Below.refl wr.heap.size wr).drew.trans hb20); clear hb20 hP1; have hP1 := hP2; clear hP2)
                    | (go_at_call 30; (with_reducible refine (HFq.out _ hQ1.out.2.1).mono ?_); rintro e w20 ⟨rfl, hb20⟩; have hP2 := Lib.hid (show Below wr.heap.size wr w20 from hQ1.out.1.trans (hb20.mono hQ1.out.1.size)); have hz := hQ1.out.2.2.kept hb20 hQ1.out.2.2.lt; obtain ⟨z0, z1, z2, z3⟩ := hz.cells; have zf := hz.frozen; have f0 := zf 0; have f1 := zf 1; have f2 := zf 2; have f3 := zf 3; clear hb20 zf hz hP1; have hP1 := hP2; clear hP2)))
                · obtain ⟨v0, v1, v2, v3⟩ := (Own4.new w20 x 61).cells
                  have HR6 := Lib.hid (hR.out.next (Bl.alloc_below hP1.out #[.int .i64 x.id, .int .i64 x.ad, .int .i64 x.sz, .bool x.hi] 61))
                  clear hR hA1 hQ1 hP1 HK g0 g1 g2 g3 g4 g5 g6 g7 c0 d5
                  obtain ⟨d0, d1, d2, d3, d4, d5⟩ := HR6.out.os.cells
                  cases B
                  · rw [Bool.false_or] at hgo
                    have HT2 := Lib.hid hgo
                    clear hgo
                    go_wp2
                    rw [← hbo]
                    clear hbo
                    go_roundw
                    case rel => exact ⟨q + 1, by omega, by go_num, HT2, HR6⟩
                    case measure => simp [intOf]; omega
                  · rw [Bool.true_or] at hgo
                    obtain rfl : E = 5 := by rw [hgo]; rfl
                    clear hgo
                    go_wp2
                    go_ret
                    exact ⟨rfl, HR6.out.cw.ca.below⟩
                · have v1 := four_set0 z1 (.int .i64 x.id) (.int .i64 x.ad) (.int .i64 x.sz) (.bool x.hi)
                  have HR6 := Lib.hid (hR.out.next (Bl.set4_below hP1.out (.int .i64 x.id) (.int .i64 x.ad) (.int .i64 x.sz) (.bool x.hi)))
                  clear z0 z1 z2 z3 f0 f1 f2 f3
                  clear hR hA1 hQ1 hP1 HK g0 g1 g2 g3 g4 g5 g6 g7 c0 d5
                  obtain ⟨d0, d1, d2, d3, d4, d5⟩ := HR6.out.os.cells
                  cases B
                  · rw [Bool.false_or] at hgo
                    have HT2 := Lib.hid hgo
                    clear hgo
                    go_wp2
                    rw [← hbo]
                    clear hbo
                    go_roundw
                    case rel => exact ⟨q + 1, by omega, by go_num, HT2, HR6⟩
                    case measure => simp [intOf]; omega
                  · rw [Bool.true_or] at hgo
                    obtain rfl : E = 5 := by rw [hgo]; rfl
                    clear hgo
                    go_wp2
                    go_ret
                    exact ⟨rfl, HR6.out.cw.ca.below⟩
              · obtain rfl : q = s.pb.length := by omega
                obtain rfl : E = 0 := by rw [hT.out, nam_end]; rfl
                clear hT
                go_wp2
                go_ret
                exact ⟨rfl, hR.out.cw.ca.below⟩
          · rw [if_neg h3] at hE
            obtain rfl : E = p1 := hE
            have e4 : (E != 0) = true := by simpa [bne_iff_ne] using h3
            clear h3
            go_wp2_with fail
            refine (HLay.out _ hR.out).mono ?_
            rintro e w3 ⟨rfl, hb⟩
            have HR3 := Lib.hid (hR.out.next hb)
            clear hb hR
            obtain ⟨d0, d1, d2, d3, d4, d5⟩ := HR3.out.os.cells
            obtain ⟨g0, g1, g2, g3, g4, g5, g6, g7⟩ := HR3.out.cw.ow.cells
            go_wp2_with fail
            refine (HCod.out _ HR3.out).mono ?_
            rintro e w4 ⟨cv, ck, rfl, hb⟩
            have HR4 := Lib.hid (HR3.out.next hb)
            clear hb HR3
            obtain ⟨d0, d1, d2, d3, d4, d5⟩ := HR4.out.os.cells
            obtain ⟨g0, g1, g2, g3, g4, g5, g6, g7⟩ := HR4.out.cw.ow.cells
            go_wp2_with fail
            refine (HRea.out _ HR4.out).mono ?_
            rintro e w5 ⟨rfl, hb⟩
            have HR5 := Lib.hid (HR4.out.next hb)
            clear hb HR4
            obtain ⟨d0, d1, d2, d3, d4, d5⟩ := HR5.out.os.cells
            obtain ⟨g0, g1, g2, g3, g4, g5, g6, g7⟩ := HR5.out.cw.ow.cells
            go_wp2
            go_ret
            exact ⟨rfl, HR5.out.cw.ca.below⟩
        · rw [if_neg h2] at hE
          have e4 : (E != 0) = true := by rw [hE]; simpa [bne_iff_ne] using h2
          rw [← hE] at HCod
          have HE := Lib.hid hE
          clear hE
          clear h2
          go_wp2_with fail
          refine (HLay.out _ hR.out).mono ?_
          rintro e w3 ⟨rfl, hb⟩
          have HR3 := Lib.hid (hR.out.next hb)
          clear hb hR
          obtain ⟨d0, d1, d2, d3, d4, d5⟩ := HR3.out.os.cells
          obtain ⟨g0, g1, g2, g3, g4, g5, g6, g7⟩ := HR3.out.cw.ow.cells
          go_wp2_with fail
          refine (HCod.out _ HR3.out).mono ?_
          rintro e w4 ⟨cv, ck, rfl, hb⟩
          have HR4 := Lib.hid (HR3.out.next hb)
          clear hb HR3
          obtain ⟨d0, d1, d2, d3, d4, d5⟩ := HR4.out.os.cells
          obtain ⟨g0, g1, g2, g3, g4, g5, g6, g7⟩ := HR4.out.cw.ow.cells
          go_wp2
          go_ret
          exact ⟨rfl, HR4.out.cw.ca.below⟩
      · rw [if_neg h1] at hE
        obtain rfl : E = r1 := hE
        have e4 : (E != 0) = true := by simpa [bne_iff_ne] using h1
        clear h1
        go_wp2_with fail
        refine (HLay.out _ hR.out).mono ?_
        rintro e w3 ⟨rfl, hb⟩
        have HR3 := Lib.hid (hR.out.next hb)
        clear hb hR
        obtain ⟨d0, d1, d2, d3, d4, d5⟩ := HR3.out.os.cells
        obtain ⟨g0, g1, g2, g3, g4, g5, g6, g7⟩ := HR3.out.cw.ow.cells
        go_wp2
        go_ret
        exact ⟨rfl, HR3.out.cw.ca.below⟩
end Go.Proofs.Ytmlopacekoghkaa.Cf

namespace Go.Proofs.Ytmlopacekoghkaa.Cf
open Go.RowKit
open Go.Proofs.Ytmlopacekoghkaa.Bl (Blk Spt findB layO noS Tells I64 one_S cell_of_row kept_own blkV spV Own2 Own4)
open Go.Proofs.Ytmlopacekoghkaa.Il (In)

set_option maxRecDepth 100000 in
set_option maxHeartbeats 8000000 in
theorem qCheck_any (c : Clu) (w : World) (hL : CluL w w.heap.size c) (hF : FitC c) :
    Calls Try.prog 9 #[.agg (cluC c)] w (Tells (Bl.errV (chkC c)) w) := by
  obtain ⟨⟨R1, R2⟩, hR⟩ : ∃ R, R = chkC c := ⟨_, rfl⟩
  rw [← hR]
  unfold chkC at hR
  unfold Bl.errV
  dsimp only
  have hml : (c.st.length : Int) ≤ 9223372036854775807 := by have h1 := hF.2.1.1; have := hF.2.1.2.1; unfold maxLen at this; omega
  have hC := Cw.first hL
  obtain ⟨g0, g1, g2, g3, g4, g5, g6, g7⟩ := hC.ow.cells
  have HC := Lib.hid hC
  have HW := Lib.hid qin_any
  have HBl := Lib.hid (fun W (h : Ca w W c) => Bl.rCheck_any c.bl c.bo.ao c.bo.cap W h.self.lies.bl (Nat.le_trans hF.1.1 hF.1.2.1))
  have HFa := Lib.hid (fun (i : Nat) (hi : i < c.st.length) W (h : Ca w W c) => station_any c i W h.self.lies hF hi)
  obtain ⟨⟨r1, r2⟩, hr⟩ : ∃ r, r = Bl.chkB c.bl := ⟨_, rfl⟩
  rw [← hr] at hR HBl
  unfold Bl.chkV at HBl
  dsimp only at HBl hR
  have hr2 : r2 ≤ 16 := by have := chkB_le c.bl; rw [← hr] at this; exact this
  clear hC hr hL hF
  unfold cluC at *
  generalize hbb : w.heap.size = bb at *
  cases b1 : inB c.sl 4 50
  · have b1 := Lib.hid b1
    have ht : timB c = false := by unfold timB; rw [b1.out]; rfl
    rw [ht, if_neg (by decide)] at hR
    obtain ⟨rfl, rfl⟩ : R1 = 3 ∧ R2 = 0 := by injection hR with h1 h2; exact ⟨h1, h2⟩
    clear hR ht
    go_enter Try.func9, Try.ntmps9
    go_wp2_with fail
    refine (HW.out _ _ _ _).mono ?_
    rintro e w1 ⟨rfl, rfl⟩
    rw [b1.out]
    go_wp2
    go_ret2
    exact ⟨rfl, HC.out.ca.below⟩
  have b1 := Lib.hid b1
  cases b2 : inB c.tt 1 10000
  · have b2 := Lib.hid b2
    have ht : timB c = false := by unfold timB; rw [b1.out, b2.out]; rfl
    rw [ht, if_neg (by decide)] at hR
    obtain ⟨rfl, rfl⟩ : R1 = 3 ∧ R2 = 0 := by injection hR with h1 h2; exact ⟨h1, h2⟩
    clear hR ht
    go_enter Try.func9, Try.ntmps9
    go_wp2_with fail
    refine (HW.out _ _ _ _).mono ?_
    rintro e w1 ⟨rfl, rfl⟩
    rw [b1.out]
    go_wp2_with fail
    refine (HW.out _ _ _ _).mono ?_
    rintro e w2 ⟨rfl, rfl⟩
    rw [b2.out]
    go_wp2
    go_ret2
    exact ⟨rfl, HC.out.ca.below⟩
  have b2 := Lib.hid b2
  cases b3 : inB c.gp 1 50
  · have b3 := Lib.hid b3
    have ht : timB c = false := by unfold timB; rw [b1.out, b2.out, b3.out]; rfl
    rw [ht, if_neg (by decide)] at hR
    obtain ⟨rfl, rfl⟩ : R1 = 3 ∧ R2 = 0 := by injection hR with h1 h2; exact ⟨h1, h2⟩
    clear hR ht
    go_enter Try.func9, Try.ntmps9
    go_wp2_with fail
    refine (HW.out _ _ _ _).mono ?_
    rintro e w1 ⟨rfl, rfl⟩
    rw [b1.out]
    go_wp2_with fail
    refine (HW.out _ _ _ _).mono ?_
    rintro e w2 ⟨rfl, rfl⟩
    rw [b2.out]
    go_wp2_with fail
    refine (HW.out _ _ _ _).mono ?_
    rintro e w3 ⟨rfl, rfl⟩
    rw [b3.out]
    go_wp2
    go_ret2
    exact ⟨rfl, HC.out.ca.below⟩
  have b3 := Lib.hid b3
  cases b4 : inB c.rt 0 3
  · have b4 := Lib.hid b4
    have ht : timB c = false := by unfold timB; rw [b1.out, b2.out, b3.out, b4.out]; rfl
    rw [ht, if_neg (by decide)] at hR
    obtain ⟨rfl, rfl⟩ : R1 = 3 ∧ R2 = 0 := by injection hR with h1 h2; exact ⟨h1, h2⟩
    clear hR ht
    go_enter Try.func9, Try.ntmps9
    go_wp2_with fail
    refine (HW.out _ _ _ _).mono ?_
    rintro e w1 ⟨rfl, rfl⟩
    rw [b1.out]
    go_wp2_with fail
    refine (HW.out _ _ _ _).mono ?_
    rintro e w2 ⟨rfl, rfl⟩
    rw [b2.out]
    go_wp2_with fail
    refine (HW.out _ _ _ _).mono ?_
    rintro e w3 ⟨rfl, rfl⟩
    rw [b3.out]
    go_wp2_with fail
    refine (HW.out _ _ _ _).mono ?_
    rintro e w4 ⟨rfl, rfl⟩
    rw [b4.out]
    go_wp2
    go_ret2
    exact ⟨rfl, HC.out.ca.below⟩
  have b4 := Lib.hid b4
  cases b5 : inB c.lm 1 65535
  · have b5 := Lib.hid b5
    have ht : timB c = false := by unfold timB; rw [b1.out, b2.out, b3.out, b4.out, b5.out]; rfl
    rw [ht, if_neg (by decide)] at hR
    obtain ⟨rfl, rfl⟩ : R1 = 3 ∧ R2 = 0 := by injection hR with h1 h2; exact ⟨h1, h2⟩
    clear hR ht
    go_enter Try.func9, Try.ntmps9
    go_wp2_with fail
    refine (HW.out _ _ _ _).mono ?_
    rintro e w1 ⟨rfl, rfl⟩
    rw [b1.out]
    go_wp2_with fail
    refine (HW.out _ _ _ _).mono ?_
    rintro e w2 ⟨rfl, rfl⟩
    rw [b2.out]
    go_wp2_with fail
    refine (HW.out _ _ _ _).mono ?_
    rintro e w3 ⟨rfl, rfl⟩
    rw [b3.out]
    go_wp2_with fail
    refine (HW.out _ _ _ _).mono ?_
    rintro e w4 ⟨rfl, rfl⟩
    rw [b4.out]
    go_wp2_with fail
    refine (HW.out _ _ _ _).mono ?_
    rintro e w5 ⟨rfl, rfl⟩
    rw [b5.out]
    go_wp2
    go_ret2
    exact ⟨rfl, HC.out.ca.below⟩
  have b5 := Lib.hid b5
  cases b6 : inB c.tp 0 31
  · have b6 := Lib.hid b6
    have ht : timB c = false := by unfold timB; rw [b1.out, b2.out, b3.out, b4.out, b5.out, b6.out]; rfl
    rw [ht, if_neg (by decide)] at hR
    obtain ⟨rfl, rfl⟩ : R1 = 3 ∧ R2 = 0 := by injection hR with h1 h2; exact ⟨h1, h2⟩
    clear hR ht
    go_enter Try.func9, Try.ntmps9
    go_wp2_with fail
    refine (HW.out _ _ _ _).mono ?_
    rintro e w1 ⟨rfl, rfl⟩
    rw [b1.out]
    go_wp2_with fail
    refine (HW.out _ _ _ _).mono ?_
    rintro e w2 ⟨rfl, rfl⟩
    rw [b2.out]
    go_wp2_with fail
    refine (HW.out _ _ _ _).mono ?_
    rintro e w3 ⟨rfl, rfl⟩
    rw [b3.out]
    go_wp2_with fail
    refine (HW.out _ _ _ _).mono ?_
    rintro e w4 ⟨rfl, rfl⟩
    rw [b4.out]
    go_wp2_with fail
    refine (HW.out _ _ _ _).mono ?_
    rintro e w5 ⟨rfl, rfl⟩
    rw [b5.out]
    go_wp2_with fail
    refine (HW.out _ _ _ _).mono ?_
    rintro e w6 ⟨rfl, rfl⟩
    rw [b6.out]
    go_wp2
    go_ret2
    exact ⟨rfl, HC.out.ca.below⟩
  have b6 := Lib.hid b6
  have ht : timB c = true := by unfold timB; rw [b1.out, b2.out, b3.out, b4.out, b5.out, b6.out]; rfl
  rw [ht, if_pos rfl] at hR
  clear ht
  by_cases hz : r1 = 0
  · rw [if_pos hz] at hR
    subst hz
    by_cases h32 : 1 ≤ c.st.length ∧ c.st.length ≤ 32
    · rw [if_pos h32] at hR
      have b7 := Lib.hid (show inB (c.st.length : Int) 1 32 = true from in_iff.2 (by omega))
      have HR := Lib.hid (show (R1, R2) = chkF c 0 (c.st.length - 0) from hR)
      clear hR
      go_enter Try.func9, Try.ntmps9
      go_wp2_with fail
      refine (HW.out _ _ _ _).mono ?_
      rintro e w1 ⟨rfl, rfl⟩
      rw [b1.out]
      go_wp2_with fail
      refine (HW.out _ _ _ _).mono ?_
      rintro e w2 ⟨rfl, rfl⟩
      rw [b2.out]
      go_wp2_with fail
      refine (HW.out _ _ _ _).mono ?_
      rintro e w3 ⟨rfl, rfl⟩
      rw [b3.out]
      go_wp2_with fail
      refine (HW.out _ _ _ _).mono ?_
      rintro e w4 ⟨rfl, rfl⟩
      rw [b4.out]
      go_wp2_with fail
      refine (HW.out _ _ _ _).mono ?_
      rintro e w5 ⟨rfl, rfl⟩
      rw [b5.out]
      go_wp2_with fail
      refine (HW.out _ _ _ _).mono ?_
      rintro e w6 ⟨rfl, rfl⟩
      rw [b6.out]
      have HC1 := HC
      clear HC
      obtain ⟨g0, g1, g2, g3, g4, g5, g6, g7⟩ := HC1.out.ow.cells
      go_wp2_with fail
      refine (HBl.out _ HC1.out.ca).mono ?_
      rintro e w2 ⟨rfl, hb⟩
      have HC2 := Lib.hid (HC1.out.next hb)
      clear hb HC1
      obtain ⟨g0, g1, g2, g3, g4, g5, g6, g7⟩ := HC2.out.ow.cells
      go_wp2_with fail
      refine (HW.out _ _ _ _).mono ?_
      rintro e w3 ⟨rfl, rfl⟩
      rw [b7.out]
      go_wp2
      clear g0 g1 g2 g3 g4 g5 g6 g7
      go_loopw [6] (fun j W => ∃ k : Nat, k ≤ c.st.length ∧ j = .int .i64 k ∧ Hid ((R1, R2) = chkF c k (c.st.length - k)) ∧ Hid (Cw w W c bb)) (fun j _ => c.st.length - (intOf j).toNat)
      case atStart => exact ⟨0, Nat.zero_le _, rfl, HR, HC2⟩
      case round =>
        obtain ⟨k, hk, rfl, hR, hC⟩ := hrel
        clear HR HC2
        obtain ⟨g0, g1, g2, g3, g4, g5, g6, g7⟩ := hC.out.ow.cells
        by_cases hlt : k < c.st.length
        · have e1 : decide ((k : Int) < (c.st.length : Int)) = true := by simp; omega
          have HFk := Lib.hid (HFa.out k hlt)
          have hgo := hR.out
          rw [chkF_go hlt] at hgo
          by_cases h0 : fauB c k = 0
          · rw [if_pos h0] at hgo
            rw [h0] at HFk
            have HR2 := Lib.hid hgo
            clear hgo hR h0
            go_wp2_with fail
            refine (HFk.out _ hC.out.ca).mono ?_
            rintro e w3 ⟨rfl, hb⟩
            have HC3 := Lib.hid (hC.out.next hb)
            clear hb hC
            go_wp2
            go_roundw
            case rel => exact ⟨k + 1, by omega, by go_num, HR2, HC3⟩
            case measure => simp [intOf]; omega
          · rw [if_neg h0] at hgo
            obtain ⟨h5, h2⟩ : R1 = fauB c k ∧ R2 = 100 + (k : Int) := by injection hgo with h1 h2; exact ⟨h1, h2⟩
            have hw : IntKind.i64.wrap (100 + (k : Int)) = R2 := by rw [IntKind.wrap_i64]; omega
            have e4 : (R1 != 0) = true := by rw [h5]; simpa [bne_iff_ne] using h0
            rw [← h5] at HFk
            clear hgo hR h0 h5 h2
            go_wp2_with fail
            refine (HFk.out _ hC.out.ca).mono ?_
            rintro e w3 ⟨rfl, hb⟩
            have HC3 := Lib.hid (hC.out.next hb)
            clear hb hC
            go_wp2
            go_ret2
            exact ⟨rfl, HC3.out.ca.below⟩
        · obtain rfl : k = c.st.length := by omega
          obtain ⟨rfl, rfl⟩ : R1 = 0 ∧ R2 = 0 := by have := hR.out; rw [chkF_end] at this; injection this with h1 h2; exact ⟨h1, h2⟩
          clear hR
          go_wp2
          go_ret2
          exact ⟨rfl, hC.out.ca.below⟩
    · rw [if_neg h32] at hR
      obtain ⟨rfl, rfl⟩ : R1 = 2 ∧ R2 = 100 := by injection hR with h1 h2; exact ⟨h1, h2⟩
      clear hR
      go_enter Try.func9, Try.ntmps9
      go_wp2_with fail
      refine (HW.out _ _ _ _).mono ?_
      rintro e w1 ⟨rfl, rfl⟩
      rw [b1.out]
      go_wp2_with fail
      refine (HW.out _ _ _ _).mono ?_
      rintro e w2 ⟨rfl, rfl⟩
      rw [b2.out]
      go_wp2_with fail
      refine (HW.out _ _ _ _).mono ?_
      rintro e w3 ⟨rfl, rfl⟩
      rw [b3.out]
      go_wp2_with fail
      refine (HW.out _ _ _ _).mono ?_
      rintro e w4 ⟨rfl, rfl⟩
      rw [b4.out]
      go_wp2_with fail
      refine (HW.out _ _ _ _).mono ?_
      rintro e w5 ⟨rfl, rfl⟩
      rw [b5.out]
      go_wp2_with fail
      refine (HW.out _ _ _ _).mono ?_
      rintro e w6 ⟨rfl, rfl⟩
      rw [b6.out]
      have HC1 := HC
      clear HC
      obtain ⟨g0, g1, g2, g3, g4, g5, g6, g7⟩ := HC1.out.ow.cells
      go_wp2_with fail
      refine (HBl.out _ HC1.out.ca).mono ?_
      rintro e w2 ⟨rfl, hb⟩
      have HC2 := Lib.hid (HC1.out.next hb)
      clear hb HC1
      obtain ⟨g0, g1, g2, g3, g4, g5, g6, g7⟩ := HC2.out.ow.cells
      have b7 := Lib.hid (show inB (c.st.length : Int) 1 32 = false from eq_false_of_ne_true (fun h => h32 (by have := in_iff.1 h; omega)))
      clear h32
      go_wp2_with fail
      refine (HW.out _ _ _ _).mono ?_
      rintro e w3 ⟨rfl, rfl⟩
      rw [b7.out]
      go_wp2
      go_ret2
      exact ⟨rfl, HC2.out.ca.below⟩
  · rw [if_neg hz] at hR
    obtain ⟨rfl, h2⟩ : R1 = r1 ∧ R2 = (r2 : Int) + 1 := by injection hR with h1 h2; exact ⟨h1, h2⟩
    have hw : IntKind.i64.wrap (1 + (r2 : Int)) = R2 := by rw [IntKind.wrap_i64]; omega
    have e4 : (R1 != 0) = true := by simpa [bne_iff_ne] using hz
    clear hR hz h2
    go_enter Try.func9, Try.ntmps9
    go_wp2_with fail
    refine (HW.out _ _ _ _).mono ?_
    rintro e w1 ⟨rfl, rfl⟩
    rw [b1.out]
    go_wp2_with fail
    refine (HW.out _ _ _ _).mono ?_
    rintro e w2 ⟨rfl, rfl⟩
    rw [b2.out]
    go_wp2_with fail
    refine (HW.out _ _ _ _).mono ?_
    rintro e w3 ⟨rfl, rfl⟩
    rw [b3.out]
    go_wp2_with fail
    refine (HW.out _ _ _ _).mono ?_
    rintro e w4 ⟨rfl, rfl⟩
    rw [b4.out]
    go_wp2_with fail
    refine (HW.out _ _ _ _).mono ?_
    rintro e w5 ⟨rfl, rfl⟩
    rw [b5.out]
    go_wp2_with fail
    refine (HW.out _ _ _ _).mono ?_
    rintro e w6 ⟨rfl, rfl⟩
    rw [b6.out]
    have HC1 := HC
    clear HC
    obtain ⟨g0, g1, g2, g3, g4, g5, g6, g7⟩ := HC1.out.ow.cells
    go_wp2_with fail
    refine (HBl.out _ HC1.out.ca).mono ?_
    rintro e w2 ⟨rfl, hb⟩
    have HC2 := Lib.hid (HC1.out.next hb)
    clear hb HC1
    go_wp2
    go_ret2
    exact ⟨rfl, HC2.out.ca.below⟩
end Go.Proofs.Ytmlopacekoghkaa.Cf
