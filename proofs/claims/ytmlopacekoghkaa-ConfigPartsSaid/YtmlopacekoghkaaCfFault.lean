/-
  fault, walked. Conditions: as each states.
-/
import Derived.Test.YtmlopacekoghkaaCfBase
import Derived.Test.YtmlopacekoghkaaBlCheck
import Derived.Test.YtmlopacekoghkaaImLay
import Derived.Test.YtmlopacekoghkaaVeC
namespace Go.Proofs.Ytmlopacekoghkaa.Cf
open Go.RowKit
open Go.Proofs.Ytmlopacekoghkaa.Bl (Blk Spt findB layO noS Tells I64 one_S cell_of_row kept_own blkV spV Own2 Own4)
open Go.Proofs.Ytmlopacekoghkaa.Il (In)

theorem cod_chk (l : List In) : codE l = (Ve.chkB l).1 := by
  unfold codE Ve.chkB
  cases Ve.allB l <;> rfl
/-- A world of a call with a cluster: the cluster lies in it, and stands in a block of the call's own. -/
structure Cw (w W : World) (c : Clu) (b : Nat) : Prop where
  ca : Ca w W c
  ow : OwnC W b c 25
theorem Cw.first {w : World} {c : Clu} (h : CluL w w.heap.size c) : Cw w (w.alloc (.cells (cluC c) 25)) c w.heap.size := ⟨(Ca.first h).next (one_S _ _ _), OwnC.new _ _ _⟩
theorem Cw.next {w W W' : World} {c : Clu} {b : Nat} (h : Cw w W c b) (hb : Below W.heap.size W W') : Cw w W' c b := ⟨h.ca.next hb, h.ow.kept hb h.ow.lt⟩
/-- .. and so does a station. -/
structure Cs (w W : World) (c : Clu) (b : Nat) (s : Sta) (d : Nat) : Prop where
  cw : Cw w W c b
  os : Own6 W d s 36
theorem Cs.next {w W W' : World} {c : Clu} {b : Nat} {s : Sta} {d : Nat} (h : Cs w W c b s d) (hb : Below W.heap.size W W') : Cs w W' c b s d := ⟨h.cw.next hb, h.os.kept hb h.os.lt⟩
/-- What is called, of a station that lies in a cluster. -/
theorem lay_of {w W : World} {c : Clu} {b : Nat} {s : Sta} {d : Nat} (h : Cs w W c b s d) (hF : FitC c) {k : Nat} (hs : c.st[k]? = some s) :
    Calls Try.prog 33 #[.int .i64 s.lo, .slice s.so.ao s.sb.length s.so.cap, .slice c.bo.ao c.bl.length c.bo.cap] W (Tells (Bl.errV (layO true s.lo s.sb c.bl)) W) :=
  Bl.cLay_any s.lo s.sb s.so.ao s.so.cap c.bl c.bo.ao c.bo.cap W (Bl.Im.first (h.cw.ca.self.lies.st k s hs).sb h.cw.ca.self.lies.bl) (hF.2.2 k s hs).2.1.1 (hF.2.2 k s hs).2.1.2.1 (Nat.le_trans hF.1.1 hF.1.2.1)
theorem reach_of {w W : World} {c : Clu} {b : Nat} {s : Sta} {d : Nat} (h : Cs w W c b s d) (hF : FitC c) {k : Nat} (hs : c.st[k]? = some s) :
    Calls Try.prog 35 #[.slice s.po.ao s.pb.length s.po.cap, .slice c.bo.ao c.bl.length c.bo.cap] W (Tells (Bl.errV (layO false 0 s.pb c.bl)) W) :=
  Bl.cReachs_any 0 s.pb s.po.ao s.po.cap c.bl c.bo.ao c.bo.cap W (Bl.Im.first (h.cw.ca.self.lies.st k s hs).pb h.cw.ca.self.lies.bl) (hF.2.2 k s hs).2.2.1.1 (hF.2.2 k s hs).2.2.1.2.1 (Nat.le_trans hF.1.1 hF.1.2.1)
theorem code_of {w W : World} {c : Clu} {b : Nat} {s : Sta} {d : Nat} (h : Cs w W c b s d) (hF : FitC c) {k : Nat} (hs : c.st[k]? = some s) :
    Calls Try.prog 34 #[.slice s.co.ao s.cd.length s.co.cap] W (Tells (.tuple #[.int .i64 (codE s.cd : Nat), .int .i64 ((Ve.chkB s.cd).2 : Nat)]) W) := by
  rw [cod_chk]
  exact Ve.cCheck_any s.cd s.co.ao s.co.cap W (h.cw.ca.self.lies.st k s hs).cd (hF.2.2 k s hs).2.2.2 (Nat.le_trans (hF.2.2 k s hs).1.1 (hF.2.2 k s hs).1.2.1)
theorem find_of {w W : World} {c : Clu} {b : Nat} {s : Sta} {d : Nat} (h : Cs w W c b s d) (hF : FitC c) (id : Int) :
    Calls Try.prog 29 #[.slice c.bo.ao c.bl.length c.bo.cap, .int .i64 id] W (Tells (Bl.foundV (findB c.bl id)) W) :=
  Bl.cFind_any c.bl c.bo.ao c.bo.cap id W h.cw.ca.self.lies.bl (Nat.le_trans hF.1.1 hF.1.2.1)

set_option maxRecDepth 100000 in
set_option maxHeartbeats 8000000 in
theorem fault_any (c : Clu) (i : Nat) (w : World) (hL : CluL w w.heap.size c) (hF : FitC c) (hi : i < c.st.length) :
    Calls Try.prog 21 #[.agg (cluC c), .int .i64 i] w (Tells (.int .i64 (fauB c i)) w) := by
  obtain ⟨s, hs⟩ : ∃ s, c.st[i]? = some s := ⟨_, List.getElem?_eq_getElem hi⟩
  have hlc : c.st.length ≤ c.sh.cap := hF.2.1.1
  have hml : (c.sh.cap : Int) ≤ 9223372036854775807 := by have := hF.2.1.2.1; unfold maxLen at this; omega
  obtain ⟨E, hE⟩ : ∃ E, E = fauB c i := ⟨_, rfl⟩
  rw [← hE]
  unfold fauB at hE
  rw [tget_at hs] at hE
  have hC := Cw.first hL
  obtain ⟨b0, o0, hao, hb0, hcs⟩ := hC.ca.lies.row (by omega)
  obtain ⟨s0, s1, s2, s3, s4, s5⟩ := hcs i s hs
  obtain ⟨q0, q1, q2, q3, q4, q5, q6, q7⟩ := hC.ow.cells
  rw [hao] at q7
  have hb := one_S (w.alloc (.cells (cluC c) 25)) (staC s) 36
  have hS : Cs w _ c w.heap.size s (w.heap.size + 1) := ⟨hC.next hb, by have := Own6.new (w.alloc (.cells (cluC c) 25)) s 36; rwa [show (w.alloc (.cells (cluC c) 25)).heap.size = w.heap.size + 1 by simp] at this⟩
  obtain ⟨d0, d1, d2, d3, d4, d5⟩ := hS.os.cells
  obtain ⟨g0, g1, g2, g3, g4, g5, g6, g7⟩ := hS.cw.ow.cells
  rw [hao] at g7
  have HS := Lib.hid hS
  have HX := Lib.hid (⟨hs, hE, hF, hao⟩ : _ ∧ _ ∧ _ ∧ _)
  have HW := Lib.hid within_any
  clear hS hs hE hF hb hL hC hcs hao
  unfold staC cluC at *
  generalize hbb : w.heap.size = bb at *
  cases b1 : inB s.ad 0 c.tp
  · have b1 := Lib.hid b1
    obtain rfl : E = 3 := by rw [HX.out.2.1]; unfold fauS; rw [b1.out]; rfl
    clear HX
    go_enter Try.func21, Try.ntmps21
    go_wp2_with fail
    refine (HW.out _ _ _ _).mono ?_
    rintro e w1 ⟨rfl, rfl⟩
    rw [b1.out]
    go_wp2
    go_ret
    exact ⟨rfl, HS.out.cw.ca.below⟩
  have b1 := Lib.hid b1
  cases b2 : inB s.sc 1 1000
  · have b2 := Lib.hid b2
    obtain rfl : E = 3 := by rw [HX.out.2.1]; unfold fauS; rw [b1.out, b2.out]; rfl
    clear HX
    go_enter Try.func21, Try.ntmps21
    go_wp2_with fail
    refine (HW.out _ _ _ _).mono ?_
    rintro e w1 ⟨rfl, rfl⟩
    rw [b1.out]
    go_wp2_with fail
    refine (HW.out _ _ _ _).mono ?_
    rintro e w1 ⟨rfl, rfl⟩
    rw [b2.out]
    go_wp2
    go_ret
    exact ⟨rfl, HS.out.cw.ca.below⟩
  have b2 := Lib.hid b2
  go_enter Try.func21, Try.ntmps21
  go_wp2_with fail
  refine (HW.out _ _ _ _).mono ?_
  rintro e w1 ⟨rfl, rfl⟩
  rw [b1.out]
  go_wp2_with fail
  refine (HW.out _ _ _ _).mono ?_
  rintro e w1 ⟨rfl, rfl⟩
  rw [b2.out]
  go_wp2
  clear s0 s1 s2 s3 s4 s5 q0 q1 q2 q3 q4 q5 q6 q7 d0 d1 d2 d3 d4 d5 g0 g1 g2 g3 g4 g5 g6 g7
  have HE : Hid (E = if ahB c.st i 0 s.ad = true then 14 else ownE c s) := Lib.hid (by rw [HX.out.2.1]; unfold fauS; rw [b1.out, b2.out]; rfl)
  clear b1 b2
  go_loopw [40] (fun j W => ∃ k : Nat, k ≤ i ∧ j = .int .i64 k ∧ Hid (ahB c.st i 0 s.ad = ahB c.st i k s.ad) ∧ Hid (Cs w W c bb s (bb + 1))) (fun j _ => i - (intOf j).toNat)
  case atStart => exact ⟨0, Nat.zero_le _, rfl, Lib.hid rfl, HS⟩
  case round =>
    obtain ⟨k, hk, rfl, hT, hR⟩ := hrel
    clear HS
    obtain ⟨d0, d1, d2, d3, d4, d5⟩ := hR.out.os.cells
    obtain ⟨g0, g1, g2, g3, g4, g5, g6, g7⟩ := hR.out.cw.ow.cells
    by_cases hlt : k < i
    · have e1 : decide ((k : Int) < (i : Int)) = true := by simp; omega
      obtain ⟨y, hy⟩ : ∃ y, c.st[k]? = some y := ⟨_, List.getElem?_eq_getElem (by omega)⟩
      obtain ⟨b1, o1, hbo, hb1, hcs⟩ := hR.out.cw.ca.lies.row (by omega)
      rw [HX.out.2.2.2] at hbo
      obtain ⟨c0, c1, c2, c3, c4, c5⟩ := hcs k y hy
      injection hbo with hbo
      injection hbo with hbo hbo2
      subst hbo hbo2
      have htw := ah_at hy hlt s.ad
      have o2 := one_S wr (staC y) 36
      have hR2 := Lib.hid (hR.out.next o2)
      obtain ⟨f0, f1, f2, f3, f4, f5⟩ := (Own6.new wr y 36).cells
      have hlt2 := hR.out.os.lt
      unfold staC at *
      clear hcs o2 hy g0 g1 g2 g3 g4 g5 g6 g7 hR
      by_cases he : y.ad = s.ad
      · have e2 : (y.ad == s.ad) = true := beq_iff_eq.2 he
        rw [decide_eq_true he, Bool.true_or] at htw
        obtain rfl : E = 14 := by rw [HE.out, hT.out, htw]; rfl
        clear HE HX htw hT he
        go_wp2
        go_ret
        exact ⟨rfl, hR2.out.cw.ca.below⟩
      · have e2 : (y.ad == s.ad) = false := beq_eq_false_iff_ne.2 he
        rw [decide_eq_false he, Bool.false_or] at htw
        have HT2 := Lib.hid (hT.out.trans htw)
        clear htw hT he
        go_wp2
        go_roundw
        case rel => exact ⟨k + 1, by omega, by go_num, HT2, hR2⟩
        case measure => simp [intOf]; omega
    · obtain rfl : k = i := by omega
      have hE : E = ownE c s := by rw [HE.out, hT.out, ah_end]; rfl
      clear HE hT
      obtain ⟨hs, -, hF, hao⟩ := HX.out
      have HLay := Lib.hid (fun W (h : Cs w W c bb s (bb + 1)) => lay_of h hF hs)
      have HRea := Lib.hid (fun W (h : Cs w W c bb s (bb + 1)) => reach_of h hF hs)
      have HCod := Lib.hid (fun W (h : Cs w W c bb s (bb + 1)) => code_of h hF hs)
      have HFin := Lib.hid (fun W (h : Cs w W c bb s (bb + 1)) => find_of h hF)
      have HPb := Lib.hid (fun W (h : Ca w W c) => (h.lies.st k s hs).pb)
      have hFp := (hF.2.2 k s hs).2.2.1
      have hmp : (s.po.cap : Int) ≤ 9223372036854775807 := by have := hFp.2.1; unfold maxLen at this; omega
      have hmp2 := hFp.1
      clear hs hF hao HX hFp
      obtain ⟨⟨r1, r2⟩, hr⟩ : ∃ r, r = layO true s.lo s.sb c.bl := ⟨_, rfl⟩
      obtain ⟨⟨p1, p2⟩, hp⟩ : ∃ r, r = layO false 0 s.pb c.bl := ⟨_, rfl⟩
      obtain ⟨q1, hq⟩ : ∃ q, q = codE s.cd := ⟨_, rfl⟩
      unfold ownE at hE
      rw [← hr, ← hp, ← hq] at hE
      rw [← hr] at HLay
      rw [← hp] at HRea
      rw [← hq] at HCod
      unfold Bl.errV at HLay HRea
      dsimp only at hE HLay HRea
      clear hr hp hq
      by_cases h1 : r1 = 0
      · rw [if_pos h1] at hE
        subst h1
        by_cases h2 : q1 = 0
        · rw [if_pos h2] at hE
          subst h2
          by_cases h3 : p1 = 0
          · rw [if_pos h3] at hE
            subst h3
            have HE := Lib.hid hE
            clear hE
            go_wp2_with fail
            refine (HLay.out _ hR.out).mono ?_
            rintro e w3 ⟨rfl, hb⟩
            have HR3 := Lib.hid (hR.out.next hb)
            clear hb hR
            obtain ⟨d0, d1, d2, d3, d4, d5⟩ := HR3.out.os.cells
            obtain ⟨g0, g1, g2, g3, g4, g5, g6, g7⟩ := HR3.out.cw.ow.cells
            go_wp2_with fail
            refine (HCod.out _ HR3.out).mono ?_
            rintro e w4 ⟨rfl, hb⟩
            have HR4 := Lib.hid (HR3.out.next hb)
            clear hb HR3
            obtain ⟨d0, d1, d2, d3, d4, d5⟩ := HR4.out.os.cells
            obtain ⟨g0, g1, g2, g3, g4, g5, g6, g7⟩ := HR4.out.cw.ow.cells
            go_wp2_with fail
            refine (HRea.out _ HR4.out).mono ?_
            rintro e w5 ⟨rfl, hb⟩
            have HR5 := Lib.hid (HR4.out.next hb)
            clear hb HR4
            obtain ⟨d0, d1, d2, d3, d4, d5⟩ := HR5.out.os.cells
            obtain ⟨g0, g1, g2, g3, g4, g5, g6, g7⟩ := HR5.out.cw.ow.cells
            go_wp2
            clear d0 d1 d2 d3 d4 d5 g0 g1 g2 g3 g4 g5 g6 g7
            go_loopw [86] (fun j W => ∃ q : Nat, q ≤ s.pb.length ∧ j = .int .i64 q ∧ Hid (E = if namB c.bl s.ad s.pb q = true then 5 else 0) ∧ Hid (Cs w W c bb s (bb + 1))) (fun j _ => s.pb.length - (intOf j).toNat)
            case atStart => exact ⟨0, Nat.zero_le _, rfl, HE, HR5⟩
            case round =>
              obtain ⟨q, hq, rfl, hT, hR⟩ := hrel
              clear HR5 HE
              by_cases hlt : q < s.pb.length
              · have e1 : decide ((q : Int) < (s.pb.length : Int)) = true := by simp; omega
                obtain ⟨y, hy⟩ : ∃ y, s.pb[q]? = some y := ⟨_, List.getElem?_eq_getElem (by omega)⟩
                obtain ⟨b1, o1, hbo, hb1, hcs⟩ := HPb.out _ hR.out.cw.ca (by omega)
                obtain ⟨c0, c1⟩ := hcs q y hy
                have hgo := hT.out
                rw [nam_at hy] at hgo
                have o2 := one_S wr #[.int .i64 y.b, .int .i64 y.a] 57
                have hR2 := Lib.hid (hR.out.next o2)
                obtain ⟨f0, f1⟩ := (Own2.new wr y 57).cells
                obtain ⟨g0, g1, g2, g3, g4, g5, g6, g7⟩ := hR2.out.cw.ow.cells
                have HFq := Lib.hid (fun W (h : Cs w W c bb s (bb + 1)) => HFin.out W h y.b)
                obtain ⟨⟨x, fd⟩, hx⟩ : ∃ r, r = findB c.bl y.b := ⟨_, rfl⟩
                rw [← hx] at HFq hgo
                unfold Bl.foundV blkV at HFq
                dsimp only at HFq hgo
                have e3 : (x.ad != s.ad) = true ∨ (x.ad != s.ad) = false := by cases (x.ad != s.ad) <;> simp
                clear hcs o2 hy hR hx hT
                rcases e3 with e3 | e3
                · rw [e3, Bool.true_or] at hgo
                  obtain rfl : E = 5 := by rw [hgo]; rfl
                  clear hgo
                  go_wp2_with fail
                  refine (HFq.out _ hR2.out).mono ?_
                  rintro e w6 ⟨rfl, hb⟩
                  have HR6 := Lib.hid ((hR2.out.next hb).next (one_S w6 #[.int .i64 x.id, .int .i64 x.ad, .int .i64 x.sz, .bool x.hi] 61))
                  obtain ⟨d0, d1, d2, d3, d4, d5⟩ := HR6.out.os.cells
                  obtain ⟨v0, v1, v2, v3⟩ := (Own4.new w6 x 61).cells
                  clear hb hR2
                  go_wp2
                  go_ret
                  exact ⟨rfl, HR6.out.cw.ca.below⟩
                · rw [e3, Bool.false_or] at hgo
                  have HT2 := Lib.hid hgo
                  clear hgo
                  go_wp2_with fail
                  refine (HFq.out _ hR2.out).mono ?_
                  rintro e w6 ⟨rfl, hb⟩
                  have HR6 := Lib.hid ((hR2.out.next hb).next (one_S w6 #[.int .i64 x.id, .int .i64 x.ad, .int .i64 x.sz, .bool x.hi] 61))
                  obtain ⟨d0, d1, d2, d3, d4, d5⟩ := HR6.out.os.cells
                  obtain ⟨v0, v1, v2, v3⟩ := (Own4.new w6 x 61).cells
                  clear hb hR2
                  go_wp2
                  rw [← hbo]
                  clear hbo
                  go_roundw
                  case rel => exact ⟨q + 1, by omega, by go_num, HT2, HR6⟩
                  case measure => simp [intOf]; omega
              · obtain rfl : q = s.pb.length := by omega
                obtain rfl : E = 0 := by rw [hT.out, nam_end]; rfl
                clear hT
                go_wp2
                go_ret
                exact ⟨rfl, hR.out.cw.ca.below⟩
          · rw [if_neg h3] at hE
            obtain rfl : E = p1 := hE
            have e4 : (E != 0) = true := by simpa [bne_iff_ne] using h3
            clear h3
            go_wp2_with fail
            refine (HLay.out _ hR.out).mono ?_
            rintro e w3 ⟨rfl, hb⟩
            have HR3 := Lib.hid (hR.out.next hb)
            clear hb hR
            obtain ⟨d0, d1, d2, d3, d4, d5⟩ := HR3.out.os.cells
            obtain ⟨g0, g1, g2, g3, g4, g5, g6, g7⟩ := HR3.out.cw.ow.cells
            go_wp2_with fail
            refine (HCod.out _ HR3.out).mono ?_
            rintro e w4 ⟨rfl, hb⟩
            have HR4 := Lib.hid (HR3.out.next hb)
            clear hb HR3
            obtain ⟨d0, d1, d2, d3, d4, d5⟩ := HR4.out.os.cells
            obtain ⟨g0, g1, g2, g3, g4, g5, g6, g7⟩ := HR4.out.cw.ow.cells
            go_wp2_with fail
            refine (HRea.out _ HR4.out).mono ?_
            rintro e w5 ⟨rfl, hb⟩
            have HR5 := Lib.hid (HR4.out.next hb)
            clear hb HR4
            obtain ⟨d0, d1, d2, d3, d4, d5⟩ := HR5.out.os.cells
            obtain ⟨g0, g1, g2, g3, g4, g5, g6, g7⟩ := HR5.out.cw.ow.cells
            go_wp2
            go_ret
            exact ⟨rfl, HR5.out.cw.ca.below⟩
        · rw [if_neg h2] at hE
          have e4 : (E != 0) = true := by rw [hE]; simpa [bne_iff_ne] using h2
          rw [← hE] at HCod
          have HE := Lib.hid hE
          clear hE
          clear h2
          go_wp2_with fail
          refine (HLay.out _ hR.out).mono ?_
          rintro e w3 ⟨rfl, hb⟩
          have HR3 := Lib.hid (hR.out.next hb)
          clear hb hR
          obtain ⟨d0, d1, d2, d3, d4, d5⟩ := HR3.out.os.cells
          obtain ⟨g0, g1, g2, g3, g4, g5, g6, g7⟩ := HR3.out.cw.ow.cells
          go_wp2_with fail
          refine (HCod.out _ HR3.out).mono ?_
          rintro e w4 ⟨rfl, hb⟩
          have HR4 := Lib.hid (HR3.out.next hb)
          clear hb HR3
          obtain ⟨d0, d1, d2, d3, d4, d5⟩ := HR4.out.os.cells
          obtain ⟨g0, g1, g2, g3, g4, g5, g6, g7⟩ := HR4.out.cw.ow.cells
          go_wp2
          go_ret
          exact ⟨rfl, HR4.out.cw.ca.below⟩
      · rw [if_neg h1] at hE
        obtain rfl : E = r1 := hE
        have e4 : (E != 0) = true := by simpa [bne_iff_ne] using h1
        clear h1
        go_wp2_with fail
        refine (HLay.out _ hR.out).mono ?_
        rintro e w3 ⟨rfl, hb⟩
        have HR3 := Lib.hid (hR.out.next hb)
        clear hb hR
        obtain ⟨d0, d1, d2, d3, d4, d5⟩ := HR3.out.os.cells
        obtain ⟨g0, g1, g2, g3, g4, g5, g6, g7⟩ := HR3.out.cw.ow.cells
        go_wp2
        go_ret
        exact ⟨rfl, HR3.out.cw.ca.below⟩
end Go.Proofs.Ytmlopacekoghkaa.Cf
