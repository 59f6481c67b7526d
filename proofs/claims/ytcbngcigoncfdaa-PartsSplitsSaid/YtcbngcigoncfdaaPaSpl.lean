/-
  PartsSplits: it returns true. Conditions: where its arguments lie.
-/
import Derived.Test.YtcbngcigoncfdaaPaLeft
import Derived.Test.YtcbngcigoncfdaaPaRuns
import Derived.Deep.DeepCutAuto
import Derived.Deep.CutRange
namespace Go.Proofs.Ytcbngcigoncfdaa.Pa
open Go.RowKit

theorem sp_list (f : Fr) (v : Bs) : spL f v (nP v) = (List.range (nP v)).map (spF f v) := rfl
/-- The world in the law's loop. -/
structure Lw (w W : World) (N b : Nat) (f : Fr) (v : Bs) (g : Gl) (ps : List Nat) (u : Value) : Prop where
  gl : GAt W b v.length g
  sp : Sp f v g ps
  row : LR W u (ps.map (spF f v))
  bel : Below N w W
  nb : N ≤ b
  apart : ∀ q cap n, u = .slice (some ⟨q, 0, none⟩) n cap → q ≠ b
attribute [local go_sem ↓] exec_ldF
set_option maxRecDepth 100000 in
set_option maxHeartbeats 8000000 in
theorem splits_walk (f : Fr) (v : Bs) (cs : List Nat) (ao : Option Addr) (cap : Nat) (w : World) (hf : FitF f) (hfb : f.bytes.length ≤ maxLen) (hv : v.length ≤ maxLen)
    (hc : BLies w w.heap.size ao cs) (hc8 : ∀ (i x : Nat), cs[i]? = some x → x ≤ 255) (hlc : cs.length ≤ maxLen) :
    Calls Try.prog 4 #[.agg (frA f), .string (S v), .slice ao cs.length cap] w (Tells (.bool true) w) := by
  have hs : (S v).size = v.length := S_size v
  have hvi : (v.length : Int) ≤ 9223372036854775807 := by unfold maxLen at hv; omega
  have hsf : (S f.bytes).size = f.bytes.length := S_size f.bytes
  have hfi : (f.bytes.length : Int) ≤ 9223372036854775807 := by unfold maxLen at hfb; omega
  have hci : (cs.length : Int) ≤ 9223372036854775807 := by unfold maxLen at hlc; omega
  have HB0 := Lib.hid (one_S w (frA f) 37)
  have HO := Lib.hid (FrAt.new w f 37)
  have x18 := frA_18 f
  by_cases h80 : 80 < v.length
  · have e1 : decide ((80 : Int) < (v.length : Int)) = true := by simp; omega
    go_enter Try.func4, Try.ntmps4
    go_wp2_with fail
    refine (wake_any _).mono ?_
    rintro e w1 ⟨rfl, hb1⟩
    have HB1 := Lib.hid (HB0.out.trans (hb1.mono (by simp)))
    clear hb1
    go_wp2
    go_ret
    exact ⟨rfl, HB1.out⟩
  have e1 : decide ((80 : Int) < (v.length : Int)) = false := by simp; omega
  have HC := Lib.hid hc
  have HC8 := Lib.hid hc8
  clear hc hc8
  by_cases h40 : 40 < f.bytes.length
  · have e2 : decide ((40 : Int) < (f.bytes.length : Int)) = true := by simp; omega
    go_enter Try.func4, Try.ntmps4
    go_wp2_with fail
    refine (wake_any _).mono ?_
    rintro e w1 ⟨rfl, hb1⟩
    have hO1 := HO.out.below hb1
    have x18 := hO1.at 18 rfl
    have HB1 := Lib.hid (HB0.out.trans (hb1.mono (by simp)))
    clear hb1 hO1
    go_wp2
    go_ret
    exact ⟨rfl, HB1.out⟩
  have e2 : decide ((40 : Int) < (f.bytes.length : Int)) = false := by simp; omega
  by_cases hP : nP v = 0
  · have HNo := Lib.hid (fun W => cSplit_no f v W hv hP)
    have HRs := Lib.hid (fun W => rSplit f v W (by omega))
    have HNn := Lib.hid (fun W => cNew_no v.length W (by rw [nP_parts, hP]; rfl))
    have hslen := sp_len f v (nP v)
    rw [hP] at hslen HRs
    obtain ⟨i0, hi, hz0, hz1, hz2⟩ := info_parts infoFr
    have HZ := Lib.hid (⟨hi, hz0, hz1, hz2⟩ : _ ∧ _ ∧ _ ∧ _)
    clear hi hz0 hz1 hz2
    go_enter Try.func4, Try.ntmps4
    go_wp2_with fail
    refine (wake_any _).mono ?_
    rintro e w1 ⟨rfl, hb1⟩
    have hO1 := HO.out.below hb1
    have x18 := hO1.at 18 rfl
    have hld := hO1.ld
    have HB1 := Lib.hid (HB0.out.trans (hb1.mono (by simp)))
    have HO1 := Lib.hid hO1
    clear hb1 hO1 HO HB0
    go_wp2_with fail
    refine (HNo.out _).mono ?_
    rintro e w2 ⟨rfl, hb2⟩
    have HO2 := Lib.hid (HO1.out.below hb2)
    have HB2 := Lib.hid (HB1.out.trans (hb2.mono HB1.out.size))
    have hld := HO2.out.ld
    clear hb2 HB1 HO1 x18
    go_wp2_with fail
    refine (HRs.out _).mono ?_
    rintro e w3 ⟨u2, rfl, hr2, hb3⟩
    obtain ⟨A, c, rfl⟩ := own_form hr2
    have HB3 := Lib.hid (HB2.out.trans (hb3.mono HB2.out.size))
    clear hb3 hr2 HB2 HO2 hld HRs HNo
    rw [hslen]
    clear hslen
    dsimp only
    go_wp2
    go_loopw [41] (fun i W => i = .int .i64 0 ∧ W = w3) (fun _ _ => 0)
    case atStart => exact ⟨rfl, rfl⟩
    case round =>
      obtain ⟨rfl, rfl⟩ := hrel
      go_wp2_with fail
      refine (HNn.out _).mono ?_
      rintro e w4 ⟨rfl, rfl⟩
      go_wp2_with (at_builtin; refine wpList_append_own_none rfl (.tmp 57) (.tmp 58) 22 rfl wr.heap.size 37 i0 19 Try.underlying22 HZ.out.1 (.slice (some ⟨wr.heap.size, 0, none⟩) 0 0) 0 [] rfl (World.ownsRow_lit wr #[] 0 (Nat.le_refl _) (by unfold maxLen; omega) rfl) rfl ?_)
      have HB5 := Lib.hid (HB3.out.trans ((one_S wr #[] 37).mono HB3.out.size))
      go_wp2
      go_loopw [11, 12] (fun u i W => u = .slice (some ⟨wr.heap.size, 0, none⟩) 0 0 ∧ i = .int .i64 0 ∧ W = wr.alloc (.cells #[] 37)) (fun _ _ _ => 0)
      case atStart => exact ⟨rfl, rfl, rfl⟩
      case round =>
        obtain ⟨rfl, rfl, rfl⟩ := hrel
        go_wp2
        go_ret
        exact ⟨rfl, HB5.out⟩
  · have h64 : v.length ≤ 64 := by
      rcases Nat.lt_or_ge 64 v.length with h | h
      · exact absurd (by unfold nP; rw [if_neg (by omega)]) hP
      · exact h
    have hpn := nP_pN h64
    have hv1 : 1 ≤ v.length := by
      rcases Nat.eq_zero_or_pos v.length with h | h
      · exact absurd (by rw [hpn, h]; rfl) hP
      · exact h
    have hP4 := nP_le v
    have hP0 : 1 ≤ nP v := by omega
    have HPN := Lib.hid hpn
    clear hpn
    have HSp := Lib.hid (fun W => cSplit f v W hv)
    have HRs := Lib.hid (fun W => rSplit f v W (by omega))
    have hslen := sp_len f v (nP v)
    have HSL := Lib.hid hslen
    go_enter Try.func4, Try.ntmps4
    go_wp2_with fail
    refine (wake_any _).mono ?_
    rintro e w1 ⟨rfl, hb1⟩
    have hO1 := HO.out.below hb1
    have x18 := hO1.at 18 rfl
    have hld := hO1.ld
    have HB1 := Lib.hid (HB0.out.trans (hb1.mono (by simp)))
    have HO1 := Lib.hid hO1
    clear hb1 hO1 HO HB0
    go_wp2_with fail
    refine (HSp.out _).mono ?_
    rintro e w2 ⟨u1, rfl, hr1, hb2⟩
    obtain ⟨g1, c1, rfl, hcap1, hg1, hI1⟩ := hr1.lr (by rw [hslen]; exact hP0)
    have HO2 := Lib.hid (HO1.out.below hb2)
    have HB2 := Lib.hid (HB1.out.trans (hb2.mono HB1.out.size))
    have HI1 := Lib.hid hI1
    have hld := HO2.out.ld
    clear hr1 hb2 hI1 HB1 HO1 x18 HSp
    rw [hslen]
    go_wp2_with fail
    refine (HRs.out _).mono ?_
    rintro e w3 ⟨u2, rfl, hr2, hb3⟩
    obtain ⟨g2, c2, rfl, hcap2, hg2, hI2⟩ := hr2.lr (by rw [hslen]; exact hP0)
    have HB3 := Lib.hid (HB2.out.trans (hb3.mono HB2.out.size))
    have HI3 := Lib.hid (fun i f' h => (HI1.out i f' h).below hb3)
    have HI2 := Lib.hid hI2
    have hg13 : g1 < w3.heap.size := by have := hb3.size; omega
    clear hr2 hb3 hI2 HB2 HO2 HRs hld HI1
    rw [hslen]
    clear hslen hcap1 hcap2
    have hd0 : ((((nP v : Nat) : Int)) != (((nP v : Nat) : Int))) = false := by simp
    go_wp2
    go_loopw [41] (fun i W => ∃ k m : Nat, k ≤ nP v ∧ i = .int .i64 k ∧ W = w3.drewN m) (fun i _ => nP v - (intOf i).toNat)
    case atStart => exact ⟨0, 0, Nat.zero_le _, rfl, rfl⟩
    case round =>
      obtain ⟨k, m, hk, rfl, rfl⟩ := hrel
      by_cases hlt : k < nP v
      · have d1 : decide (k < nP v) = true := decide_eq_true hlt
        obtain ⟨fk, hfk⟩ : ∃ fk, (spL f v (nP v))[k]? = some fk := ⟨_, List.getElem?_eq_getElem (by rw [HSL.out]; exact hlt)⟩
        have hl1 : ∀ j, ldF (.pointer (some ⟨g1, k * 19, none⟩)) (w3.drewN j) = .ok (.value (.agg (frA fk))) (w3.drewN j) := fun j => FrAt.ld (HI3.out k fk hfk)
        have hl2 : ∀ j, ldF (.pointer (some ⟨g2, k * 19, none⟩)) (w3.drewN j) = .ok (.value (.agg (frA fk))) (w3.drewN j) := fun j => FrAt.ld (HI2.out k fk hfk)
        have hne := neqF fk
        generalize frA fk = X at *
        clear hfk
        go_wp2
        go_quiet (fail)
        go_wp2
        go_roundw
        case rel => exact ⟨k + 1, m + nq, by omega, by go_num, rfl⟩
        case measure => simp [intOf]; omega
      · obtain rfl : k = nP v := by omega
        have d1 : decide (nP v < nP v) = false := by simp
        have HNw := Lib.hid (cNew v.length (w3.drewN m) ⟨hv1, h64⟩)
        obtain ⟨i0, hi, hz0, hz1, hz2⟩ := info_parts infoFr
        have HZ := Lib.hid (⟨hi, hz0, hz1, hz2⟩ : _ ∧ _ ∧ _ ∧ _)
        clear hi hz0 hz1 hz2 HI2
        go_wp2_with fail
        refine HNw.out.mono ?_
        rintro e w4 ⟨rfl, hg4, hb4, hz4⟩
        have hsz : (w3.drewN m).heap.size = w3.heap.size := rfl
        rw [hsz] at hg4 hz4 hb4 ⊢
        have HI4 := Lib.hid (fun i f' h => FrAt.below (W := w3.drewN m) (HI3.out i f' h) hb4)
        have HB4 := Lib.hid ((HB3.out.trans (below_drewN w3 _ m)).trans (hb4.mono HB3.out.size))
        have HG4 := Lib.hid hg4
        have hbN : w.heap.size ≤ w3.heap.size := HB3.out.size
        generalize w3.heap.size = b at *
        have HZ4 := Lib.hid hz4
        clear hb4 hg4 HI3 HB3 HNw hsz hz4
        go_wp2_with (at_builtin; refine wpList_append_grows _ rfl (.tmp 57) (.tmp 58) 22 rfl 37 i0 _ 19 64 Try.underlying22 HZ.out.1 HZ.out.2.1 HZ.out.2.2.1 HZ.out.2.2.2 rfl (by decide) (some ⟨w4.heap.size, 0, none⟩) 0 0 [] rfl (by simp) rfl (by simp) ⟨g1, 0, none⟩ (nP v) c1 (frs (spL f v (nP v))) rfl (by rw [frs_len, HSL.out]) (frs_cells fun i f' h => by rw [Nat.zero_add]; exact (HI4.out i f' h).below (one_S _ _ _)) (frs_one19 _) (by omega) (by unfold maxLen; omega) (by omega) ?_)
        intro u5 w5 hown hgr
        have HL0 := Lib.hid (show Lw w w5 w.heap.size b f v g0 (List.range (nP v)) u5 from by
          have hr5 : FRow (b + 1) w5 u5 (spL f v (nP v)) := by
            unfold FRow
            rw [HSL.out]
            exact own_mono hown (by have := HZ4.out; simp; omega)
          have hb5 : Below w4.heap.size w4 w5 := ⟨hgr.os, hgr.tape, hgr.output, by have := hgr.size; simp at this; omega, fun k hk => (hgr.block k (by simp; omega) (by simp)).trans (Below.heap_alloc _ _ _ hk)⟩
          have hz4 := HZ4.out
          refine ⟨HG4.out.below hb5, by rw [HPN.out]; exact sp_first f v, ?_, HB4.out.trans (hb5.mono (by omega)), hbN, fun q cap' n e => ?_⟩
          · rw [← sp_list]
            exact hr5.lr (by rw [HSL.out]; exact hP0)
          · have := own_base hr5 q (by rw [e]; rfl)
            omega)
        clear hown hgr HI4 HB4 HG4 HZ4
        generalize hN : w.heap.size = N at *
        go_wp2
        go_loopw [11, 12] (fun u i W => ∃ j : Nat, ∃ ps : List Nat, j + ps.length = nP v ∧ i = .int .i64 j ∧ Hid (∃ g, Lw w W N b f v g ps u)) (fun _ i _ => nP v - (intOf i).toNat)
        case atStart => exact ⟨0, List.range (nP v), by rw [List.length_range, Nat.zero_add], rfl, Lib.hid ⟨_, HL0.out⟩⟩
        case round =>
          clear HL0
          obtain ⟨j, ps, hj, rfl, hS⟩ := hrel
          obtain ⟨g, hL⟩ := hS.out
          obtain ⟨q1, cq, rfl, hcq, hq1, hIq⟩ := hL.row
          have hml : (ps.map (spF f v)).length = ps.length := List.length_map ..
          rw [hml] at hcq
          rw [hml]
          have hqb := hL.apart q1 cq _ rfl
          have HL := Lib.hid hL
          have HIq := Lib.hid hIq
          clear hS hL hIq
          by_cases hm0 : ps.length = 0
          · have d2 : decide ((0 : Int) < ((ps.length : Nat) : Int)) = false := decide_eq_false (by omega)
            have HB := Lib.hid HL.out.bel
            go_wp2
            go_ret
            exact ⟨rfl, hN ▸ HB.out⟩
          · have d2 : decide ((0 : Int) < ((ps.length : Nat) : Int)) = true := decide_eq_true (by omega)
            obtain ⟨M, hM⟩ : ∃ M, M = ps.length := ⟨_, rfl⟩
            rw [← hM] at d2 hcq hj hm0
            rw [← hM]
            have hM4 : M ≤ 4 := by omega
            have hM1 : 1 ≤ M := by omega
            have HM := Lib.hid hM
            clear hM
            go_upto_if 68 with fail
            go_cut [13] from 60 to 120 (fun s13 wx => ∃ q : Nat, q < M ∧ s13 = .int .i64 q ∧ wx = wr)
            case first =>
              by_cases hjc : j < cs.length
              · have d3 : decide (j < cs.length) = true := decide_eq_true hjc
                obtain ⟨x, hx⟩ : ∃ x, cs[j]? = some x := ⟨_, List.getElem?_eq_getElem hjc⟩
                have hx8 := HC8.out j x hx
                obtain ⟨cb, co, rfl, hcb, hIc⟩ := HC.out (by omega)
                have hcell := kept_cell HL.out.bel hcb (hIc j x hx)
                have hx8i : (x : Int) ≤ 255 := by omega
                have hM1i : (1 : Int) ≤ (M : Int) := by omega
                have hMne : ((M : Int) == 0) = false := by simp; omega
                clear hIc hx
                go_wp2
                go_meet
                exact ⟨x % M, Nat.mod_lt _ (by omega), congrArg (Value.int .i64) (Int.natCast_emod x M).symm, rfl⟩
              · have d3 : decide (j < cs.length) = false := decide_eq_false hjc
                go_wp2
                go_meet
                exact ⟨0, by omega, rfl, rfl⟩
            case rest =>
              obtain ⟨q, hq, rfl, hwc⟩ := hcut
              subst hwc
              have hqp : q < ps.length := by rw [← HM.out]; exact hq
              have hfq : (ps.map (spF f v))[q]? = some (spF f v ps[q]) := by rw [List.getElem?_map, List.getElem?_eq_getElem hqp]; rfl
              have hld := (HIq.out q _ hfq).ld
              obtain ⟨he0, hsp2, hdn, ho1, ho2⟩ := sp_put HL.out.sp hf h64 hqp
              have hpl : ps[q] < pN v.length := HL.out.sp.lt _ (List.getElem_mem hqp)
              have hCP := cPut b v.length g (spF f v ps[q]) wc HL.out.gl HL.out.sp.wg ⟨hv1, h64⟩ (fitP hf _ (by omega) (by have := HPN.out; omega)) (by show (pcL v ps[q]).length ≤ maxLen; rw [pc_len]; have := (pL_bd hpl).2.1; unfold maxLen; omega)
              obtain ⟨D, hD⟩ : ∃ D : Bool, D = decide (erL ps q = []) := ⟨_, rfl⟩
              have hpv : putV v.length g (spF f v ps[q]) = .tuple #[.string (S (if D then v else [])), .bool D, .int .i64 0] := by
                unfold putV
                rw [he0, hdn, ← hD]
                cases hDb : D
                · rw [ho2 (by rw [hDb] at hD; exact of_decide_eq_false hD.symm)]; rfl
                · rw [ho1 (by rw [hDb] at hD; exact of_decide_eq_true hD.symm)]; rfl
              obtain ⟨T, hT⟩ : ∃ T : Bs, T = if D then v else [] := ⟨_, rfl⟩
              rw [hpv, ← hT] at hCP
              have HT := Lib.hid hT
              clear hT
              have HCP := Lib.hid hCP
              have HS2 := Lib.hid hsp2
              obtain ⟨ad, had, hsr⟩ := sl_r q1 M cq q hq hcq
              have HAd := Lib.hid had
              have hsk := sl_k q1 M cq q (by omega)
              have hwq : IntKind.i64.wrap ((q : Int) + 1) = (q : Int) + 1 := by rw [IntKind.wrap_i64]; omega
              have HRm := Lib.hid hsr
              have HSk := Lib.hid hsk
              have HWq := Lib.hid hwq
              have hDl : (((erL (ps.map (spF f v)) q).length : Nat) : Int) = 0 ↔ D = true := by
                rw [hD, decide_eq_true_iff, ← er_map, List.length_map]
                constructor
                · intro h; exact List.eq_nil_of_length_eq_zero (by omega)
                · intro h; rw [h]; rfl
              have HDl := Lib.hid hDl
              have hel : (erL ps q).length + 1 = M := by rw [HM.out]; exact er_len hqp
              have HEl := Lib.hid hel
              clear he0 hsp2 hdn ho1 ho2 hCP hpv hfq hpl hsr hsk hwq had hD hDl hel
              have hj4 : (j : Int) ≤ 4 := by omega
              have HJ := Lib.hid hj
              clear hj hml
              go_wp2_with fail
              refine HCP.out.mono ?_
              rintro e w6 ⟨rfl, hg6, ho6⟩
              have HI6 := Lib.hid (fun i f' h => (HIq.out i f' h).only ho6 (by simp; exact hqb))
              have HG6 := Lib.hid hg6
              have HB6 := Lib.hid (HL.out.bel.trans (ho6.below (by simp; exact HL.out.nb) (by have := HL.out.bel.size; omega)))
              have hq6 : q1 < w6.heap.size := by have := ho6.size; omega
              have HAp := Lib.hid HL.out.nb
              have hb6 : b < w6.heap.size := hg6.lt
              clear hg6 ho6 HL HIq HCP hld
              go_wp2
              have hsr := HRm.out
              have hsk := HSk.out
              have hwq := HWq.out
              go_region_law ((refine step_er (by rfl) (.tmp 90) (.tmp 94) (by rfl) q1 q M (cq - (q + 1)) ad (ps.map (spF f v)) (by rw [List.length_map]; exact HM.out.symm) hq (by omega) HAd.out (by exact hq6) HI6.out (by simp [Act.eval, Act.put]) (by simp [Act.eval, Act.put]) ?_; intro u7 w7 hlr hb7 hap7))
              have HLw := Lib.hid (show Lw w w7 N b f v (putG v.length g (spF f v ps[q])) (erL ps q) u7 from by
                refine ⟨HG6.out.drew.below hb7, HS2.out, by rw [er_map]; exact hlr, HB6.out.drew.trans (hb7.mono (show N ≤ w6.heap.size by omega)), HAp.out, fun q' c2 n e => ?_⟩
                rcases hap7 q' c2 n e with h | h
                · rw [h]; exact hqb
                · have h : w6.heap.size ≤ q' := h
                  omega)
              obtain ⟨q7, c7, rfl, -, -, -⟩ := hlr
              clear hb7 hap7 HG6 HS2 HB6 HI6 HAp hsr hsk hwq
              have hdl := HDl.out
              generalize (erL (ps.map (spF f v)) q).length = L7 at *
              cases D
              · have d5 : ((L7 : Int) == 0) = false := by rw [beq_eq_false_iff_ne]; intro h; exact Bool.noConfusion (hdl.1 h)
                have hTe : T = [] := HT.out
                subst hTe
                have e3 : (S []).toList = [] := toL []
                clear HDl hdl
                go_wp2
                go_roundw
                case rel => exact ⟨j + 1, erL ps q, by have := HJ.out; have := HEl.out; omega, by go_num, Lib.hid ⟨_, HLw.out⟩⟩
                case measure => have := HJ.out; simp [intOf]; omega
              · have d5 : ((L7 : Int) == 0) = true := by rw [beq_iff_eq]; exact hdl.2 rfl
                have hTe : T = v := HT.out
                subst hTe
                clear HDl hdl
                go_wp2
                go_roundw
                case rel => exact ⟨j + 1, erL ps q, by have := HJ.out; have := HEl.out; omega, by go_num, Lib.hid ⟨_, HLw.out⟩⟩
                case measure => have := HJ.out; simp [intOf]; omega
theorem splits_str (f : Fr) (s : ByteArray) (cs : List Nat) (ao : Option Addr) (cap : Nat) (w : World) (hf : FitF f) (hfb : f.bytes.length ≤ maxLen) (hs : s.size ≤ maxLen)
    (hc : BLies w w.heap.size ao cs) (hc8 : ∀ (i x : Nat), cs[i]? = some x → x ≤ 255) (hlc : cs.length ≤ maxLen) :
    Calls Try.prog 4 #[.agg (frA f), .string s, .slice ao cs.length cap] w (Tells (.bool true) w) := by
  have e : s = S s.data.toList := (S_of s).symm
  have hl : s.data.toList.length ≤ maxLen := by
    have := S_size s.data.toList
    rw [S_of] at this
    omega
  generalize s.data.toList = v at *
  subst e
  exact splits_walk f v cs ao cap w hf hfb hl hc hc8 hlc
end Go.Proofs.Ytcbngcigoncfdaa.Pa
