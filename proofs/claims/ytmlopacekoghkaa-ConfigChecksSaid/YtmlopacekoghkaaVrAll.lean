/-
  The reference's All, walked: what is ahead of each instruction, or the first error. Conditions: numbers that an int holds.
-/
import Derived.Test.YtmlopacekoghkaaVrRow
import Derived.Test.YtmlopacekoghkaaIlRu
import Derived.Deep.DeepCutAuto
namespace Go.Proofs.Ytmlopacekoghkaa.Ve
open Go.RowKit
open Go.Proofs.Ytmlopacekoghkaa.Il hiding Next
open Go.Proofs.Ytmlopacekoghkaa.Ic hiding I64

theorem new3 {W w2 : World} {Z : Array Value} {t : TypeId} (hb : Below (W.drew.alloc (.cells Z t)).heap.size (W.drew.alloc (.cells Z t)) w2) :
    (∀ j v, Z[j]? = some v → w2.cell? ⟨W.heap.size, j, none⟩ = some v) ∧ ∀ j, w2.frozen? ⟨W.heap.size, j, none⟩ = false := by
  have hlt : W.heap.size < (W.drew.alloc (.cells Z t)).heap.size := by simp
  refine ⟨fun j v hv => kept_cell hb (by show (W.drew.alloc (.cells Z t)).cell? ⟨W.drew.heap.size, j, none⟩ = _; rw [World.cell?_alloc_new]; exact hv), fun j => ?_⟩
  exact (World.frozen?_of_block (a := ⟨W.heap.size, j, none⟩) (hb.block W.heap.size hlt)).trans (World.frozen?_alloc_new W.drew Z t j)
section
set_option maxRecDepth 100000 in
set_option maxHeartbeats 16000000 in
theorem rAll_any (c : List In) (ao : Option Addr) (cap : Nat) (w : World) (hI : Lies w w.heap.size ao c) (hF : FitL c) (hm : c.length ≤ maxLen) :
    Calls Try.prog 37 #[.slice ao c.length cap] w (Alls w c) := by
  have HI := Lib.hid hI
  have HF := Lib.hid hF
  have hmi : (c.length : Int) ≤ 9223372036854775807 := by unfold maxLen at hm; omega
  clear hI hF hm
  by_cases h200 : (200 : Int) < c.length
  · have HD := Lib.hid (all_long (c := c) (by omega))
    go_enter Try.func37, Try.ntmps37
    go_wp2
    go_ret3
    exact alls_err HD.out (Below.refl _ _)
  · obtain ⟨n, hn⟩ : ∃ n, n = c.length := ⟨_, rfl⟩
    have HN := Lib.hid hn
    have hn2 : (n : Int) ≤ 200 := by omega
    have h200' : ¬ (200 : Int) < n := by omega
    have hmk := mkR n (by omega)
    have hadd : IntKind.i64.wrap ((n : Int) + 1) = (n : Int) + 1 := by rw [IntKind.wrap_i64]; omega
    have HR0 := Lib.hid (first_rrow w n (by omega))
    have hz0 : (madeCells zero3 ((n + 1) * 3))[0]? = some (.bool false) := by
      have h := made3_list (n + 1)
      rw [← Array.getElem?_toList, h]
      rfl
    rw [← hn]
    generalize madeCells zero3 ((n + 1) * 3) = Z at *
    clear hn h200 hmi
    go_enter Try.func37, Try.ntmps37
    go_wp2
    go_loopw [7] (fun i wr => ∃ (k : Nat) (l : List Ah), (k : Int) ≤ n ∧ i = .int .i64 k ∧ Hid (runB c k = .ok l ∧ Ro w wr w.heap.size n l)) (fun i _ => n - (intOf i).toNat)
    case atStart =>
      refine ⟨0, firstB n, by omega, rfl, Lib.hid ⟨by rw [HN.out]; rfl, HR0.out, (Below.refl _ _).alloc (Nat.le_refl _) _⟩⟩
    case round =>
      obtain ⟨k, l, hk, rfl, hS⟩ := hrel
      clear hz0 hmk HR0
      by_cases hlt : (k : Int) < n
      · obtain ⟨x, hx⟩ : ∃ x, c[k]? = some x := ⟨_, List.getElem?_eq_getElem (by rw [← HN.out]; omega)⟩
        have HX := Lib.hid hx
        have HFx := Lib.hid (HF.out k x hx)
        obtain ⟨b, o, rfl, -, hIt⟩ := (HI.out.below hS.out.2.below) (by rw [← HN.out]; omega)
        obtain ⟨y0, y1, y2, y3, y4⟩ := hIt k x hx
        clear hIt
        have P0 := Lib.hid (hS.out.2.with x)
        have HRi := Lib.hid (fun W => rright_any x HFx.out.2.2.2.1 W)
        have Hrun := Lib.hid hS.out.1
        have hkn1 : (k : Int) < n + 1 := by omega
        have hadd1 : IntKind.i64.wrap ((k : Int) + 1) = (k : Int) + 1 := by rw [IntKind.wrap_i64]; omega
        unfold insV at HRi
        unfold insC at P0
        cases hr : rightI x
        · rw [hr] at HRi
          have HD := Lib.hid (all_stop (by rw [← HN.out]; omega) Hrun.out HX.out (by rw [step_wrong hr]; simp))
          rw [step_wrong hr] at HD
          clear hr hS
          go_wp2_with fail
          refine (HRi.out _).mono ?_
          rintro e w1 ⟨rfl, hb⟩
          have HB := Lib.hid (P0.out.kept hb).ro.below
          clear hb P0 y0 y1 y2 y3 y4
          go_wp2
          go_ret3
          exact alls_err HD.out HB.out
        · rw [hr] at HRi
          have Hr := Lib.hid hr
          clear hr hS
          go_wp2_with fail
          refine (HRi.out _).mono ?_
          rintro e w1 ⟨rfl, hb⟩
          have P1 := Lib.hid (P0.out.kept hb)
          clear hb P0 y0 y1 y2 y3 y4
          obtain ⟨q0, q1, q2, q3, q4, q5⟩ := P1.out.ro.row.cells (k := k) (by omega)
          cases hon : (gt l k).on
          · rw [hon] at q0
            have hst := step_off (k := k) (n := n) (l := l) Hr.out hon
            have HS2 := Lib.hid (run_next Hrun.out HX.out (by rw [← HN.out, hst]))
            rw [← HN.out, hst] at HS2
            clear hon hst
            go_wp2
            exact ⟨⟨k + 1, l, by omega, by go_num, Lib.hid ⟨HS2.out, P1.out.ro⟩⟩, by simp [intOf]; omega⟩
          · rw [hon] at q0
            have Hon := Lib.hid hon
            have HW := Lib.hid (P1.out.ro.row.wf k)
            have HBe := Lib.hid (fun W => rBehind_any x (gt l k) k n W Hr.out HW.out)
            have Pd := Lib.hid P1.out.drew
            obtain ⟨a, ha⟩ : ∃ a, a = gt l k := ⟨_, rfl⟩
            have HA := Lib.hid ha
            rw [← ha] at HBe q1 q2
            have hao : a.on = true := by rw [ha]; exact Hon.out
            obtain ⟨e, hee⟩ : ∃ e, e = errB x k n a := ⟨_, rfl⟩
            have HE := Lib.hid hee
            obtain ⟨b', hbb⟩ : ∃ b', b' = afterB x k n a := ⟨_, rfl⟩
            have HB := Lib.hid hbb
            rw [← hee, ← hbb] at HBe
            unfold ahV insV at HBe
            rw [hao] at HBe
            have HAO := Lib.hid hao
            clear hao
            have he8 : (e : Int) ≤ 8 := by
              rw [hee]; unfold errB refB; (repeat' split) <;> simp
            clear hon ha hee hbb
            obtain ⟨x0, x1, x2, x3, x4⟩ := P1.out.cells
            generalize S (brS a.br) = s at *
            go_upto_region 13 with fail
            go_cut [9, 10] (fun s9 s10 wx => ∃ p, s9 = .pointer (some ⟨p, 0, none⟩) ∧ s10 = .int .i64 (e : Nat) ∧ Hid (Rp w wx w.heap.size n l wr.heap.size x p b'))
            case first =>
              have hgl : w.heap.size < w1.heap.size := P1.out.ro.row.lt.2
              have hbl : wr.heap.size < w1.heap.size := World.block_lt_of_cell? w1 _ x0
              go_region_with (go_at_call 46; (with_reducible refine (HBe.out _).mono ?_); rintro e9 w2 ⟨rfl, hb2⟩; try (have z := new3 hb2; have z0 := z.1 0 _ rfl; have z1 := z.1 1 _ rfl; have z2 := z.1 2 _ rfl; have f0 := z.2 0; have f1 := z.2 1; have f2 := z.2 2; clear z))
              all_goals
                go_wp2
                go_meet
                first
                  | exact ⟨_, rfl, rfl, Lib.hid ((Pd.out.kept hb2).new b')⟩
                  | exact ⟨_, rfl, rfl, Lib.hid (((Pd.out.alloc _).kept hb2).store (Nat.le_of_lt hgl) (Nat.ne_of_lt hgl) (Nat.ne_of_lt hbl) (by rw [z0]; rfl) (by rw [z1]; rfl) (by rw [z2]; rfl) b')⟩
            case rest =>
              obtain ⟨p, rfl, rfl, HP⟩ := hcut
              clear x0 x1 x2 x3 x4 q0 q1 q2 q3 q4 q5 P1 Pd HBe HRi
              by_cases he0 : e = 0
              · subst he0
                have hz : errB x k n (gt l k) = 0 := by rw [← HA.out]; exact HE.out.symm
                have hnx : b' = nextB x (gt l k) := by rw [HB.out, HA.out]; exact after_ok hz
                have hwb : Wf b' := by rw [hnx]; exact wf_next Hr.out HW.out Hon.out (err_zero hz).2
                have HZ := Lib.hid (⟨hz, hnx, hwb⟩ : _ ∧ _ ∧ _)
                clear hz hnx hwb
                obtain ⟨x0, x1, x2, x3, x4⟩ := HP.out.ri.cells
                generalize wr.heap.size = z at *
                have HJ := Lib.hid (fun j (hj : j < n + 1) W => rJoin_any (gt l j) b' W (HP.out.ri.ro.row.wf j) HZ.out.2.2)
                go_upto_region 17 with fail
                go_cut [64] (fun s64 wx => s64 = .bool (onB x.op) ∧ wx = wc)
                case first =>
                  by_cases h25 : x.op = 25
                  · have e25 : (x.op != 25) = false := by simpa using h25
                    have ho : onB x.op = false := by unfold onB; exact decide_eq_false (by omega)
                    clear h25
                    go_wp2
                    go_meet
                    exact ⟨by rw [ho], rfl⟩
                  · by_cases h28 : x.op = 28
                    · have e25 : (x.op != 25) = true := by simpa using h25
                      have e28 : (x.op != 28) = false := by simpa using h28
                      have ho : onB x.op = false := by unfold onB; exact decide_eq_false (by omega)
                      clear h25 h28
                      go_wp2
                      go_meet
                      exact ⟨by rw [ho], rfl⟩
                    · have e25 : (x.op != 25) = true := by simpa using h25
                      have e28 : (x.op != 28) = true := by simpa using h28
                      have ho : onB x.op = true := by unfold onB; exact decide_eq_true ⟨h25, h28⟩
                      clear h25 h28
                      go_wp2
                      go_meet
                      exact ⟨by rw [ho], rfl⟩
                case rest =>
                  obtain ⟨rfl, rfl⟩ := hcut
                  go_upto_if 64 with fail
                  go_cut [11] (fun s11 wx => s11 = .bool (!onB x.op || joinO (gt l (k + 1)) b') ∧ Hid (Rp w wx w.heap.size n (goOn x k l b') z x p b'))
                  case first =>
                    cases ho : onB x.op
                    · have HP2 := HP.out
                      rw [show l = goOn x k l b' from (goOn_no ho).symm] at HP2
                      replace HP2 := Lib.hid HP2
                      have Ho := Lib.hid ho
                      clear ho
                      go_wp2
                      go_meet
                      exact ⟨by rw [Ho.out]; rfl, HP2⟩
                    · have Ho := Lib.hid ho
                      clear ho
                      have HJ1 := Lib.hid (HJ.out (k + 1) (by omega))
                      have Pd := Lib.hid HP.out.drew
                      obtain ⟨z0, z1, z2⟩ := Pd.out.cells
                      obtain ⟨q0, q1, q2, q3, q4, q5⟩ := Pd.out.ri.ro.row.cells (k := k + 1) (by omega)
                      unfold ahV at HJ1
                      have hk2 : (k : Int) + 1 < n + 1 := by omega
                      go_wp2_with fail
                      go_region_with (go_at_call 47; (with_reducible refine (HJ1.out _).mono ?_); rintro e9 w2 ⟨rfl, hb2⟩; have P2 := Lib.hid (Pd.out.kept hb2); obtain ⟨t0, t1, t2, t3, t4, t5⟩ := P2.out.ri.ro.row.cells (k := k + 1) (by omega))
                      all_goals
                        have HP2 := Lib.hid (P2.out.put (c := joinK (gt l (k + 1)) b') (wf_join (P2.out.ri.ro.row.wf _) HZ.out.2.2) (k := k + 1) (by omega))
                        clear t0 t1 t2 t3 t4 t5 hb2 P2 q0 q1 q2 q3 q4 q5 z0 z1 z2
                        go_wp2
                        go_meet
                        exact ⟨by rw [Ho.out]; rfl, by rw [goOn_yes Ho.out]; exact HP2⟩
                  case rest =>
                    obtain ⟨rfl, HP1⟩ := hcut
                    clear HP HJ x0 x1 x2 x3 x4
                    obtain ⟨x0, x1, x2, x3, x4⟩ := HP1.out.ri.cells
                    obtain ⟨l1, hl1⟩ : ∃ l1, l1 = goOn x k l b' := ⟨_, rfl⟩
                    rw [← hl1] at HP1
                    have HL1 := Lib.hid hl1
                    obtain ⟨q1, hq1⟩ : ∃ q1, q1 = (!onB x.op || joinO (gt l (k + 1)) b') := ⟨_, rfl⟩
                    rw [← hq1]
                    have HQ1 := Lib.hid hq1
                    clear hl1 hq1
                    have HJ := Lib.hid (fun j (hj : j < n + 1) W => rJoin_any (gt l1 j) b' W (HP1.out.ri.ro.row.wf j) HZ.out.2.2)
                    go_upto_region 19 with fail
                    go_cut [89] (fun s89 wx => s89 = .bool (q1 && jumpB x.op) ∧ wx = wc)
                    case first =>
                      cases q1
                      · go_wp2
                        go_meet
                        exact ⟨rfl, rfl⟩
                      · by_cases h25 : 25 ≤ x.op
                        · by_cases h27 : x.op ≤ 27
                          · have hj : jumpB x.op = true := by unfold jumpB; exact decide_eq_true ⟨h25, h27⟩
                            go_wp2
                            go_meet
                            exact ⟨by rw [hj]; rfl, rfl⟩
                          · have hj : jumpB x.op = false := by unfold jumpB; exact decide_eq_false (by omega)
                            go_wp2
                            go_meet
                            exact ⟨by rw [hj]; rfl, rfl⟩
                        · have hj : jumpB x.op = false := by unfold jumpB; exact decide_eq_false (by omega)
                          go_wp2
                          go_meet
                          exact ⟨by rw [hj]; rfl, rfl⟩
                    case rest =>
                      obtain ⟨rfl, rfl⟩ := hcut
                      go_upto_if 89 with fail
                      go_cut [11] (fun s11 wx => s11 = .bool (q1 && (!jumpB x.op || joinO (gt l1 x.pl.toNat) b')) ∧ Hid (Below w.heap.size w wx ∧ ((q1 && (!jumpB x.op || joinO (gt l1 x.pl.toNat) b')) = true → RRow wx w.heap.size w.heap.size (n + 1) (goTo x l1 b'))))
                      case first =>
                        cases q1
                        · have HB1 := Lib.hid HP1.out.ri.ro.below
                          simp only [Bool.false_and]
                          go_wp2
                          go_meet
                          exact ⟨rfl, Lib.hid ⟨HB1.out, fun h => absurd h (by simp)⟩⟩
                        · cases hj : jumpB x.op
                          · have HR1 := HP1.out.ri.ro
                            rw [show l1 = goTo x l1 b' from (goTo_no hj).symm] at HR1
                            replace HR1 := Lib.hid HR1
                            have Hj := Lib.hid hj
                            clear hj
                            go_wp2
                            go_meet
                            exact ⟨by rw [Hj.out]; rfl, Lib.hid ⟨HR1.out.below, fun _ => HR1.out.row⟩⟩
                          · have Hj := Lib.hid hj
                            have hfar := (err_zero HZ.out.1).1
                            have hpl := right_jump Hr.out hj
                            obtain ⟨t, ht⟩ : ∃ t : Nat, x.pl = t := ⟨x.pl.toNat, by omega⟩
                            have htn : t < n + 1 := by
                              unfold farB at hfar
                              rw [hj, Bool.true_and, Bool.or_eq_false_iff] at hfar
                              have := of_decide_eq_false hfar.2
                              omega
                            have HT := Lib.hid ht
                            have HTn := Lib.hid htn
                            have HJ1 := Lib.hid (HJ.out t htn)
                            have Pd := Lib.hid HP1.out.drew
                            obtain ⟨z0, z1, z2⟩ := Pd.out.cells
                            obtain ⟨x0', x1', x2', x3', x4'⟩ := Pd.out.ri.cells
                            obtain ⟨q0, q1, q2, q3, q4, q5⟩ := Pd.out.ri.ro.row.cells (k := t) htn
                            unfold ahV at HJ1
                            have ht2 : (t : Int) < n + 1 := by omega
                            rw [ht] at x3 x3'
                            clear hj hfar hpl htn ht
                            go_wp2_with fail
                            go_region_with (go_at_call 47; (with_reducible refine (HJ1.out _).mono ?_); rintro e9 w2 ⟨rfl, hb2⟩; have P2 := Lib.hid (Pd.out.kept hb2); obtain ⟨t0, t1, t2, t3, t4, t5⟩ := P2.out.ri.ro.row.cells (k := t) HTn.out; obtain ⟨v0, v1, v2, v3, v4⟩ := P2.out.ri.cells; rw [HT.out] at v3)
                            all_goals
                              have HP2 := Lib.hid (P2.out.put (c := joinK (gt l1 t) b') (wf_join (P2.out.ri.ro.row.wf _) HZ.out.2.2) (k := t) HTn.out)
                              clear t0 t1 t2 t3 t4 t5 v0 v1 v2 v3 v4 hb2 P2 q0 q1 q2 q3 q4 q5 z0 z1 z2 x0' x1' x2' x3' x4'
                              go_wp2
                              go_meet
                              exact ⟨by rw [Hj.out, HT.out, Int.toNat_natCast]; rfl, Lib.hid ⟨HP2.out.ri.ro.below, fun _ => by rw [goTo_yes Hj.out, HT.out, Int.toNat_natCast]; exact HP2.out.ri.ro.row⟩⟩
                      case rest =>
                        obtain ⟨rfl, HF1⟩ := hcut
                        cases hq2 : (q1 && (!jumpB x.op || joinO (gt l1 x.pl.toNat) b'))
                        · have HD := Lib.hid (all_stop (c := c) (k := k) (l := l) (i := x) (by rw [← HN.out]; omega) Hrun.out HX.out)
                          have hst : stepB x k n l = (7, l) := by
                            have ho : joinO (gt l (k + 1)) b' = joinO (gt l (k + 1)) (nextB x (gt l k)) := by rw [HZ.out.2.1]
                            cases hq : q1 with
                            | false =>
                              have h1 := HQ1.out
                              rw [hq] at h1
                              have h2 := Bool.or_eq_false_iff.1 h1.symm
                              exact step_bad Hr.out Hon.out HZ.out.1 (by simpa using h2.1) (by rw [← HZ.out.2.1]; exact h2.2)
                            | true =>
                              rw [hq, Bool.true_and] at hq2
                              have h2 := Bool.or_eq_false_iff.1 hq2
                              have h1 := HQ1.out
                              rw [hq] at h1
                              refine step_bad2 Hr.out Hon.out HZ.out.1 (fun hon => ?_) (by simpa using h2.1) (by rw [← HZ.out.2.1, ← HL1.out]; exact h2.2)
                              rw [hon] at h1
                              rw [← HZ.out.2.1]
                              simpa using h1.symm
                          rw [← HN.out, hst] at HD
                          have HD2 := Lib.hid (HD.out (by simp))
                          have HBl := Lib.hid HF1.out.1
                          clear hq2 hst HD HF1
                          go_wp2
                          go_ret3
                          exact alls_err HD2.out HBl.out
                        · have hst : stepB x k n l = (0, goTo x l1 b') := by
                            obtain ⟨h1, h2⟩ := Bool.and_eq_true_iff.1 hq2
                            have h3 := HQ1.out
                            rw [h1] at h3
                            rw [HL1.out, HZ.out.2.1]
                            refine step_done Hr.out Hon.out HZ.out.1 (fun hon => ?_) (fun hj => ?_)
                            · rw [hon] at h3
                              rw [← HZ.out.2.1]
                              simpa using h3.symm
                            · rw [hj] at h2
                              rw [← HZ.out.2.1, ← HL1.out]
                              simpa using h2
                          have HS2 := Lib.hid (run_next Hrun.out HX.out (by rw [← HN.out, hst]))
                          rw [← HN.out, hst] at HS2
                          have HRo := Lib.hid (show Ro w wc w.heap.size n (goTo x l1 b') from ⟨HF1.out.2 hq2, HF1.out.1⟩)
                          clear hq2 hst HF1
                          go_wp2
                          exact ⟨⟨k + 1, _, by omega, by go_num, Lib.hid ⟨HS2.out, HRo.out⟩⟩, by simp [intOf]; omega⟩
              · have heb : ((e : Int) != 0) = true := by rw [bne_iff_ne]; omega
                have HD := Lib.hid (all_stop (by rw [← HN.out]; omega) Hrun.out HX.out (by rw [← HN.out, step_err Hr.out Hon.out (by rw [← HA.out, ← HE.out]; exact he0), ← HA.out, ← HE.out]; exact he0))
                rw [← HN.out, step_err Hr.out Hon.out (by rw [← HA.out, ← HE.out]; exact he0), ← HA.out, ← HE.out] at HD
                have HBl := Lib.hid HP.out.ri.ro.below
                clear he0 HP
                go_wp2
                go_ret3
                exact alls_err HD.out HBl.out
      · obtain rfl : k = n := by omega
        obtain ⟨q0, q1, q2, q3, q4, q5⟩ := hS.out.2.row.cells (k := k) (by omega)
        have hwf := hS.out.2.row.wf k
        have hrun := hS.out.1
        rw [HN.out] at hrun
        have HRo := Lib.hid hS.out.2
        clear hS
        have done : (gt l k).br = [] → allB c = .ok l := fun h => all_done (by rw [← HN.out]; omega) hrun (by rw [← HN.out, h]; rfl)
        cases hon : (gt l k).on
        · rw [hon] at q0
          have HD := Lib.hid (done (hwf.off hon).2)
          clear done hon hwf hrun
          generalize S (brS (gt l k).br) = s at *
          go_wp2
          go_ret3
          have := alls_ok HD.out (by rw [← HN.out]; exact HRo.out.row) HRo.out.below
          rw [← HN.out] at this
          exact this
        · rw [hon] at q0
          by_cases hb : (gt l k).br = []
          · have HD := Lib.hid (done hb)
            rw [hb, show S (brS []) = ⟨#[]⟩ from rfl] at q2
            clear done hon hwf hrun hb
            go_wp2
            go_ret3
            have := alls_ok HD.out (by rw [← HN.out]; exact HRo.out.row) HRo.out.below
            rw [← HN.out] at this
            exact this
          · have hlen : (gt l k).br.length ≠ 0 := fun h => hb (List.eq_nil_of_length_eq_zero h)
            have HD := Lib.hid (all_end (by rw [← HN.out]; omega) hrun (by rw [← HN.out]; exact hlen))
            rw [← HN.out] at HD
            have hse : (S (brS (gt l k).br)).toList.isEmpty = false := by
              rw [Lib.toList_data]
              show (brS (gt l k).br).isEmpty = false
              cases hbs : brS (gt l k).br with
              | nil => exfalso; have := brS_len (gt l k).br; rw [hbs] at this; simp at this; omega
              | cons _ _ => rfl
            have HBl := Lib.hid HRo.out.below
            clear done hon hwf hrun hb hlen HRo
            generalize S (brS (gt l k).br) = s at *
            go_wp2
            go_ret3
            exact alls_err HD.out HBl.out
end
end Go.Proofs.Ytmlopacekoghkaa.Ve
