/-
  The law WheelRuns, walked: it returns true, where the calls answer as is asked. Conditions: that, and on sizes.
-/
import Derived.Test.YtmjbdpgjalkbpaaWhPair
import Derived.Deep.DeepCutAuto
namespace Go.Proofs.Ytmjbdpgjalkbpaa.Whl
open Go.RowKit

theorem skipN_le (n : Int) : skipN n ≤ 20000 := by unfold skipN; omega

set_option maxRecDepth 100000 in
set_option maxHeartbeats 16000000 in
theorem wheels_walk {F : Face} (C : Code F) (cap : Nat) (ao : Option Addr) (xs : List Ac) (w : World) (hI : Lies w w.heap.size ao xs) (hF : Fit xs) (hl : xs.length ≤ maxLen) :
    Calls Try.prog 3 #[.slice ao xs.length cap] w (Tells (.bool true) w) := by
  unfold maxLen at hl
  have CC := Lib.hid C
  have HI := Lib.hid hI
  have HF := Lib.hid hF
  clear hI hF C
  by_cases hgd : xs.length ≤ 40
  · go_enter Try.func3, Try.ntmps3
    go_wp2_with fail
    refine (awake_true CC.out _).mono ?_
    rintro e w1 ⟨rfl, hb1⟩
    go_wp2_with fail
    refine (CC.out.new _).mono ?_
    rintro e w2 ⟨p, g, rfl, hx, hp, hg, hb2⟩
    have hr : Run F w.heap.size w w2 p g zero := ⟨hx, hb1.trans (hb2.mono hb1.size), Nat.le_trans hb1.size hp, Nat.le_trans hb1.size hg, Nat.le_trans hb1.size hb2.size⟩
    have HP := Lib.hid (Pair.new hr 28)
    clear hx hp hg hb1 hb2 hr
    go_wp2_with fail
    replace HP := Lib.hid (show Pair F w.heap.size w (w2.alloc (Obj.cells #[Value.int IntKind.i64 0, Value.int IntKind.i64 0, Value.int IntKind.i64 0, Value.int IntKind.i64 0, Value.int IntKind.i64 0, Value.int IntKind.i64 0, Value.int IntKind.i64 0, Value.int IntKind.i64 0, Value.int IntKind.i64 0, Value.int IntKind.i64 0, Value.int IntKind.i64 0, Value.int IntKind.i64 0, Value.int IntKind.i64 0, Value.int IntKind.i64 0, Value.int IntKind.i64 0, Value.int IntKind.i64 0] 28)) p g w2.heap.size zero zero from HP.out)
    generalize w2.alloc (Obj.cells #[Value.int IntKind.i64 0, Value.int IntKind.i64 0, Value.int IntKind.i64 0, Value.int IntKind.i64 0, Value.int IntKind.i64 0, Value.int IntKind.i64 0, Value.int IntKind.i64 0, Value.int IntKind.i64 0, Value.int IntKind.i64 0, Value.int IntKind.i64 0, Value.int IntKind.i64 0, Value.int IntKind.i64 0, Value.int IntKind.i64 0, Value.int IntKind.i64 0, Value.int IntKind.i64 0, Value.int IntKind.i64 0] 28) = W3 at *
    generalize w2.heap.size = b at *
    generalize hNN : w.heap.size = N at *
    have HNN := Lib.hid hNN
    clear hNN
    go_loopw [5, 22] (fun t i wr => ∃ (k m : Nat) (x : Wh), k ≤ xs.length ∧ m ≤ 30000 ∧ t = .int .i64 m ∧ i = .int .i64 k ∧ Hid (Pair F N w wr p g b x x)) (fun _ i _ => xs.length - (intOf i).toNat)
    case atStart => exact ⟨0, 0, zero, Nat.zero_le _, Nat.zero_le _, rfl, rfl, HP⟩
    case round =>
      obtain ⟨k, m, x, hk, hm, rfl, rfl, hS⟩ := hrel
      clear HP
      by_cases hlt : k < xs.length
      · have HX := Lib.hid (List.getElem?_eq_getElem hlt)
        obtain ⟨bb, of, rfl, hbb, hi⟩ := HI.out.below hS.out.run.below (by omega)
        obtain ⟨c0, c1, c2⟩ := hi k _ HX.out
        obtain ⟨f0, f1, f2⟩ := HF.out k _ HX.out
        have HSe := Lib.hid (fun w hx => CC.out.set p g x xs[k].id xs[k].n w hx f1 f2)
        have HCa := Lib.hid (fun w hx => CC.out.cancel p g x xs[k].id w hx f1)
        have HSk := Lib.hid (fun w hx => CC.out.skip p g x xs[k].n w hx f2)
        have HTi := Lib.hid (fun w hx => CC.out.tick p g x w hx)
        obtain ⟨f3, f4⟩ := f2
        clear hi f1
        generalize xs[k] = y at *
        have hbl := (Below.refl wr.heap.size wr).alloc (Nat.le_refl _) (Obj.cells #[Value.int .u8 y.a, Value.int .i64 y.id, Value.int .i64 y.n] 30)
        have l1 := F.plt hS.out.run.at_
        have l2 := F.glt hS.out.run.at_
        have l3 := hS.out.ref.lt
        have HZ := Lib.hid (⟨hS.out.more hbl, ActAt.new wr y 30⟩ : _ ∧ _)
        clear hbl hS
        have HTk := Lib.hid (fun w hx => rtick_any b x w hx)
        rcases (show y.a % 4 = 0 ∨ y.a % 4 = 1 ∨ y.a % 4 = 2 ∨ y.a % 4 = 3 by omega) with h4 | h4 | h4 | h4
        · have t0 : ((y.a : Int) % 4 == 0) = true := by rw [beq_iff_eq]; omega
          clear h4 HTi HSk HCa HTk
          go_wp2_with fail
          obtain ⟨hP, hA⟩ := HZ.out
          clear HZ c0 c1 c2
          generalize wr.alloc (Obj.cells #[Value.int .u8 y.a, Value.int .i64 y.id, Value.int .i64 y.n] 30) = W at *
          generalize wr.heap.size = t at *
          have n1 : t ≠ p := by omega
          have n2 : t ≠ g := by omega
          have n3 : t ≠ b := by omega
          have z1 := hA.c1
          have z2 := hA.c2
          have hT0 := hP.drew
          clear hP hA l1 l2 l3 f3 f4
          go_region_held3 (fun W' => W'.cell? ⟨t, 1, none⟩ = some (.int .i64 y.id) ∧ W'.cell? ⟨t, 2, none⟩ = some (.int .i64 y.n)) (go_keep)
            (first
              | (go_at_call 8; have hS := ‹_ ∧ _›; (with_reducible refine (HSe.out _ hT0.run.at_).mono ?_); rintro e w4 ⟨rfl, hx4, ho4⟩; have hT4 := hT0.code hx4 ho4; have y1 := only_cell ho4 hS.1 n1 n2; have y2 := only_cell ho4 hS.2 n1 n2)
              | (go_at_call 9; have hS := ‹_ ∧ _›; (with_reducible refine (rset_any b x y.id y.n _ hT4.ref).mono ?_); rintro e w5 ⟨rfl, hx5, ho5⟩; have hT5 := hT4.refd hx5 ho5; have y1 := only_cell ho5 hS.1 n3 n3; have y2 := only_cell ho5 hS.2 n3 n3))
          have HS := Lib.hid hT5
          clear hT0 hT4 hT5 hx4 hx5 ho4 ho5 y1 y2 z1 z2 hS HSe
          have HAl := Lib.hid (alike_true CC.out p g b _ _ HS.out.run.at_ HS.out.ref)
          go_wp2_with fail
          refine (HAl.out).mono ?_
          rintro e w9 ⟨rfl, hb9⟩
          have HS9 := Lib.hid (HS.out.more hb9)
          clear HS hb9 HAl
          go_wp2
          go_roundw
          case rel => exact ⟨k + 1, m, _, by omega, hm, rfl, by go_num, HS9⟩
          case measure => simp [intOf]; omega
        · have t0 : ((y.a : Int) % 4 == 0) = false := by rw [beq_eq_false_iff_ne]; omega
          have t1 : ((y.a : Int) % 4 == 1) = true := by rw [beq_iff_eq]; omega
          clear h4 HTi HSk HTk HSe f3 f4
          go_upto_region 15 with fail
          obtain ⟨hP, hA⟩ := HZ.out
          clear HZ c0 c1 c2
          generalize wr.alloc (Obj.cells #[Value.int .u8 y.a, Value.int .i64 y.id, Value.int .i64 y.n] 30) = W at *
          generalize wr.heap.size = t at *
          have n1 : t ≠ p := by omega
          have n2 : t ≠ g := by omega
          have n3 : t ≠ b := by omega
          have z1 := hA.c1
          have HPh := Lib.hid hP
          have HAh := Lib.hid hA
          have HRL := Lib.hid (rleft_any b x y.id W hP.ref)
          have hbt : canB x y.id = decide (0 < leftN x y.id) := rfl
          have hok := F.ok hP.run.at_
          by_cases hv : 0 < leftN x y.id
          · obtain ⟨i, hid, hi16, hcx⟩ := left_in hv
            rw [decide_eq_true hv] at hbt
            rw [hbt, hcx] at HCa
            obtain ⟨cb, fb⟩ := hP.ref.2 i hi16
            have hvi : (0 : Int) < (leftN x y.id : Nat) := by omega
            have HP2 := Lib.hid ((hP.put i 0 hi16 (by omega)).drew)
            have HA2 := Lib.hid ((hA.only (Only.set b b W i (.int .i64 0)) n3 n3).drew)
            clear hP hA hok hbt hcx hv l1 l2 l3
            generalize leftN x y.id = v at *
            rw [hid] at HCa HRL z1
            go_wp2_with fail
            refine (HRL.out).mono ?_
            rintro e w4 ⟨rfl, rfl⟩
            go_wp2_with fail
            go_region
            all_goals
              have z3 := HA2.out.c1
              rw [hid] at z3
              replace HP2 := Lib.hid (show Pair F N w (W.setCell ⟨b, i, none⟩ (.int .i64 0)).drew p g b x (x.set i 0) from HP2.out)
              generalize (W.setCell ⟨b, i, none⟩ (.int .i64 0)).drew = W5 at *
              go_wp2_with fail
              refine (HCa.out _ HP2.out.run.at_).mono ?_
              rintro e w5 ⟨rfl, hx5, ho5⟩
              have HS := Lib.hid (HP2.out.code hx5 ho5)
              clear hx5 ho5 HP2 HA2 HCa z3
              have HAl := Lib.hid (alike_true CC.out p g b _ _ HS.out.run.at_ HS.out.ref)
              go_wp2_with fail
              refine (HAl.out).mono ?_
              rintro e w9 ⟨rfl, hb9⟩
              have HS9 := Lib.hid (HS.out.more hb9)
              clear HS hb9 HAl
              go_wp2
              go_roundw
              case rel => exact ⟨k + 1, m, _, by omega, hm, rfl, by go_num, HS9⟩
              case measure => simp [intOf]; omega
          · have h0 : leftN x y.id = 0 := by omega
            rw [decide_eq_false hv] at hbt
            rw [hbt, can_same hok y.id h0] at HCa
            rw [h0] at HRL
            clear hP hA hok hbt hv h0 l1 l2 l3
            go_wp2_with fail
            refine (HRL.out).mono ?_
            rintro e w4 ⟨rfl, rfl⟩
            go_wp2_with fail
            refine (HCa.out _ HPh.out.run.at_).mono ?_
            rintro e w5 ⟨rfl, hx5, ho5⟩
            have HS := Lib.hid (HPh.out.code hx5 ho5)
            clear hx5 ho5 HPh HAh HCa z1
            have HAl := Lib.hid (alike_true CC.out p g b _ _ HS.out.run.at_ HS.out.ref)
            go_wp2_with fail
            refine (HAl.out).mono ?_
            rintro e w9 ⟨rfl, hb9⟩
            have HS9 := Lib.hid (HS.out.more hb9)
            clear HS hb9 HAl
            go_wp2
            go_roundw
            case rel => exact ⟨k + 1, m, _, by omega, hm, rfl, by go_num, HS9⟩
            case measure => simp [intOf]; omega
        · have t0 : ((y.a : Int) % 4 == 0) = false := by rw [beq_eq_false_iff_ne]; omega
          have t1 : ((y.a : Int) % 4 == 1) = false := by rw [beq_eq_false_iff_ne]; omega
          have t2 : ((y.a : Int) % 4 == 2) = true := by rw [beq_iff_eq]; omega
          clear h4 HCa HSk HSe f3 f4
          go_wp2_with fail
          obtain ⟨hP, hA⟩ := HZ.out
          clear HZ c0 c1 c2
          generalize wr.alloc (Obj.cells #[Value.int .u8 y.a, Value.int .i64 y.id, Value.int .i64 y.n] 30) = W at *
          generalize wr.heap.size = t at *
          have n1 : t ≠ p := by omega
          have n2 : t ≠ g := by omega
          have n3 : t ≠ b := by omega
          have hbl := hP.ref.lt
          refine (HTi.out _ hP.run.at_).mono ?_
          rintro e w4 ⟨v1, rfl, hv1, hx4, ho4⟩
          have hT4 := hP.code hx4 ho4
          clear hx4 ho4 hP hA HTi
          go_wp2_with fail
          refine (HTk.out _ hT4.ref).mono ?_
          rintro e w5 ⟨v2, rfl, hv2, hx5, ho5⟩
          have hT5 := hT4.refd hx5 ho5
          have HSa := Lib.hid (same_any _ _ v1 v2 w5 (hv1.only ho5 hbl hbl).list hv2.list)
          rw [decide_eq_true (rfl : comeL x = comeL x)] at HSa
          have HT5 := Lib.hid hT5
          clear hx5 ho5 hT4 hT5 hv1 hv2 HTk
          go_wp2_with fail
          refine (HSa.out).mono ?_
          rintro e w6 ⟨rfl, hb6⟩
          have HS := Lib.hid (HT5.out.more hb6)
          clear HSa HT5 hb6
          have HAl := Lib.hid (alike_true CC.out p g b _ _ HS.out.run.at_ HS.out.ref)
          go_wp2_with fail
          refine (HAl.out).mono ?_
          rintro e w9 ⟨rfl, hb9⟩
          have HS9 := Lib.hid (HS.out.more hb9)
          clear HS hb9 HAl
          go_wp2
          go_roundw
          case rel => exact ⟨k + 1, m, _, by omega, hm, rfl, by go_num, HS9⟩
          case measure => simp [intOf]; omega
        · have t0 : ((y.a : Int) % 4 == 0) = false := by rw [beq_eq_false_iff_ne]; omega
          have t1 : ((y.a : Int) % 4 == 1) = false := by rw [beq_eq_false_iff_ne]; omega
          have t2 : ((y.a : Int) % 4 == 2) = false := by rw [beq_eq_false_iff_ne]; omega
          have t3 : ((y.a : Int) % 4 == 3) = true := by rw [beq_iff_eq]; omega
          have hmx := run_maxI y.n
          have hmn := run_minI y.n
          have hq := skipN_le y.n
          generalize skipN y.n = q at *
          generalize maxI y.n = M at *
          clear h4 HTi HTk HCa HSe f3 f4
          go_upto_region 22 with fail
          obtain ⟨hP, hA⟩ := HZ.out
          clear HZ c0 c1 c2
          generalize wr.alloc (Obj.cells #[Value.int .u8 y.a, Value.int .i64 y.id, Value.int .i64 y.n] 30) = W at *
          generalize wr.heap.size = t at *
          have n1 : t ≠ p := by omega
          have n2 : t ≠ g := by omega
          have n3 : t ≠ b := by omega
          have z2 := hA.c2
          have hbl := hP.ref.lt
          have hpl := F.plt hP.run.at_
          have hgl := F.glt hP.run.at_
          have htl := hA.lt
          have hsz := hP.run.size
          have HL0 := Lib.hid (⟨World.ownsRow_nil W W.heap.size 3 1, hP, hA, Nat.le_refl _⟩ : OwnL W.heap.size W (.slice none 0 0) (skipL x 0) ∧ Pair F N w W p g b x (skipX x 0) ∧ ActAt W t y ∧ W.heap.size ≤ W.heap.size)
          clear hA
          by_cases h30 : m + q ≤ 30000
          · have h30i : (m : Int) + q ≤ 30000 := by omega
            clear hP
            go_wp2_with fail
            generalize hB : W.heap.size = B at *
            have HBe := Lib.hid hB
            clear hB
            go_loopw [11, 82] (fun v i wr => ∃ (j : Nat), j ≤ q ∧ i = .int .i64 j ∧ Hid (OwnL B wr v (skipL x j) ∧ Pair F N w wr p g b x (skipX x j) ∧ ActAt wr t y ∧ B ≤ wr.heap.size)) (fun _ i _ => q - (intOf i).toNat)
            case atStart => exact ⟨0, Nat.zero_le _, rfl, Lib.hid ⟨HL0.out.1, HL0.out.2.1, HL0.out.2.2.1, by rw [HBe.out]; exact Nat.le_refl _⟩⟩
            case round =>
              obtain ⟨j, hj, rfl, hS⟩ := hrel
              clear HL0
              obtain ⟨hv, hPj, hAj, hBj⟩ := hS.out
              by_cases hjq : j < q
              · have s1 := skip_small x j
                have s2 : (comeL (skipX x j)).length ≤ 16 := comeTo_le _ 16
                go_wp2_with fail
                refine (rtick_any b (skipX x j) _ hPj.ref).mono ?_
                rintro e w5 ⟨v5, rfl, hv5, hx5, ho5⟩
                have hv1 := hv.only ho5 hbl hbl
                have hP5 := hPj.refd hx5 ho5
                have hA5 := hAj.only ho5 n3 n3
                have hB5 := ho5.size
                clear hx5 ho5 hPj hAj hv
                have hvl := hv5.list
                go_wp2_with (at_builtin; refine wpList_append_list rfl (.tmp 84) (.tmp 86) rfl B _ v5 (skipL x j) (comeL (skipX x j)) rfl hv1 rfl hvl (by omega) (by omega) ?_)
                intro v6 w6 hv6 hgr
                have hlow := grown_below hv1 hgr (Nat.le_refl _) (by omega)
                have hP6 := hP5.low hlow hsz hpl hgl hbl
                have hA6 := hA5.of (hlow.block t htl)
                have hB6 := hlow.size
                rw [← skipL_one] at hv6
                have HN := Lib.hid (⟨hv6, by rw [skipX_one]; exact hP6, hA6, by omega⟩ : OwnL B w6 v6 (skipL x (j + 1)) ∧ Pair F N w w6 p g b x (skipX x (j + 1)) ∧ ActAt w6 t y ∧ B ≤ w6.heap.size)
                clear hv1 hP5 hA5 hv5 hvl hv6 hgr hlow hP6 hA6
                go_wp2
                go_roundw
                case rel => exact ⟨j + 1, by omega, by go_num, HN⟩
                case measure => simp [intOf]; omega
              · obtain rfl : j = q := by omega
                have z4 := hAj.c2
                go_wp2_with fail
                refine (HSk.out _ hPj.run.at_).mono ?_
                rintro e w5 ⟨v5, rfl, hv5, hx5, ho5⟩
                have hv1 := hv.only ho5 hpl hgl
                have HS5 := Lib.hid (hPj.code hx5 ho5)
                have HSa := Lib.hid (same_any _ _ v5 _ w5 hv5.list hv1.list)
                rw [decide_eq_true (rfl : skipL x j = skipL x j)] at HSa
                clear hx5 ho5 hPj hAj hv hv5 hv1 hS z4
                go_wp2_with fail
                refine (HSa.out).mono ?_
                rintro e w6 ⟨rfl, hb6⟩
                have HS := Lib.hid (HS5.out.more hb6)
                clear HSa HS5 hb6
                have HAl := Lib.hid (alike_true CC.out p g b _ _ HS.out.run.at_ HS.out.ref)
                go_wp2_with fail
                refine (HAl.out).mono ?_
                rintro e w9 ⟨rfl, hb9⟩
                have HS9 := Lib.hid (HS.out.more hb9)
                clear HS hb9 HAl
                go_wp2
                go_roundw
                case rel => exact ⟨k + 1, m + j, _, by omega, h30, by go_num, by go_num, HS9⟩
                case measure => simp [intOf]; omega
          · have h30i : ¬ (m : Int) + q ≤ 30000 := by omega
            have HB := Lib.hid hP.run.below
            clear hP HL0
            go_wp2
            go_ret
            exact ⟨rfl, by rw [HNN.out]; exact HB.out⟩
      · go_wp2
        go_ret
        exact ⟨rfl, by rw [HNN.out]; exact hS.out.run.below⟩
  · go_enter Try.func3, Try.ntmps3
    go_wp2_with fail
    refine (awake_true CC.out _).mono ?_
    rintro e w1 ⟨rfl, hb1⟩
    go_wp2
    go_ret
    exact ⟨rfl, hb1⟩

end Go.Proofs.Ytmjbdpgjalkbpaa.Whl
