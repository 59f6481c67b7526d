/-
  The law WheelSkips, walked: it returns true, where the calls answer as is asked. Conditions: that, and on sizes.
-/
import Derived.Test.YtmjbdpgjalkbpaaWhApp
namespace Go.Proofs.Ytmjbdpgjalkbpaa.Whl
open Go.RowKit

theorem skipN_nat (A : Nat) (h : A ≤ 20000) : skipN (A : Int) = A := by unfold skipN; omega

set_option maxRecDepth 100000 in
set_option maxHeartbeats 8000000 in
theorem skips_walk {F : Face} (C : Code F) (a b : Int) (cap : Nat) (ao : Option Addr) (xs : List Ac) (w : World) (ha : I64 a) (hb : I64 b) (hI : Lies w w.heap.size ao xs) (hF : Fit xs) (hl : xs.length ≤ maxLen) :
    Calls Try.prog 5 #[.slice ao xs.length cap, .int .i64 a, .int .i64 b] w (Tells (.bool true) w) := by
  unfold maxLen at hl
  obtain ⟨ha1, ha2⟩ := ha
  obtain ⟨hb1, hb2⟩ := hb
  have CC := Lib.hid C
  have HI := Lib.hid hI
  have HF := Lib.hid hF
  clear hI hF C
  by_cases hgd : xs.length ≤ 16 ∧ 0 ≤ a ∧ 0 ≤ b ∧ a ≤ 2000 ∧ b ≤ 2000
  · obtain ⟨g1, g2, g3, g4, g5⟩ := hgd
    go_enter Try.func5, Try.ntmps5
    go_wp2_with fail
    refine (awake_true CC.out _).mono ?_
    rintro e w1 ⟨rfl, hb1⟩
    go_wp2_with fail
    refine (CC.out.new _).mono ?_
    rintro e w2 ⟨p, g, rfl, hx, hp, hg, hb2⟩
    have hr : Run F w.heap.size w w2 p g zero := ⟨hx, hb1.trans (hb2.mono hb1.size), Nat.le_trans hb1.size hp, Nat.le_trans hb1.size hg, Nat.le_trans hb1.size hb2.size⟩
    clear hx hp hg hb1 hb2
    go_wp2_with fail
    refine (CC.out.new _).mono ?_
    rintro e w3 ⟨p2, k2, rfl, hx, hp, hg, hb3⟩
    have hT := Two.new hr hx hp hg hb3
    have HT := Lib.hid hT
    clear hx hp hg hb3 hr hT
    go_wp2_with fail
    generalize hNN : w.heap.size = N at *
    have HNN := Lib.hid hNN
    clear hNN
    go_loopw [39] (fun i wr => ∃ (k : Nat) (x : Wh), k ≤ xs.length ∧ i = .int .i64 k ∧ Hid (Two F N w wr p g p2 k2 x x)) (fun i _ => xs.length - (intOf i).toNat)
    case atStart => exact ⟨0, zero, Nat.zero_le _, rfl, HT⟩
    case round =>
      obtain ⟨k, x, hk, rfl, hT⟩ := hrel
      clear HT
      by_cases hlt : k < xs.length
      · have HX := Lib.hid (List.getElem?_eq_getElem hlt)
        obtain ⟨bb, o, rfl, hbb, hi⟩ := HI.out.below hT.out.r1.below (by omega)
        obtain ⟨c0, c1, c2⟩ := hi k _ HX.out
        obtain ⟨f0, f1, f2⟩ := HF.out k _ HX.out
        have HSet := Lib.hid (fun p g x w hx => CC.out.set p g x xs[k].id xs[k].n w hx f1 f2)
        clear hi f1 f2
        generalize xs[k] = y at *
        have hbl := (Below.refl wr.heap.size wr).alloc (Nat.le_refl _) (Obj.cells #[Value.int .u8 y.a, Value.int .i64 y.id, Value.int .i64 y.n] 30)
        have HZ := Lib.hid (⟨hT.out.more hbl, ActAt.new wr y 30, F.plt hT.out.r1.at_, F.glt hT.out.r1.at_, F.plt hT.out.r2.at_, F.glt hT.out.r2.at_⟩ : _ ∧ _ ∧ _ ∧ _ ∧ _ ∧ _)
        clear hbl hT
        go_wp2_with fail
        obtain ⟨hT, hA, l1, l2, l3, l4⟩ := HZ.out
        clear HZ c0 c1 c2
        generalize wr.alloc (Obj.cells #[Value.int .u8 y.a, Value.int .i64 y.id, Value.int .i64 y.n] 30) = W at *
        generalize wr.heap.size = t at *
        have n1 : t ≠ p := by omega
        have n2 : t ≠ g := by omega
        have n3 : t ≠ p2 := by omega
        have n4 : t ≠ k2 := by omega
        have z1 := hA.c1
        have z2 := hA.c2
        have hT0 := hT.drew
        have hpp := hT.n1
        clear hT hA l1 l2 l3 l4
        go_region_held3 (fun W' => W'.cell? ⟨t, 1, none⟩ = some (.int .i64 y.id) ∧ W'.cell? ⟨t, 2, none⟩ = some (.int .i64 y.n)) (go_keep)
          (first
            | (go_at_call 8; have hS := ‹_ ∧ _›; (with_reducible refine (HSet.out p g x _ hT0.r1.at_).mono ?_); rintro e w4 ⟨rfl, hx4, ho4⟩; have hT4 := hT0.fst hx4 ho4; have y1 := only_cell ho4 hS.1 n1 n2; have y2 := only_cell ho4 hS.2 n1 n2)
            | (go_at_call 8; have hS := ‹_ ∧ _›; (with_reducible refine (HSet.out p2 k2 x _ hT4.r2.at_).mono ?_); rintro e w5 ⟨rfl, hx5, ho5⟩; have hT5 := hT4.snd hx5 ho5; have y1 := only_cell ho5 hS.1 n3 n4; have y2 := only_cell ho5 hS.2 n3 n4))
        have HT5 := Lib.hid hT5
        clear hT0 hT4 hT5 hx4 hx5 ho4 ho5 y1 y2 z1 z2 hS
        go_wp2
        go_roundw
        case rel => exact ⟨k + 1, _, by omega, by go_num, HT5⟩
        case measure => simp [intOf]; omega
      · obtain ⟨A, rfl⟩ := Int.eq_ofNat_of_zero_le g2
        obtain ⟨B, rfl⟩ := Int.eq_ofNat_of_zero_le g3
        have eAB : ((A + B : Nat) : Int) = (A : Int) + B := by omega
        have HS1 := Lib.hid (fun w hx => CC.out.skip p g x ((A + B : Nat) : Int) w hx ⟨by omega, by omega⟩)
        have HS2 := Lib.hid (fun w hx => CC.out.skip p2 k2 x (A : Int) w hx ⟨by omega, by omega⟩)
        have HS3 := Lib.hid (fun w hx => CC.out.skip p2 k2 (skipX x A) (B : Int) w hx ⟨by omega, by omega⟩)
        rw [skipN_nat _ (by omega), eAB] at HS1
        rw [skipN_nat _ (by omega)] at HS2
        rw [skipN_nat _ (by omega), ← skipX_add] at HS3
        have hj := skipL_add x A B
        have s1 := skip_small x A
        have s2 := skip_small (skipX x A) B
        have hL1 := Lib.hid (fun w hx => CC.out.len p g (skipX x (A + B)) w hx)
        have hL2 := Lib.hid (fun w hx => CC.out.len p2 k2 (skipX x (A + B)) w hx)
        have hl16 := lenTo_le (skipX x (A + B)) 16
        have HJ : Hid (decide (skipL x (A + B) = skipL x A ++ skipL (skipX x A) B) = true) := Lib.hid (decide_eq_true hj)
        clear hj eAB
        generalize skipL x (A + B) = la at *
        generalize skipL x A = lb at *
        generalize skipL (skipX x A) B = lc at *
        generalize skipX x (A + B) = y at *
        generalize skipX x A = z at *
        go_wp2_with fail
        refine (HS1.out _ hT.out.r1.at_).mono ?_
        rintro e w4 ⟨va, rfl, hva, hx, ho⟩
        have hT1 := hT.out.fst hx ho
        have hpl := F.plt hT.out.r1.at_
        have hgl := F.glt hT.out.r1.at_
        have hp2 := F.plt hT.out.r2.at_
        have hk2 := F.glt hT.out.r2.at_
        have hM := hT.out.r1.size
        have hs4 := ho.size
        have hvl := own_lt hva
        clear hx ho hT HS1
        go_wp2_with fail
        refine (HS2.out _ hT1.r2.at_).mono ?_
        rintro e w5 ⟨vb, rfl, hvb, hx, ho⟩
        have hva5 := hva.only ho hp2 hk2
        have hT2 := hT1.snd hx ho
        have hs5 := ho.size
        clear hx ho hT1 HS2 hva
        go_wp2_with fail
        refine (HS3.out _ hT2.r2.at_).mono ?_
        rintro e w6 ⟨vc, rfl, hvc, hx, ho⟩
        have hva6 := hva5.only ho hp2 hk2
        have hvb6 := hvb.only ho (by omega) (by omega)
        have hT3 := hT2.snd hx ho
        have hs6 := ho.size
        have hvcL := hvc.list
        clear hx ho hT2 HS3 hva5 hvb hvc
        go_wp2_with (at_builtin; refine wpList_append_list rfl (.tmp 64) (.tmp 67) rfl w4.heap.size vb vc lb lc rfl hvb6 rfl hvcL (by omega) (by omega) ?_)
        intro vd w7 hvd hgr
        have hva7 := own_grown hva6 hvl hvb6 hgr
        have hB := grown_below hvb6 hgr (Nat.le_refl _) (by omega)
        have hT4 := hT3.low hB (by omega) (by omega) (by omega) (by omega) (by omega)
        have HSa := Lib.hid (same_any la (lb ++ lc) va vd w7 hva7.list hvd.list)
        rw [HJ.out] at HSa
        have HT4 := Lib.hid hT4
        clear hva6 hvb6 hvcL hgr hB hT3 hT4 hva7 hvd HJ hvl s1 s2 hpl hgl hp2 hk2 hs4 hs5 hs6
        go_wp2_with fail
        refine (HSa.out).mono ?_
        rintro e w8 ⟨rfl, hb8⟩
        have hT8 := HT4.out.more hb8
        clear HT4 HSa hb8
        go_wp2_with fail
        refine (hL1.out _ hT8.r1.at_).mono ?_
        rintro e w9 ⟨rfl, hb9⟩
        have hT9 := hT8.more hb9
        clear hT8 hb9 hL1
        go_wp2_with fail
        refine (hL2.out _ hT9.r2.at_).mono ?_
        rintro e wa ⟨rfl, hba⟩
        have hTa := hT9.more hba
        clear hT9 hba hL2
        go_wp2
        have HTa := Lib.hid hTa
        clear hTa
        go_loop [80] (fun i => ∃ j : Nat, j ≤ 16 ∧ i = .int .i64 j) (fun i => 16 - (intOf i).toNat)
        case atStart => exact ⟨0, Nat.zero_le _, rfl⟩
        case round =>
          obtain ⟨j, hj, rfl⟩ := hrel
          by_cases hlt : j < 16
          · have h1 := CC.out.left p g y (j : Int) wa HTa.out.r1.at_ ⟨by omega, by omega⟩
            have h2 := CC.out.left p2 k2 y (j : Int) wa HTa.out.r2.at_ ⟨by omega, by omega⟩
            have H1 := Lib.hid h1
            have H2 := Lib.hid h2
            clear h1 h2
            generalize leftN y (j : Int) = v at *
            go_wp2_with fail
            refine (H1.out).mono ?_
            rintro e wb ⟨rfl, rfl⟩
            go_wp2_with fail
            refine (H2.out).mono ?_
            rintro e wb ⟨rfl, rfl⟩
            go_wp2
            go_round
            case rel => exact ⟨j + 1, by omega, by go_num⟩
            case measure => simp [intOf]; omega
          · go_wp2
            go_ret
            exact ⟨rfl, by rw [HNN.out]; exact HTa.out.r1.below⟩
  · have hch : 16 < xs.length ∨ (xs.length ≤ 16 ∧ a < 0) ∨ (xs.length ≤ 16 ∧ 0 ≤ a ∧ b < 0) ∨ (xs.length ≤ 16 ∧ 0 ≤ a ∧ 0 ≤ b ∧ 2000 < a) ∨ (xs.length ≤ 16 ∧ 0 ≤ a ∧ 0 ≤ b ∧ a ≤ 2000 ∧ 2000 < b) := by omega
    clear hgd HI HF
    rcases hch with g1 | ⟨g1, g2⟩ | ⟨g1, g2, g3⟩ | ⟨g1, g2, g3, g4⟩ | ⟨g1, g2, g3, g4, g5⟩
    all_goals
      go_enter Try.func5, Try.ntmps5
      go_wp2_with fail
      refine (awake_true CC.out _).mono ?_
      rintro e w1 ⟨rfl, hb1⟩
      go_wp2
      go_ret
      exact ⟨rfl, hb1⟩

end Go.Proofs.Ytmjbdpgjalkbpaa.Whl
