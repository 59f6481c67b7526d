/-
  The law WheelComes, walked: it returns true, where the calls answer as is asked. Conditions: that, and on sizes.
-/
import Derived.Test.YtmjbdpgjalkbpaaWhApp
import Derived.Deep.DeepCutAuto
namespace Go.Proofs.Ytmjbdpgjalkbpaa.Whl
open Go.RowKit

theorem leftN_at (x : Wh) (o : Nat) (h : o < 16) : leftN x (o : Int) = x.getD o 0 := by
  unfold leftN
  rw [if_pos (by simp [idB]; omega), Int.toNat_natCast]
theorem left_set_other {x : Wh} (hx : Ok x) (o : Nat) (id n : Int) (h : id ≠ o) : leftN (setX x id n) (o : Int) = leftN x (o : Int) := by
  unfold setX
  split
  · rename_i hb
    simp [setB] at hb
    unfold leftN
    split
    · rw [getD_set _ _ _ _ (by rw [hx.len]; omega), if_neg (by omega)]
    · rfl
  · rfl
theorem left_can_other {x : Wh} (hx : Ok x) (o : Nat) (id : Int) (h : id ≠ o) : leftN (canX x id) (o : Int) = leftN x (o : Int) := by
  unfold canX
  split
  · rename_i hb
    simp [idB] at hb
    unfold leftN
    split
    · rw [getD_set _ _ _ _ (by rw [hx.len]; omega), if_neg (by omega)]
    · rfl
  · rfl
theorem left_set_own {x : Wh} (hx : Ok x) (o : Nat) (n : Nat) (h : o < 16) (h1 : 1 ≤ n) (h2 : n ≤ 10000) : setB (o : Int) (n : Int) = true ∧ leftN (setX x (o : Int) (n : Int)) (o : Int) = n := by
  have hb : setB (o : Int) (n : Int) = true := by simp [setB]; omega
  refine ⟨hb, ?_⟩
  rw [leftN_at _ _ h]
  unfold setX
  rw [hb, if_pos rfl, Int.toNat_natCast, Int.toNat_natCast, getD_set _ _ _ _ (by rw [hx.len]; exact h), if_pos rfl]
theorem left_tick (x : Wh) (o : Nat) (h : o < 16) : leftN (tickX x) (o : Int) = leftN x (o : Int) - 1 := by
  rw [leftN_at _ _ h, leftN_at _ _ h, getD_tick]
theorem come_left (x : Wh) (o : Nat) (h : o < 16) : o ∈ comeL x ↔ leftN x (o : Int) = 1 := by
  rw [mem_come, leftN_at _ _ h]
  exact ⟨fun h => h.2, fun h1 => ⟨h, h1⟩⟩

/-- Is it among the first k? -/
def metB (l : List Nat) (o k : Nat) : Bool := (l.take k).any (· == o)
theorem met_succ (l : List Nat) (o k : Nat) (h : k < l.length) : metB l o (k + 1) = (metB l o k || (((l.getD k 0 : Nat) : Int) == (o : Int))) := by
  unfold metB
  rw [List.take_add_one, List.any_append, List.getElem?_eq_getElem h]
  have e : l.getD k 0 = l[k] := by simp [List.getD_eq_getElem?_getD, h]
  rw [e]
  have : (l[k] == o) = (((l[k] : Nat) : Int) == (o : Int)) := by
    rw [Bool.eq_iff_iff]; simp; omega
  simp [this]
theorem met_all (x : Wh) (o : Nat) (h : o < 16) : metB (comeL x) o (comeL x).length = decide (leftN x (o : Int) = 1) := by
  unfold metB
  rw [List.take_of_length_le (Nat.le_refl _), Bool.eq_iff_iff, decide_eq_true_iff, ← come_left x o h]
  simp

set_option maxRecDepth 100000 in
set_option maxHeartbeats 8000000 in
theorem comes_walk {F : Face} (C : Code F) (d : Nat) (n : Int) (cap : Nat) (ao : Option Addr) (xs : List Ac) (w : World) (hd : (d : Int) ≤ 255) (hn : I64 n) (hI : Lies w w.heap.size ao xs) (hF : Fit xs) (hl : xs.length ≤ maxLen) :
    Calls Try.prog 4 #[.int .u8 d, .int .i64 n, .slice ao xs.length cap] w (Tells (.bool true) w) := by
  unfold maxLen at hl
  obtain ⟨hn1, hn2⟩ := hn
  replace hd : (d : Int) ≤ 255 := hd
  have CC := Lib.hid C
  have HI := Lib.hid hI
  have HF := Lib.hid hF
  clear hI hF C
  by_cases hgd : 1 ≤ n ∧ n ≤ 300 ∧ xs.length ≤ 60
  · obtain ⟨g1, g2, g3⟩ := hgd
    obtain ⟨T, rfl⟩ := Int.eq_ofNat_of_zero_le (show 0 ≤ n by omega)
    obtain ⟨o, ho⟩ : ∃ o, o = d % 16 := ⟨_, rfl⟩
    have ho16 : o < 16 := by omega
    have hoi : (d : Int) % 16 = (o : Int) := by omega
    obtain ⟨sb, sl⟩ := left_set_own zero_ok o T ho16 (by omega) (by omega)
    have HSet := Lib.hid (fun p g w hx => CC.out.set p g zero (o : Int) (T : Int) w hx ⟨by omega, by omega⟩ ⟨by omega, by omega⟩)
    rw [sb] at HSet
    have HSL := Lib.hid sl
    clear sb sl ho
    generalize setX zero (o : Int) (T : Int) = X0 at *
    go_enter Try.func4, Try.ntmps4
    go_wp2_with fail
    refine (awake_true CC.out _).mono ?_
    rintro e w1 ⟨rfl, hb1⟩
    go_wp2_with fail
    refine (CC.out.new _).mono ?_
    rintro e w2 ⟨p, g, rfl, hx, hp, hg, hb2⟩
    have hr : Run F w.heap.size w w2 p g zero := ⟨hx, hb1.trans (hb2.mono hb1.size), Nat.le_trans hb1.size hp, Nat.le_trans hb1.size hg, Nat.le_trans hb1.size hb2.size⟩
    clear hx hp hg hb1 hb2
    rw [hoi]
    go_wp2_with fail
    refine (HSet.out _ _ _ hr.at_).mono ?_
    rintro e w3 ⟨rfl, hx, ho⟩
    have HR := Lib.hid (hr.done hx ho)
    clear hx ho hr HSet
    go_wp2_with fail
    generalize hNN : w.heap.size = N at *
    have HNN := Lib.hid hNN
    clear hNN
    go_loopw [9] (fun i wr => ∃ (k : Nat) (x : Wh), k ≤ T ∧ i = .int .i64 ((k : Int) + 1) ∧ Hid (Run F N w wr p g x ∧ leftN x (o : Int) = T - k)) (fun i _ => T - (intOf i - 1).toNat)
    case atStart => exact ⟨0, X0, Nat.zero_le _, rfl, Lib.hid ⟨HR.out, HSL.out⟩⟩
    case round =>
      obtain ⟨k, x, hk, rfl, hS⟩ := hrel
      clear HR HSL
      by_cases hlt : k < T
      · go_upto_if 44 with fail
        go_cut [] (fun wx => ∃ x' : Wh, Hid (Run F N w wx p g x' ∧ leftN x' (o : Int) = T - k))
        case first =>
          by_cases hkl : k < xs.length
          · have HX := Lib.hid (List.getElem?_eq_getElem hkl)
            obtain ⟨bb, of, rfl, hbb, hi⟩ := HI.out.below hS.out.1.below (by omega)
            obtain ⟨c0, c1, c2⟩ := hi k _ HX.out
            obtain ⟨f0, f1, f2⟩ := HF.out k _ HX.out
            have HSe := Lib.hid (fun w hx => CC.out.set p g x xs[k].id xs[k].n w hx f1 f2)
            have HCa := Lib.hid (fun w hx => CC.out.cancel p g x xs[k].id w hx f1)
            clear hi f1 f2
            generalize xs[k] = y at *
            have hbl := (Below.refl wr.heap.size wr).alloc (Nat.le_refl _) (Obj.cells #[Value.int .u8 y.a, Value.int .i64 y.id, Value.int .i64 y.n] 30)
            have HZ := Lib.hid (hS.out.1.more hbl)
            have HA := Lib.hid (ActAt.new wr y 30)
            have l1 := F.plt hS.out.1.at_
            have l2 := F.glt hS.out.1.at_
            have hok := F.ok hS.out.1.at_
            have hl1 := fun h : y.id ≠ o => left_set_other hok o y.id y.n h
            have hl2 := fun h : y.id ≠ o => left_can_other hok o y.id h
            have HL1 := Lib.hid hl1
            have HL2 := Lib.hid hl2
            have HL := Lib.hid hS.out.2
            clear hbl hS hok hl1 hl2
            by_cases hid : y.id = o
            · rw [hid] at HZ
              clear HA l1 l2 HSe HCa HL1 HL2
              go_wp2
              go_meet
              case rel => exact ⟨x, Lib.hid ⟨HZ.out, HL.out⟩⟩
            · rcases (show y.a % 2 = 0 ∨ y.a % 2 = 1 by omega) with hp | hp
              · have hb0 : ((y.a : Int) % 2 == 0) = true := by rw [beq_iff_eq]; omega
                have hb1 : ((y.a : Int) % 2 == 1) = false := by rw [beq_eq_false_iff_ne]; omega
                go_wp2_with fail
                refine (HSe.out _ HZ.out.at_).mono ?_
                rintro e w4 ⟨rfl, hx, ho⟩
                have HR4 := Lib.hid (HZ.out.done hx ho)
                have hA4 := HA.out.only ho (by omega) (by omega)
                have z0 := hA4.c0
                have z1 := hA4.c1
                have HE := Lib.hid ((HL1.out hid).trans HL.out)
                clear hx ho hA4 HZ HA HSe HCa HL1 HL2 HL c0 c1 c2
                go_wp2
                go_meet
                case rel => exact ⟨_, Lib.hid ⟨HR4.out, HE.out⟩⟩
              · have hb0 : ((y.a : Int) % 2 == 0) = false := by rw [beq_eq_false_iff_ne]; omega
                have hb1 : ((y.a : Int) % 2 == 1) = true := by rw [beq_iff_eq]; omega
                go_wp2_with fail
                refine (HCa.out _ HZ.out.at_).mono ?_
                rintro e w4 ⟨rfl, hx, ho⟩
                have HR4 := Lib.hid (HZ.out.done hx ho)
                have HE := Lib.hid ((HL2.out hid).trans HL.out)
                clear hx ho HZ HA HSe HCa HL1 HL2 HL c0 c1 c2
                go_wp2
                go_meet
                case rel => exact ⟨_, Lib.hid ⟨HR4.out, HE.out⟩⟩
          · go_wp2
            go_meet
            case rel => exact ⟨x, hS⟩
        case rest =>
          obtain ⟨y, hY⟩ := hcut
          clear hS
          have HLe := Lib.hid (CC.out.left p g y (o : Int) wc hY.out.1.at_ ⟨by omega, by omega⟩)
          have HTi := Lib.hid (CC.out.tick p g y wc hY.out.1.at_)
          have hmt := met_all y o ho16
          have hlt2 := left_tick y o ho16
          rw [hY.out.2] at HLe hmt hlt2
          have hcl : (comeL y).length ≤ 16 := comeTo_le y 16
          have HM := Lib.hid hmt
          have HL2 := Lib.hid hlt2
          have eT : ((T - k : Nat) : Int) = (T : Int) - k := by omega
          rw [eT] at HLe
          clear hmt hlt2 eT
          generalize comeL y = cl at *
          generalize tickX y = z at *
          go_wp2_with fail
          refine (HLe.out).mono ?_
          rintro e w5 ⟨rfl, rfl⟩
          go_wp2_with fail
          refine (HTi.out).mono ?_
          rintro e w6 ⟨v, rfl, hv, hx, ho⟩
          have HR6 := Lib.hid (hY.out.1.done hx ho)
          obtain ⟨A, c, rfl, -, -, hcell⟩ := hv.list.form
          have HC := Lib.hid hcell
          clear hx ho hY hv hcell HLe HTi
          go_wp2
          have HL3 : Hid (leftN z (o : Int) = T - (k + 1)) := Lib.hid (by rw [HL2.out]; omega)
          clear HL2
          go_loop [11, 91] (fun m i => ∃ j : Nat, j ≤ cl.length ∧ m = .bool (metB cl o j) ∧ i = .int .i64 j) (fun _ i => cl.length - (intOf i).toNat)
          case atStart => exact ⟨0, Nat.zero_le _, rfl, rfl⟩
          case round =>
            obtain ⟨j, hj, rfl, rfl⟩ := hrel
            by_cases hjl : j < cl.length
            · obtain ⟨b, rfl, hc⟩ := HC.out j hjl
              have hst := met_succ cl o j hjl
              generalize cl.getD j 0 = q at *
              by_cases hq : (q : Int) = o
              · have hqb : ((q : Int) == (o : Int)) = true := by rw [beq_iff_eq]; exact hq
                rw [hqb, Bool.or_true] at hst
                have HS1 := Lib.hid hst
                clear hst
                rcases hm0 : metB cl o j with _ | _
                all_goals
                  clear hm0
                  go_wp2
                  go_round
                  case rel => exact ⟨j + 1, by omega, by rw [HS1.out], by go_num⟩
                  case measure => simp [intOf]; omega
              · have hqb : ((q : Int) == (o : Int)) = false := by rw [beq_eq_false_iff_ne]; exact hq
                rw [hqb, Bool.or_false] at hst
                rcases hm0 : metB cl o j with _ | _
                all_goals
                  rw [hm0] at hst
                  have HS1 := Lib.hid hst
                  clear hst hm0
                  go_wp2
                  go_round
                  case rel => exact ⟨j + 1, by omega, by rw [HS1.out], by go_num⟩
                  case measure => simp [intOf]; omega
            · obtain rfl : j = cl.length := by omega
              rw [HM.out]
              by_cases hT : T - k = 1
              · have hd2 : decide (T - k = 1) = true := decide_eq_true hT
                have hki : (k : Int) + 1 = T := by omega
                rw [hd2]
                clear hT hd2
                go_wp2
                go_roundw
                case rel => exact ⟨k + 1, z, by omega, by go_num, Lib.hid ⟨HR6.out, HL3.out⟩⟩
                case measure => simp [intOf]; omega
              · have hd2 : decide (T - k = 1) = false := decide_eq_false hT
                have hki : ¬ (k : Int) + 1 = T := by omega
                rw [hd2]
                clear hT hd2
                go_wp2
                go_roundw
                case rel => exact ⟨k + 1, z, by omega, by go_num, Lib.hid ⟨HR6.out, HL3.out⟩⟩
                case measure => simp [intOf]; omega
      · have HLe := Lib.hid (CC.out.left p g x (o : Int) wr hS.out.1.at_ ⟨by omega, by omega⟩)
        have h0 : leftN x (o : Int) = 0 := by rw [hS.out.2]; omega
        rw [h0] at HLe
        clear h0
        go_wp2_with fail
        refine (HLe.out).mono ?_
        rintro e w5 ⟨rfl, rfl⟩
        go_wp2
        go_ret
        exact ⟨by simp, by rw [HNN.out]; exact hS.out.1.below⟩
  · have hch : n < 1 ∨ (1 ≤ n ∧ 300 < n) ∨ (1 ≤ n ∧ n ≤ 300 ∧ 60 < xs.length) := by omega
    clear hgd HI HF
    rcases hch with g1 | ⟨g1, g2⟩ | ⟨g1, g2, g3⟩
    all_goals
      go_enter Try.func4, Try.ntmps4
      go_wp2_with fail
      refine (awake_true CC.out _).mono ?_
      rintro e w1 ⟨rfl, hb1⟩
      go_wp2
      go_ret
      exact ⟨rfl, hb1⟩

end Go.Proofs.Ytmjbdpgjalkbpaa.Whl
