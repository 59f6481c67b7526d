/-
  The reference's Check, walked. Conditions: none.
-/
import Derived.Test.YtmlopacekoghkaaBlCheck
namespace Go.Proofs.Ytmlopacekoghkaa.Bl
open Go.RowKit

theorem dn (W : World) (N n : Nat) : Below N W (W.drewN n) := ⟨rfl, rfl, rfl, Nat.le_refl _, fun _ _ => rfl⟩
theorem right_ways (x : Blk) : (rightB x = false ∧
    (decide (x.id < 0) = true ∨ (decide (x.id < 0) = false ∧ decide (15 < x.id) = true) ∨ (decide (x.id < 0) = false ∧ decide (15 < x.id) = false ∧ decide (x.ad < 0) = true) ∨ (decide (x.id < 0) = false ∧ decide (15 < x.id) = false ∧ decide (x.ad < 0) = false ∧ decide (31 < x.ad) = true)
      ∨ (decide (x.id < 0) = false ∧ decide (15 < x.id) = false ∧ decide (x.ad < 0) = false ∧ decide (31 < x.ad) = false ∧ decide (x.sz < 1) = true) ∨ (decide (x.id < 0) = false ∧ decide (15 < x.id) = false ∧ decide (x.ad < 0) = false ∧ decide (31 < x.ad) = false ∧ decide (x.sz < 1) = false ∧ decide (64 < x.sz) = true)))
    ∨ (rightB x = true ∧ decide (x.id < 0) = false ∧ decide (15 < x.id) = false ∧ decide (x.ad < 0) = false ∧ decide (31 < x.ad) = false ∧ decide (x.sz < 1) = false ∧ decide (64 < x.sz) = false) := by
  unfold rightB
  simp only [decide_eq_true_iff, decide_eq_false_iff_not]
  omega

set_option maxRecDepth 100000 in
set_option maxHeartbeats 8000000 in
theorem rCheck_any (l : List Blk) (ao : Option Addr) (cap : Nat) (w : World) (hI : Lies w w.heap.size ao l) (hm : l.length ≤ maxLen) :
    Calls Try.prog 23 #[.slice ao l.length cap] w (Tells (chkV (chkB l)) w) := by
  have HA := Lib.hid (At.first hI)
  have hmi : (l.length : Int) ≤ 9223372036854775807 := by unfold maxLen at hm; omega
  unfold chkB chkV
  by_cases h16 : 16 < l.length
  · rw [if_neg (by omega)]
    have e1 : decide ((16 : Int) < (l.length : Int)) = true := by simp; omega
    clear hI
    go_enter Try.func23, Try.ntmps23
    go_wp2
    go_ret2
    exact ⟨rfl, HA.out.below⟩
  rw [if_pos (by omega)]
  have e1 : decide ((16 : Int) < (l.length : Int)) = false := by simp; omega
  obtain ⟨R, hR⟩ : ∃ R, R = chkF l 0 (l.length - 0) := ⟨_, rfl⟩
  have HR := Lib.hid hR
  rw [show l.length - 0 = l.length from rfl] at hR
  rw [← hR]
  clear hR hI
  go_enter Try.func23, Try.ntmps23
  go_wp2
  go_loopw [4] (fun i W => ∃ k : Nat, k ≤ l.length ∧ i = .int .i64 k ∧ Hid (R = chkF l k (l.length - k)) ∧ Hid (At w W ao l)) (fun i _ => l.length - (intOf i).toNat)
  case atStart => exact ⟨0, Nat.zero_le _, rfl, HR, HA⟩
  case round =>
    obtain ⟨k, hk, rfl, hR, hA⟩ := hrel
    clear HR HA
    by_cases hlt : k < l.length
    · have e1 : decide ((k : Int) < l.length) = true := by simp; omega
      obtain ⟨x, hx⟩ : ∃ x, l[k]? = some x := ⟨_, List.getElem?_eq_getElem hlt⟩
      obtain ⟨b, o, rfl, hb, hI⟩ := hA.out.lies (by omega)
      obtain ⟨c0, c1, c2, c3⟩ := hI k x hx
      clear hI
      have one := one_S wr #[.int .i64 x.id, .int .i64 x.ad, .int .i64 x.sz, .bool x.hi] 61
      have hO : Own4 _ wr.heap.size x 61 := Own4.new wr x 61
      have HA1 := Lib.hid (hA.out.next one)
      have hgo := chkF_go hlt
      have hbc := bad_cases l hx
      obtain ⟨d0, d1, d2, d3⟩ := hO.cells
      clear one
      rcases right_ways x with ⟨hr0, hw⟩ | ⟨hr0, t1, t2, t3, t4, t5, t6⟩
      · have h3 : badB l k = 3 := by
          rcases hbc with h | h | h
          · exact h.2
          · rw [hr0] at h; cases h.1
          · rw [hr0] at h; cases h.1
        rw [h3, if_neg (by decide)] at hgo
        have hr : R = (3, k) := hR.out.trans hgo
        subst hr
        clear hR hgo hx h3 hA hO hbc hr0
        rcases hw with t1 | ⟨t1, t2⟩ | ⟨t1, t2, t3⟩ | ⟨t1, t2, t3, t4⟩ | ⟨t1, t2, t3, t4, t5⟩ | ⟨t1, t2, t3, t4, t5, t6⟩
        all_goals
          go_wp2
          go_ret2
          exact ⟨rfl, HA1.out.below⟩
      · have hfa := find_any (l.take k) x.id
        have h0 : badB l k = if anyB l k 0 x.id then 14 else 0 := by
          unfold anyB
          rw [List.drop_zero, ← hfa]
          rcases hbc with h | h | h
          · rw [hr0] at h; cases h.1
          · rw [h.2.1, h.2.2]; rfl
          · rw [h.2.1, h.2.2]; rfl
        clear hbc hr0 hfa
        have HX := Lib.hid hx
        have HO := Lib.hid hO
        have HB0 := Lib.hid (show badB l k = if anyB l k 0 x.id then 14 else 0 from h0)
        clear hO hA h0 hx
        have HP := Lib.hid (show At w _ (some ⟨b, o, none⟩) l ∧ Own4 _ wr.heap.size x 61 from ⟨HA1.out, HO.out⟩)
        have hlt2 := HO.out.lt
        go_wp2
        generalize wr.heap.size = bb at *
        go_loopw [6] (fun j W => ∃ q : Nat, q ≤ k ∧ j = .int .i64 q ∧ Hid (badB l k = if anyB l k q x.id then 14 else 0) ∧ Hid (At w W (some ⟨b, o, none⟩) l ∧ Own4 W bb x 61)) (fun j _ => k - (intOf j).toNat)
        case atStart => exact ⟨0, Nat.zero_le _, rfl, HB0, HP⟩
        case round =>
          obtain ⟨q, hq, rfl, hB, hP⟩ := hrel
          clear HB0 HP HA1 HO d0 d1 d2 d3 c0 c1 c2 c3 hlt2
          by_cases hqk : q < k
          · have e2 : decide ((q : Int) < k) = true := by simp; omega
            obtain ⟨y, hy⟩ : ∃ y, l[q]? = some y := ⟨_, List.getElem?_eq_getElem (by omega)⟩
            obtain ⟨b', o', hbo, hb', hI'⟩ := hP.out.1.lies (by omega)
            injection hbo with hbo
            injection hbo with hb1 ho1 _
            subst hb1 ho1
            obtain ⟨c0, c1, c2, c3⟩ := hI' q y hy
            obtain ⟨d0, d1, d2, d3⟩ := hP.out.2.cells
            clear hI' hb'
            have hany := any_at hy hqk x.id
            by_cases he : y.id = x.id
            · have e3 : (y.id == x.id) = true := beq_iff_eq.2 he
              have h14 : badB l k = 14 := by rw [hB.out, hany, decide_eq_true he]; rfl
              rw [h14, if_neg (by decide)] at hgo
              have hr : R = (14, k) := hR.out.trans hgo
              subst hr
              clear hR hgo hy he hany h14 hB
              go_wp2_with fail
              go_quiet (fail)
              go_wp2
              go_ret2
              exact ⟨rfl, (hP.out.1.next (dn _ _ _)).below⟩
            · have e3 : (y.id == x.id) = false := beq_eq_false_iff_ne.2 he
              have hB1 := Lib.hid (show badB l k = if anyB l k (q + 1) x.id then 14 else 0 by rw [hB.out, hany, decide_eq_false he, Bool.false_or])
              clear hgo hy he hany hB
              go_wp2_with fail
              go_quiet (fail)
              have hP1 := Lib.hid (show At w (wr.drewN nq) (some ⟨b, o, none⟩) l ∧ Own4 (wr.drewN nq) bb x 61 from ⟨hP.out.1.next (dn _ _ _), hP.out.2⟩)
              go_wp2
              go_roundw
              case rel => exact ⟨q + 1, by omega, by go_num, hB1, hP1⟩
              case measure => simp [intOf]; omega
          · obtain rfl : q = k := by omega
            have h0 : badB l q = 0 := by rw [hB.out, any_end]; rfl
            rw [h0, if_pos rfl] at hgo
            have hR1 := Lib.hid (hR.out.trans hgo)
            clear hR hgo hB h0
            go_wp2
            go_roundw
            case rel => exact ⟨q + 1, by omega, by go_num, hR1, Lib.hid hP.out.1⟩
            case measure => simp [intOf]; omega
    · obtain rfl : k = l.length := by omega
      have hr : R = (0, 0) := by rw [hR.out, Nat.sub_self]; rfl
      subst hr
      clear hR
      go_wp2
      go_ret2
      exact ⟨rfl, hA.out.below⟩
end Go.Proofs.Ytmlopacekoghkaa.Bl
