/-
  The law IecKinds, walked: it returns true. Conditions: that the calls answer as is asked.
-/
import Derived.Test.YtkjijeogkemgoaaIcCode
namespace Go.Proofs.Ytkjijeogkemgoaa.Ic
open Go.RowKit
open Oct

/-- The kind of a name among those below k. -/
def uptoI (s : ByteArray) (k : Nat) : Int := if namedI s < k then namedI s else 0
theorem named_range (s : ByteArray) : 0 ≤ namedI s ∧ namedI s ≤ 7 := by unfold namedI; (repeat' split) <;> omega
theorem named_iff (s : ByteArray) (k : Nat) (h1 : 1 ≤ k) (h2 : k ≤ 7) : s = nameI k ↔ namedI s = k := by
  obtain rfl | rfl | rfl | rfl | rfl | rfl | rfl : k = 1 ∨ k = 2 ∨ k = 3 ∨ k = 4 ∨ k = 5 ∨ k = 6 ∨ k = 7 := by omega
  all_goals
    constructor
    · intro h
      subst h
      decide
    · intro h
      unfold namedI at h
      (repeat' split at h) <;> first | assumption | omega
theorem upto_one (s : ByteArray) : uptoI s 1 = 0 := by
  have := named_range s
  unfold uptoI
  split <;> omega
theorem upto_yes (s : ByteArray) (k : Nat) (h1 : 1 ≤ k) (h2 : k ≤ 7) (h : s = nameI k) : uptoI s (k + 1) = k := by
  have := (named_iff s k h1 h2).1 h
  unfold uptoI
  rw [if_pos (by omega), this]
theorem upto_no (s : ByteArray) (k : Nat) (h1 : 1 ≤ k) (h2 : k ≤ 7) (h : s ≠ nameI k) : uptoI s (k + 1) = uptoI s k := by
  have hn : namedI s ≠ k := fun e => h ((named_iff s k h1 h2).2 e)
  unfold uptoI
  split <;> split <;> omega
theorem upto_all (s : ByteArray) : uptoI s 8 = namedI s := by
  have := named_range s
  unfold uptoI
  rw [if_pos (by omega)]
theorem str_eq {a b : ByteArray} (h : a = b) : (a.toList == b.toList) = true := by rw [h]; simp
theorem str_ne {a b : ByteArray} (h : a ≠ b) : (a.toList == b.toList) = false := by
  rw [beq_eq_false_iff_ne]
  intro e
  rw [Lib.toList_data, Lib.toList_data] at e
  apply h
  rw [← Lib.mk_data a, ← Lib.mk_data b, e]

set_option maxRecDepth 100000 in
set_option maxHeartbeats 8000000 in
theorem kinds_walk {B : Base} (C : Code B) (k v : Int) (s : ByteArray) (w : World) (hE : B.E w.heap.size w) (hk : I64 k) (hv : I64 v) :
    Calls Try.prog 3 #[.int .i64 k, .int .i64 v, .string s] w (Tells (.bool true) w) := by
  have CC := Lib.hid C
  have HC := Lib.hid (Cur.first hE)
  have HK := Lib.hid hk
  have HV := Lib.hid hv
  obtain ⟨k1, k2⟩ := hk
  obtain ⟨v1, v2⟩ := hv
  clear C hE
  obtain ⟨N, hN⟩ : ∃ N, w.heap.size = N := ⟨_, rfl⟩
  unfold Tells
  rw [hN] at HC ⊢
  by_cases hs : s.size ≤ 40
  · have hs2 : ¬ (40 : Int) < s.size := by omega
    go_enter Try.func3, Try.ntmps3
    go_wp2_with fail
    refine (awake_any CC.out _ HC.out).mono ?_
    rintro e w1 ⟨rfl, hb1⟩
    have HC1 := Lib.hid (HC.out.next hb1)
    clear hb1 HC
    go_wp2
    go_loopw [7, 8] (fun t i wr => ∃ j : Nat, 1 ≤ j ∧ j ≤ 8 ∧ i = .int .i64 j ∧ t = .int .i64 (uptoI s j) ∧ Hid (Cur B N w wr)) (fun _ i _ => 8 - (intOf i).toNat)
    case atStart => exact ⟨1, by omega, by omega, rfl, by rw [upto_one], HC1⟩
    case round =>
      obtain ⟨j, hj1, hj8, rfl, rfl, hc⟩ := hrel
      by_cases hlt : j ≤ 7
      · have hI : (j : Int) ≤ 7 := by omega
        by_cases he : s = nameI j
        · have hq := str_eq he.symm
          have HU := Lib.hid (upto_yes s j hj1 hlt he)
          clear he
          generalize uptoI s j = u at *
          go_wp2_with fail
          refine (rName_any j _).mono ?_
          rintro e w2 ⟨rfl, hb2⟩
          have hc2 := Lib.hid (hc.out.next hb2)
          clear hb2
          generalize nameI j = nm at *
          go_wp2
          go_roundw
          case rel => exact ⟨j + 1, by omega, by omega, by go_num, by rw [HU.out], hc2⟩
          case measure => simp [intOf]; omega
        · have hq := str_ne (fun e => he (Eq.symm e))
          have HU := Lib.hid (upto_no s j hj1 hlt he)
          clear he
          generalize uptoI s j = u at *
          go_wp2_with fail
          refine (rName_any j _).mono ?_
          rintro e w2 ⟨rfl, hb2⟩
          have hc2 := Lib.hid (hc.out.next hb2)
          clear hb2
          generalize nameI j = nm at *
          go_wp2
          go_roundw
          case rel => exact ⟨j + 1, by omega, by omega, by go_num, by rw [HU.out], hc2⟩
          case measure => simp [intOf]; omega
      · obtain rfl : j = 8 := by omega
        rw [upto_all]
        have hr := named_range s
        go_wp2_with fail
        refine (CC.out.named N s _ hc.out.e hc.out.size hs).mono ?_
        rintro e w2 ⟨rfl, hb2⟩
        have hc2 := Lib.hid (hc.out.next hb2)
        clear hb2 hc
        obtain ⟨r1, r2⟩ := hr
        have hp : (decide (namedI s ≠ 0) == decide (0 < namedI s)) = true := by
          by_cases h : namedI s = 0
          · simp [h]
          · rw [decide_eq_true h, decide_eq_true (by omega)]; rfl
        generalize namedI s = nm at *
        generalize decide (nm ≠ 0) = bz at *
        go_wp2_with fail
        refine (CC.out.size N k _ hc2.out.e hc2.out.size HK.out).mono ?_
        rintro e w3 ⟨rfl, hb3⟩
        have hc3 := Lib.hid (hc2.out.next hb3)
        clear hb3 hc2
        go_wp2_with fail
        refine (rSize_any k _).mono ?_
        rintro e w4 ⟨rfl, hb4⟩
        have hc4 := Lib.hid (hc3.out.next hb4)
        clear hb4 hc3
        go_wp2_with fail
        refine (CC.out.name N k _ hc4.out.e hc4.out.size HK.out).mono ?_
        rintro e w5 ⟨rfl, hb5⟩
        have hc5 := Lib.hid (hc4.out.next hb5)
        clear hb5 hc4
        go_wp2_with fail
        refine (rName_any k _).mono ?_
        rintro e w6 ⟨rfl, hb6⟩
        have hc6 := Lib.hid (hc5.out.next hb6)
        clear hb6 hc5
        go_wp2_with fail
        refine (CC.out.is_ N k v _ hc6.out.e hc6.out.size HK.out HV.out).mono ?_
        rintro e w7 ⟨rfl, hb7⟩
        have hc7 := Lib.hid (hc6.out.next hb7)
        clear hb7 hc6
        go_wp2_with fail
        refine (rIs_any k v _).mono ?_
        rintro e w8 ⟨rfl, hb8⟩
        have hc8 := Lib.hid (hc7.out.next hb8)
        clear hb8 hc7
        go_wp2_with fail
        refine (CC.out.wrap N k v _ hc8.out.e hc8.out.size HK.out HV.out).mono ?_
        rintro e w9 ⟨rfl, hb9⟩
        have hc9 := Lib.hid (hc8.out.next hb9)
        clear hb9 hc8
        go_wp2_with fail
        refine (rWrap_any k v _ HV.out.1 HV.out.2).mono ?_
        rintro e w10 ⟨rfl, hb10⟩
        have hc10 := Lib.hid (hc9.out.next hb10)
        clear hb10 hc9
        go_wp2
        go_ret
        exact ⟨rfl, hc10.out.below⟩
  · have hs2 : (40 : Int) < s.size := by omega
    go_enter Try.func3, Try.ntmps3
    go_wp2_with fail
    refine (awake_any CC.out _ HC.out).mono ?_
    rintro e w1 ⟨rfl, hb1⟩
    have HC1 := Lib.hid (HC.out.next hb1)
    clear hb1 HC
    go_wp2
    go_ret
    exact ⟨rfl, HC1.out.below⟩

end Go.Proofs.Ytkjijeogkemgoaa.Ic
