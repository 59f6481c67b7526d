/-
  The laws' first lines, walked. Conditions: the library's table of lowest bits is as the program lays it.
-/
import Derived.Test.YtgeelnpdahlcpaaDoorMemText
import Derived.Test.YtgeelnpdahlcpaaDoorMemTurn
namespace Go.Proofs.YtgeelnpdahlcpaaDoor
open Go.RowKit

theorem aw_s : withB (withB (withB 0#32 2) 5) 9 = 548#32 := by decide +kernel
theorem aw_next : nextI 548#32 9 = 2 := by decide +kernel
theorem aw_prev : prevI 548#32 2 = 9 := by decide +kernel
theorem aw_gap : gapB 548#32 9 10 = 1027#32 := by decide +kernel
theorem aw_list : listB 1027#32 = [0, 1, 10] := by decide +kernel
theorem aw_len : (listB 548#32).length = 3 := by decide +kernel
theorem aw_text : textL (listB 1027#32) = ⟨#[123, 48, 44, 49, 44, 49, 48, 125]⟩ := by
  rw [aw_list]
  unfold textL joinL dgs
  simp only [List.map_cons, List.map_nil]
  rw [dec_lt 0 (by omega), dec_lt 1 (by omega), dec_ge 10 (by omega), dec_lt (10 / 10) (by omega)]
  rfl

theorem drew_tz {w : World} (h : Tz w) (m : Nat) : Tz (w.drewN m) := h.below (below_drewN (Below.refl _ _) m)
theorem Lst.drewN {w : World} {v : Value} {l : List Nat} (h : Lst w v l) (m : Nat) : Lst (w.drewN m) v l := h.below (below_drewN (Below.refl _ _) m)

set_option maxRecDepth 100000 in
set_option maxHeartbeats 4000000 in
theorem awake_any (w : World) (hT : Tz w) : Calls Tryd.prog 8 #[] w fun e w' => e = .returned (.bool true) ∧ Below w.heap.size w w' := by
  have h1 := Lib.hid (With_any 0#32 2 w)
  have h2 := Lib.hid (With_any (withB 0#32 2) 5 w)
  have h3 := Lib.hid (With_any (withB (withB 0#32 2) 5) 9 w)
  have h4 := Lib.hid (Next_any 548#32 9 w hT)
  have h5 := Lib.hid (Prev_any 548#32 2 w)
  have h6 := Lib.hid (Gap_any 548#32 9 10 w hT)
  have h7 := Lib.hid (Text_any 1027#32 w)
  have h8 := Lib.hid (Len_any 548#32)
  rw [aw_s] at h3
  rw [aw_next] at h4
  rw [aw_prev] at h5
  rw [aw_gap] at h6
  rw [aw_text] at h7
  simp only [aw_len] at h8
  go_enter Tryd.func8, Tryd.ntmps8
  go_wp2_with fail
  refine h1.out.mono ?_
  rintro e w1 ⟨rfl, rfl⟩
  go_wp2_with fail
  refine h2.out.mono ?_
  rintro e w1 ⟨rfl, rfl⟩
  go_wp2_with fail
  refine h3.out.mono ?_
  rintro e w1 ⟨rfl, rfl⟩
  go_wp2_with fail
  refine h4.out.mono ?_
  rintro e w1 ⟨rfl, rfl⟩
  rw [show ans 2 = .tuple #[.int .i64 2, .bool true] from rfl]
  go_wp2_with fail
  refine h5.out.mono ?_
  rintro e w1 ⟨rfl, rfl⟩
  rw [show ans 9 = .tuple #[.int .i64 9, .bool true] from rfl]
  go_wp2_with fail
  refine h6.out.mono ?_
  rintro e w1 ⟨rfl, rfl⟩
  go_wp2_with fail
  refine h7.out.mono ?_
  rintro e w1 ⟨rfl, hb⟩
  go_wp2_with fail
  refine (h8.out w1).mono ?_
  rintro e w2 ⟨rfl, m, rfl⟩
  go_wp2
  go_ret
  exact ⟨rfl, below_drewN hb m⟩

set_option maxRecDepth 100000 in
set_option maxHeartbeats 4000000 in
theorem sets_walk (s : St) (a : Int) (w : World) (hT : Tz w) : Calls Tryd.prog 3 #[sv s, .int .i64 a] w fun e w' => e = .returned (.bool true) ∧ Below w.heap.size w w' := by
  have HO := Lib.hid (ofL_list s)
  have hl := Lib.hid (listB_len s)
  have hTx := Lib.hid (Text_any s)
  have hRx := Lib.hid (rText_any s)
  have hLen := Lib.hid (Len_any s)
  have hLi := Lib.hid (List_any s)
  have hRLi := Lib.hid (rList_any s)
  generalize textL (listB s) = T at *
  generalize listB s = l at *
  go_enter Tryd.func3, Tryd.ntmps3
  go_wp2_with fail
  refine (awake_any w hT).mono ?_
  rintro e w1 ⟨rfl, hb1⟩
  go_wp2_with fail
  refine (hRLi.out w1).mono ?_
  rintro e w2 ⟨v, rfl, hv2, hb2⟩
  go_wp2_with fail
  refine (Has_any s a w2).mono ?_
  rintro e w3 ⟨rfl, rfl⟩
  go_wp2_with fail
  refine (rHas_any s a w2).mono ?_
  rintro e w3 ⟨rfl, rfl⟩
  go_wp2_with fail
  refine (With_any s a w2).mono ?_
  rintro e w3 ⟨rfl, rfl⟩
  go_wp2_with fail
  refine (rWith_any s a w2).mono ?_
  rintro e w3 ⟨rfl, rfl⟩
  go_wp2_with fail
  refine (Without_any s a w2).mono ?_
  rintro e w3 ⟨rfl, rfl⟩
  go_wp2_with fail
  refine (rWithout_any s a w2).mono ?_
  rintro e w3 ⟨rfl, hb3⟩
  have hv3 := hv2.below hb3
  go_wp2_with fail
  refine (hLi.out w3).mono ?_
  rintro e w4 ⟨v', rfl, hv', hb4, -⟩
  have hv4 := hv3.below hb4
  go_wp2_with fail
  refine (llist_any l hl.out _ _ w4 hv' hv4).mono ?_
  rintro e w5 ⟨rfl, m, rfl⟩
  go_wp2_with fail
  refine (hLen.out _).mono ?_
  rintro e w5 ⟨rfl, m2, rfl⟩
  obtain ⟨A, c, rfl, hc⟩ := id hv4
  have HV := Lib.hid hv4
  have hll : (l.length : Int) ≤ 32 := by have := hl.out; omega
  clear hc hv4 hv3 hv2 hv'
  go_wp2_with fail
  refine (hTx.out _).mono ?_
  rintro e w5 ⟨rfl, hb5⟩
  go_wp2_with fail
  refine (hRx.out w5).mono ?_
  rintro e w6 ⟨rfl, hb6⟩
  have hv6 := Lib.hid (((HV.out.drewN (m + m2)).below hb5).below hb6)
  go_wp2_with fail
  refine (rOf_any l hl.out _ w6 hv6.out).mono ?_
  rintro e w7 ⟨rfl, rfl⟩
  rw [HO.out]
  go_wp2
  go_ret
  refine ⟨rfl, ?_⟩
  have q2 := hb1.trans (hb2.mono hb1.size)
  have q3 := q2.trans (hb3.mono q2.size)
  have q4 := q3.trans (hb4.mono q3.size)
  have q5 := below_drewN q4 (m + m2)
  have q6 := q5.trans (hb5.mono q5.size)
  exact q6.trans (hb6.mono q6.size)

set_option maxRecDepth 100000 in
set_option maxHeartbeats 4000000 in
theorem next_walk (s : St) (a : Int) (w : World) (hT : Tz w) : Calls Tryd.prog 4 #[sv s, .int .i64 a] w fun e w' => e = .returned (.bool true) ∧ Below w.heap.size w w' := by
  go_enter Tryd.func4, Tryd.ntmps4
  go_wp2_with fail
  refine (awake_any w hT).mono ?_
  rintro e w1 ⟨rfl, hb1⟩
  have hT1 := Lib.hid (hT.below hb1)
  have hn := Lib.hid (Next_any s a w1 hT1.out)
  have hp := Lib.hid (Prev_any s a w1)
  have ht := Lib.hid (Turn_any s a w1 hT1.out)
  have rn := Lib.hid (rNext_any s a w1)
  have rp := Lib.hid (rPrev_any s a)
  have rt := Lib.hid (rTurn_any s a)
  unfold ans at hn hp ht
  generalize nextI s a = n at *
  generalize prevI s a = p at *
  generalize turnI s a = t at *
  go_wp2_with fail
  refine hn.out.mono ?_
  rintro e w2 ⟨rfl, rfl⟩
  go_wp2_with fail
  refine hp.out.mono ?_
  rintro e w2 ⟨rfl, rfl⟩
  go_wp2_with fail
  refine ht.out.mono ?_
  rintro e w2 ⟨rfl, rfl⟩
  go_wp2_with fail
  refine rn.out.mono ?_
  rintro e w2 ⟨rfl, hb2⟩
  go_wp2_with fail
  refine (lsame_any n w2).mono ?_
  rintro e w3 ⟨rfl, rfl⟩
  go_wp2_with fail
  refine (rp.out w2).mono ?_
  rintro e w3 ⟨rfl, rfl⟩
  go_wp2_with fail
  refine (lsame_any p w2).mono ?_
  rintro e w3 ⟨rfl, rfl⟩
  go_wp2_with fail
  refine (rt.out w2).mono ?_
  rintro e w3 ⟨rfl, rfl⟩
  go_wp2_with fail
  refine (lsame_any t w2).mono ?_
  rintro e w3 ⟨rfl, rfl⟩
  go_wp2
  go_ret
  exact ⟨rfl, hb1.trans (hb2.mono hb1.size)⟩

set_option maxRecDepth 100000 in
set_option maxHeartbeats 4000000 in
theorem between_walk (s : St) (a b : Int) (w : World) (hT : Tz w) : Calls Tryd.prog 5 #[sv s, .int .i64 a, .int .i64 b] w fun e w' => e = .returned (.bool true) ∧ Below w.heap.size w w' := by
  go_enter Tryd.func5, Tryd.ntmps5
  go_wp2_with fail
  refine (awake_any w hT).mono ?_
  rintro e w1 ⟨rfl, hb1⟩
  have hT1 := Lib.hid (hT.below hb1)
  go_wp2_with fail
  refine (Between_any a b w1).mono ?_
  rintro e w2 ⟨rfl, rfl⟩
  go_wp2_with fail
  refine (rBetween_any a b w1).mono ?_
  rintro e w2 ⟨rfl, rfl⟩
  go_wp2_with fail
  refine (Pass_any s a b w1).mono ?_
  rintro e w2 ⟨rfl, rfl⟩
  go_wp2_with fail
  refine (rPass_any s a b w1).mono ?_
  rintro e w2 ⟨rfl, hb2⟩
  go_wp2_with fail
  refine (Gap_any s a b w2 (hT1.out.below hb2)).mono ?_
  rintro e w3 ⟨rfl, rfl⟩
  go_wp2_with fail
  refine (rGap_any s a b w2).mono ?_
  rintro e w3 ⟨rfl, hb3⟩
  go_wp2
  go_ret
  have q2 := hb1.trans (hb2.mono hb1.size)
  exact ⟨rfl, q2.trans (hb3.mono q2.size)⟩

end Go.Proofs.YtgeelnpdahlcpaaDoor
