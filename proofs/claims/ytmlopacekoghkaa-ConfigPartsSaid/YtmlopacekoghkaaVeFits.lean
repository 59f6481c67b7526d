/-
  The landed verify's fits, walked: are the result and the kind such as an instruction asks for? Conditions: an operation that there is; what is ahead is well formed; a CLOSE has an open bracket.
-/
import Derived.Test.YtmlopacekoghkaaVeA
import Derived.BigQuiet
import Derived.Deep.QuietTactic
namespace Go.Proofs.Ytmlopacekoghkaa.Ve
open Go.RowKit
open Go.Proofs.Ytmlopacekoghkaa.Il hiding Next
open Go.Proofs.Ytmlopacekoghkaa.Ic

theorem box_two (w : World) (A B : Array Value) (t s : TypeId) : Below w.heap.size w ((w.alloc (.cells A t)).alloc (.cells B s)) :=
  ((Below.refl _ _).alloc (Nat.le_refl _) _).alloc (by simp) _
theorem box_two_call {w w1 : World} {A B : Array Value} {t s : TypeId} (hb : Below ((w.alloc (.cells A t)).alloc (.cells B s)).heap.size ((w.alloc (.cells A t)).alloc (.cells B s)) w1) : Below w.heap.size w w1 := (two_boxes hb).2.2

section
variable (kd ar pl n : Int) (a : Ah)
set_option maxRecDepth 100000 in
set_option maxHeartbeats 4000000 in
theorem fits_1 (w : World) : Calls Try.prog 70 #[.agg (stA a), insV ⟨1, kd, ar, pl, n⟩] w (Tells (.bool (true)) w) := by
  generalize stA a = X at *
  unfold insV
  go_enter Try.func70, Try.ntmps70
  go_wp2
  go_ret
  first | exact ⟨rfl, box_two _ _ _ _ _⟩ | (refine ⟨?_, box_two _ _ _ _ _⟩; simp)

set_option maxRecDepth 100000 in
set_option maxHeartbeats 4000000 in
theorem fits_25 (w : World) : Calls Try.prog 70 #[.agg (stA a), insV ⟨25, kd, ar, pl, n⟩] w (Tells (.bool (true)) w) := by
  generalize stA a = X at *
  unfold insV
  go_enter Try.func70, Try.ntmps70
  go_wp2
  go_ret
  first | exact ⟨rfl, box_two _ _ _ _ _⟩ | (refine ⟨?_, box_two _ _ _ _ _⟩; simp)

set_option maxRecDepth 100000 in
set_option maxHeartbeats 4000000 in
theorem fits_28 (w : World) : Calls Try.prog 70 #[.agg (stA a), insV ⟨28, kd, ar, pl, n⟩] w (Tells (.bool (true)) w) := by
  generalize stA a = X at *
  unfold insV
  go_enter Try.func70, Try.ntmps70
  go_wp2
  go_ret
  first | exact ⟨rfl, box_two _ _ _ _ _⟩ | (refine ⟨?_, box_two _ _ _ _ _⟩; simp)

set_option maxRecDepth 100000 in
set_option maxHeartbeats 4000000 in
theorem fits_2 (w : World) : Calls Try.prog 70 #[.agg (stA a), insV ⟨2, kd, ar, pl, n⟩] w (Tells (.bool (mayI 13 kd)) w) := by
  have HL := Lib.hid (fun W => cLogic_any kd W)
  generalize mayI 13 kd = q at *
  generalize stA a = X at *
  unfold insV
  go_enter Try.func70, Try.ntmps70
  go_wp2_with fail
  refine (HL.out _).mono ?_
  rintro e w1 ⟨rfl, hb⟩
  have HB := Lib.hid (box_two_call hb)
  clear hb
  go_wp2
  go_ret
  first | exact ⟨rfl, HB.out⟩ | (refine ⟨?_, HB.out⟩; simp)

set_option maxRecDepth 100000 in
set_option maxHeartbeats 4000000 in
theorem fits_3 (w : World) : Calls Try.prog 70 #[.agg (stA a), insV ⟨3, kd, ar, pl, n⟩] w (Tells (.bool (decide (a.kd = kd))) w) := by
  have a1 := stA_1 a
  generalize stA a = X at *
  generalize a.kd = ak at *
  unfold insV
  go_enter Try.func70, Try.ntmps70
  go_wp2
  go_ret
  first | exact ⟨rfl, box_two _ _ _ _ _⟩ | (refine ⟨?_, box_two _ _ _ _ _⟩; simp)

set_option maxRecDepth 100000 in
set_option maxHeartbeats 4000000 in
theorem fits_4 (w : World) : Calls Try.prog 70 #[.agg (stA a), insV ⟨4, kd, ar, pl, n⟩] w (Tells (.bool (decide (a.kd = kd) && mayI 13 kd)) w) := by
  have HL := Lib.hid (fun W => cLogic_any kd W)
  generalize mayI 13 kd = q at *
  have a1 := stA_1 a
  generalize stA a = X at *
  generalize a.kd = ak at *
  unfold insV
  by_cases hk : ak = kd
  · subst hk
    rw [decide_eq_true rfl, Bool.true_and]
    go_enter Try.func70, Try.ntmps70
    go_wp2_with fail
    refine (HL.out _).mono ?_
    rintro e w1 ⟨rfl, hb⟩
    have HB := Lib.hid (box_two_call hb)
    clear hb
    go_wp2
    go_ret
    first | exact ⟨rfl, HB.out⟩ | (refine ⟨?_, HB.out⟩; simp)
  · rw [decide_eq_false hk, Bool.false_and]
    have hq : (ak == kd) = false := by simpa using hk
    clear hk
    go_enter Try.func70, Try.ntmps70
    go_wp2
    go_ret
    first | exact ⟨rfl, box_two _ _ _ _ _⟩ | (refine ⟨?_, box_two _ _ _ _ _⟩; simp)

set_option maxRecDepth 100000 in
set_option maxHeartbeats 4000000 in
theorem fits_5 (w : World) : Calls Try.prog 70 #[.agg (stA a), insV ⟨5, kd, ar, pl, n⟩] w (Tells (.bool (decide (a.kd = 1) && decide (kd = 1))) w) := by
  have a1 := stA_1 a
  generalize stA a = X at *
  generalize a.kd = ak at *
  unfold insV
  by_cases hk : ak = 1
  · subst hk
    rw [decide_eq_true rfl, Bool.true_and]
    go_enter Try.func70, Try.ntmps70
    go_wp2
    go_ret
    first | exact ⟨rfl, box_two _ _ _ _ _⟩ | (refine ⟨?_, box_two _ _ _ _ _⟩; simp)
  · rw [decide_eq_false hk, Bool.false_and]
    have hq : (ak == 1) = false := by simpa using hk
    clear hk
    go_enter Try.func70, Try.ntmps70
    go_wp2
    go_ret
    first | exact ⟨rfl, box_two _ _ _ _ _⟩ | (refine ⟨?_, box_two _ _ _ _ _⟩; simp)

set_option maxRecDepth 100000 in
set_option maxHeartbeats 4000000 in
theorem fits_6 (w : World) : Calls Try.prog 70 #[.agg (stA a), insV ⟨6, kd, ar, pl, n⟩] w (Tells (.bool (decide (a.kd = 1) && decide (kd = 1))) w) := by
  have a1 := stA_1 a
  generalize stA a = X at *
  generalize a.kd = ak at *
  unfold insV
  by_cases hk : ak = 1
  · subst hk
    rw [decide_eq_true rfl, Bool.true_and]
    go_enter Try.func70, Try.ntmps70
    go_wp2
    go_ret
    first | exact ⟨rfl, box_two _ _ _ _ _⟩ | (refine ⟨?_, box_two _ _ _ _ _⟩; simp)
  · rw [decide_eq_false hk, Bool.false_and]
    have hq : (ak == 1) = false := by simpa using hk
    clear hk
    go_enter Try.func70, Try.ntmps70
    go_wp2
    go_ret
    first | exact ⟨rfl, box_two _ _ _ _ _⟩ | (refine ⟨?_, box_two _ _ _ _ _⟩; simp)

set_option maxRecDepth 100000 in
set_option maxHeartbeats 4000000 in
theorem fits_13 (w : World) : Calls Try.prog 70 #[.agg (stA a), insV ⟨13, kd, ar, pl, n⟩] w (Tells (.bool (mayI 13 a.kd)) w) := by
  have HL := Lib.hid (fun W => cLogic_any a.kd W)
  generalize mayI 13 a.kd = q at *
  have a1 := stA_1 a
  generalize stA a = X at *
  generalize a.kd = ak at *
  unfold insV
  go_enter Try.func70, Try.ntmps70
  go_wp2_with fail
  refine (HL.out _).mono ?_
  rintro e w1 ⟨rfl, hb⟩
  have HB := Lib.hid (box_two_call hb)
  clear hb
  go_wp2
  go_ret
  first | exact ⟨rfl, HB.out⟩ | (refine ⟨?_, HB.out⟩; simp)

set_option maxRecDepth 100000 in
set_option maxHeartbeats 4000000 in
theorem fits_31 (w : World) : Calls Try.prog 70 #[.agg (stA a), insV ⟨31, kd, ar, pl, n⟩] w (Tells (.bool (decide (a.kd ≠ 0))) w) := by
  have a1 := stA_1 a
  rw [show decide (a.kd ≠ 0) = (a.kd != 0) by by_cases h : a.kd = 0 <;> simp [h]]
  generalize stA a = X at *
  generalize a.kd = ak at *
  unfold insV
  go_enter Try.func70, Try.ntmps70
  go_wp2
  go_ret
  first | exact ⟨rfl, box_two _ _ _ _ _⟩ | (refine ⟨?_, box_two _ _ _ _ _⟩; simp)

set_option maxRecDepth 100000 in
set_option maxHeartbeats 4000000 in
theorem fits_32 (w : World) : Calls Try.prog 70 #[.agg (stA a), insV ⟨32, kd, ar, pl, n⟩] w (Tells (.bool (mayI pl a.kd)) w) := by
  have HL := Lib.hid (fun W => cMay_any pl a.kd W)
  generalize mayI pl a.kd = q at *
  have a1 := stA_1 a
  generalize stA a = X at *
  generalize a.kd = ak at *
  unfold insV
  go_enter Try.func70, Try.ntmps70
  go_wp2_with fail
  refine (HL.out _).mono ?_
  rintro e w1 ⟨rfl, hb⟩
  have HB := Lib.hid (box_two_call hb)
  clear hb
  go_wp2
  go_ret
  first | exact ⟨rfl, HB.out⟩ | (refine ⟨?_, HB.out⟩; simp)

set_option maxRecDepth 100000 in
set_option maxHeartbeats 4000000 in
theorem fits_26 (w : World) : Calls Try.prog 70 #[.agg (stA a), insV ⟨26, kd, ar, pl, n⟩] w (Tells (.bool (decide (a.kd = 1))) w) := by
  have a1 := stA_1 a
  generalize stA a = X at *
  generalize a.kd = ak at *
  unfold insV
  go_enter Try.func70, Try.ntmps70
  go_wp2
  go_ret
  first | exact ⟨rfl, box_two _ _ _ _ _⟩ | (refine ⟨?_, box_two _ _ _ _ _⟩; simp)

set_option maxRecDepth 100000 in
set_option maxHeartbeats 4000000 in
theorem fits_27 (w : World) : Calls Try.prog 70 #[.agg (stA a), insV ⟨27, kd, ar, pl, n⟩] w (Tells (.bool (decide (a.kd = 1))) w) := by
  have a1 := stA_1 a
  generalize stA a = X at *
  generalize a.kd = ak at *
  unfold insV
  go_enter Try.func70, Try.ntmps70
  go_wp2
  go_ret
  first | exact ⟨rfl, box_two _ _ _ _ _⟩ | (refine ⟨?_, box_two _ _ _ _ _⟩; simp)

set_option maxRecDepth 100000 in
set_option maxHeartbeats 4000000 in
theorem fits_29 (w : World) : Calls Try.prog 70 #[.agg (stA a), insV ⟨29, kd, ar, pl, n⟩] w (Tells (.bool (decide (a.kd = 1))) w) := by
  have a1 := stA_1 a
  generalize stA a = X at *
  generalize a.kd = ak at *
  unfold insV
  go_enter Try.func70, Try.ntmps70
  go_wp2
  go_ret
  first | exact ⟨rfl, box_two _ _ _ _ _⟩ | (refine ⟨?_, box_two _ _ _ _ _⟩; simp)

set_option maxRecDepth 100000 in
set_option maxHeartbeats 4000000 in
theorem fits_30 (w : World) : Calls Try.prog 70 #[.agg (stA a), insV ⟨30, kd, ar, pl, n⟩] w (Tells (.bool (decide (a.kd = 1))) w) := by
  have a1 := stA_1 a
  generalize stA a = X at *
  generalize a.kd = ak at *
  unfold insV
  go_enter Try.func70, Try.ntmps70
  go_wp2
  go_ret
  first | exact ⟨rfl, box_two _ _ _ _ _⟩ | (refine ⟨?_, box_two _ _ _ _ _⟩; simp)

set_option maxRecDepth 100000 in
set_option maxHeartbeats 4000000 in
theorem fits_34 (w : World) : Calls Try.prog 70 #[.agg (stA a), insV ⟨34, kd, ar, pl, n⟩] w (Tells (.bool (decide (a.kd = 1))) w) := by
  have a1 := stA_1 a
  generalize stA a = X at *
  generalize a.kd = ak at *
  unfold insV
  go_enter Try.func70, Try.ntmps70
  go_wp2
  go_ret
  first | exact ⟨rfl, box_two _ _ _ _ _⟩ | (refine ⟨?_, box_two _ _ _ _ _⟩; simp)

set_option maxRecDepth 100000 in
set_option maxHeartbeats 4000000 in
theorem fits_35 (w : World) : Calls Try.prog 70 #[.agg (stA a), insV ⟨35, kd, ar, pl, n⟩] w (Tells (.bool (decide (a.kd = 1))) w) := by
  have a1 := stA_1 a
  generalize stA a = X at *
  generalize a.kd = ak at *
  unfold insV
  go_enter Try.func70, Try.ntmps70
  go_wp2
  go_ret
  first | exact ⟨rfl, box_two _ _ _ _ _⟩ | (refine ⟨?_, box_two _ _ _ _ _⟩; simp)

set_option maxRecDepth 100000 in
set_option maxHeartbeats 4000000 in
theorem fits_36 (w : World) : Calls Try.prog 70 #[.agg (stA a), insV ⟨36, kd, ar, pl, n⟩] w (Tells (.bool (decide (a.kd = 1))) w) := by
  have a1 := stA_1 a
  generalize stA a = X at *
  generalize a.kd = ak at *
  unfold insV
  go_enter Try.func70, Try.ntmps70
  go_wp2
  go_ret
  first | exact ⟨rfl, box_two _ _ _ _ _⟩ | (refine ⟨?_, box_two _ _ _ _ _⟩; simp)

set_option maxRecDepth 100000 in
set_option maxHeartbeats 4000000 in
theorem fits_low (op : Int) (w : World) (h1 : 7 ≤ op) (h2 : op ≤ 12) : Calls Try.prog 70 #[.agg (stA a), insV ⟨op, kd, ar, pl, n⟩] w (Tells (.bool (decide (a.kd = kd) && mayI op kd)) w) := by
  have HL := Lib.hid (fun W => cMay_any op kd W)
  generalize mayI op kd = q at *
  have a1 := stA_1 a
  generalize stA a = X at *
  generalize a.kd = ak at *
  unfold insV
  by_cases hk : ak = kd
  · subst hk
    rw [decide_eq_true rfl, Bool.true_and]
    go_enter Try.func70, Try.ntmps70
    go_wp2_with fail
    refine (HL.out _).mono ?_
    rintro e w1 ⟨rfl, hb⟩
    have HB := Lib.hid (box_two_call hb)
    clear hb
    go_wp2
    go_ret
    first | exact ⟨rfl, HB.out⟩ | (refine ⟨?_, HB.out⟩; simp)
  · rw [decide_eq_false hk, Bool.false_and]
    have hq : (ak == kd) = false := by simpa using hk
    clear hk
    go_enter Try.func70, Try.ntmps70
    go_wp2
    go_ret
    first | exact ⟨rfl, box_two _ _ _ _ _⟩ | (refine ⟨?_, box_two _ _ _ _ _⟩; simp)

set_option maxRecDepth 100000 in
set_option maxHeartbeats 4000000 in
theorem fits_high (op : Int) (w : World) (h1 : 14 ≤ op) (h2 : op ≤ 24) : Calls Try.prog 70 #[.agg (stA a), insV ⟨op, kd, ar, pl, n⟩] w (Tells (.bool (decide (a.kd = kd) && mayI op kd)) w) := by
  have HL := Lib.hid (fun W => cMay_any op kd W)
  generalize mayI op kd = q at *
  have a1 := stA_1 a
  generalize stA a = X at *
  generalize a.kd = ak at *
  unfold insV
  by_cases hk : ak = kd
  · subst hk
    rw [decide_eq_true rfl, Bool.true_and]
    go_enter Try.func70, Try.ntmps70
    go_wp2_with fail
    refine (HL.out _).mono ?_
    rintro e w1 ⟨rfl, hb⟩
    have HB := Lib.hid (box_two_call hb)
    clear hb
    go_wp2
    go_ret
    first | exact ⟨rfl, HB.out⟩ | (refine ⟨?_, HB.out⟩; simp)
  · rw [decide_eq_false hk, Bool.false_and]
    have hq : (ak == kd) = false := by simpa using hk
    clear hk
    go_enter Try.func70, Try.ntmps70
    go_wp2
    go_ret
    first | exact ⟨rfl, box_two _ _ _ _ _⟩ | (refine ⟨?_, box_two _ _ _ _ _⟩; simp)

theorem open_at (l : Br) (k : Nat) (x : Int × Int) (h : l[k]? = some x) : (openC l)[2 * k + 1]? = some (.int .i64 x.2) ∧ (openC l)[2 * k]? = some (.int .i64 x.1) := by
  have hp : (padB l)[k]? = some x := by
    unfold padB
    rw [List.getElem?_append_left (List.getElem?_eq_some_iff.1 h).1]
    exact h
  exact ⟨(brC_at _ k x hp).2, (brC_at _ k x hp).1⟩
theorem last_at {l : Br} {m : Nat} (h : l.length = m + 1) : l[m]? = some (lastB l) := by
  have e := last_split (l := l) (by omega)
  have hd : l.dropLast.length = m := by rw [List.length_dropLast]; omega
  rw [e, List.getElem?_append_right (by rw [hd]; exact Nat.le_refl _), hd]
  simp
  unfold lastB
  simp
set_option maxRecDepth 100000 in
set_option maxHeartbeats 4000000 in
theorem fits_33 (w : World) (hw : Wf a) (hd : a.br.length ≠ 0) : Calls Try.prog 70 #[.agg (stA a), insV ⟨33, kd, ar, pl, n⟩] w (Tells (.bool (decide (a.kd = (lastB a.br).2))) w) := by
  have a1 := stA_1 a
  have a2 := stA_2 a
  obtain ⟨m, hm⟩ : ∃ m, a.br.length = m + 1 := ⟨a.br.length - 1, by omega⟩
  have hm8 : (m : Int) < 8 := by have := hw.len; omega
  have a3 := stA_open a (2 * m + 1)
  rw [(open_at a.br m _ (last_at hm)).1, show 3 + (2 * m + 1) = 3 + m * 2 + 1 by omega] at a3
  rw [hm, show ((m + 1 : Nat) : Int) = (m : Int) + 1 by omega] at a2
  have hsub : IntKind.i64.wrap ((m : Int) + 1 - 1) = m := by rw [IntKind.wrap_i64]; omega
  generalize (lastB a.br).2 = lk at *
  generalize stA a = X at *
  generalize a.kd = ak at *
  unfold insV
  clear hm hd hw
  go_enter Try.func70, Try.ntmps70
  go_wp2_with fail
  go_quiet (fail)
  go_wp2
  go_ret
  exact ⟨rfl, (box_two _ _ _ _ _).trans ⟨rfl, rfl, rfl, Nat.le_refl _, fun _ _ => rfl⟩⟩
end

theorem cFits_any (i : In) (a : Ah) (w : World) (h1 : 1 ≤ i.op) (h36 : i.op ≤ 36) (hw : Wf a) (hd : i.op = 33 → a.br.length ≠ 0) :
    Calls Try.prog 70 #[.agg (stA a), insV i] w (Tells (.bool (fitB i a)) w) := by
  obtain ⟨op, kd, ar, pl, n⟩ := i
  dsimp only at h1 h36 hd
  unfold fitB
  dsimp only
  by_cases hl : 7 ≤ op ∧ op ≤ 12
  · rw [if_neg (by omega), if_neg (by omega), if_neg (by omega), if_neg (by omega), if_neg (by omega), if_neg (by omega), if_neg (by omega), if_neg (by omega), if_neg (by omega), if_neg (by omega)]
    exact fits_low kd ar pl n a op w hl.1 hl.2
  by_cases hh : 14 ≤ op ∧ op ≤ 24
  · rw [if_neg (by omega), if_neg (by omega), if_neg (by omega), if_neg (by omega), if_neg (by omega), if_neg (by omega), if_neg (by omega), if_neg (by omega), if_neg (by omega), if_neg (by omega)]
    exact fits_high kd ar pl n a op w hh.1 hh.2
  have hp : op = 1 ∨ op = 2 ∨ op = 3 ∨ op = 4 ∨ op = 5 ∨ op = 6 ∨ op = 13 ∨ op = 25 ∨ op = 26 ∨ op = 27 ∨ op = 28 ∨ op = 29 ∨ op = 30 ∨ op = 31 ∨ op = 32 ∨ op = 33 ∨ op = 34 ∨ op = 35 ∨ op = 36 := by omega
  rcases hp with rfl | rfl | rfl | rfl | rfl | rfl | rfl | rfl | rfl | rfl | rfl | rfl | rfl | rfl | rfl | rfl | rfl | rfl | rfl
  · exact fits_1 kd ar pl n a w
  · exact fits_2 kd ar pl n a w
  · exact fits_3 kd ar pl n a w
  · exact fits_4 kd ar pl n a w
  · exact fits_5 kd ar pl n a w
  · exact fits_6 kd ar pl n a w
  · exact fits_13 kd ar pl n a w
  · exact fits_25 kd ar pl n a w
  · exact fits_26 kd ar pl n a w
  · exact fits_27 kd ar pl n a w
  · exact fits_28 kd ar pl n a w
  · exact fits_29 kd ar pl n a w
  · exact fits_30 kd ar pl n a w
  · exact fits_31 kd ar pl n a w
  · exact fits_32 kd ar pl n a w
  · exact fits_33 kd ar pl n a w hw (hd rfl)
  · exact fits_34 kd ar pl n a w
  · exact fits_35 kd ar pl n a w
  · exact fits_36 kd ar pl n a w

end Go.Proofs.Ytmlopacekoghkaa.Ve
