/-
  The reference's behind: what an instruction makes of what is ahead of it, or the error. Conditions: an instruction that may be; what is ahead is well formed.
-/
import Derived.Test.YtmlopacekoghkaaVrBehA
import Derived.Test.YtmlopacekoghkaaVrBehB
import Derived.Test.YtmlopacekoghkaaVrBehC
import Derived.Test.YtmlopacekoghkaaVrBehD
namespace Go.Proofs.Ytmlopacekoghkaa.Ve
open Go.RowKit
open Go.Proofs.Ytmlopacekoghkaa.Il hiding Next
open Go.Proofs.Ytmlopacekoghkaa.Ic

/-- What behind answers. -/
def afterB (i : In) (k n : Nat) (a : Ah) : Ah := if errB i k n a = 0 then nextB i a else a
theorem after_err {i : In} {k n e : Nat} {a : Ah} (h : errB i k n a = e) (he : e ≠ 0) : afterB i k n a = a := by unfold afterB; rw [if_neg (by rw [h]; exact he)]
theorem after_ok {i : In} {k n : Nat} {a : Ah} (h : errB i k n a = 0) : afterB i k n a = nextB i a := by unfold afterB; rw [if_pos h]
theorem err_near {i : In} {k n : Nat} {a : Ah} (h : jumpB i.op = false) : errB i k n a = refB i a := by unfold errB farB; rw [h]; rfl
theorem ref_plain {i : In} {a : Ah} (h33 : i.op ≠ 33) (h32 : i.op ≠ 32) (hr : retB i.op = false) : refB i a = if fitB i a = false then 6 else 0 := by
  unfold refB
  rw [if_neg (fun h => h33 h.1), if_neg (c := i.op = 32 ∧ a.br.length = 8) (fun h => h32 h.1), if_neg (c := retB i.op = true ∧ 0 < a.br.length) (by rw [hr]; simp)]
section
variable {a : Ah}
theorem S_brS_size (a : Ah) : (S (brS a.br)).size = 2 * a.br.length := by rw [S_size, brS_len]
theorem push_S (l : Br) (p k : Int) : S (brS l) ++ strOfNums [p, k] = S (brS (l ++ [(p, k)])) := by
  rw [brS_app]
  exact S_app _ _
theorem cut_S {l : Br} {d : Nat} (hd : l.length = d) (h : 0 < d) : (S (brS l)).extract 0 (2 * d - 2) = S (brS l.dropLast) := by
  have e := last_split (l := l) (by omega)
  have hl : l.dropLast.length = d - 1 := by rw [List.length_dropLast, hd]
  have e2 : brS l = brS l.dropLast ++ pairS (lastB l) := by
    conv => lhs; rw [e, brS_app]
    simp [brS]
  have hx : ((S (brS l)).extract 0 (2 * d - 2)).data.toList = brS l.dropLast := by
    rw [ByteArray.data_extract, Array.toList_extract]
    show List.extract (brS l) 0 (2 * d - 2) = _
    rw [e2, List.extract_eq_take_drop]
    simp only [List.drop_zero, Nat.sub_zero]
    rw [List.take_append_of_le_length (by rw [brS_len, hl]; omega), List.take_of_length_le (by rw [brS_len, hl]; omega)]
  rw [← S_list ((S (brS l)).extract 0 (2 * d - 2)), hx]
theorem tail_S {l : Br} {d : Nat} (hd : l.length = d) (h : 0 < d) : (S (brS l)).extract (2 * d - 2) (2 * d) = S (pairS (lastB l)) := by
  have e := last_split (l := l) (by omega)
  have hl : l.dropLast.length = d - 1 := by rw [List.length_dropLast, hd]
  have e2 : brS l = brS l.dropLast ++ pairS (lastB l) := by
    conv => lhs; rw [e, brS_app]
    simp [brS]
  have hx : ((S (brS l)).extract (2 * d - 2) (2 * d)).data.toList = pairS (lastB l) := by
    rw [ByteArray.data_extract, Array.toList_extract]
    show List.extract (brS l) (2 * d - 2) (2 * d) = _
    rw [e2, List.extract_eq_take_drop, List.drop_append_of_le_length (by rw [brS_len, hl]; omega), List.drop_eq_nil_of_le (by rw [brS_len, hl]; omega), List.nil_append]
    exact List.take_of_length_le (by simp [pairS]; omega)
  rw [← S_list ((S (brS l)).extract (2 * d - 2) (2 * d)), hx]
end
theorem near_err {i : In} {k n : Nat} {a : Ah} (h : jumpB i.op = false ∧ i.op ≠ 33 ∧ i.op ≠ 32 ∧ retB i.op = false) : errB i k n a = if fitB i a = false then 6 else 0 := by
  rw [err_near h.1, ref_plain h.2.1 h.2.2.1 h.2.2.2]
theorem next_same {i : In} {a : Ah} (h : i.op ≠ 1 ∧ i.op ≠ 2 ∧ i.op ≠ 31 ∧ i.op ≠ 32 ∧ i.op ≠ 33 ∧ ¬ (19 ≤ i.op ∧ i.op ≤ 24)) : nextB i a = a := by
  unfold nextB madeI ordB
  rw [if_neg (by omega), if_neg (by omega), if_neg (by omega), if_neg (by simp; omega)]
theorem next_ord {i : In} {a : Ah} (h : 19 ≤ i.op ∧ i.op ≤ 24) : nextB i a = ⟨a.on, 1, a.br⟩ := by
  unfold nextB madeI ordB
  rw [if_neg (by omega), if_neg (by omega), if_neg (by omega), if_pos (by simp; omega)]
theorem next_ld {i : In} {a : Ah} (h : i.op = 1 ∨ i.op = 2 ∨ i.op = 31) : nextB i a = ⟨a.on, i.kd, a.br⟩ := by
  unfold nextB
  rw [if_pos h]
theorem fit_join {i : In} {a : Ah} (h : (7 ≤ i.op ∧ i.op ≤ 12) ∨ (14 ≤ i.op ∧ i.op ≤ 24)) : fitB i a = (decide (a.kd = i.kd) && mayI i.op i.kd) := by
  unfold fitB
  rw [if_neg (by omega), if_neg (by omega), if_neg (by omega), if_neg (by omega), if_neg (by omega), if_neg (by omega), if_neg (by omega), if_neg (by omega), if_neg (by omega), if_neg (by omega)]
theorem plain_op {op : Int} (h : op ≤ 24 ∨ op = 31 ∨ 34 ≤ op) : jumpB op = false ∧ op ≠ 33 ∧ op ≠ 32 ∧ retB op = false := by
  unfold jumpB retB
  refine ⟨decide_eq_false (by omega), by omega, by omega, decide_eq_false (by omega)⟩
theorem far_yes {i : In} {k n : Nat} {a : Ah} (h : jumpB i.op = true) (hp : i.pl ≤ k ∨ (n : Int) < i.pl) : errB i k n a = 7 := by
  unfold errB farB
  rw [h, if_pos]
  rcases hp with hp | hp
  · rw [decide_eq_true hp]; rfl
  · rw [decide_eq_true hp]; simp
theorem far_no {i : In} {k n : Nat} {a : Ah} (h : 25 ≤ i.op ∧ i.op ≤ 27) (hp : ¬ i.pl ≤ k) (hq : ¬ (n : Int) < i.pl) : errB i k n a = if fitB i a = false then 6 else 0 := by
  have hr : retB i.op = false := by unfold retB; exact decide_eq_false (by omega)
  unfold errB farB
  rw [if_neg, ref_plain (by omega) (by omega) hr]
  rw [decide_eq_false hp, decide_eq_false hq]; simp
theorem ret_err {i : In} {k n : Nat} {a : Ah} (h : 28 ≤ i.op ∧ i.op ≤ 30) : errB i k n a = if fitB i a = false then 6 else if 0 < a.br.length then 3 else 0 := by
  have hj : jumpB i.op = false := by unfold jumpB; exact decide_eq_false (by omega)
  have hr : retB i.op = true := by unfold retB; exact decide_eq_true (by omega)
  rw [err_near hj]
  unfold refB
  rw [if_neg (by omega), if_neg (c := i.op = 32 ∧ a.br.length = 8) (by omega)]
  simp only [hr, true_and]
theorem open_err {i : In} {k n : Nat} {a : Ah} (h : i.op = 32) : errB i k n a = if mayI i.pl a.kd = false then 6 else if a.br.length = 8 then 8 else 0 := by
  have hj : jumpB i.op = false := by rw [h]; rfl
  have hr : retB i.op = false := by rw [h]; rfl
  rw [err_near hj]
  unfold refB
  rw [if_neg (by omega), fit_32 h, hr]
  simp [h]
theorem close_err {i : In} {k n : Nat} {a : Ah} (h : i.op = 33) : errB i k n a = if a.br.length = 0 then 3 else if a.kd ≠ (lastB a.br).2 then 6 else 0 := by
  have hj : jumpB i.op = false := by rw [h]; rfl
  have hr : retB i.op = false := by rw [h]; rfl
  rw [err_near hj]
  unfold refB
  rw [fit_33 h, hr]
  simp [h]
theorem next_open {i : In} {a : Ah} (h : i.op = 32) : nextB i a = ⟨a.on, 0, a.br ++ [(i.pl, a.kd)]⟩ := by
  unfold nextB
  rw [if_neg (by omega), if_pos h]
theorem next_close {i : In} {a : Ah} (h : i.op = 33) : nextB i a = ⟨a.on, madeI (lastB a.br).1 (lastB a.br).2, a.br.dropLast⟩ := by
  unfold nextB
  rw [if_neg (by omega), if_neg (by omega), if_pos h]

theorem rBehind_any (i : In) (a : Ah) (k n : Nat) (w : World) (hr : rightI i = true) (hw : Wf a) :
    Calls Try.prog 46 #[insV i, .int .i64 k, .int .i64 n, ahV a] w (Tells (.tuple #[ahV (afterB i k n a), .int .i64 (errB i k n a : Nat)]) w) := by
  obtain ⟨h1, h36⟩ := right_op hr
  have bad : ∀ e : Nat, errB i k n a = e → e ≠ 0 → Calls Try.prog 46 #[insV i, .int .i64 k, .int .i64 n, ahV a] w (Tells (.tuple #[ahV a, .int .i64 (e : Nat)]) w) → Calls Try.prog 46 #[insV i, .int .i64 k, .int .i64 n, ahV a] w (Tells (.tuple #[ahV (afterB i k n a), .int .i64 (errB i k n a : Nat)]) w) := by
    intro e he h0 hc
    rw [after_err he h0, he]
    exact hc
  have good : errB i k n a = 0 → ∀ b, nextB i a = b → Calls Try.prog 46 #[insV i, .int .i64 k, .int .i64 n, ahV a] w (Tells (.tuple #[ahV b, .int .i64 0]) w) → Calls Try.prog 46 #[insV i, .int .i64 k, .int .i64 n, ahV a] w (Tells (.tuple #[ahV (afterB i k n a), .int .i64 (errB i k n a : Nat)]) w) := by
    intro he b hb hc
    rw [after_ok he, he, hb]
    exact hc
  have hs := S_brS_size a
  have h8 : ((a.br.length : Nat) : Int) ≤ 8 := by have := hw.len; omega
  have hbr := hw.br
  obtain ⟨op, kd, ar, pl, nn⟩ := i
  obtain ⟨ao, ak, br⟩ := a
  dsimp only at h1 h36 hs h8 hbr
  by_cases hj : (7 ≤ op ∧ op ≤ 12) ∨ (14 ≤ op ∧ op ≤ 24)
  · have hE := near_err (i := ⟨op, kd, ar, pl, nn⟩) (k := k) (n := n) (a := ⟨ao, ak, br⟩) (plain_op (.inl (by dsimp only; omega)))
    rw [fit_join hj] at hE
    dsimp only at hE
    by_cases hk : ak = kd
    · rw [decide_eq_true hk, Bool.true_and] at hE
      cases hm : mayI op ak with
      | false =>
        have hm2 : mayI op kd = false := by rw [← hk]; exact hm
        rw [hm2, if_pos rfl] at hE
        refine bad 6 hE (by decide) ?_
        by_cases hlo : op ≤ 12
        · exact rb_low_may kd ar nn k n ao ak _ _ pl op w hs h8 (by omega) (by omega) hk hm
        · by_cases hmi : op ≤ 18
          · exact rb_mid_may kd ar nn k n ao ak _ _ pl op w hs h8 (by omega) (by omega) hk hm
          · exact rb_high_may kd ar nn k n ao ak _ _ pl op w hs h8 (by omega) (by omega) hk hm
      | true =>
        have hm2 : mayI op kd = true := by rw [← hk]; exact hm
        rw [hm2, if_neg (by simp)] at hE
        by_cases hlo : op ≤ 12
        · exact good hE _ (next_same (by dsimp only; omega)) (rb_low_ok kd ar nn k n ao ak _ _ pl op w hs h8 (by omega) (by omega) hk hm)
        · by_cases hmi : op ≤ 18
          · exact good hE _ (next_same (by dsimp only; omega)) (rb_mid_ok kd ar nn k n ao ak _ _ pl op w hs h8 (by omega) (by omega) hk hm)
          · exact good hE _ (next_ord (by dsimp only; omega)) (rb_high_ok kd ar nn k n ao ak _ _ pl op w hs h8 (by omega) (by omega) hk hm)
    · rw [decide_eq_false hk, Bool.false_and, if_pos rfl] at hE
      refine bad 6 hE (by decide) ?_
      by_cases hlo : op ≤ 12
      · exact rb_low_no kd ar nn k n ao ak _ _ pl op w hs h8 (by omega) (by omega) hk
      · by_cases hmi : op ≤ 18
        · exact rb_mid_no kd ar nn k n ao ak _ _ pl op w hs h8 (by omega) (by omega) hk
        · exact rb_high_no kd ar nn k n ao ak _ _ pl op w hs h8 (by omega) (by omega) hk
  have hp : op = 1 ∨ op = 2 ∨ op = 3 ∨ op = 4 ∨ op = 5 ∨ op = 6 ∨ op = 13 ∨ op = 25 ∨ op = 26 ∨ op = 27 ∨ op = 28 ∨ op = 29 ∨ op = 30 ∨ op = 31 ∨ op = 32 ∨ op = 33 ∨ op = 34 ∨ op = 35 ∨ op = 36 := by omega
  rcases hp with rfl | rfl | rfl | rfl | rfl | rfl | rfl | rfl | rfl | rfl | rfl | rfl | rfl | rfl | rfl | rfl | rfl | rfl | rfl
  · exact good (by rw [near_err (plain_op (by dsimp only; omega))]; rfl) _ (next_ld (.inl rfl)) (rb_1 kd ar nn k n ao ak _ _ pl w hs h8)
  · have hE := near_err (i := ⟨2, kd, ar, pl, nn⟩) (k := k) (n := n) (a := ⟨ao, ak, br⟩) (plain_op (by dsimp only; omega))
    rw [show fitB ⟨2, kd, ar, pl, nn⟩ ⟨ao, ak, br⟩ = mayI 13 kd from rfl] at hE
    cases hl : mayI 13 kd with
    | false => rw [hl] at hE; exact bad 6 hE (by decide) (rb_2_no kd ar nn k n ao ak _ _ pl w hs h8 hl)
    | true => rw [hl] at hE; exact good hE _ (next_ld (.inr (.inl rfl))) (rb_2_ok kd ar nn k n ao ak _ _ pl w hs h8 hl)
  · have hE := near_err (i := ⟨3, kd, ar, pl, nn⟩) (k := k) (n := n) (a := ⟨ao, ak, br⟩) (plain_op (by dsimp only; omega))
    rw [show fitB ⟨3, kd, ar, pl, nn⟩ ⟨ao, ak, br⟩ = decide (ak = kd) from rfl] at hE
    by_cases hk : ak = kd
    · rw [decide_eq_true hk] at hE; exact good hE _ (next_same (by dsimp only; omega)) (rb_3_ok kd ar nn k n ao ak _ _ pl w hs h8 hk)
    · rw [decide_eq_false hk] at hE; exact bad 6 hE (by decide) (rb_3_no kd ar nn k n ao ak _ _ pl w hs h8 hk)
  · have hE := near_err (i := ⟨4, kd, ar, pl, nn⟩) (k := k) (n := n) (a := ⟨ao, ak, br⟩) (plain_op (by dsimp only; omega))
    rw [show fitB ⟨4, kd, ar, pl, nn⟩ ⟨ao, ak, br⟩ = (decide (ak = kd) && mayI 13 kd) from rfl] at hE
    by_cases hk : ak = kd
    · rw [decide_eq_true hk, Bool.true_and] at hE
      cases hl : mayI 13 kd with
      | false => rw [hl] at hE; exact bad 6 hE (by decide) (rb_4_log kd ar nn k n ao ak _ _ pl w hs h8 hk hl)
      | true => rw [hl] at hE; exact good hE _ (next_same (by dsimp only; omega)) (rb_4_ok kd ar nn k n ao ak _ _ pl w hs h8 hk hl)
    · rw [decide_eq_false hk, Bool.false_and] at hE; exact bad 6 hE (by decide) (rb_4_no kd ar nn k n ao ak _ _ pl w hs h8 hk)
  · have hE := near_err (i := ⟨5, kd, ar, pl, nn⟩) (k := k) (n := n) (a := ⟨ao, ak, br⟩) (plain_op (by dsimp only; omega))
    rw [show fitB ⟨5, kd, ar, pl, nn⟩ ⟨ao, ak, br⟩ = (decide (ak = 1) && decide (kd = 1)) from rfl] at hE
    by_cases hk : ak = 1
    · by_cases hd : kd = 1
      · rw [decide_eq_true hk, decide_eq_true hd] at hE; exact good hE _ (next_same (by dsimp only; omega)) (rb_5_ok kd ar nn k n ao ak _ _ pl w hs h8 hk hd)
      · rw [decide_eq_true hk, decide_eq_false hd] at hE; exact bad 6 hE (by decide) (rb_5_kd kd ar nn k n ao ak _ _ pl w hs h8 hk hd)
    · rw [decide_eq_false hk, Bool.false_and] at hE; exact bad 6 hE (by decide) (rb_5_no kd ar nn k n ao ak _ _ pl w hs h8 hk)
  · have hE := near_err (i := ⟨6, kd, ar, pl, nn⟩) (k := k) (n := n) (a := ⟨ao, ak, br⟩) (plain_op (by dsimp only; omega))
    rw [show fitB ⟨6, kd, ar, pl, nn⟩ ⟨ao, ak, br⟩ = (decide (ak = 1) && decide (kd = 1)) from rfl] at hE
    by_cases hk : ak = 1
    · by_cases hd : kd = 1
      · rw [decide_eq_true hk, decide_eq_true hd] at hE; exact good hE _ (next_same (by dsimp only; omega)) (rb_6_ok kd ar nn k n ao ak _ _ pl w hs h8 hk hd)
      · rw [decide_eq_true hk, decide_eq_false hd] at hE; exact bad 6 hE (by decide) (rb_6_kd kd ar nn k n ao ak _ _ pl w hs h8 hk hd)
    · rw [decide_eq_false hk, Bool.false_and] at hE; exact bad 6 hE (by decide) (rb_6_no kd ar nn k n ao ak _ _ pl w hs h8 hk)
  · have hE := near_err (i := ⟨13, kd, ar, pl, nn⟩) (k := k) (n := n) (a := ⟨ao, ak, br⟩) (plain_op (by dsimp only; omega))
    rw [show fitB ⟨13, kd, ar, pl, nn⟩ ⟨ao, ak, br⟩ = mayI 13 ak from rfl] at hE
    cases hl : mayI 13 ak with
    | false => rw [hl] at hE; exact bad 6 hE (by decide) (rb_13_no kd ar nn k n ao ak _ _ pl w hs h8 hl)
    | true => rw [hl] at hE; exact good hE _ (next_same (by dsimp only; omega)) (rb_13_ok kd ar nn k n ao ak _ _ pl w hs h8 hl)
  · by_cases hp : pl ≤ k
    · exact bad 7 (far_yes (by rfl) (.inl hp)) (by decide) (rb_25_lo kd ar nn k n ao ak _ _ pl w hs h8 hp)
    · by_cases hq : (n : Int) < pl
      · exact bad 7 (far_yes (by rfl) (.inr hq)) (by decide) (rb_25_hi kd ar nn k n ao ak _ _ pl w hs h8 hp hq)
      · have hE := far_no (i := ⟨25, kd, ar, pl, nn⟩) (k := k) (n := n) (a := ⟨ao, ak, br⟩) (by dsimp only; omega) hp hq
        rw [show fitB ⟨25, kd, ar, pl, nn⟩ ⟨ao, ak, br⟩ = true from rfl] at hE
        exact good hE _ (next_same (by dsimp only; omega)) (rb_25_ok kd ar nn k n ao ak _ _ pl w hs h8 hp hq)
  · by_cases hp : pl ≤ k
    · exact bad 7 (far_yes (by rfl) (.inl hp)) (by decide) (rb_26_lo kd ar nn k n ao ak _ _ pl w hs h8 hp)
    · by_cases hq : (n : Int) < pl
      · exact bad 7 (far_yes (by rfl) (.inr hq)) (by decide) (rb_26_hi kd ar nn k n ao ak _ _ pl w hs h8 hp hq)
      · have hE := far_no (i := ⟨26, kd, ar, pl, nn⟩) (k := k) (n := n) (a := ⟨ao, ak, br⟩) (by dsimp only; omega) hp hq
        rw [show fitB ⟨26, kd, ar, pl, nn⟩ ⟨ao, ak, br⟩ = decide (ak = 1) from rfl] at hE
        by_cases hk : ak = 1
        · rw [decide_eq_true hk] at hE; exact good hE _ (next_same (by dsimp only; omega)) (rb_26_ok kd ar nn k n ao ak _ _ pl w hs h8 hp hq hk)
        · rw [decide_eq_false hk] at hE; exact bad 6 hE (by decide) (rb_26_no kd ar nn k n ao ak _ _ pl w hs h8 hp hq hk)
  · by_cases hp : pl ≤ k
    · exact bad 7 (far_yes (by rfl) (.inl hp)) (by decide) (rb_27_lo kd ar nn k n ao ak _ _ pl w hs h8 hp)
    · by_cases hq : (n : Int) < pl
      · exact bad 7 (far_yes (by rfl) (.inr hq)) (by decide) (rb_27_hi kd ar nn k n ao ak _ _ pl w hs h8 hp hq)
      · have hE := far_no (i := ⟨27, kd, ar, pl, nn⟩) (k := k) (n := n) (a := ⟨ao, ak, br⟩) (by dsimp only; omega) hp hq
        rw [show fitB ⟨27, kd, ar, pl, nn⟩ ⟨ao, ak, br⟩ = decide (ak = 1) from rfl] at hE
        by_cases hk : ak = 1
        · rw [decide_eq_true hk] at hE; exact good hE _ (next_same (by dsimp only; omega)) (rb_27_ok kd ar nn k n ao ak _ _ pl w hs h8 hp hq hk)
        · rw [decide_eq_false hk] at hE; exact bad 6 hE (by decide) (rb_27_no kd ar nn k n ao ak _ _ pl w hs h8 hp hq hk)
  · have hE := ret_err (i := ⟨28, kd, ar, pl, nn⟩) (k := k) (n := n) (a := ⟨ao, ak, br⟩) (by dsimp only; omega)
    rw [show fitB ⟨28, kd, ar, pl, nn⟩ ⟨ao, ak, br⟩ = true from rfl, if_neg (by simp)] at hE
    by_cases hd : 0 < br.length
    · rw [if_pos hd] at hE; exact bad 3 hE (by decide) (rb_28_br kd ar nn k n ao ak _ _ pl w hs h8 (by omega))
    · rw [if_neg hd] at hE; exact good hE _ (next_same (by dsimp only; omega)) (rb_28_ok kd ar nn k n ao ak _ _ pl w hs h8 (by omega))
  · have hE := ret_err (i := ⟨29, kd, ar, pl, nn⟩) (k := k) (n := n) (a := ⟨ao, ak, br⟩) (by dsimp only; omega)
    rw [show fitB ⟨29, kd, ar, pl, nn⟩ ⟨ao, ak, br⟩ = decide (ak = 1) from rfl] at hE
    by_cases hk : ak = 1
    · rw [decide_eq_true hk, if_neg (by simp)] at hE
      by_cases hd : 0 < br.length
      · rw [if_pos hd] at hE; exact bad 3 hE (by decide) (rb_29_br kd ar nn k n ao ak _ _ pl w hs h8 hk (by omega))
      · rw [if_neg hd] at hE; exact good hE _ (next_same (by dsimp only; omega)) (rb_29_ok kd ar nn k n ao ak _ _ pl w hs h8 hk (by omega))
    · rw [decide_eq_false hk] at hE; exact bad 6 hE (by decide) (rb_29_no kd ar nn k n ao ak _ _ pl w hs h8 hk)
  · have hE := ret_err (i := ⟨30, kd, ar, pl, nn⟩) (k := k) (n := n) (a := ⟨ao, ak, br⟩) (by dsimp only; omega)
    rw [show fitB ⟨30, kd, ar, pl, nn⟩ ⟨ao, ak, br⟩ = decide (ak = 1) from rfl] at hE
    by_cases hk : ak = 1
    · rw [decide_eq_true hk, if_neg (by simp)] at hE
      by_cases hd : 0 < br.length
      · rw [if_pos hd] at hE; exact bad 3 hE (by decide) (rb_30_br kd ar nn k n ao ak _ _ pl w hs h8 hk (by omega))
      · rw [if_neg hd] at hE; exact good hE _ (next_same (by dsimp only; omega)) (rb_30_ok kd ar nn k n ao ak _ _ pl w hs h8 hk (by omega))
    · rw [decide_eq_false hk] at hE; exact bad 6 hE (by decide) (rb_30_no kd ar nn k n ao ak _ _ pl w hs h8 hk)
  · have hE := near_err (i := ⟨31, kd, ar, pl, nn⟩) (k := k) (n := n) (a := ⟨ao, ak, br⟩) (plain_op (by dsimp only; omega))
    rw [show fitB ⟨31, kd, ar, pl, nn⟩ ⟨ao, ak, br⟩ = decide (ak ≠ 0) from rfl] at hE
    by_cases hk : ak = 0
    · rw [decide_eq_false (fun h => h hk)] at hE; exact bad 6 hE (by decide) (rb_31_no kd ar nn k n ao ak _ _ pl w hs h8 hk)
    · rw [decide_eq_true hk] at hE; exact good hE _ (next_ld (.inr (.inr rfl))) (rb_31_ok kd ar nn k n ao ak _ _ pl w hs h8 hk)
  · have hE := open_err (i := ⟨32, kd, ar, pl, nn⟩) (k := k) (n := n) (a := ⟨ao, ak, br⟩) rfl
    dsimp only at hE
    cases hl : mayI pl ak with
    | false => rw [hl, if_pos rfl] at hE; exact bad 6 hE (by decide) (rb_32_no kd ar nn k n ao ak _ _ pl w hs h8 hl)
    | true =>
      rw [hl, if_neg (by simp)] at hE
      by_cases hd : br.length = 8
      · rw [if_pos hd] at hE; exact bad 8 hE (by decide) (rb_32_full kd ar nn k n ao ak _ _ pl w hs h8 hl hd)
      · rw [if_neg hd] at hE; exact good hE _ (next_open rfl) (rb_32_ok kd ar nn k n ao ak _ _ pl _ w hs h8 hl (by omega) (push_S br pl ak))
  · have hE := close_err (i := ⟨33, kd, ar, pl, nn⟩) (k := k) (n := n) (a := ⟨ao, ak, br⟩) rfl
    dsimp only at hE
    by_cases hd : br.length = 0
    · rw [if_pos hd] at hE; exact bad 3 hE (by decide) (rb_33_none kd ar nn k n ao ak _ _ pl w hs h8 hd)
    · rw [if_neg hd] at hE
      have hb := hbr _ (last_mem hd)
      obtain ⟨o1, ho1⟩ : ∃ o1 : Nat, (lastB br).1 = o1 := ⟨(lastB br).1.toNat, by omega⟩
      obtain ⟨k1, hk1⟩ : ∃ k1 : Nat, (lastB br).2 = k1 := ⟨(lastB br).2.toNat, by omega⟩
      have hx := tail_S (l := br) (d := br.length) rfl (by omega)
      have hp : pairS (lastB br) = [UInt8.ofNat o1, UInt8.ofNat k1] := by unfold pairS; rw [ho1, hk1]; rfl
      rw [hp] at hx
      have e1 : ∀ h : 1 < (S [UInt8.ofNat o1, UInt8.ofNat k1]).size, ((S [UInt8.ofNat o1, UInt8.ofNat k1])[1]'h).toNat = k1 := fun _ => by
        show (UInt8.ofNat k1).toNat = k1
        simp; omega
      have e0 : ∀ h : 0 < (S [UInt8.ofNat o1, UInt8.ofNat k1]).size, ((S [UInt8.ofNat o1, UInt8.ofNat k1])[0]'h).toNat = o1 := fun _ => by
        show (UInt8.ofNat o1).toNat = o1
        simp; omega
      by_cases hk : ak = (lastB br).2
      · rw [if_neg (fun h => h hk)] at hE
        have hT := cut_S (l := br) (d := br.length) rfl (by omega)
        have hk' : ak = k1 := hk.trans hk1
        by_cases ho : 19 ≤ o1
        · refine good hE ⟨ao, 1, br.dropLast⟩ ?_ (rb_33_ord kd ar nn k n ao ak _ _ pl _ k1 o1 _ w hs h8 (by omega) hx rfl e1 e0 (by omega) hT hk' ho)
          rw [next_close rfl]
          unfold madeI ordB
          rw [if_pos (by rw [decide_eq_true_iff]; dsimp only; omega)]
        · refine good hE ⟨ao, ak, br.dropLast⟩ ?_ (rb_33_ok kd ar nn k n ao ak _ _ pl _ k1 o1 _ w hs h8 (by omega) hx rfl e1 e0 (by omega) hT hk' ho)
          rw [next_close rfl]
          unfold madeI ordB
          rw [if_neg (by rw [decide_eq_true_iff]; dsimp only; omega)]
          dsimp only
          rw [hk]
      · rw [if_pos hk] at hE
        exact bad 6 hE (by decide) (rb_33_no kd ar nn k n ao ak _ _ pl _ k1 w hs h8 (by omega) hx rfl e1 (by omega) (by rw [← hk1]; exact hk))
  · have hE := near_err (i := ⟨34, kd, ar, pl, nn⟩) (k := k) (n := n) (a := ⟨ao, ak, br⟩) (plain_op (by dsimp only; omega))
    rw [show fitB ⟨34, kd, ar, pl, nn⟩ ⟨ao, ak, br⟩ = decide (ak = 1) from rfl] at hE
    by_cases hk : ak = 1
    · rw [decide_eq_true hk] at hE; exact good hE _ (next_same (by dsimp only; omega)) (rb_34_ok kd ar nn k n ao ak _ _ pl w hs h8 hk)
    · rw [decide_eq_false hk] at hE; exact bad 6 hE (by decide) (rb_34_no kd ar nn k n ao ak _ _ pl w hs h8 hk)
  · have hE := near_err (i := ⟨35, kd, ar, pl, nn⟩) (k := k) (n := n) (a := ⟨ao, ak, br⟩) (plain_op (by dsimp only; omega))
    rw [show fitB ⟨35, kd, ar, pl, nn⟩ ⟨ao, ak, br⟩ = decide (ak = 1) from rfl] at hE
    by_cases hk : ak = 1
    · rw [decide_eq_true hk] at hE; exact good hE _ (next_same (by dsimp only; omega)) (rb_35_ok kd ar nn k n ao ak _ _ pl w hs h8 hk)
    · rw [decide_eq_false hk] at hE; exact bad 6 hE (by decide) (rb_35_no kd ar nn k n ao ak _ _ pl w hs h8 hk)
  · have hE := near_err (i := ⟨36, kd, ar, pl, nn⟩) (k := k) (n := n) (a := ⟨ao, ak, br⟩) (plain_op (by dsimp only; omega))
    rw [show fitB ⟨36, kd, ar, pl, nn⟩ ⟨ao, ak, br⟩ = decide (ak = 1) from rfl] at hE
    by_cases hk : ak = 1
    · rw [decide_eq_true hk] at hE; exact good hE _ (next_same (by dsimp only; omega)) (rb_36_ok kd ar nn k n ao ak _ _ pl w hs h8 hk)
    · rw [decide_eq_false hk] at hE; exact bad 6 hE (by decide) (rb_36_no kd ar nn k n ao ak _ _ pl w hs h8 hk)

end Go.Proofs.Ytmlopacekoghkaa.Ve
