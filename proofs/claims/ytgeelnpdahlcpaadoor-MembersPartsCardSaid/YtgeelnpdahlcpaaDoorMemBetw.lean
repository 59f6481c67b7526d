/-
  The reference's ways between addresses, and the law's own comparisons, walked. Conditions: none.
-/
import Derived.Test.YtgeelnpdahlcpaaDoorMemRefs
namespace Go.Proofs.YtgeelnpdahlcpaaDoor
open Go.RowKit

/-- So many from behind a on. -/
def betwK (a k : Nat) : St := (low k).rotateLeft ((a + 1) % 32)
theorem betwK_bit (a k i : Nat) (ha : a < 32) (hi : i < 32) : (betwK a k).getLsbD i = decide (off a i < k) := by
  unfold betwK
  rw [rot_bit _ _ _ (by omega) hi, low_bit _ _ (by omega)]
  have e : (i + 32 - (a + 1) % 32) % 32 = off a i := by unfold off; omega
  rw [e]
theorem betwK_zero (a : Nat) (ha : a < 32) : betwK a 0 = 0#32 := by
  apply st_ext
  intro i hi
  rw [betwK_bit a 0 i ha hi]
  simp
theorem betwK_step (a k j : Nat) (ha : a < 32) (hk : k < 32) (hj : j = (a + 1 + k) % 32) : withB (betwK a k) (j : Int) = betwK a (k + 1) := by
  apply st_ext
  intro i hi
  rw [withB_bit _ _ _ hi, betwK_bit a _ i ha hi, betwK_bit a _ i ha hi]
  rw [Bool.eq_iff_iff]
  simp only [Bool.or_eq_true, decide_eq_true_eq]
  unfold off
  omega

set_option maxRecDepth 100000 in
set_option maxHeartbeats 4000000 in
theorem rBetween_any (a b : Int) (w : World) : Calls Tryd.prog 30 #[.int .i64 a, .int .i64 b] w fun e w' => e = .returned (sv (betw a b)) ∧ w = w' := by
  by_cases ha : adr a = true
  · by_cases hb : adr b = true
    · obtain ⟨x, rfl⟩ := Int.eq_ofNat_of_zero_le ((adr_iff a).1 ha).1
      obtain ⟨y, rfl⟩ := Int.eq_ofNat_of_zero_le ((adr_iff b).1 hb).1
      have hx : x < 32 := by have := (adr_iff _).1 ha; omega
      have hy : y < 32 := by have := (adr_iff _).1 hb; omega
      have p1 : decide ((31 : Int) < (x : Int)) = false := by simp; omega
      have p2 : decide ((31 : Int) < (y : Int)) = false := by simp; omega
      have e6 : IntKind.i64.wrap ((x : Int) + 1) = x + 1 := by rw [IntKind.wrap_i64]; omega
      have hz := Lib.hid (betwK_zero x hx)
      have HR := Lib.hid (show betw x y = betwK x (off x y) from betw_nat x y hx hy)
      rw [HR.out]
      clear ha hb
      go_enter Tryd.func30, Tryd.ntmps30
      go_wp2
      go_loop [5, 6] (fun s i => ∃ (k j : Nat), k ≤ off x y ∧ Hid (j = (x + 1 + k) % 32) ∧ s = sv (betwK x k) ∧ i = .int .i64 (j : Int)) (fun _ i => 32 - off x (intOf i).toNat)
      case atStart => exact ⟨0, (x + 1) % 32, Nat.zero_le _, Lib.hid (by omega), by rw [hz.out]; rfl, by simp⟩
      case round =>
        obtain ⟨k, j, hk, hj, rfl, rfl⟩ := hrel
        have hj31 : j ≤ 31 := by have := hj.out; omega
        by_cases hlt : k < off x y
        · have n1 : ((j : Int) != (y : Int)) = true := by have := hj.out; simp; unfold off at *; omega
          have n2 : ((j : Int) != (x : Int)) = true := by have := hj.out; simp; unfold off at *; omega
          have e1 : IntKind.i64.wrap ((j : Int) + 1) = j + 1 := by rw [IntKind.wrap_i64]; omega
          have hs := Lib.hid (betwK_step x k j hx (by unfold off at *; omega) hj.out)
          go_wp2_with fail
          refine (rWith_any _ _ w).mono ?_
          rintro e w1 ⟨rfl, rfl⟩
          rw [hs.out]
          go_wp2
          go_round
          case rel => exact ⟨k + 1, (j + 1) % 32, by omega, Lib.hid (by have := hj.out; omega), rfl, by simp⟩
          case measure =>
            have := hj.out
            have e9 : (((j : Int) + 1) % 32).toNat = (j + 1) % 32 := by omega
            simp only [intOf, e9, Int.toNat_natCast]
            unfold off at *
            omega
        · obtain rfl : k = off x y := by omega
          by_cases hxy : x = y
          · subst hxy
            obtain rfl : j = x := by have := hj.out; unfold off at *; omega
            clear hj hk hlt
            go_wp2
            go_ret
            exact ⟨rfl, rfl⟩
          · obtain rfl : j = y := by have := hj.out; unfold off at *; omega
            have n2 : ((j : Int) != (x : Int)) = true := by simp; omega
            clear hj hk hlt
            go_wp2
            go_ret
            exact ⟨rfl, rfl⟩
    · have hb := (adr_not b).1 (eq_false_of_ne_true hb)
      have e1 : betw a b = 0#32 := by unfold betw; rw [(adr_not b).2 hb]; simp
      have ha := (adr_iff a).1 ha
      have p0 : decide (a < 0) = false := by simp; omega
      have p1 : decide ((31 : Int) < a) = false := by simp; omega
      rw [e1]
      by_cases hb0 : b < 0
      · have p2 : decide (b < 0) = true := by simpa using hb0
        go_enter Tryd.func30, Tryd.ntmps30
        go_wp2
        go_ret
        exact ⟨rfl, rfl⟩
      · have p2 : decide (b < 0) = false := by simpa using hb0
        have p3 : decide ((31 : Int) < b) = true := by simp; omega
        go_enter Tryd.func30, Tryd.ntmps30
        go_wp2
        go_ret
        exact ⟨rfl, rfl⟩
  · have ha := (adr_not a).1 (eq_false_of_ne_true ha)
    have e1 : betw a b = 0#32 := by unfold betw; rw [(adr_not a).2 ha]; simp
    rw [e1]
    by_cases ha0 : a < 0
    · have p2 : decide (a < 0) = true := by simpa using ha0
      go_enter Tryd.func30, Tryd.ntmps30
      go_wp2
      go_ret
      exact ⟨rfl, rfl⟩
    · have p2 : decide (a < 0) = false := by simpa using ha0
      have p3 : decide ((31 : Int) < a) = true := by simp; omega
      go_enter Tryd.func30, Tryd.ntmps30
      go_wp2
      go_ret
      exact ⟨rfl, rfl⟩

theorem passB_bad (s : St) (a b : Int) (h : adr a = false ∨ adr b = false) : passB s a b = s := by
  unfold passB
  rcases h with h | h <;> rw [h] <;> simp

theorem sub_step (s : St) (l : List Nat) (k : Nat) (h : k < l.length) : woB (subL s (l.take k)) ((l[k] : Nat) : Int) = subL s (l.take (k + 1)) := by
  rw [take_next l k h]
  exact (subL_snoc _ _ _).symm

set_option maxRecDepth 100000 in
set_option maxHeartbeats 4000000 in
theorem rPass_any (s : St) (a b : Int) (w : World) : Calls Tryd.prog 32 #[sv s, .int .i64 a, .int .i64 b] w fun e w' => e = .returned (sv (passB s a b)) ∧ Below w.heap.size w w' := by
  by_cases ha : adr a = true
  · by_cases hb : adr b = true
    · have ha1 := (adr_iff a).1 ha
      have hb1 := (adr_iff b).1 hb
      have p0 : decide (a < 0) = false := by simp; omega
      have p1 : decide ((31 : Int) < a) = false := by simp; omega
      have p2 : decide (b < 0) = false := by simp; omega
      have p3 : decide ((31 : Int) < b) = false := by simp; omega
      have hl := listB_len (betw a b)
      have hr := rList_any (betw a b)
      have HP := Lib.hid (show withB (withB (subL s (listB (betw a b))) a) b = passB s a b by
        rw [subL_pass]; unfold passB; rw [ha, hb]; rfl)
      generalize listB (betw a b) = l at *
      have hl' : (l.length : Int) ≤ 32 := by omega
      go_enter Tryd.func32, Tryd.ntmps32
      go_wp2_with fail
      refine (rBetween_any a b w).mono ?_
      rintro e w1 ⟨rfl, rfl⟩
      go_wp2_with fail
      refine (hr w).mono ?_
      rintro e w1 ⟨v, rfl, hv, hb⟩
      obtain ⟨A, c, rfl, hc⟩ := id hv
      have HV := Lib.hid hv
      have HB := Lib.hid hb
      clear hc hr hv hb
      go_wp2
      go_loopw [0, 8] (fun x i wr => ∃ k : Nat, k ≤ l.length ∧ x = sv (subL s (l.take k)) ∧ i = .int .i64 k ∧ Hid (Lst wr (.slice A l.length c) l ∧ Below w.heap.size w wr)) (fun _ i _ => l.length - (intOf i).toNat)
      case atStart => exact ⟨0, Nat.zero_le _, rfl, rfl, Lib.hid ⟨HV.out, HB.out⟩⟩
      case round =>
        obtain ⟨k, hk, rfl, rfl, hw⟩ := hrel
        by_cases hlt : k < l.length
        · obtain ⟨A', c', hv', hc'⟩ := hw.out.1
          obtain ⟨g, hA, _, hcell⟩ := hc' k hlt
          obtain ⟨rfl, -, -⟩ : A = A' ∧ l.length = l.length ∧ c = c' := by injection hv' with q1 q2 q3; exact ⟨q1, q2, q3⟩
          subst hA
          have hx := hcell k _ (List.getElem?_eq_getElem hlt)
          clear hcell hc' hv'
          have hS := Lib.hid (sub_step s l k hlt)
          go_wp2_with fail
          refine (rWithout_any _ _ wr).mono ?_
          rintro e w2 ⟨rfl, hb2⟩
          rw [hS.out]
          have hw2 := Lib.hid (show Lst w2 (.slice (some ⟨g, 0, none⟩) l.length c) l ∧ Below w.heap.size w w2 from ⟨hw.out.1.below hb2, hw.out.2.trans (hb2.mono hw.out.2.size)⟩)
          go_wp2
          go_roundw
          case rel => exact ⟨k + 1, by omega, rfl, by go_num, hw2⟩
          case measure => simp [intOf]; omega
        · have ht : l.take k = l := List.take_of_length_le (by omega)
          rw [ht]
          go_wp2_with fail
          refine (rWith_any _ _ _).mono ?_
          rintro e w2 ⟨rfl, rfl⟩
          go_wp2_with fail
          refine (rWith_any _ _ _).mono ?_
          rintro e w2 ⟨rfl, rfl⟩
          go_wp2
          go_ret
          exact ⟨ret_set HP.out, hw.out.2⟩
    · have e1 := passB_bad s a b (.inr (eq_false_of_ne_true hb))
      have hb := (adr_not b).1 (eq_false_of_ne_true hb)
      have ha := (adr_iff a).1 ha
      have p0 : decide (a < 0) = false := by simp; omega
      have p1 : decide ((31 : Int) < a) = false := by simp; omega
      rw [e1]
      by_cases hb0 : b < 0
      · have p2 : decide (b < 0) = true := by simpa using hb0
        go_enter Tryd.func32, Tryd.ntmps32
        go_wp2
        go_ret
        exact ⟨rfl, Below.refl _ _⟩
      · have p2 : decide (b < 0) = false := by simpa using hb0
        have p3 : decide ((31 : Int) < b) = true := by simp; omega
        go_enter Tryd.func32, Tryd.ntmps32
        go_wp2
        go_ret
        exact ⟨rfl, Below.refl _ _⟩
  · have e1 := passB_bad s a b (.inl (eq_false_of_ne_true ha))
    have ha := (adr_not a).1 (eq_false_of_ne_true ha)
    rw [e1]
    by_cases ha0 : a < 0
    · have p2 : decide (a < 0) = true := by simpa using ha0
      go_enter Tryd.func32, Tryd.ntmps32
      go_wp2
      go_ret
      exact ⟨rfl, Below.refl _ _⟩
    · have p2 : decide (a < 0) = false := by simpa using ha0
      have p3 : decide ((31 : Int) < a) = true := by simp; omega
      go_enter Tryd.func32, Tryd.ntmps32
      go_wp2
      go_ret
      exact ⟨rfl, Below.refl _ _⟩

theorem gapB_bad (s : St) (a top : Int) (h : adr a = false) : gapB s a top = 0#32 := by
  have e : betw a (if nextI s a < 0 then a else nextI s a) = 0#32 := by unfold betw; rw [h]; rfl
  unfold gapB
  rw [e]
  simp

set_option maxRecDepth 100000 in
set_option maxHeartbeats 4000000 in
theorem rGap_any (s : St) (a top : Int) (w : World) : Calls Tryd.prog 34 #[sv s, .int .i64 a, .int .i64 top] w fun e w' => e = .returned (sv (gapB s a top)) ∧ Below w.heap.size w w' := by
  by_cases ha : adr a = true
  · have ha1 := (adr_iff a).1 ha
    have p0 : decide (a < 0) = false := by simp; omega
    have p1 : decide ((31 : Int) < a) = false := by simp; omega
    have H0 := Lib.hid (gol_nil top)
    obtain ⟨n, hn⟩ : ∃ n, n = nextI s a := ⟨_, rfl⟩
    obtain ⟨n2, hn2⟩ : ∃ n2, n2 = if nextI s a < 0 then a else nextI s a := ⟨_, rfl⟩
    have HG := Lib.hid (show gol top (listB (betw a n2)) = gapB s a top by rw [hn2]; exact ofL_gap s a top)
    have hnx := Lib.hid (rNext_any s a w)
    rw [← hn] at hnx hn2
    have hl := listB_len (betw a n2)
    have hr := rList_any (betw a n2)
    generalize listB (betw a n2) = l at *
    have hl' : (l.length : Int) ≤ 32 := by omega
    have HR := Lib.hid hr
    clear hr hn
    have key : ∀ w1, Below w.heap.size w w1 → ∀ w2 v, Lst w2 v l → Below w1.heap.size w1 w2 → Below w.heap.size w w2 := fun w1 h1 w2 v _ h2 => h1.trans (h2.mono h1.size)
    have KEY := Lib.hid key
    clear key
    by_cases hneg : n < 0
    · have q0 : decide (n < 0) = true := by simpa using hneg
      rw [if_pos hneg] at hn2
      subst hn2
      go_enter Tryd.func34, Tryd.ntmps34
      go_wp2_with fail
      refine (hnx.out).mono ?_
      rintro e w1 ⟨rfl, hb1⟩
      go_wp2_with fail
      refine (rBetween_any n2 n2 w1).mono ?_
      rintro e w2 ⟨rfl, rfl⟩
      go_wp2_with fail
      refine (HR.out w1).mono ?_
      rintro e w2 ⟨v, rfl, hv, hb2⟩
      have HB := Lib.hid (KEY.out w1 hb1 w2 v hv hb2)
      obtain ⟨A, c, rfl, hc⟩ := hv
      have HC := Lib.hid hc
      clear hc hb1 hb2
      go_wp2
      go_loop [9, 10] (fun x i => ∃ k : Nat, k ≤ l.length ∧ x = sv (gol top (l.take k)) ∧ i = .int .i64 k) (fun _ i => l.length - (intOf i).toNat)
      case atStart => exact ⟨0, Nat.zero_le _, by rw [List.take_zero, H0.out]; rfl, rfl⟩
      case round =>
        obtain ⟨k, hk, rfl, rfl⟩ := hrel
        by_cases hlt : k < l.length
        · obtain ⟨g, rfl, _, hcell⟩ := HC.out k hlt
          have hx := hcell k _ (List.getElem?_eq_getElem hlt)
          clear hcell
          by_cases hne : ((l[k] : Nat) : Int) ≤ top
          · have e1 : decide (((l[k] : Nat) : Int) ≤ top) = true := by simpa using hne
            have hS := Lib.hid (gol_yes top l k hlt hne)
            go_wp2_with fail
            refine (rWith_any _ _ _).mono ?_
            rintro e w2 ⟨rfl, rfl⟩
            rw [hS.out]
            go_wp2
            go_round
            case rel => exact ⟨k + 1, by omega, rfl, by go_num⟩
            case measure => simp [intOf]; omega
          · have e1 : decide (((l[k] : Nat) : Int) ≤ top) = false := by simpa using hne
            have hS := Lib.hid (gol_no top l k hlt hne)
            go_wp2
            go_round
            case rel => exact ⟨k + 1, by omega, by rw [hS.out], by go_num⟩
            case measure => simp [intOf]; omega
        · go_wp2
          go_ret
          exact ⟨ret_set (by rw [List.take_of_length_le (by omega), HG.out]), HB.out⟩
    · have q0 : decide (n < 0) = false := by simpa using hneg
      rw [if_neg hneg] at hn2
      subst hn2
      go_enter Tryd.func34, Tryd.ntmps34
      go_wp2_with fail
      refine (hnx.out).mono ?_
      rintro e w1 ⟨rfl, hb1⟩
      go_wp2_with fail
      refine (rBetween_any a n2 w1).mono ?_
      rintro e w2 ⟨rfl, rfl⟩
      go_wp2_with fail
      refine (HR.out w1).mono ?_
      rintro e w2 ⟨v, rfl, hv, hb2⟩
      have HB := Lib.hid (KEY.out w1 hb1 w2 v hv hb2)
      obtain ⟨A, c, rfl, hc⟩ := hv
      have HC := Lib.hid hc
      clear hc hb1 hb2
      go_wp2
      go_loop [9, 10] (fun x i => ∃ k : Nat, k ≤ l.length ∧ x = sv (gol top (l.take k)) ∧ i = .int .i64 k) (fun _ i => l.length - (intOf i).toNat)
      case atStart => exact ⟨0, Nat.zero_le _, by rw [List.take_zero, H0.out]; rfl, rfl⟩
      case round =>
        obtain ⟨k, hk, rfl, rfl⟩ := hrel
        by_cases hlt : k < l.length
        · obtain ⟨g, rfl, _, hcell⟩ := HC.out k hlt
          have hx := hcell k _ (List.getElem?_eq_getElem hlt)
          clear hcell
          by_cases hne : ((l[k] : Nat) : Int) ≤ top
          · have e1 : decide (((l[k] : Nat) : Int) ≤ top) = true := by simpa using hne
            have hS := Lib.hid (gol_yes top l k hlt hne)
            go_wp2_with fail
            refine (rWith_any _ _ _).mono ?_
            rintro e w2 ⟨rfl, rfl⟩
            rw [hS.out]
            go_wp2
            go_round
            case rel => exact ⟨k + 1, by omega, rfl, by go_num⟩
            case measure => simp [intOf]; omega
          · have e1 : decide (((l[k] : Nat) : Int) ≤ top) = false := by simpa using hne
            have hS := Lib.hid (gol_no top l k hlt hne)
            go_wp2
            go_round
            case rel => exact ⟨k + 1, by omega, by rw [hS.out], by go_num⟩
            case measure => simp [intOf]; omega
        · go_wp2
          go_ret
          exact ⟨ret_set (by rw [List.take_of_length_le (by omega), HG.out]), HB.out⟩
  · have e1 := gapB_bad s a top (eq_false_of_ne_true ha)
    have ha := (adr_not a).1 (eq_false_of_ne_true ha)
    rw [e1]
    by_cases ha0 : a < 0
    · have p2 : decide (a < 0) = true := by simpa using ha0
      go_enter Tryd.func34, Tryd.ntmps34
      go_wp2
      go_ret
      exact ⟨rfl, Below.refl _ _⟩
    · have p2 : decide (a < 0) = false := by simpa using ha0
      have p3 : decide ((31 : Int) < a) = true := by simp; omega
      go_enter Tryd.func34, Tryd.ntmps34
      go_wp2
      go_ret
      exact ⟨rfl, Below.refl _ _⟩

theorem max0_run (n : Int) (ts : Array TypeId) (t : TypeId) (W : World) : (Builtin.max_ ts t #[.int .i64 n, .int .i64 0]).run Tryd.prog W = .ok (.int .i64 (max n 0)) W := by
  rw [run_max_int2]
  congr 2
  split <;> omega

theorem lsame_any (n : Int) (w : World) : Calls Tryd.prog 25 #[.int .i64 (max n 0), .bool (decide (0 ≤ n)), .int .i64 n] w fun e w' => e = .returned (.bool true) ∧ w = w' := by
  have hm := max0_run n
  by_cases h : 0 ≤ n
  · have h1 : decide (0 ≤ n) = true := by simpa using h
    generalize max n 0 = m at *
    go_enter Tryd.func25, Tryd.ntmps25
    go_wp2
    go_ret
    exact ⟨rfl, rfl⟩
  · have h1 : decide (0 ≤ n) = false := by simpa using h
    generalize max n 0 = m at *
    go_enter Tryd.func25, Tryd.ntmps25
    go_wp2
    go_ret
    exact ⟨rfl, rfl⟩

set_option maxRecDepth 100000 in
set_option maxHeartbeats 4000000 in
theorem llist_any (l : List Nat) (hl : l.length ≤ 32) (u v : Value) (w : World) (hu : Lst w u l) (hv : Lst w v l) : Calls Tryd.prog 16 #[u, v] w fun e w' => e = .returned (.bool true) ∧ ∃ m, w' = w.drewN m := by
  obtain ⟨A, c, rfl, hc⟩ := hu
  obtain ⟨A2, c2, rfl, hc2⟩ := hv
  have HC := Lib.hid hc
  have HC2 := Lib.hid hc2
  have hl' : (l.length : Int) ≤ 32 := by omega
  clear hc hc2
  go_enter Tryd.func16, Tryd.ntmps16
  go_wp2
  go_loopw [13] (fun i wr => ∃ k m : Nat, k ≤ l.length ∧ i = .int .i64 k ∧ wr = w.drewN m) (fun i _ => l.length - (intOf i).toNat)
  case atStart => exact ⟨0, 0, Nat.zero_le _, rfl, rfl⟩
  case round =>
    obtain ⟨k, m, hk, rfl, rfl⟩ := hrel
    by_cases hlt : k < l.length
    · obtain ⟨g, rfl, _, hcell⟩ := HC.out k hlt
      have hx := hcell k _ (List.getElem?_eq_getElem hlt)
      obtain ⟨g2, rfl, _, hcell2⟩ := HC2.out k hlt
      have hx2 := hcell2 k _ (List.getElem?_eq_getElem hlt)
      clear hcell hcell2
      have hxm : (w.drewN m).cell? ⟨g, k, none⟩ = some (.int .i64 ((l[k] : Nat) : Int)) := hx
      have hxm2 : (w.drewN m).cell? ⟨g2, k, none⟩ = some (.int .i64 ((l[k] : Nat) : Int)) := hx2
      go_wp2
      go_quiet (fail)
      go_wp2
      go_roundw
      case rel => exact ⟨k + 1, m + nq, by omega, by go_num, by first | rfl | rw [World.drewN_drewN]⟩
      case measure => simp [intOf]; omega
    · go_wp2
      go_ret
      exact ⟨rfl, m, rfl⟩

end Go.Proofs.YtgeelnpdahlcpaaDoor
