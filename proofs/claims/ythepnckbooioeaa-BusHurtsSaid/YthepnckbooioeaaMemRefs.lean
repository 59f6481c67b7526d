/-
  The reference's sets by their lists, and who is next, walked. Conditions: none.
-/
import Derived.Test.YthepnckbooioeaaMemList
namespace Go.Proofs.Ythepnckbooioeaa.Mem
open Go.RowKit

/-- Some more. -/
def addL (s : St) (l : List Nat) : St := l.foldl (fun (t : St) (a : Nat) => withB t (a : Int)) s
def ofL (l : List Nat) : St := addL 0#32 l
/-- Some less. -/
def subL (s : St) (l : List Nat) : St := l.foldl (fun (t : St) (a : Nat) => woB t (a : Int)) s
theorem addL_bit (i : Nat) (hi : i < 32) : ∀ (l : List Nat) (s : St), (addL s l).getLsbD i = (s.getLsbD i || decide (i ∈ l))
  | [], s => by simp [addL]
  | a :: l, s => by
    have h := addL_bit i hi l (withB s a)
    unfold addL at *
    rw [List.foldl_cons, h, withB_bit _ _ _ hi]
    rw [Bool.eq_iff_iff]
    simp only [Bool.or_eq_true, decide_eq_true_eq, List.mem_cons]
    constructor
    · rintro ((h1 | h1) | h1)
      · exact .inl h1
      · exact .inr (.inl (by omega))
      · exact .inr (.inr h1)
    · rintro (h1 | h1 | h1)
      · exact .inl (.inl h1)
      · exact .inl (.inr (by omega))
      · exact .inr h1
theorem subL_bit (i : Nat) (hi : i < 32) : ∀ (l : List Nat) (s : St), (subL s l).getLsbD i = (s.getLsbD i && !decide (i ∈ l))
  | [], s => by simp [subL]
  | a :: l, s => by
    have h := subL_bit i hi l (woB s a)
    unfold subL at *
    rw [List.foldl_cons, h, woB_bit _ _ _ hi]
    rw [Bool.eq_iff_iff]
    simp only [Bool.and_eq_true, Bool.not_eq_true', decide_eq_false_iff_not, List.mem_cons]
    constructor
    · rintro ⟨⟨h1, h2⟩, h3⟩
      exact ⟨h1, by rintro (h | h); (· omega); (· exact h3 h)⟩
    · rintro ⟨h1, h2⟩
      exact ⟨⟨h1, fun h => h2 (.inl (by omega))⟩, fun h => h2 (.inr h)⟩
theorem addL_snoc (s : St) (l : List Nat) (a : Nat) : addL s (l ++ [a]) = withB (addL s l) a := by simp [addL]
theorem subL_snoc (s : St) (l : List Nat) (a : Nat) : subL s (l ++ [a]) = woB (subL s l) a := by simp [subL]
theorem zero_bit (i : Nat) : (0#32).getLsbD i = false := by simp
theorem ofL_list (s : St) : ofL (listB s) = s := by
  apply st_ext
  intro i hi
  unfold ofL
  rw [addL_bit i hi, zero_bit]
  rw [Bool.eq_iff_iff]
  simp [listB_mem]
theorem ofL_without (s : St) (a : Int) : ofL ((listB s).filter fun x => decide ((x : Int) ≠ a)) = woB s a := by
  apply st_ext
  intro i hi
  unfold ofL
  rw [addL_bit i hi, zero_bit, woB_bit _ _ _ hi]
  rw [Bool.eq_iff_iff]
  simp only [Bool.false_or, decide_eq_true_eq, List.mem_filter, listB_mem, Bool.and_eq_true, Bool.not_eq_true', decide_eq_false_iff_not]
  constructor
  · rintro ⟨h1, h2⟩; exact ⟨h1, by omega⟩
  · rintro ⟨h1, h2⟩; exact ⟨h1, by omega⟩
theorem ofL_gap (s : St) (a top : Int) : ofL ((listB (betw a (if nextI s a < 0 then a else nextI s a))).filter fun x => decide ((x : Int) ≤ top)) = gapB s a top := by
  unfold gapB
  generalize betw a _ = t
  apply st_ext
  intro i hi
  unfold ofL
  rw [addL_bit i hi, zero_bit, BitVec.getLsbD_and, upB_bit _ _ hi]
  rw [Bool.eq_iff_iff]
  simp only [Bool.false_or, decide_eq_true_eq, List.mem_filter, listB_mem, Bool.and_eq_true]
theorem subL_pass (s t : St) : subL s (listB t) = s &&& ~~~ t := by
  apply st_ext
  intro i hi
  rw [subL_bit i hi, BitVec.getLsbD_and, BitVec.getLsbD_not]
  rw [Bool.eq_iff_iff]
  simp [listB_mem, hi]

theorem take_next (l : List Nat) (k : Nat) (h : k < l.length) : l.take (k + 1) = l.take k ++ [l[k]] := List.take_succ_eq_append_getElem h
theorem ftake_yes (p : Nat → Bool) (l : List Nat) (k : Nat) (h : k < l.length) (hp : p l[k] = true) : (l.take (k + 1)).filter p = (l.take k).filter p ++ [l[k]] := by
  rw [take_next l k h, List.filter_append]
  simp [hp]
theorem ftake_no (p : Nat → Bool) (l : List Nat) (k : Nat) (h : k < l.length) (hp : p l[k] = false) : (l.take (k + 1)).filter p = (l.take k).filter p := by
  rw [take_next l k h, List.filter_append]
  simp [hp]

/-- Those of a list but one; those up to top. -/
def wol (a : Int) (l : List Nat) : St := ofL (l.filter fun x => decide ((x : Int) ≠ a))
def gol (top : Int) (l : List Nat) : St := ofL (l.filter fun x => decide ((x : Int) ≤ top))
theorem wol_nil (a : Int) : wol a [] = 0#32 := rfl
theorem gol_nil (a : Int) : gol a [] = 0#32 := rfl
theorem wol_yes (a : Int) (l : List Nat) (k : Nat) (h : k < l.length) (hp : ¬ ((l[k] : Nat) : Int) = a) : withB (wol a (l.take k)) (l[k] : Nat) = wol a (l.take (k + 1)) := by
  unfold wol
  rw [ftake_yes _ l k h (by simp [hp])]
  exact (addL_snoc _ _ _).symm
theorem wol_no (a : Int) (l : List Nat) (k : Nat) (h : k < l.length) (hp : ((l[k] : Nat) : Int) = a) : wol a (l.take k) = wol a (l.take (k + 1)) := by
  unfold wol
  rw [ftake_no _ l k h (by simp [hp])]
theorem gol_yes (a : Int) (l : List Nat) (k : Nat) (h : k < l.length) (hp : ((l[k] : Nat) : Int) ≤ a) : withB (gol a (l.take k)) (l[k] : Nat) = gol a (l.take (k + 1)) := by
  unfold gol
  rw [ftake_yes _ l k h (by simp [hp])]
  exact (addL_snoc _ _ _).symm
theorem gol_no (a : Int) (l : List Nat) (k : Nat) (h : k < l.length) (hp : ¬ ((l[k] : Nat) : Int) ≤ a) : gol a (l.take k) = gol a (l.take (k + 1)) := by
  unfold gol
  rw [ftake_no _ l k h (by simp [hp])]

theorem ret_set {a b : St} (h : a = b) : Ending.returned (sv a) = .returned (sv b) := by rw [h]

set_option maxRecDepth 100000 in
set_option maxHeartbeats 2000000 in
theorem rWithout_any (s : St) (a : Int) (w : World) : Calls Try.prog 38 #[sv s, .int .i64 a] w fun e w' => e = .returned (sv (woB s a)) ∧ Below w.heap.size w w' := by
  have hw := Lib.hid (show wol a (listB s) = woB s a from ofL_without s a)
  have hl := listB_len s
  have hr := rList_any s w
  generalize listB s = l at *
  go_enter Try.func38, Try.ntmps38
  go_wp2_with fail
  refine hr.mono ?_
  rintro e w1 ⟨v, rfl, ⟨A, c, rfl, hc⟩, hb⟩
  have HC := Lib.hid hc
  have hl' : (l.length : Int) ≤ 32 := by omega
  clear hc hr
  have H0 := Lib.hid (wol_nil a)
  go_wp2
  go_loop [5, 7] (fun x i => ∃ k : Nat, k ≤ l.length ∧ x = sv (wol a (l.take k)) ∧ i = .int .i64 k) (fun _ i => l.length - (intOf i).toNat)
  case atStart => exact ⟨0, Nat.zero_le _, by rw [List.take_zero, H0.out]; rfl, rfl⟩
  case round =>
    obtain ⟨k, hk, rfl, rfl⟩ := hrel
    by_cases hlt : k < l.length
    · obtain ⟨g, rfl, _, hcell⟩ := HC.out k hlt
      have hx := hcell k _ (List.getElem?_eq_getElem hlt)
      clear hcell
      by_cases hne : ((l[k] : Nat) : Int) = a
      · have e1 : (((l[k] : Nat) : Int) != a) = false := by simp [hne]
        have hS := Lib.hid (wol_no a l k hlt hne)
        go_wp2
        go_round
        case rel => exact ⟨k + 1, by omega, by rw [hS.out], by go_num⟩
        case measure => simp [intOf]; omega
      · have e1 : (((l[k] : Nat) : Int) != a) = true := by simp [hne]
        have hS := Lib.hid (wol_yes a l k hlt hne)
        go_wp2_with fail
        refine (rWith_any _ _ _).mono ?_
        rintro e w2 ⟨rfl, rfl⟩
        rw [hS.out]
        go_wp2
        go_round
        case rel => exact ⟨k + 1, by omega, rfl, by go_num⟩
        case measure => simp [intOf]; omega
    · go_wp2
      go_ret
      exact ⟨ret_set (by rw [List.take_of_length_le (by omega), hw.out]), hb⟩

theorem turnFrom_step (s : St) (a f i : Nat) (j : Nat) (hj : (a + i) % 32 = j) : turnFrom s a (f + 1) i = if s.getLsbD j then (j : Int) else turnFrom s a f (i + 1) := by
  subst hj; rfl
theorem prevFrom_step (s : St) (a f i : Nat) (j : Nat) (hj : (a + 32 - i) % 32 = j) : prevFrom s a (f + 1) i = if s.getLsbD j then (j : Int) else prevFrom s a f (i + 1) := by
  subst hj; rfl

end Go.Proofs.Ythepnckbooioeaa.Mem
