/-
  The reference's sets, and lists of addresses, walked. Conditions: none.
-/
import Derived.Test.YthepnckbooioeaaMemBase
import Derived.Maps.AppendAt
import Derived.Laws.OwnMore
import Derived.OwnWalk
import Derived.Laws.MakeOwn
namespace Go.Proofs.Ythepnckbooioeaa.Mem
open Go.RowKit

theorem Try.infoInt : (Try.prog.info? 3).map (fun i => (i.zero, i.size, i.bytes)) = some (some (.int .i64 0), 1, 8) := by kernel_rfl
theorem info_parts {P : Program} {t : TypeId} {z : Option Value} {a b : Nat} (h : (P.info? t).map (fun i => (i.zero, i.size, i.bytes)) = some (z, a, b)) :
    ∃ i, P.info? t = some i ∧ i.zero = z ∧ i.size = a ∧ i.bytes = b := by
  cases h2 : P.info? t with
  | none => simp [h2] at h
  | some i =>
    simp only [h2, Option.map_some, Option.some.injEq, Prod.mk.injEq] at h
    exact ⟨i, rfl, h.1, h.2.1, h.2.2⟩

/-- Numbers as cells. -/
def ivals (l : List Nat) : List Value := l.map fun n : Nat => Value.int .i64 (n : Int)
theorem ivals_len (l : List Nat) : (ivals l).length = l.length := by simp [ivals]

/-- A slice that reads as these numbers. -/
def Lst (w : World) (v : Value) (l : List Nat) : Prop :=
  ∃ A c, v = .slice A l.length c ∧ ∀ i, i < l.length → ∃ g, A = some ⟨g, 0, none⟩ ∧ g < w.heap.size ∧ ∀ (j x : Nat), l[j]? = some x → w.cell? ⟨g, j, none⟩ = some (.int .i64 (x : Int))
theorem Lst.below {w w' : World} {v : Value} {l : List Nat} (h : Lst w v l) (hb : Below w.heap.size w w') : Lst w' v l := by
  obtain ⟨A, c, hv, h⟩ := h
  refine ⟨A, c, hv, fun i hi => ?_⟩
  obtain ⟨g, hA, hg, hc⟩ := h i hi
  refine ⟨g, hA, Nat.lt_of_lt_of_le hg hb.size, fun j x hx => ?_⟩
  rw [← hc j x hx]
  exact World.cell?_of_block (hb.block g hg)
theorem Lst.of_own {w : World} {base n : Nat} {v : Value} {l : List Nat} (h : w.ownsRow base 3 1 v n (ivals l)) : Lst w v l := by
  have hn : n = l.length := by have := h.1; rw [ivals_len] at this; omega
  subst hn
  rcases h.2 with ⟨hv, h0⟩ | ⟨g, cap, cur, rfl, hb, hg, _⟩
  · exact ⟨none, 0, by rw [h0]; exact hv, fun i hi => by omega⟩
  · refine ⟨_, _, rfl, fun i hi => ⟨g, rfl, ?_, fun j x hx => ?_⟩⟩
    · rcases Nat.lt_or_ge g w.heap.size with hl | hl
      · exact hl
      · rw [Array.getElem?_eq_none hl] at hg; simp at hg
    · have hj : j < l.length := (List.getElem?_eq_some_iff.1 hx).1
      rw [h.cellAt j (by omega)]
      simp [ivals, hx]

theorem own_base {w : World} {base n size : Nat} {e : TypeId} {v : Value} {xs : List Value} (h : w.ownsRow base e size v n xs) (g : Nat) (hg : v.ownBlock = some g) : base ≤ g := by
  rcases h.2 with ⟨rfl, _⟩ | ⟨g', cap, cur, rfl, hb, _⟩
  · simp [Value.ownBlock] at hg
  · simp [Value.ownBlock] at hg; omega
theorem own_form {w : World} {base n size : Nat} {e : TypeId} {v : Value} {xs : List Value} (h : w.ownsRow base e size v n xs) : ∃ A c, v = .slice A n c := by
  rcases h.2 with ⟨rfl, h0⟩ | ⟨g', cap, cur, rfl, _⟩
  · exact ⟨none, 0, by rw [h0]⟩
  · exact ⟨_, _, rfl⟩

/-- What a set has below k. -/
def upto (s : St) (k : Nat) : List Nat := (List.range k).filter fun a => s.getLsbD a
theorem upto_zero (s : St) : upto s 0 = [] := rfl
theorem upto_all (s : St) : upto s 32 = listB s := rfl
theorem upto_yes (s : St) (k : Nat) (h : s.getLsbD k = true) : upto s (k + 1) = upto s k ++ [k] := by
  unfold upto
  rw [List.range_succ, List.filter_append]
  simp [h]
theorem upto_no (s : St) (k : Nat) (h : s.getLsbD k = false) : upto s (k + 1) = upto s k := by
  unfold upto
  rw [List.range_succ, List.filter_append]
  simp [h]
theorem upto_len (s : St) (k : Nat) : (upto s k).length ≤ k := by
  have := List.length_filter_le (fun a => s.getLsbD a) (List.range k)
  simpa [upto] using this

theorem half (x k : Nat) : ((x / 2 ^ k : Nat) : Int) / 2 = ((x / 2 ^ (k + 1) : Nat) : Int) := by
  rw [Nat.pow_succ, ← Nat.div_div_eq_div_mul]
  omega

theorem bit_at (s : St) (i : Nat) : (((s.toNat / 2 ^ i : Nat) : Int) % 2 == 1) = s.getLsbD i := by
  unfold BitVec.getLsbD
  rw [Nat.testBit_eq_decide_div_mod_eq, Bool.eq_iff_iff]
  simp only [beq_iff_eq, decide_eq_true_eq]
  omega

set_option maxHeartbeats 800000 in
theorem rHas_any (s : St) (a : Int) (w : World) : Calls Try.prog 40 #[sv s, .int .i64 a] w fun e w' => e = .returned (.bool (hasB s a)) ∧ w = w' := by
  by_cases h0 : a < 0
  · have e1 : hasB s a = false := by unfold hasB; rw [(adr_not a).2 (by omega)]; rfl
    rw [e1]
    go_enter Try.func40, Try.ntmps40
    go_wp2
    go_ret
    exact ⟨rfl, rfl⟩
  · by_cases h1 : 31 < a
    · have e1 : hasB s a = false := by unfold hasB; rw [(adr_not a).2 (by omega)]; rfl
      rw [e1]
      go_enter Try.func40, Try.ntmps40
      go_wp2
      go_ret
      exact ⟨rfl, rfl⟩
    · obtain ⟨i, rfl⟩ := Int.eq_ofNat_of_zero_le (show 0 ≤ a by omega)
      rw [hasB_nat]
      have hi : i < 32 := by omega
      have h1 : decide ((31 : Int) < (i : Int)) = false := by simp; omega
      have hl := Lib.hid s.isLt
      go_enter Try.func40, Try.ntmps40
      go_wp2
      go_loop [0, 5] (fun x j => ∃ k : Nat, k ≤ i ∧ x = .int .u32 ((s.toNat / 2 ^ k : Nat) : Int) ∧ j = .int .i64 k) (fun _ j => i - (intOf j).toNat)
      case atStart => exact ⟨0, Nat.zero_le _, by simp, rfl⟩
      case round =>
        obtain ⟨k, hk, rfl, rfl⟩ := hrel
        by_cases hlt : k < i
        · have e1 := half s.toNat k
          have e2 : decide ((k : Int) < (i : Int)) = true := by simp; omega
          obtain ⟨y, hy⟩ : ∃ y, Hid (y = s.toNat / 2 ^ (k + 1)) := ⟨_, Lib.hid rfl⟩
          have e3 : (y : Int) % 4294967296 = y := by
            have := hl.out
            have := Nat.div_le_self s.toNat (2 ^ (k + 1))
            have := hy.out
            omega
          rw [← hy.out] at e1
          generalize s.toNat / 2 ^ k = x at *
          go_wp2
          go_round
          case rel => exact ⟨k + 1, by omega, by rw [hy.out], by go_num⟩
          case measure => simp [intOf]; omega
        · obtain rfl : k = i := by omega
          have e1 := Lib.hid (bit_at s k)
          generalize s.toNat / 2 ^ k = x at *
          go_wp2
          go_ret
          exact ⟨ret_bool e1.out, rfl⟩

theorem add_one_bit (s : St) (i : Nat) (hi : i < 32) (h : s.getLsbD i = false) : ((s.toNat : Int) + ((2 ^ i : Nat) : Int)) % 4294967296 = ((withB s i).toNat : Int) := by
  have ha : adr (i : Int) = true := (adr_iff _).2 (by omega)
  have e : withB s i = s + BitVec.twoPow 32 i := by
    unfold withB one
    rw [if_pos ha]
    rw [BitVec.add_eq_or_of_and_eq_zero]
    · rfl
    · apply st_ext
      intro j hj
      rw [BitVec.getLsbD_and, BitVec.getLsbD_twoPow]
      by_cases e : i = j
      · subst e; rw [h]; simp
      · simp [e]
  rw [e, BitVec.toNat_add, BitVec.toNat_twoPow]
  omega
theorem withB_has (s : St) (a : Int) (h : adr a = false ∨ hasB s a = true) : withB s a = s := by
  apply st_ext
  intro i hi
  rw [withB_bit _ _ _ hi]
  by_cases e : a = (i : Int)
  · subst e
    rw [hasB_nat] at h
    rcases h with h | h
    · have := (adr_not _).1 h; omega
    · rw [h]; rfl
  · simp [e]

set_option maxHeartbeats 800000 in
theorem rWith_any (s : St) (a : Int) (w : World) : Calls Try.prog 45 #[sv s, .int .i64 a] w fun e w' => e = .returned (sv (withB s a)) ∧ w = w' := by
  by_cases h0 : a < 0
  · rw [withB_has s a (.inl ((adr_not a).2 (by omega)))]
    go_enter Try.func45, Try.ntmps45
    go_wp2
    go_ret
    exact ⟨rfl, rfl⟩
  · by_cases h1 : 31 < a
    · rw [withB_has s a (.inl ((adr_not a).2 (by omega)))]
      go_enter Try.func45, Try.ntmps45
      go_wp2
      go_ret
      exact ⟨rfl, rfl⟩
    · obtain ⟨i, rfl⟩ := Int.eq_ofNat_of_zero_le (show 0 ≤ a by omega)
      have hi : i < 32 := by omega
      have h1 : decide ((31 : Int) < (i : Int)) = false := by simp; omega
      by_cases hh : hasB s i = true
      · rw [withB_has s i (.inr hh)]
        go_enter Try.func45, Try.ntmps45
        go_wp2_with fail
        refine (rHas_any s i w).mono ?_
        rintro e w1 ⟨rfl, rfl⟩
        rw [hh]
        go_wp2
        go_ret
        exact ⟨rfl, rfl⟩
      · have hh := eq_false_of_ne_true hh
        have ho := Lib.hid (add_one_bit s i hi (by rw [← hasB_nat]; exact hh))
        go_enter Try.func45, Try.ntmps45
        go_wp2_with fail
        refine (rHas_any s i w).mono ?_
        rintro e w1 ⟨rfl, rfl⟩
        rw [hh]
        go_wp2
        go_loop [5, 6] (fun x j => ∃ k : Nat, k ≤ i ∧ x = .int .u32 ((2 ^ k : Nat) : Int) ∧ j = .int .i64 k) (fun _ j => i - (intOf j).toNat)
        case atStart => exact ⟨0, Nat.zero_le _, rfl, rfl⟩
        case round =>
          obtain ⟨k, hk, rfl, rfl⟩ := hrel
          by_cases hlt : k < i
          · have e1 : IntKind.u32.wrap (((2 ^ k : Nat) : Int) * 2) = ((2 ^ (k + 1) : Nat) : Int) := by
              have : 2 ^ k < 2 ^ 31 := Nat.pow_lt_pow_of_lt (by omega) (by omega)
              rw [IntKind.wrap_u32, Nat.pow_succ]
              omega
            have e2 : decide ((k : Int) < (i : Int)) = true := by simp; omega
            obtain ⟨y, hy⟩ : ∃ y, Hid (y = 2 ^ (k + 1)) := ⟨_, Lib.hid rfl⟩
            rw [← hy.out] at e1
            generalize 2 ^ k = x at *
            go_wp2
            go_round
            case rel => exact ⟨k + 1, by omega, by rw [hy.out], by go_num⟩
            case measure => simp [intOf]; omega
          · obtain rfl : k = i := by omega
            generalize 2 ^ k = x at *
            go_wp2
            go_ret
            exact ⟨ret_int (by first | exact ho.out | (rw [← ho.out, IntKind.wrap_u32])), rfl⟩

end Go.Proofs.Ythepnckbooioeaa.Mem
