/-
  The code's length and soonest answer as is asked of them. Conditions: none.
-/
import Derived.Test.YtmjbdpgjalkbpaaWhCode
import Derived.Test.YtmjbdpgjalkbpaaWhSoon
namespace Go.Proofs.Ytmjbdpgjalkbpaa.Whl
open Go.RowKit

/-- An element of an array that was loaded whole. -/
theorem run_at (arr : Array Value) (k : Nat) (v : Value) (w : World) (hk : k < 16) (h : arr[k]? = some v) : (Instr.index 27 (.agg arr) (.int .i64 (k : Int))).run Try.prog w = .ok v w := by
  have h1 : 0 ≤ (k : Int) ∧ (k : Int) < 16 := by omega
  simp [Instr.index, run_underlying Try.underlying27, asIntOf, h1, go_sem]
  rw [if_pos hk, h]
  rfl

set_option maxRecDepth 100000 in
set_option maxHeartbeats 4000000 in
theorem clen_any (p : Nat) (x : Wh) (w : World) (hx : RefAt w p x) :
    Calls Try.prog 18 #[.pointer (some ⟨p, 0, none⟩)] w (Tells (.int .i64 (lenTo x 16 : Nat)) w) := by
  have hc := fun i hi => (hx.2 i hi).1
  have c0 := hc 0 (by omega)
  have c1 := hc 1 (by omega)
  have c2 := hc 2 (by omega)
  have c3 := hc 3 (by omega)
  have c4 := hc 4 (by omega)
  have c5 := hc 5 (by omega)
  have c6 := hc 6 (by omega)
  have c7 := hc 7 (by omega)
  have c8 := hc 8 (by omega)
  have c9 := hc 9 (by omega)
  have c10 := hc 10 (by omega)
  have c11 := hc 11 (by omega)
  have c12 := hc 12 (by omega)
  have c13 := hc 13 (by omega)
  have c14 := hc 14 (by omega)
  have c15 := hc 15 (by omega)
  clear hc hx
  go_enter Try.func18, Try.ntmps18
  go_wp2
  have harr : ∀ k, k < 16 → (#[Value.int IntKind.i64 ((x[0]?.getD 0 : Nat) : Int), Value.int IntKind.i64 ((x[1]?.getD 0 : Nat) : Int), Value.int IntKind.i64 ((x[2]?.getD 0 : Nat) : Int), Value.int IntKind.i64 ((x[3]?.getD 0 : Nat) : Int), Value.int IntKind.i64 ((x[4]?.getD 0 : Nat) : Int), Value.int IntKind.i64 ((x[5]?.getD 0 : Nat) : Int), Value.int IntKind.i64 ((x[6]?.getD 0 : Nat) : Int), Value.int IntKind.i64 ((x[7]?.getD 0 : Nat) : Int), Value.int IntKind.i64 ((x[8]?.getD 0 : Nat) : Int), Value.int IntKind.i64 ((x[9]?.getD 0 : Nat) : Int), Value.int IntKind.i64 ((x[10]?.getD 0 : Nat) : Int), Value.int IntKind.i64 ((x[11]?.getD 0 : Nat) : Int), Value.int IntKind.i64 ((x[12]?.getD 0 : Nat) : Int), Value.int IntKind.i64 ((x[13]?.getD 0 : Nat) : Int), Value.int IntKind.i64 ((x[14]?.getD 0 : Nat) : Int), Value.int IntKind.i64 ((x[15]?.getD 0 : Nat) : Int)] : Array Value)[k]? = some (.int .i64 ((x.getD k 0 : Nat) : Int)) := by
    intro k hk
    match k, hk with
    | 0, _ | 1, _ | 2, _ | 3, _ | 4, _ | 5, _ | 6, _ | 7, _ | 8, _ | 9, _ | 10, _ | 11, _ | 12, _ | 13, _ | 14, _ | 15, _ => simp [List.getD_eq_getElem?_getD]
    | n + 16, h => exact absurd h (by omega)
  have hsz : (#[Value.int IntKind.i64 ((x[0]?.getD 0 : Nat) : Int), Value.int IntKind.i64 ((x[1]?.getD 0 : Nat) : Int), Value.int IntKind.i64 ((x[2]?.getD 0 : Nat) : Int), Value.int IntKind.i64 ((x[3]?.getD 0 : Nat) : Int), Value.int IntKind.i64 ((x[4]?.getD 0 : Nat) : Int), Value.int IntKind.i64 ((x[5]?.getD 0 : Nat) : Int), Value.int IntKind.i64 ((x[6]?.getD 0 : Nat) : Int), Value.int IntKind.i64 ((x[7]?.getD 0 : Nat) : Int), Value.int IntKind.i64 ((x[8]?.getD 0 : Nat) : Int), Value.int IntKind.i64 ((x[9]?.getD 0 : Nat) : Int), Value.int IntKind.i64 ((x[10]?.getD 0 : Nat) : Int), Value.int IntKind.i64 ((x[11]?.getD 0 : Nat) : Int), Value.int IntKind.i64 ((x[12]?.getD 0 : Nat) : Int), Value.int IntKind.i64 ((x[13]?.getD 0 : Nat) : Int), Value.int IntKind.i64 ((x[14]?.getD 0 : Nat) : Int), Value.int IntKind.i64 ((x[15]?.getD 0 : Nat) : Int)] : Array Value).size = 16 := rfl
  generalize (#[Value.int IntKind.i64 ((x[0]?.getD 0 : Nat) : Int), Value.int IntKind.i64 ((x[1]?.getD 0 : Nat) : Int), Value.int IntKind.i64 ((x[2]?.getD 0 : Nat) : Int), Value.int IntKind.i64 ((x[3]?.getD 0 : Nat) : Int), Value.int IntKind.i64 ((x[4]?.getD 0 : Nat) : Int), Value.int IntKind.i64 ((x[5]?.getD 0 : Nat) : Int), Value.int IntKind.i64 ((x[6]?.getD 0 : Nat) : Int), Value.int IntKind.i64 ((x[7]?.getD 0 : Nat) : Int), Value.int IntKind.i64 ((x[8]?.getD 0 : Nat) : Int), Value.int IntKind.i64 ((x[9]?.getD 0 : Nat) : Int), Value.int IntKind.i64 ((x[10]?.getD 0 : Nat) : Int), Value.int IntKind.i64 ((x[11]?.getD 0 : Nat) : Int), Value.int IntKind.i64 ((x[12]?.getD 0 : Nat) : Int), Value.int IntKind.i64 ((x[13]?.getD 0 : Nat) : Int), Value.int IntKind.i64 ((x[14]?.getD 0 : Nat) : Int), Value.int IntKind.i64 ((x[15]?.getD 0 : Nat) : Int)] : Array Value) = arr at *
  have HA := Lib.hid harr
  clear harr c0 c1 c2 c3 c4 c5 c6 c7 c8 c9 c10 c11 c12 c13 c14 c15
  go_loop [3, 12] (fun n i => ∃ k : Nat, k ≤ 16 ∧ n = .int .i64 ((lenTo x k : Nat) : Int) ∧ i = .int .i64 k) (fun _ i => 16 - (intOf i).toNat)
  case atStart => exact ⟨0, Nat.zero_le _, rfl, rfl⟩
  case round =>
    obtain ⟨k, hk, rfl, rfl⟩ := hrel
    by_cases hlt : k < 16
    · have ha := HA.out k hlt
      have hs : lenTo x (k + 1) = if 0 < x.getD k 0 then lenTo x k + 1 else lenTo x k := rfl
      have hle := lenTo_le x k
      generalize x.getD k 0 = v at *
      have hat := fun W => run_at arr k _ W hlt ha
      by_cases hv : 0 < v
      · have HE := Lib.hid (hs.trans (if_pos hv))
        have hvi : (0 : Int) < v := by omega
        clear hs hv ha
        go_wp2
        go_round
        case rel => exact ⟨k + 1, by omega, by rw [HE.out]; go_num, by go_num⟩
        case measure => simp [intOf]; omega
      · have HE := Lib.hid (hs.trans (if_neg hv))
        have hvi : ¬ (0 : Int) < v := by omega
        clear hs hv ha
        go_wp2
        go_round
        case rel => exact ⟨k + 1, by omega, by rw [HE.out], by go_num⟩
        case measure => simp [intOf]; omega
    · obtain rfl : k = 16 := by omega
      go_wp2
      go_ret
      exact ⟨rfl, Below.refl _ _⟩

set_option maxRecDepth 100000 in
set_option maxHeartbeats 4000000 in
theorem csoon_any (p : Nat) (x : Wh) (w : World) (hx : RefAt w p x) :
    Calls Try.prog 20 #[.pointer (some ⟨p, 0, none⟩)] w (Tells (.tuple #[.int .i64 (soonTo x 16 : Nat), .bool (decide (0 < lenTo x 16))]) w) := by
  have hc := fun i hi => (hx.2 i hi).1
  have HOk := Lib.hid hx.1
  have c0 := hc 0 (by omega)
  have c1 := hc 1 (by omega)
  have c2 := hc 2 (by omega)
  have c3 := hc 3 (by omega)
  have c4 := hc 4 (by omega)
  have c5 := hc 5 (by omega)
  have c6 := hc 6 (by omega)
  have c7 := hc 7 (by omega)
  have c8 := hc 8 (by omega)
  have c9 := hc 9 (by omega)
  have c10 := hc 10 (by omega)
  have c11 := hc 11 (by omega)
  have c12 := hc 12 (by omega)
  have c13 := hc 13 (by omega)
  have c14 := hc 14 (by omega)
  have c15 := hc 15 (by omega)
  clear hc hx
  go_enter Try.func20, Try.ntmps20
  go_wp2
  have harr : ∀ k, k < 16 → (#[Value.int IntKind.i64 ((x[0]?.getD 0 : Nat) : Int), Value.int IntKind.i64 ((x[1]?.getD 0 : Nat) : Int), Value.int IntKind.i64 ((x[2]?.getD 0 : Nat) : Int), Value.int IntKind.i64 ((x[3]?.getD 0 : Nat) : Int), Value.int IntKind.i64 ((x[4]?.getD 0 : Nat) : Int), Value.int IntKind.i64 ((x[5]?.getD 0 : Nat) : Int), Value.int IntKind.i64 ((x[6]?.getD 0 : Nat) : Int), Value.int IntKind.i64 ((x[7]?.getD 0 : Nat) : Int), Value.int IntKind.i64 ((x[8]?.getD 0 : Nat) : Int), Value.int IntKind.i64 ((x[9]?.getD 0 : Nat) : Int), Value.int IntKind.i64 ((x[10]?.getD 0 : Nat) : Int), Value.int IntKind.i64 ((x[11]?.getD 0 : Nat) : Int), Value.int IntKind.i64 ((x[12]?.getD 0 : Nat) : Int), Value.int IntKind.i64 ((x[13]?.getD 0 : Nat) : Int), Value.int IntKind.i64 ((x[14]?.getD 0 : Nat) : Int), Value.int IntKind.i64 ((x[15]?.getD 0 : Nat) : Int)] : Array Value)[k]? = some (.int .i64 ((x.getD k 0 : Nat) : Int)) := by
    intro k hk
    match k, hk with
    | 0, _ | 1, _ | 2, _ | 3, _ | 4, _ | 5, _ | 6, _ | 7, _ | 8, _ | 9, _ | 10, _ | 11, _ | 12, _ | 13, _ | 14, _ | 15, _ => simp [List.getD_eq_getElem?_getD]
    | n + 16, h => exact absurd h (by omega)
  have hsz : (#[Value.int IntKind.i64 ((x[0]?.getD 0 : Nat) : Int), Value.int IntKind.i64 ((x[1]?.getD 0 : Nat) : Int), Value.int IntKind.i64 ((x[2]?.getD 0 : Nat) : Int), Value.int IntKind.i64 ((x[3]?.getD 0 : Nat) : Int), Value.int IntKind.i64 ((x[4]?.getD 0 : Nat) : Int), Value.int IntKind.i64 ((x[5]?.getD 0 : Nat) : Int), Value.int IntKind.i64 ((x[6]?.getD 0 : Nat) : Int), Value.int IntKind.i64 ((x[7]?.getD 0 : Nat) : Int), Value.int IntKind.i64 ((x[8]?.getD 0 : Nat) : Int), Value.int IntKind.i64 ((x[9]?.getD 0 : Nat) : Int), Value.int IntKind.i64 ((x[10]?.getD 0 : Nat) : Int), Value.int IntKind.i64 ((x[11]?.getD 0 : Nat) : Int), Value.int IntKind.i64 ((x[12]?.getD 0 : Nat) : Int), Value.int IntKind.i64 ((x[13]?.getD 0 : Nat) : Int), Value.int IntKind.i64 ((x[14]?.getD 0 : Nat) : Int), Value.int IntKind.i64 ((x[15]?.getD 0 : Nat) : Int)] : Array Value).size = 16 := rfl
  generalize (#[Value.int IntKind.i64 ((x[0]?.getD 0 : Nat) : Int), Value.int IntKind.i64 ((x[1]?.getD 0 : Nat) : Int), Value.int IntKind.i64 ((x[2]?.getD 0 : Nat) : Int), Value.int IntKind.i64 ((x[3]?.getD 0 : Nat) : Int), Value.int IntKind.i64 ((x[4]?.getD 0 : Nat) : Int), Value.int IntKind.i64 ((x[5]?.getD 0 : Nat) : Int), Value.int IntKind.i64 ((x[6]?.getD 0 : Nat) : Int), Value.int IntKind.i64 ((x[7]?.getD 0 : Nat) : Int), Value.int IntKind.i64 ((x[8]?.getD 0 : Nat) : Int), Value.int IntKind.i64 ((x[9]?.getD 0 : Nat) : Int), Value.int IntKind.i64 ((x[10]?.getD 0 : Nat) : Int), Value.int IntKind.i64 ((x[11]?.getD 0 : Nat) : Int), Value.int IntKind.i64 ((x[12]?.getD 0 : Nat) : Int), Value.int IntKind.i64 ((x[13]?.getD 0 : Nat) : Int), Value.int IntKind.i64 ((x[14]?.getD 0 : Nat) : Int), Value.int IntKind.i64 ((x[15]?.getD 0 : Nat) : Int)] : Array Value) = arr at *
  have HA := Lib.hid harr
  clear harr c0 c1 c2 c3 c4 c5 c6 c7 c8 c9 c10 c11 c12 c13 c14 c15
  go_loop [4, 13] (fun n i => ∃ k : Nat, k ≤ 16 ∧ n = .int .i64 ((soonTo x k : Nat) : Int) ∧ i = .int .i64 k) (fun _ i => 16 - (intOf i).toNat)
  case atStart => exact ⟨0, Nat.zero_le _, rfl, rfl⟩
  case round =>
    obtain ⟨k, hk, rfl, rfl⟩ := hrel
    by_cases hlt : k < 16
    · have ha := HA.out k hlt
      have hs : soonTo x (k + 1) = lessOf (soonTo x k) (x.getD k 0) := rfl
      have hle := HOk.out.le k
      have hsl := soonTo_le HOk.out k
      have HS := Lib.hid hs
      clear hs
      generalize soonTo x k = s at *
      generalize x.getD k 0 = v at *
      have hat := fun W => run_at arr k _ W hlt ha
      clear ha
      by_cases h0 : v = 0
      · subst h0
        have HE := Lib.hid (HS.out.trans (less_no s))
        go_wp2
        go_round
        case rel => exact ⟨k + 1, by omega, by rw [HE.out], by go_num⟩
        case measure => simp [intOf]; omega
      · have hv0 : (0 : Int) < v := by omega
        have hv1 : (v : Int) ≤ 10000 := by omega
        by_cases hs0 : s = 0
        · subst hs0
          have HE := Lib.hid (HS.out.trans (less_yes ⟨h0, .inl rfl⟩))
          clear h0 hle
          go_wp2
          go_round
          case rel => exact ⟨k + 1, by omega, by rw [HE.out], by go_num⟩
          case measure => simp [intOf]; omega
        · have hs1 : ¬ (s : Int) = 0 := by omega
          by_cases hvs : v < s
          · have HE := Lib.hid (HS.out.trans (less_yes ⟨h0, .inr hvs⟩))
            have hvs1 : (v : Int) < s := by omega
            clear h0 hle hs0 hvs
            go_wp2
            go_round
            case rel => exact ⟨k + 1, by omega, by rw [HE.out], by go_num⟩
            case measure => simp [intOf]; omega
          · have HE := Lib.hid (HS.out.trans (less_not (fun h => h.2.elim hs0 hvs)))
            have hvs1 : ¬ (v : Int) < s := by omega
            clear h0 hle hs0 hvs
            go_wp2
            go_round
            case rel => exact ⟨k + 1, by omega, by rw [HE.out], by go_num⟩
            case measure => simp [intOf]; omega
    · obtain rfl : k = 16 := by omega
      have hz := soonTo_zero x 16
      have hd : decide (0 < lenTo x 16) = decide (0 < soonTo x 16) := by rw [decide_eq_decide]; omega
      clear hz
      go_wp2
      go_ret2
      exact ⟨rfl, Below.refl _ _⟩

end Go.Proofs.Ytmjbdpgjalkbpaa.Whl
