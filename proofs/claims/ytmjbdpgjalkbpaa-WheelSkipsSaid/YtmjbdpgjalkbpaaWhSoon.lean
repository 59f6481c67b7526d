/-
  The reference's soonest, and the law's comparison of two lists, walked. Conditions: none.
-/
import Derived.Test.YtmjbdpgjalkbpaaWhTick
import Derived.BigQuiet
import Derived.Deep.QuietTactic
namespace Go.Proofs.Ytmjbdpgjalkbpaa.Whl
open Go.RowKit

theorem less_no (b : Nat) : lessOf b 0 = b := by unfold lessOf; rw [if_neg (by omega)]
theorem less_yes {b v : Nat} (h : v ≠ 0 ∧ (b = 0 ∨ v < b)) : lessOf b v = v := by unfold lessOf; rw [if_pos h]
theorem less_not {b v : Nat} (h : ¬ (v ≠ 0 ∧ (b = 0 ∨ v < b))) : lessOf b v = b := by unfold lessOf; rw [if_neg h]

set_option maxRecDepth 100000 in
set_option maxHeartbeats 4000000 in
theorem rsoon_any (b : Nat) (x : Wh) (w : World) (hx : RefAt w b x) :
    Calls Try.prog 22 #[.pointer (some ⟨b, 0, none⟩)] w fun e w' => e = .returned (.int .i64 (soonTo x 16 : Nat)) ∧ w = w' := by
  have HX := Lib.hid hx
  clear hx
  go_enter Try.func22, Try.ntmps22
  go_wp2
  go_loop [3, 4] (fun s i => ∃ k : Nat, k ≤ 16 ∧ s = .int .i64 ((soonTo x k : Nat) : Int) ∧ i = .int .i64 k) (fun _ i => 16 - (intOf i).toNat)
  case atStart => exact ⟨0, Nat.zero_le _, rfl, rfl⟩
  case round =>
    obtain ⟨k, hk, rfl, rfl⟩ := hrel
    by_cases hlt : k < 16
    · obtain ⟨c0, f0⟩ := HX.out.2 k hlt
      have hs : soonTo x (k + 1) = lessOf (soonTo x k) (x.getD k 0) := rfl
      have hle := HX.out.1.le k
      have hsl := soonTo_le HX.out.1 k
      have HS := Lib.hid hs
      clear hs f0
      generalize soonTo x k = s at *
      generalize x.getD k 0 = v at *
      by_cases h0 : v = 0
      · subst h0
        have HE := Lib.hid (HS.out.trans (less_no s))
        go_wp2
        go_round
        case rel => exact ⟨k + 1, by omega, by rw [HE.out], by go_num⟩
        case measure => simp [intOf]; omega
      · have hv0 : (0 : Int) < v := by omega
        have hv1 : (v : Int) ≤ 10000 := by omega
        by_cases hs0 : s = 0
        · subst hs0
          have HE := Lib.hid (HS.out.trans (less_yes ⟨h0, .inl rfl⟩))
          clear h0 hle
          go_wp2
          go_round
          case rel => exact ⟨k + 1, by omega, by rw [HE.out], by go_num⟩
          case measure => simp [intOf]; omega
        · have hs1 : ¬ (s : Int) = 0 := by omega
          by_cases hvs : v < s
          · have HE := Lib.hid (HS.out.trans (less_yes ⟨h0, .inr hvs⟩))
            have hvs1 : (v : Int) < s := by omega
            clear h0 hle hs0 hvs
            go_wp2
            go_round
            case rel => exact ⟨k + 1, by omega, by rw [HE.out], by go_num⟩
            case measure => simp [intOf]; omega
          · have HE := Lib.hid (HS.out.trans (less_not (fun h => h.2.elim hs0 hvs)))
            have hvs1 : ¬ (v : Int) < s := by omega
            clear h0 hle hs0 hvs
            go_wp2
            go_round
            case rel => exact ⟨k + 1, by omega, by rw [HE.out], by go_num⟩
            case measure => simp [intOf]; omega
    · obtain rfl : k = 16 := by omega
      go_wp2
      go_ret
      exact ⟨rfl, rfl⟩

theorem ListAt.form {w : World} {v : Value} {l : List Nat} (h : ListAt w v l) : ∃ A c, v = .slice A l.length c ∧ l.length ≤ maxLen ∧ l.length ≤ c ∧ ∀ i, i < l.length → ∃ b, A = some ⟨b, 0, none⟩ ∧ w.cell? ⟨b, i, none⟩ = some (.int .i64 (l.getD i 0 : Nat)) := by
  rcases h with ⟨rfl, rfl⟩ | ⟨b, cap, rfl, hlt, h1, h2, h3⟩
  · exact ⟨none, 0, rfl, by simp, by simp, fun i hi => by simp at hi⟩
  · exact ⟨_, cap, rfl, Nat.le_trans h1 h2, h1, fun i hi => ⟨b, rfl, h3 i hi⟩⟩

theorem drewN_below (w : World) (n : Nat) : Below w.heap.size w (w.drewN n) := ⟨rfl, rfl, rfl, Nat.le_refl _, fun _ _ => rfl⟩

set_option maxRecDepth 100000 in
set_option maxHeartbeats 4000000 in
theorem same_any (a b : List Nat) (u v : Value) (w : World) (hu : ListAt w u a) (hv : ListAt w v b) :
    Calls Try.prog 12 #[u, v] w (Tells (.bool (decide (a = b))) w) := by
  obtain ⟨A, c, rfl, ha, hac, hA⟩ := hu.form
  obtain ⟨B, d, rfl, hb, hbd, hB⟩ := hv.form
  unfold maxLen at ha hb
  have HA := Lib.hid hA
  have HB := Lib.hid hB
  clear hA hB hu hv
  by_cases hl : a.length = b.length
  · have hle : (a.length : Int) ≤ 9223372036854775807 := by omega
    have hlen : (a.length : Int) = b.length := by omega
    go_enter Try.func12, Try.ntmps12
    go_wp2
    go_loopw [13] (fun i wr => ∃ k m : Nat, k ≤ a.length ∧ i = .int .i64 k ∧ wr = w.drewN m ∧ Hid (∀ j, j < k → a.getD j 0 = b.getD j 0)) (fun i _ => a.length - (intOf i).toNat)
    case atStart => exact ⟨0, 0, Nat.zero_le _, rfl, rfl, Lib.hid (fun j hj => by omega)⟩
    case round =>
      obtain ⟨k, m, hk, rfl, rfl, hEq⟩ := hrel
      by_cases hlt : k < a.length
      · have hlt2 : k < b.length := by omega
        obtain ⟨g, rfl, hx⟩ := HA.out k hlt
        obtain ⟨g2, rfl, hx2⟩ := HB.out k hlt2
        have hxm : (w.drewN m).cell? ⟨g, k, none⟩ = _ := hx
        have hxm2 : (w.drewN m).cell? ⟨g2, k, none⟩ = _ := hx2
        have hne : Hid (a.getD k 0 ≠ b.getD k 0 → decide (a = b) = false) := Lib.hid (fun h => decide_eq_false (fun e => h (by rw [e])))
        have hnx : Hid (a.getD k 0 = b.getD k 0 → ∀ j, j < k + 1 → a.getD j 0 = b.getD j 0) := Lib.hid (fun h j hj => by
          by_cases e : j = k
          · rw [e]; exact h
          · exact hEq.out j (by omega))
        clear hEq
        generalize a.getD k 0 = p at *
        generalize b.getD k 0 = q at *
        by_cases hpq : p = q
        · have HN := Lib.hid (hnx.out hpq)
          have hpq2 : (p : Int) = q := by omega
          clear hnx hne
          go_wp2
          go_quiet (fail)
          go_wp2
          go_roundw
          case rel => exact ⟨k + 1, m + nq, by omega, by go_num, by first | rfl | rw [World.drewN_drewN], HN⟩
          case measure => simp [intOf]; omega
        · have HN := Lib.hid (hne.out hpq)
          have hpq2 : ¬ (p : Int) = q := by omega
          clear hnx hne
          go_wp2
          go_quiet (fail)
          go_wp2
          go_ret
          exact ⟨by rw [HN.out]; rfl, (drewN_below w m).trans ⟨rfl, rfl, rfl, Nat.le_refl _, fun _ _ => rfl⟩⟩
      · have hE : decide (a = b) = true := decide_eq_true (ext_getD hl (fun i hi => hEq.out i (by omega)))
        go_wp2
        go_ret
        exact ⟨by rw [hE]; rfl, drewN_below w m⟩
  · have hne : decide (a = b) = false := decide_eq_false (fun e => hl (by rw [e]))
    rw [hne]
    have hlen : ¬ (a.length : Int) = b.length := by omega
    go_enter Try.func12, Try.ntmps12
    go_wp2
    go_ret
    exact ⟨rfl, Below.refl _ _⟩

end Go.Proofs.Ytmjbdpgjalkbpaa.Whl
