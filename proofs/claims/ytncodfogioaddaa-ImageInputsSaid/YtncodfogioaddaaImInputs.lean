/-
  ImageInputs: it returns true. Conditions: that a list's places are as many as its things at least.
-/
import Derived.Test.YtncodfogioaddaaImLaw
import Derived.Test.YtncodfogioaddaaImRInp
namespace Go.Proofs.Ytncodfogioaddaa.Bl
open Go.RowKit

theorem It.draws {w W : World} {so ta : Option Addr} {l : List Spt} {vs : List Bs} (h : It w W so l ta vs) (n : Nat) : It w (W.drewN n) so l ta vs := h.next (below_drewN _ _ _)
set_option maxRecDepth 100000 in
set_option maxHeartbeats 8000000 in
theorem inputs_walk (n : Int) (l : List Spt) (so : Option Addr) (capS : Nat) (ts : List Bs) (ta : Option Addr) (capT : Nat) (w : World) (hI : It w w so l ta ts) (hs : ∀ (k : Nat) (x : Spt), l[k]? = some x → I64 x.a) (hc : ts.length ≤ capT) (hm : capT ≤ maxLen) :
    Calls Try.prog 4 #[.int .i64 n, .slice so l.length capS, .slice ta ts.length capT] w (Tells (.bool true) w) := by
  have HI := Lib.hid hI
  have hcm : (capT : Int) ≤ 9223372036854775807 := by unfold maxLen at hm; omega
  obtain ⟨m, hmm⟩ : ∃ m, m = ts.length := ⟨_, rfl⟩
  rw [← hmm] at hc ⊢
  by_cases h0 : m = 0
  · have e0 : ((m : Int) == 0) = true := by rw [beq_iff_eq]; omega
    clear hI
    go_enter Try.func4, Try.ntmps4
    go_wp2_with fail
    refine (wake_any _).mono ?_
    rintro e w1 ⟨rfl, hb1⟩
    have HI1 := Lib.hid (HI.out.next hb1)
    clear hb1
    go_wp2
    go_ret
    exact ⟨rfl, HI1.out.below⟩
  have e0 : ((m : Int) == 0) = false := by rw [beq_eq_false_iff_ne]; omega
  obtain ⟨own, vs, rfl⟩ : ∃ own vs, ts = own :: vs := by
    cases ts with
    | nil => simp at hmm; omega
    | cons a l => exact ⟨a, l, rfl⟩
  have hvm : vs.length = m - 1 := by rw [List.length_cons] at hmm; omega
  obtain ⟨b, o, rfl, hb, hct⟩ := hI.tx (by rw [List.length_cons]; omega)
  have t0 := hct 0 own rfl
  rw [Nat.add_zero] at t0
  obtain ⟨va, hva⟩ : ∃ va, (if capT = 1 then some (⟨b, o, none⟩ : Addr) else some ⟨b, o + 1, none⟩) = va := ⟨_, rfl⟩
  have hIV : It w w so l va vs := ⟨hI.sp, fun h1 => by
    refine ⟨b, o + 1, ?_, hb, fun i x hx => ?_⟩
    · rw [← hva, if_neg (by omega)]
    · rw [show o + 1 + i = o + (i + 1) by omega]
      exact hct (i + 1) x hx, hI.below⟩
  have HV := Lib.hid hIV
  have hsz := S_size own
  clear hI hIV hct HI hmm
  go_enter Try.func4, Try.ntmps4
  go_wp2_with fail
  refine (wake_any _).mono ?_
  rintro e w1 ⟨rfl, hb1⟩
  have HV1 := Lib.hid (HV.out.next hb1)
  replace t0 := kept_own hb1 t0
  clear hb1 HV
  go_wp2_with fail
  go_quiet (fail)
  have HV2 := Lib.hid (HV1.out.draws nq)
  clear HV1 t0
  generalize w1.drewN nq = W1 at *
  by_cases h1 : 100 < own.length
  · have e1 : decide ((100 : Int) < (own.length : Int)) = true := by simp; omega
    go_wp2
    go_ret
    exact ⟨rfl, HV2.out.below⟩
  have e1 : decide ((100 : Int) < (own.length : Int)) = false := by simp; omega
  by_cases h2 : 20 < l.length
  · have e2 : decide ((20 : Int) < (l.length : Int)) = true := by simp; omega
    go_wp2
    go_ret
    exact ⟨rfl, HV2.out.below⟩
  have e2 : decide ((20 : Int) < (l.length : Int)) = false := by simp; omega
  by_cases h3 : 20 < m - 1
  · have e3 : decide ((20 : Int) < ((m - 1 : Nat) : Int)) = true := by simp; omega
    go_wp2
    go_ret
    exact ⟨rfl, HV2.out.below⟩
  have e3 : decide ((20 : Int) < ((m - 1 : Nat) : Int)) = false := by simp; omega
  generalize hM : m - 1 = M at *
  have HC := Lib.hid (fun (hv : ∀ (k : Nat) (x : Bs), vs[k]? = some x → x.length ≤ 100) W (h : It w W so l va vs) => cInputs_any n own l so capS vs va (capT - 1) W h.self (by unfold maxLen; omega) hs (fun k x hx => Nat.le_trans (hv k x hx) (by unfold maxLen; decide)))
  have HD := Lib.hid (fun (hv : ∀ (k : Nat) (x : Bs), vs[k]? = some x → x.length ≤ 100) W (h : It w W so l va vs) => rInputs_any n own l so capS vs va (capT - 1) W h.self (by unfold maxLen; omega) (by unfold maxLen; omega) hv)
  rw [hvm] at HC HD
  generalize inpB n own l vs = R at *
  clear h0 h1 hs hb
  go_wp2
  clear e0 e1 e2 e3 hva
  go_loopw [36] (fun i W => ∃ k : Nat, k ≤ M ∧ i = .int .i64 k ∧ Hid (∀ j, j < k → (vs.getD j []).length ≤ 100) ∧ Hid (It w W so l va vs)) (fun i _ => M - (intOf i).toNat)
  case atStart => exact ⟨0, Nat.zero_le _, rfl, Lib.hid (fun j hj => by omega), HV2⟩
  case round =>
    obtain ⟨k, hk, rfl, hH, hV⟩ := hrel
    clear HV2
    have HV2 := hV
    clear hV
    by_cases hlt : k < M
    · have e1 : decide ((k : Int) < (M : Int)) = true := by simp; omega
      obtain ⟨v, hv⟩ : ∃ v, vs[k]? = some v := ⟨_, List.getElem?_eq_getElem (by omega)⟩
      obtain ⟨b1, o1, hvb, hb1, hcs⟩ := HV2.out.tx (by omega)
      have c0 := hcs k v hv
      have hsv := S_size v
      subst hvb
      have hcap1 : M ≤ capT - 1 := by omega
      by_cases h100 : 100 < v.length
      · have e2 : decide ((100 : Int) < (v.length : Int)) = true := by simp; omega
        clear HC HD hcs hv hH
        go_wp2
        go_ret
        exact ⟨rfl, HV2.out.below⟩
      · have e2 : decide ((100 : Int) < (v.length : Int)) = false := by simp; omega
        have hH2 : Hid (∀ j, j < k + 1 → (vs.getD j []).length ≤ 100) := Lib.hid (fun j hj => by
          rcases Nat.lt_succ_iff_lt_or_eq.1 hj with h | rfl
          · exact hH.out j h
          · rw [List.getD_eq_getElem?_getD, hv]
            exact Nat.le_of_not_lt h100)
        clear HC HD hcs hv hH
        go_wp2
        go_roundw
        case rel => exact ⟨k + 1, by omega, by go_num, hH2, HV2⟩
        case measure => simp [intOf]; omega
    · obtain rfl : k = M := by omega
      have e1 : decide ((k : Int) < (k : Int)) = false := by simp
      have hv : ∀ (j : Nat) (x : Bs), vs[j]? = some x → x.length ≤ 100 := fun j x hx => by
        have hj := (List.getElem?_eq_some_iff.1 hx).1
        have := hH.out j (by omega)
        rwa [List.getD_eq_getElem?_getD, hx] at this
      have HC1 := Lib.hid (HC.out hv)
      have HD1 := Lib.hid (HD.out hv)
      clear HC HD hv hH
      go_wp2_with fail
      refine (HC1.out _ HV2.out).mono ?_
      rintro e w2 ⟨rfl, hb2⟩
      have HV3 := Lib.hid (HV2.out.next hb2)
      clear hb2 HV2
      go_wp2_with fail
      refine (HD1.out _ HV3.out).mono ?_
      rintro e w3 ⟨rfl, hb3⟩
      have HV4 := Lib.hid (HV3.out.next hb3)
      clear hb3 HV3
      go_wp2
      go_ret
      exact ⟨rfl, HV4.out.below⟩
end Go.Proofs.Ytncodfogioaddaa.Bl
