/-
  Lay, Reach: walked. Conditions: as each states.
-/
import Derived.Test.YtmlopacekoghkaaImReach
namespace Go.Proofs.Ytmlopacekoghkaa.Bl
open Go.RowKit

def errV (r : Int × Int) : Value := .tuple #[.int .i64 r.1, .int .i64 r.2]
theorem layF_go (ov : Bool) {l : List Spt} {k : Nat} (D : List Blk) (hk : k < l.length) (U : Nat → Bool) : layF ov l D (l.length - k) k U = if spE l D k = 0 then (if (ov && hitB U (spP l k) (spZ l D k)) = true then (15, (k : Int)) else layF ov l D (l.length - (k + 1)) (k + 1) (setB U (spP l k) (spZ l D k))) else (spE l D k, (k : Int)) := by
  obtain ⟨n, hn⟩ : ∃ n, l.length - k = n + 1 := ⟨l.length - k - 1, by omega⟩
  rw [hn, show l.length - (k + 1) = n by omega]
  rfl
theorem layF_end (ov : Bool) (l : List Spt) (D : List Blk) (U : Nat → Bool) : layF ov l D (l.length - l.length) l.length U = (0, 0) := by
  rw [Nat.sub_self]
  rfl

set_option maxRecDepth 100000 in
set_option maxHeartbeats 8000000 in
theorem cLay_any (n : Int) (l : List Spt) (so : Option Addr) (cap : Nat) (D : List Blk) (bo : Option Addr) (capD : Nat) (w : World) (hI : Im w w so l bo D) (hc : l.length ≤ cap) (hm : cap ≤ maxLen) (hD : D.length ≤ maxLen) :
    Calls Try.prog 33 #[.int .i64 n, .slice so l.length cap, .slice bo D.length capD] w (Tells (errV (layO true n l D)) w) := by
  have hml : (l.length : Int) ≤ 9223372036854775807 := by unfold maxLen at hm; omega
  obtain ⟨R, hR⟩ : ∃ R, R = layO true n l D := ⟨_, rfl⟩
  rw [← hR]
  unfold layO at hR
  unfold errV
  have HR := Lib.hid (fun (k : Nat) (hk : k < l.length) W (h : Im w W so l bo D) => cReach_any l so cap D bo capD k W h.self hk hc hm hD)
  by_cases l1 : n < 0
  · have e1 : decide (n < 0) = true := decide_eq_true l1
    have hb : (true && beyB n) = true := by unfold beyB; simp [l1]
    rw [if_pos hb] at hR
    subst hR
    clear HR hb l1
    go_enter Try.func33, Try.ntmps33
    go_wp2
    go_ret2
    exact ⟨rfl, Below.refl _ _⟩
  have e1 : decide (n < 0) = false := decide_eq_false l1
  by_cases l2 : 64 < n
  · have e2 : decide (64 < n) = true := decide_eq_true l2
    have hb : (true && beyB n) = true := by unfold beyB; simp [l2]
    rw [if_pos hb] at hR
    subst hR
    clear HR hb l1 l2
    go_enter Try.func33, Try.ntmps33
    go_wp2
    go_ret2
    exact ⟨rfl, Below.refl _ _⟩
  have e2 : decide (64 < n) = false := decide_eq_false l2
  have hb : ¬ (true && beyB n) = true := by unfold beyB; simp; omega
  rw [if_neg hb] at hR
  obtain ⟨m, rfl⟩ : ∃ m : Nat, n = (m : Int) := ⟨n.toNat, by omega⟩
  have HT := Lib.hid (tb_first m (by omega))
  have HSp := Lib.hid (fun W => cSpan 0 m (by omega) W)
  have HI := Lib.hid hI
  simp only [Bool.true_and] at hR
  have HL := Lib.hid hR
  generalize (fun k : Nat => decide ((k : Int) < (m : Int))) = U0 at *
  clear hR hb l1 l2 hI
  go_enter Try.func33, Try.ntmps33
  go_wp2_with fail
  refine (HSp.out _).mono ?_
  rintro e w2 ⟨rfl, rfl⟩
  go_wp2
  generalize spanN 0 m = t0 at *
  go_loopw [8, 22] (fun t j W => ∃ (k t0 : Nat) (U : Nat → Bool), k ≤ l.length ∧ j = .int .i64 k ∧ t = .int .u64 (t0 : Nat) ∧ Hid (TB t0 U) ∧ Hid (R = layF true l D (l.length - k) k U) ∧ Hid (Im w W so l bo D)) (fun _ j _ => l.length - (intOf j).toNat)
  case atStart => exact ⟨0, t0, U0, Nat.zero_le _, rfl, rfl, HT, HL, HI⟩
  case round =>
    obtain ⟨k, t, U, hk, rfl, rfl, hT, hL, hI⟩ := hrel
    clear HT HL HI
    by_cases hlt : k < l.length
    · have e3 : decide ((k : Int) < (l.length : Int)) = true := by simp; omega
      have HRk := Lib.hid (HR.out k hlt)
      have hgo := hL.out
      rw [layF_go true D hlt U] at hgo
      by_cases hE : spE l D k = 0
      · rw [if_pos hE, Bool.true_and] at hgo
        obtain ⟨-, -, -, -, -, hpz, hN⟩ := sp_zero hE
        rw [hE, hN] at HRk
        have hS := span_lt hpz
        have hA := u64_and_nat (spanN (spP l k) (spZ l D k)) t (by omega) (by have := hT.out.1; omega)
        have hO := u64_or_nat t (spanN (spP l k) (spZ l D k)) (by have := hT.out.1; omega) (by omega)
        have htb := tb_or hT.out hpz
        have htl := htb.1
        by_cases hh : hitB U (spP l k) (spZ l D k) = true
        · rw [if_pos hh] at hgo
          subst hgo
          have hz : ((spanN (spP l k) (spZ l D k) &&& t : Nat) : Int) ≠ 0 := by
            intro h0
            have := (tb_hit hT.out hpz).1 (by omega)
            rw [hh] at this
            cases this
          have e4 : (((spanN (spP l k) (spZ l D k) &&& t : Nat) : Int) != 0) = true := by simpa [bne_iff_ne] using hz
          clear hL hN hE hh hz htb htl hO
          generalize spanN (spP l k) (spZ l D k) = O at *
          generalize hX : ((O &&& t : Nat) : Int) = X at *
          clear hX
          go_wp2_with fail
          refine (HRk.out _ hI.out).mono ?_
          rintro e w3 ⟨rfl, hb3⟩
          have HI3 := Lib.hid (hI.out.next hb3)
          clear hb3
          go_wp2
          go_ret2
          exact ⟨rfl, HI3.out.below⟩
        · rw [if_neg hh] at hgo
          have hz : ((spanN (spP l k) (spZ l D k) &&& t : Nat) : Int) = 0 := by
            have := (tb_hit hT.out hpz).2 (eq_false_of_ne_true hh)
            omega
          have e4 : (((spanN (spP l k) (spZ l D k) &&& t : Nat) : Int) != 0) = false := by simpa [bne_iff_ne] using hz
          have HT2 := Lib.hid htb
          have HL2 := Lib.hid hgo
          clear hL hN hE hh hz htb hgo hT
          generalize spanN (spP l k) (spZ l D k) = O at *
          generalize hX : ((O &&& t : Nat) : Int) = X at *
          clear hX
          go_wp2_with fail
          refine (HRk.out _ hI.out).mono ?_
          rintro e w3 ⟨rfl, hb3⟩
          have HI3 := Lib.hid (hI.out.next hb3)
          clear hb3 hI
          go_wp2
          go_roundw
          case rel => exact ⟨k + 1, t ||| O, _, by omega, by go_num, rfl, HT2, HL2, HI3⟩
          case measure => simp [intOf]; omega
      · rw [if_neg hE] at hgo
        subst hgo
        have e4 : (spE l D k != 0) = true := by simpa [bne_iff_ne] using hE
        clear hL hE
        generalize spE l D k = E at *
        go_wp2_with fail
        refine (HRk.out _ hI.out).mono ?_
        rintro e w3 ⟨rfl, hb3⟩
        have HI3 := Lib.hid (hI.out.next hb3)
        clear hb3
        go_wp2
        go_ret2
        exact ⟨rfl, HI3.out.below⟩
    · obtain rfl : k = l.length := by omega
      obtain rfl : R = (0, 0) := by rw [hL.out, layF_end]
      clear hL
      go_wp2
      go_ret2
      exact ⟨rfl, hI.out.below⟩

set_option maxRecDepth 100000 in
set_option maxHeartbeats 8000000 in
theorem cReachs_any (n : Int) (l : List Spt) (so : Option Addr) (cap : Nat) (D : List Blk) (bo : Option Addr) (capD : Nat) (w : World) (hI : Im w w so l bo D) (hc : l.length ≤ cap) (hm : cap ≤ maxLen) (hD : D.length ≤ maxLen) :
    Calls Try.prog 35 #[.slice so l.length cap, .slice bo D.length capD] w (Tells (errV (layO false n l D)) w) := by
  have hml : (l.length : Int) ≤ 9223372036854775807 := by unfold maxLen at hm; omega
  obtain ⟨R, hR⟩ : ∃ R, R = layO false n l D := ⟨_, rfl⟩
  rw [← hR]
  unfold layO at hR
  unfold errV
  rw [Bool.false_and, if_neg (by decide)] at hR
  simp only [Bool.false_and] at hR
  have HR := Lib.hid (fun (k : Nat) (hk : k < l.length) W (h : Im w W so l bo D) => cReach_any l so cap D bo capD k W h.self hk hc hm hD)
  have HI := Lib.hid hI
  have HL := Lib.hid hR
  clear hR hI
  go_enter Try.func35, Try.ntmps35
  go_wp2
  go_loopw [11] (fun j W => ∃ (k : Nat) (U : Nat → Bool), k ≤ l.length ∧ j = .int .i64 k ∧ Hid (R = layF false l D (l.length - k) k U) ∧ Hid (Im w W so l bo D)) (fun j _ => l.length - (intOf j).toNat)
  case atStart => exact ⟨0, _, Nat.zero_le _, rfl, HL, HI⟩
  case round =>
    obtain ⟨k, U, hk, rfl, hL, hI⟩ := hrel
    clear HL HI
    by_cases hlt : k < l.length
    · have e3 : decide ((k : Int) < (l.length : Int)) = true := by simp; omega
      have HRk := Lib.hid (HR.out k hlt)
      have hgo := hL.out
      rw [layF_go false D hlt U] at hgo
      by_cases hE : spE l D k = 0
      · rw [if_pos hE, Bool.false_and, if_neg (by decide)] at hgo
        rw [hE] at HRk
        have HL2 := Lib.hid hgo
        clear hL hE hgo
        generalize spN l D k = O at *
        go_wp2_with fail
        refine (HRk.out _ hI.out).mono ?_
        rintro e w3 ⟨rfl, hb3⟩
        have HI3 := Lib.hid (hI.out.next hb3)
        clear hb3 hI
        go_wp2
        go_roundw
        case rel => exact ⟨k + 1, _, by omega, by go_num, HL2, HI3⟩
        case measure => simp [intOf]; omega
      · rw [if_neg hE] at hgo
        subst hgo
        have e4 : (spE l D k != 0) = true := by simpa [bne_iff_ne] using hE
        clear hL hE
        generalize spE l D k = E at *
        generalize spN l D k = O at *
        go_wp2_with fail
        refine (HRk.out _ hI.out).mono ?_
        rintro e w3 ⟨rfl, hb3⟩
        have HI3 := Lib.hid (hI.out.next hb3)
        clear hb3
        go_wp2
        go_ret2
        exact ⟨rfl, HI3.out.below⟩
    · obtain rfl : k = l.length := by omega
      obtain rfl : R = (0, 0) := by rw [hL.out, layF_end]
      clear hL
      go_wp2
      go_ret2
      exact ⟨rfl, hI.out.below⟩
end Go.Proofs.Ytmlopacekoghkaa.Bl
