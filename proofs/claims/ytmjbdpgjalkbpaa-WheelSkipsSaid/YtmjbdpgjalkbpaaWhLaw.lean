/-
  The laws' first look, and whether both have the same timers, walked: true, where the calls answer as is asked. Conditions: that.
-/
import Derived.Test.YtmjbdpgjalkbpaaWhSoon
namespace Go.Proofs.Ytmjbdpgjalkbpaa.Whl
open Go.RowKit

/-- A timer's object of the call's own, while nothing below N has turned. -/
structure Run (F : Face) (N : Nat) (w0 w : World) (p g : Nat) (x : Wh) : Prop where
  at_ : F.At w p g x
  below : Below N w0 w
  hp : N ≤ p
  hg : N ≤ g
  size : N ≤ w.heap.size
section
variable {F : Face} {N p g : Nat} {w0 w w' : World} {x y : Wh}
theorem Run.done (h : Run F N w0 w p g x) (hx : F.At w' p g y) (ho : Only p g w w') : Run F N w0 w' p g y :=
  ⟨hx, h.below.trans (ho.below h.hp h.hg h.size), h.hp, h.hg, Nat.le_trans h.size ho.size⟩
theorem Run.more (h : Run F N w0 w p g x) (hb : Below w.heap.size w w') : Run F N w0 w' p g x :=
  ⟨Face.below h.at_ hb, h.below.trans (hb.mono h.size), h.hp, h.hg, Nat.le_trans h.size hb.size⟩
end

def x1 : Wh := setX zero 3 2
theorem first_facts : setB 3 2 = true ∧ comeL x1 = [] ∧ comeL (tickX x1) = [3] ∧ lenTo (tickX (tickX x1)) 16 = 0 := by decide

set_option maxRecDepth 100000 in
set_option maxHeartbeats 4000000 in
theorem awake_true {F : Face} (C : Code F) (w : World) : Calls Try.prog 6 #[] w (Tells (.bool true) w) := by
  have CC := Lib.hid C
  clear C
  obtain ⟨f1, f2, f3, f4⟩ := first_facts
  have HS := Lib.hid (fun p g w hx => CC.out.set p g zero 3 2 w hx ⟨by omega, by omega⟩ ⟨by omega, by omega⟩)
  rw [f1] at HS
  replace HS : Hid (∀ p g w, F.At w p g zero → Calls Try.prog 8 #[.pointer (some ⟨p, 0, none⟩), .int .i64 3, .int .i64 2] w (Done F p g (.bool true) x1 w)) := HS
  have HT1 := Lib.hid (fun p g w hx => CC.out.tick p g x1 w hx)
  have HT2 := Lib.hid (fun p g w hx => CC.out.tick p g (tickX x1) w hx)
  have HL := Lib.hid (fun p g w hx => CC.out.len p g (tickX (tickX x1)) w hx)
  rw [f2] at HT1
  rw [f3] at HT2
  rw [f4] at HL
  generalize tickX (tickX x1) = y3 at *
  generalize tickX x1 = y2 at *
  generalize x1 = y1 at *
  clear f1 f2 f3 f4
  go_enter Try.func6, Try.ntmps6
  go_wp2_with fail
  refine (CC.out.new _).mono ?_
  rintro e w1 ⟨p, g, rfl, hx, hp, hg, hb⟩
  have hr1 : Run F w.heap.size w w1 p g zero := ⟨hx, hb, hp, hg, hb.size⟩
  clear hx hp hg hb CC
  go_wp2_with fail
  refine (HS.out _ _ _ hr1.at_).mono ?_
  rintro e w2 ⟨rfl, hx, ho⟩
  have hr2 := hr1.done hx ho
  clear hx ho hr1 HS
  go_wp2_with fail
  refine (HT1.out _ _ _ hr2.at_).mono ?_
  rintro e w3 ⟨va, rfl, hva, hx, ho⟩
  obtain ⟨A, c, rfl⟩ := own_form hva
  have hr3 := hr2.done hx ho
  clear hx ho hr2 hva HT1
  go_wp2_with fail
  refine (HT2.out _ _ _ hr3.at_).mono ?_
  rintro e w4 ⟨vb, rfl, hvb, hx, ho⟩
  obtain ⟨B, d, rfl, -, hd, hB⟩ := hvb.list.form
  obtain ⟨bb, rfl, hc⟩ := hB 0 (by decide)
  have hc : w4.cell? ⟨bb, 0, none⟩ = some (.int .i64 3) := hc
  have hr4 := hr3.done hx ho
  clear hx ho hr3 hvb hB HT2
  go_wp2_with fail
  refine (HL.out _ _ _ hr4.at_).mono ?_
  rintro e w5 ⟨rfl, hb5⟩
  have hr5 := hr4.more hb5
  clear hr4 hb5 HL
  go_wp2
  go_ret
  exact ⟨by simp, hr5.below⟩

/-- How many of the timers ahead of number k - 1 are set. -/
def cntN (x : Wh) (k : Nat) : Nat := lenTo x (min (k - 1) 16)
theorem cnt_step (x : Wh) (k : Nat) (hk : k ≤ 17) : cntN x (k + 1) = if 0 < leftN x ((k : Int) - 1) then cntN x k + 1 else cntN x k := by
  unfold cntN leftN idB
  by_cases h0 : k = 0
  · subst h0
    rfl
  · by_cases h17 : k = 17
    · subst h17
      rfl
    · have e1 : min (k + 1 - 1) 16 = (k - 1) + 1 := by omega
      have e2 : min (k - 1) 16 = k - 1 := by omega
      have e3 : decide (0 ≤ (k : Int) - 1 ∧ (k : Int) - 1 ≤ 15) = true := by rw [decide_eq_true_iff]; omega
      have e4 : ((k : Int) - 1).toNat = k - 1 := by omega
      rw [e1, e2, e3, if_pos rfl, e4]
      rfl

set_option maxRecDepth 100000 in
set_option maxHeartbeats 4000000 in
theorem alike_true {F : Face} (C : Code F) (p g b : Nat) (x : Wh) (w : World) (hx : F.At w p g x) (hr : RefAt w b x) :
    Calls Try.prog 16 #[.pointer (some ⟨p, 0, none⟩), .pointer (some ⟨b, 0, none⟩)] w (Tells (.bool true) w) := by
  have CC := Lib.hid C
  have HX := Lib.hid hx
  have HR := Lib.hid hr
  have hok := hr.1
  have HOk := Lib.hid hok
  clear C hx hr hok
  go_enter Try.func16, Try.ntmps16
  go_wp2
  go_loop [5, 6] (fun n i => ∃ k : Nat, k ≤ 18 ∧ n = .int .i64 ((cntN x k : Nat) : Int) ∧ i = .int .i64 ((k : Int) - 1)) (fun _ i => 18 - (intOf i + 1).toNat)
  case atStart => exact ⟨0, Nat.zero_le _, rfl, rfl⟩
  case round =>
    obtain ⟨k, hk, rfl, rfl⟩ := hrel
    by_cases hlt : k < 18
    · have hst := cnt_step x k (by omega)
      have hle := leftN_le HOk.out ((k : Int) - 1)
      have hcn : cntN x k ≤ 16 := by unfold cntN; have := lenTo_le x (min (k - 1) 16); omega
      have HL := Lib.hid (CC.out.left p g x ((k : Int) - 1) w HX.out ⟨by omega, by omega⟩)
      have HRL := Lib.hid (rleft_any b x ((k : Int) - 1) w HR.out)
      have HSt := Lib.hid hst
      clear hst
      generalize leftN x ((k : Int) - 1) = v at *
      generalize cntN x k = n0 at *
      by_cases hv : 0 < v
      · have HE := Lib.hid (HSt.out.trans (if_pos hv))
        have hvi : (0 : Int) < v := by omega
        clear HSt hv
        go_wp2_with fail
        refine (HL.out).mono ?_
        rintro e w1 ⟨rfl, rfl⟩
        go_wp2_with fail
        refine (HRL.out).mono ?_
        rintro e w1 ⟨rfl, rfl⟩
        go_wp2_with fail
        refine (HRL.out).mono ?_
        rintro e w1 ⟨rfl, rfl⟩
        go_wp2
        go_round
        case rel => exact ⟨k + 1, by omega, by rw [HE.out]; go_num, by go_num⟩
        case measure => simp [intOf]; omega
      · have HE := Lib.hid (HSt.out.trans (if_neg hv))
        have hvi : ¬ (0 : Int) < v := by omega
        clear HSt hv
        go_wp2_with fail
        refine (HL.out).mono ?_
        rintro e w1 ⟨rfl, rfl⟩
        go_wp2_with fail
        refine (HRL.out).mono ?_
        rintro e w1 ⟨rfl, rfl⟩
        go_wp2_with fail
        refine (HRL.out).mono ?_
        rintro e w1 ⟨rfl, rfl⟩
        go_wp2
        go_round
        case rel => exact ⟨k + 1, by omega, by rw [HE.out], by go_num⟩
        case measure => simp [intOf]; omega
    · obtain rfl : k = 18 := by omega
      have e18 : cntN x 18 = lenTo x 16 := rfl
      have hcn := lenTo_le x 16
      have HLe := Lib.hid (fun w hx => CC.out.len p g x w hx)
      have HSo := Lib.hid (fun w hx => CC.out.soonest p g x w hx)
      have HRS := Lib.hid (fun w hx => rsoon_any b x w hx)
      rw [e18]
      clear e18 CC
      generalize soonTo x 16 = s at *
      generalize hLL : lenTo x 16 = L at *
      clear hLL
      by_cases h0 : 0 < L
      · have hd : decide (0 < L) = true := decide_eq_true h0
        have hLi : (0 : Int) < L := by omega
        rw [hd] at HSo
        go_wp2_with fail
        refine (HSo.out _ HX.out).mono ?_
        rintro e w1 ⟨rfl, hb1⟩
        go_wp2_with fail
        refine (HLe.out _ (Face.below HX.out hb1)).mono ?_
        rintro e w2 ⟨rfl, hb2⟩
        have hb := hb1.trans (hb2.mono hb1.size)
        clear hb1 hb2
        go_wp2_with fail
        refine (HRS.out _ (HR.out.below hb)).mono ?_
        rintro e w3 ⟨rfl, rfl⟩
        go_wp2
        go_ret
        exact ⟨by simp, hb⟩
      · have hd : decide (0 < L) = false := decide_eq_false h0
        have hLi : ¬ (0 : Int) < L := by omega
        rw [hd] at HSo
        go_wp2_with fail
        refine (HSo.out _ HX.out).mono ?_
        rintro e w1 ⟨rfl, hb1⟩
        go_wp2_with fail
        refine (HLe.out _ (Face.below HX.out hb1)).mono ?_
        rintro e w2 ⟨rfl, hb2⟩
        have hb := hb1.trans (hb2.mono hb1.size)
        clear hb1 hb2
        go_wp2_with fail
        refine (HRS.out _ (HR.out.below hb)).mono ?_
        rintro e w3 ⟨rfl, rfl⟩
        go_wp2
        go_ret
        exact ⟨by simp, hb⟩

end Go.Proofs.Ytmjbdpgjalkbpaa.Whl
