/-
  The laws VerifyChecks and VerifyBytes, walked: they return true. Conditions: none.
-/
import Derived.Test.YtbejajnhgoejhaaVwAwake
import Derived.Test.YtbejajnhgoejhaaVrBytes
namespace Go.Proofs.Ytbejajnhgoejhaa.Ve
open Go.RowKit
open Go.Proofs.Ytbejajnhgoejhaa.Il hiding Next
open Go.Proofs.Ytbejajnhgoejhaa.Ic

set_option maxRecDepth 100000 in
set_option maxHeartbeats 8000000 in
theorem checks_walk (l : List In) (ao : Option Addr) (cap : Nat) (w : World) (hI : Lies w w.heap.size ao l) (hF : FitL l) (hm : l.length ≤ maxLen) :
    Calls Try.prog 3 #[.slice ao l.length cap] w (Tells (.bool true) w) := by
  have HF := Lib.hid hF
  have HM := Lib.hid hm
  have HA := Lib.hid (At.first hI)
  have hmi : (l.length : Int) ≤ 9223372036854775807 := by unfold maxLen at hm; omega
  clear hI hF hm
  by_cases h210 : (210 : Int) < l.length
  · go_enter Try.func3, Try.ntmps3
    go_wp2_with fail
    refine (wake_any _).mono ?_
    rintro e w1 ⟨rfl, hb1⟩
    have HA1 := Lib.hid (HA.out.next hb1)
    clear hb1 HA
    go_wp2
    go_ret
    exact ⟨rfl, HA1.out.below⟩
  · have HC : Hid (∀ W, At w W ao l → Calls Try.prog 7 #[.slice ao l.length cap] W (Tells (.tuple #[.int .i64 ((chkB l).1 : Nat), .int .i64 ((chkB l).2 : Nat)]) W)) := fun W h => cCheck_any l ao cap W h.lies HF.out HM.out
    have HR : Hid (∀ W, At w W ao l → Calls Try.prog 8 #[.slice ao l.length cap] W (Alls W l)) := fun W h => rAll_any l ao cap W h.lies HF.out HM.out
    have HK : Hid (∀ W, At w W ao l → Calls Try.prog 9 #[.slice ao l.length cap] W (KindsOf W l)) := fun W h => cKinds_any l ao cap W h.lies HF.out HM.out
    unfold Alls at HR
    unfold KindsOf at HK
    rcases all_cases l with ⟨r, k, h, hr, hr2, hk2⟩ | ⟨s, h, hw, hl, h200⟩
    · rw [chk_err h] at HC
      rw [h] at HR HK
      dsimp only at HC HR HK
      have hrb : ((r : Int) == 0) = false := by rw [beq_eq_false_iff_ne]; omega
      have hrw : IntKind.i64.wrap ((r : Nat) : Int) = (r : Nat) := by rw [IntKind.wrap_i64]; omega
      have hrr : ((r : Int) != (r : Int)) = false := by simp
      have hkk : ((k : Int) != (k : Int)) = false := by simp
      clear h hr
      go_enter Try.func3, Try.ntmps3
      go_wp2_with fail
      refine (wake_any _).mono ?_
      rintro e w1 ⟨rfl, hb1⟩
      have HA1 := Lib.hid (HA.out.next hb1)
      clear hb1 HA
      go_wp2_with fail
      refine (HC.out _ HA1.out).mono ?_
      rintro e w2 ⟨rfl, hb1⟩
      have HA2 := Lib.hid (HA1.out.next hb1)
      clear hb1 HA1
      go_wp2_with fail
      refine (HR.out _ HA2.out).mono ?_
      rintro e w3 ⟨rfl, hb1⟩
      have HA3 := Lib.hid (HA2.out.next hb1)
      clear hb1 HA2
      go_wp2_with fail
      refine (HK.out _ HA3.out).mono ?_
      rintro e w4 ⟨rfl, hb1⟩
      have HA4 := Lib.hid (HA3.out.next hb1)
      clear hb1 HA3
      go_wp2
      go_ret
      exact ⟨rfl, HA4.out.below⟩
    · rw [chk_ok h] at HC
      rw [h] at HR HK
      dsimp only at HC HR HK
      have HW := Lib.hid hw
      obtain ⟨n, hn⟩ : ∃ n, n = l.length := ⟨_, rfl⟩
      rw [← hn] at HC HR HK ⊢
      have hn2 : (n : Int) ≤ 200 := by omega
      clear h hw hl h200 h210 hn hmi
      go_enter Try.func3, Try.ntmps3
      go_wp2_with fail
      refine (wake_any _).mono ?_
      rintro e w1 ⟨rfl, hb1⟩
      have HA1 := Lib.hid (HA.out.next hb1)
      clear hb1 HA
      go_wp2_with fail
      refine (HC.out _ HA1.out).mono ?_
      rintro e w2 ⟨rfl, hb1⟩
      have HA2 := Lib.hid (HA1.out.next hb1)
      clear hb1 HA1
      go_wp2_with fail
      refine (HR.out _ HA2.out).mono ?_
      rintro e w3 ⟨g, rfl, hR, hb1⟩
      have HA3 := Lib.hid (HA2.out.next hb1)
      have HR3 := Lib.hid hR
      clear hb1 HA2 hR
      go_wp2_with fail
      refine (HK.out _ HA3.out).mono ?_
      rintro e w4 ⟨q, rfl, hO, hb1⟩
      have HA4 := Lib.hid (HA3.out.next hb1)
      have HR4 := Lib.hid (HR3.out.kept hb1)
      have HO := Lib.hid hO
      clear hb1 HA3 HR3 hO
      go_wp2
      go_loopw [52] (fun i W => ∃ (k : Nat), (k : Int) ≤ n ∧ i = .int .i64 k ∧ W = w4) (fun i _ => n - (intOf i).toNat)
      case atStart => exact ⟨0, by omega, rfl, rfl⟩
      case round =>
        obtain ⟨k, hk, rfl, rfl⟩ := hrel
        by_cases hlt : (k : Int) < n
        · have hk1 : (k : Int) < n + 1 := by omega
          obtain ⟨r0, r1, -, -, -, -⟩ := HR4.out.cells (k := k) (by omega)
          have o1 := World.ownsRow.cellAt HO.out k (by omega)
          rw [kinds_at (by omega)] at o1
          unfold kindB at o1
          cases hon : (gt s k).on
          · rw [hon] at r0 o1
            rw [if_neg (by simp)] at o1
            clear hon
            go_wp2
            exact ⟨⟨k + 1, by omega, by go_num, trivial⟩, by simp [intOf]; omega⟩
          · rw [hon] at r0 o1
            rw [if_pos rfl] at o1
            clear hon
            generalize (gt s k).kd = kd at *
            go_wp2
            exact ⟨⟨k + 1, by omega, by go_num, trivial⟩, by simp [intOf]; omega⟩
        · obtain rfl : k = n := by omega
          have hkk : ((k : Int) == (k : Int)) = true := by simp
          go_wp2
          go_ret
          exact ⟨rfl, HA4.out.below⟩

set_option maxRecDepth 100000 in
set_option maxHeartbeats 8000000 in
theorem bytes_walk (l : List In) (ao : Option Addr) (cap : Nat) (w : World) (hI : Lies w w.heap.size ao l) (hF : FitL l) (hm : l.length ≤ maxLen) :
    Calls Try.prog 4 #[.slice ao l.length cap] w (Tells (.bool true) w) := by
  have HF := Lib.hid hF
  have HM := Lib.hid hm
  have HA := Lib.hid (At.first hI)
  have hmi : (l.length : Int) ≤ 9223372036854775807 := by unfold maxLen at hm; omega
  clear hI hF hm
  by_cases h210 : (210 : Int) < l.length
  · go_enter Try.func4, Try.ntmps4
    go_wp2_with fail
    refine (wake_any _).mono ?_
    rintro e w1 ⟨rfl, hb1⟩
    have HA1 := Lib.hid (HA.out.next hb1)
    clear hb1 HA
    go_wp2
    go_ret
    exact ⟨rfl, HA1.out.below⟩
  · have HC : Hid (∀ W, At w W ao l → Calls Try.prog 10 #[.slice ao l.length cap] W (Tells (u4V (useB true l)) W)) := fun W h => cWritesOf_any l ao cap W h.lies HF.out HM.out
    have HD : Hid (∀ W, At w W ao l → Calls Try.prog 12 #[.slice ao l.length cap] W (Tells (u4V (useB false l)) W)) := fun W h => cReadsOf_any l ao cap W h.lies HF.out HM.out
    have HR : Hid (∀ (b : Bool) W, At w W ao l → Calls Try.prog 11 #[.slice ao l.length cap, .bool b] W (Tells (u4V (useB b l)) W)) := fun b W h => rBytes_any b l ao cap W h.lies HF.out HM.out
    have hu1 := fun W => u4_same _ _ _ _ (use_lt true l 0) (use_lt true l 1) (use_lt true l 2) (use_lt true l 3) W
    have hu2 := fun W => u4_same _ _ _ _ (use_lt false l 0) (use_lt false l 1) (use_lt false l 2) (use_lt false l 3) W
    have hg := Try.guardU4
    have HR1 : Hid (∀ W, At w W ao l → Calls Try.prog 11 #[.slice ao l.length cap, .bool true] W (Tells (u4V (useB true l)) W)) := fun W h => HR.out true W h
    have HR2 : Hid (∀ W, At w W ao l → Calls Try.prog 11 #[.slice ao l.length cap, .bool false] W (Tells (u4V (useB false l)) W)) := fun W h => HR.out false W h
    clear HR
    unfold u4V at HC HD HR1 HR2
    generalize useB true l 0 = a0 at *
    generalize useB true l 1 = a1 at *
    generalize useB true l 2 = a2 at *
    generalize useB true l 3 = a3 at *
    generalize useB false l 0 = b0 at *
    generalize useB false l 1 = b1 at *
    generalize useB false l 2 = b2 at *
    generalize useB false l 3 = b3 at *
    go_enter Try.func4, Try.ntmps4
    go_wp2_with fail
    refine (wake_any _).mono ?_
    rintro e w1 ⟨rfl, hb1⟩
    have HA1 := Lib.hid (HA.out.next hb1)
    clear hb1 HA
    go_wp2_with fail
    refine (HC.out _ HA1.out).mono ?_
    rintro e w2 ⟨rfl, hb1⟩
    have HA2 := Lib.hid (HA1.out.next hb1)
    clear hb1 HA1
    go_wp2_with fail
    refine (HR1.out _ HA2.out).mono ?_
    rintro e w3 ⟨rfl, hb1⟩
    have HA3 := Lib.hid (HA2.out.next hb1)
    clear hb1 HA2
    go_wp2_with fail
    refine (HD.out _ HA3.out).mono ?_
    rintro e w4 ⟨rfl, hb1⟩
    have HA4 := Lib.hid (HA3.out.next hb1)
    clear hb1 HA3
    go_wp2_with fail
    refine (HR2.out _ HA4.out).mono ?_
    rintro e w5 ⟨rfl, hb1⟩
    have HA5 := Lib.hid (HA4.out.next hb1)
    clear hb1 HA4
    go_wp2
    go_ret
    exact ⟨rfl, HA5.out.below⟩
end Go.Proofs.Ytbejajnhgoejhaa.Ve
