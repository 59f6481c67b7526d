/-
  The law CodeMakes, walked: it returns true. Conditions: none.
-/
import Derived.Test.YtocjimedbnjmiaaCdLaw
namespace Go.Proofs.Ytocjimedbnjmiaa.Co
open Go.RowKit
open Go.Proofs.Ytocjimedbnjmiaa.Il hiding S S_size S_app S_list S_inj
open Go.Proofs.Ytocjimedbnjmiaa.Ic Go.Proofs.Ytocjimedbnjmiaa.Oct Sums

set_option maxRecDepth 100000 in
set_option maxHeartbeats 4000000 in
theorem makes_walk (l : List In) (ao : Option Addr) (cap : Nat) (w : World) (hI : Lies w w.heap.size ao l) (hF : FitL l) (hm : l.length ≤ maxLen) :
    Calls Try.prog 3 #[.slice ao l.length cap] w (Tells (.bool true) w) := by
  have HF := Lib.hid hF
  have HA := Lib.hid (At.first hI)
  have hmi : (l.length : Int) ≤ 9223372036854775807 := by unfold maxLen at hm; omega
  clear hI hF hm
  by_cases h220 : (220 : Int) < l.length
  · go_enter Try.func3, Try.ntmps3
    go_wp2_with fail
    refine (wake_any _).mono ?_
    rintro e w1 ⟨rfl, hb1⟩
    have HA1 := Lib.hid (HA.out.next hb1)
    clear hb1 HA
    go_wp2
    go_ret
    exact ⟨rfl, HA1.out.below⟩
  · have HE : Hid (∀ W, At w W ao l → Calls Try.prog 7 #[.slice ao l.length cap] W (Tells (.tuple #[.string (S (encL l)), .int .i64 (errC l : Nat)]) W)) := fun W h => tells_encode HF.out ao cap h
    have HR : Hid (∀ W, At w W ao l → Calls Try.prog 8 #[.slice ao l.length cap] W (Tells (.int .i64 (errC l : Nat)) W)) := fun W h => rError_any l ao cap W h.lies HF.out
    have HS : Hid (∀ W, At w W ao l → Calls Try.prog 9 #[.slice ao l.length cap] W (Tells (.int .u16 (stampN l : Nat)) W)) := fun W h => cStamp_any l ao cap W h.lies HF.out
    by_cases he : errC l = 0
    · have HP : Hid (∀ W, At w W ao l → Calls Try.prog 10 #[.slice ao l.length cap] W (Tells (.string (S (bareL l))) W)) := fun W h => rPlain_any l ao cap W h.lies he
      have h200 := (err_zero he).1
      have hbl := bare_len l
      have HD := Lib.hid (fun W => decode_ok (dec_of_enc he) (by have := enc_short l; omega) W)
      have HSe := Lib.hid (fun W => rsealed_any (S (bareL l)) W (by rw [S_size]; omega))
      have HSu := Lib.hid (fun W => rsum_any (S (bareL l)) W (by rw [S_size]; unfold maxLen; omega))
      rw [seal_S, ← enc_ok he] at HSe
      rw [show (S (bareL l)).data.toList = bareL l from rfl, ← stamp_ok he] at HSu
      rw [he] at HE HR
      have HQ : Hid (∀ (w2 : World) (a2 : Option Addr) (c2 : Nat), At w w2 ao l → At w w2 a2 l → Calls Try.prog 14 #[.slice ao l.length cap, .slice a2 l.length c2] w2 fun e w' => e = .returned (.bool true) ∧ ∃ k, w' = w2.drewN k) := fun w2 a2 c2 h1 h2 => rSame_any l ao a2 cap c2 w2 h1.lies h2.lies (by omega)
      have heq : ((S (encL l)).toList == (S (encL l)).toList) = true := by simp
      have hst : ((stampN l : Nat) : Int) ≤ 65535 := by rw [stamp_ok he]; have := (sum (bareL l)).isLt; omega
      have hse : (((stampN l : Nat) : Int) == ((stampN l : Nat) : Int)) = true := by simp
      clear he h200 hbl
      generalize S (encL l) = s at *
      generalize S (bareL l) = b at *
      generalize stampN l = st at *
      go_enter Try.func3, Try.ntmps3
      go_wp2_with fail
      refine (wake_any _).mono ?_
      rintro e w1 ⟨rfl, hb1⟩
      have HA1 := Lib.hid (HA.out.next hb1)
      clear hb1 HA
      go_wp2_with fail
      refine (HE.out _ HA1.out).mono ?_
      rintro e w2 ⟨rfl, hb1⟩
      have HA2 := Lib.hid (HA1.out.next hb1)
      clear hb1 HA1
      go_wp2_with fail
      refine (HR.out _ HA2.out).mono ?_
      rintro e w3 ⟨rfl, hb1⟩
      have HA3 := Lib.hid (HA2.out.next hb1)
      clear hb1 HA2
      go_wp2_with fail
      refine (HP.out _ HA3.out).mono ?_
      rintro e w4 ⟨rfl, hb1⟩
      have HA4 := Lib.hid (HA3.out.next hb1)
      clear hb1 HA3
      go_wp2_with fail
      refine (HD.out _).mono ?_
      rintro e w5 ⟨a5, c5, rfl, hl5, hb5⟩
      have HA5 := Lib.hid (HA4.out.with hb5 hl5)
      clear hb5 hl5 HA4
      go_wp2_with fail
      refine (HSe.out _).mono ?_
      rintro e w6 ⟨rfl, hb1⟩
      have HA6 := Lib.hid (⟨HA5.out.1.next hb1, HA5.out.2.next hb1⟩ : _ ∧ _)
      clear hb1 HA5
      go_wp2_with fail
      refine (HS.out _ HA6.out.1).mono ?_
      rintro e w7 ⟨rfl, hb1⟩
      have HA7 := Lib.hid (⟨HA6.out.1.next hb1, HA6.out.2.next hb1⟩ : _ ∧ _)
      clear hb1 HA6
      go_wp2_with fail
      refine (HSu.out _).mono ?_
      rintro e w8 ⟨rfl, rfl⟩
      go_wp2_with fail
      refine (HQ.out _ _ _ HA7.out.1 HA7.out.2).mono ?_
      rintro e w9 ⟨rfl, k, rfl⟩
      go_wp2
      go_ret
      exact ⟨rfl, (HA7.out.1.drewN k).below⟩
    · rw [enc_no he] at HE
      rw [stamp_no he] at HS
      have h3 := err_le l
      have hb : (((errC l : Nat) : Int) != 0) = true := by rw [bne_iff_ne]; omega
      have hq : (((errC l : Nat) : Int) == ((errC l : Nat) : Int)) = true := by simp
      have hw : IntKind.i64.wrap ((errC l : Nat) : Int) = (errC l : Nat) := by rw [IntKind.wrap_i64]; omega
      have hz : (S []).toList = [] := by rw [Lib.toList_data]; rfl
      have HS : Hid (∀ W, At w W ao l → Calls Try.prog 9 #[.slice ao l.length cap] W (Tells (.int .u16 0) W)) := HS
      generalize errC l = ec at *
      clear he h3
      go_enter Try.func3, Try.ntmps3
      go_wp2_with fail
      refine (wake_any _).mono ?_
      rintro e w1 ⟨rfl, hb1⟩
      have HA1 := Lib.hid (HA.out.next hb1)
      clear hb1 HA
      go_wp2_with fail
      refine (HE.out _ HA1.out).mono ?_
      rintro e w2 ⟨rfl, hb1⟩
      have HA2 := Lib.hid (HA1.out.next hb1)
      clear hb1 HA1
      go_wp2_with fail
      refine (HR.out _ HA2.out).mono ?_
      rintro e w3 ⟨rfl, hb1⟩
      have HA3 := Lib.hid (HA2.out.next hb1)
      clear hb1 HA2
      go_wp2_with fail
      refine (HS.out _ HA3.out).mono ?_
      rintro e w4 ⟨rfl, hb1⟩
      have HA4 := Lib.hid (HA3.out.next hb1)
      clear hb1 HA3
      go_wp2
      go_ret
      exact ⟨rfl, HA4.out.below⟩

end Go.Proofs.Ytocjimedbnjmiaa.Co
