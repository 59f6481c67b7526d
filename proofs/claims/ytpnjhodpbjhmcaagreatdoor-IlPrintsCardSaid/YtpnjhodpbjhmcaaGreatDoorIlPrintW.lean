/-
  The law IlPrints, walked: it returns true. Conditions: that the calls answer as is asked.
-/
import Derived.Test.YtpnjhodpbjhmcaaGreatDoorIlPrt
import Derived.Test.YtpnjhodpbjhmcaaGreatDoorIlSame
import Derived.Test.YtpnjhodpbjhmcaaGreatDoorIlRightW
namespace Go.Proofs.YtpnjhodpbjhmcaaGreatDoor.Il
open Go.RowKit
open Go.Proofs.YtpnjhodpbjhmcaaGreatDoor.Ic

theorem asm_back {t : Bs} {l : List In} (h : asmB t = .ok l) {w w' : World} {e : Ending} (ha : Asms t w e w') : ∃ ao cap, e = .returned (.tuple #[.slice ao l.length cap, .int .i64 0, .int .i64 0]) ∧ Lies w' w'.heap.size ao l ∧ Below w.heap.size w w' := by
  obtain ⟨ao, cap, h1, h2, -, h3⟩ := ha
  rw [h] at h1 h2
  exact ⟨ao, cap, h1, h2, h3⟩

set_option maxRecDepth 100000 in
set_option maxHeartbeats 4000000 in
theorem prints_walk {B : Base} (C : Code B) (D : CodeP B) (cap : Nat) (ao : Option Addr) (xs : List In) (w : World) (hE : B.E w.heap.size w) (hI : Lies w w.heap.size ao xs) (hF : FitL xs) :
    Calls Tryz.prog 3 #[.slice ao xs.length cap] w (Tells (.bool true) w) := by
  have CC := Lib.hid C
  have DD := Lib.hid D
  have HI := Lib.hid hI
  have HF := Lib.hid hF
  have HC := Lib.hid (Cur.first hE)
  obtain ⟨N, hN⟩ : ∃ N, w.heap.size = N := ⟨_, rfl⟩
  unfold Tells
  rw [hN] at HI HC ⊢
  clear hI hF C D hE
  by_cases hgd : xs.length ≤ 60
  · have hg2 : ¬ (60 : Int) < xs.length := by omega
    have hP1 := fun (W : World) (hc : Cur B N w W) => DD.out.print N ao cap xs W hc.e hc.size ((HI.out.below hc.below).more hc.size) HF.out hgd
    have hP2 := fun (W : World) (hc : Cur B N w W) => rPrint_any xs ao cap W ((HI.out.below hc.below).more hc.size) HF.out hgd
    have hps : prtL xs = if printsB xs then printL xs else [] := rfl
    have HA : Hid (∀ W, Cur B N w W → printsB xs = true → (prtL xs).length ≤ 4000 → Calls Tryz.prog 7 #[.string (S (prtL xs))] W fun e w' => ∃ ao cap, e = .returned (.tuple #[.slice ao xs.length cap, .int .i64 0, .int .i64 0]) ∧ Lies w' w'.heap.size ao xs ∧ Below W.heap.size W w') := by
      intro W hc hp hle
      refine (CC.out.asm N (prtL xs) W hc.e hc.size hle).mono fun e w' ha => asm_back ?_ ha
      rw [hps, hp, if_pos rfl] at hle ⊢
      exact asm_print xs hp (by omega) hle
    have HS := Lib.hid (fun (W : World) (a1 : Option Addr) (c1 : Nat) (h1 : Lies W W.heap.size a1 xs) (hc : Cur B N w W) => rSame_any xs a1 ao c1 cap W h1 ((HI.out.below hc.below).more hc.size) (by omega))
    have hsz := S_size (prtL xs)
    have HP1 := Lib.hid hP1
    have HP2 := Lib.hid hP2
    have heq : ((S (prtL xs)).toList == (S (prtL xs)).toList) = true := by simp
    clear hP1 hP2 hps hgd
    generalize prtL xs = t at *
    go_enter Tryz.func3, Tryz.ntmps3
    go_wp2_with fail
    refine (awake_any CC.out _ HC.out).mono ?_
    rintro e w1 ⟨rfl, hb1⟩
    have HC1 := Lib.hid (HC.out.next hb1)
    clear hb1
    go_wp2_with fail
    refine (HP1.out _ HC1.out).mono ?_
    rintro e w2 ⟨rfl, hb2⟩
    have HC2 := Lib.hid (HC1.out.next hb2)
    clear hb2
    go_wp2_with fail
    refine (HP2.out _ HC2.out).mono ?_
    rintro e w3 ⟨rfl, hb3⟩
    have HC3 := Lib.hid (HC2.out.next hb3)
    clear hb3
    cases hp : printsB xs
    · clear HA hp
      go_wp2
      go_ret
      exact ⟨by simp, HC3.out.below⟩
    · by_cases hle : t.length ≤ 4000
      · have hle2 : ¬ (4000 : Int) < t.length := by omega
        have HA2 := Lib.hid (HA.out _ HC3.out hp hle)
        clear hp hle HA
        go_wp2_with fail
        refine HA2.out.mono ?_
        rintro e w4 ⟨a1, c1, rfl, h1, hb4⟩
        have HC4 := Lib.hid (HC3.out.next hb4)
        have HS4 := Lib.hid (HS.out w4 a1 c1 h1 HC4.out)
        clear hb4 h1 HS HA2
        go_wp2_with fail
        refine HS4.out.mono ?_
        rintro e w5 ⟨rfl, k, rfl⟩
        go_wp2
        go_ret
        exact ⟨by simp, (HC4.out.drewN k).below⟩
      · have hle2 : (4000 : Int) < t.length := by omega
        clear hp hle HA
        go_wp2
        go_ret
        exact ⟨by simp, HC3.out.below⟩
  · have hg2 : (60 : Int) < xs.length := by omega
    go_enter Tryz.func3, Tryz.ntmps3
    go_wp2_with fail
    refine (awake_any CC.out _ HC.out).mono ?_
    rintro e w1 ⟨rfl, hb1⟩
    have HC1 := Lib.hid (HC.out.next hb1)
    clear hb1
    go_wp2
    go_ret
    exact ⟨by simp, HC1.out.below⟩

end Go.Proofs.YtpnjhodpbjhmcaaGreatDoor.Il
