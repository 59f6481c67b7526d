/-
  The law StoreRuns, walked: it returns true. Conditions: none but on sizes.
-/
import Derived.Test.YtkokhmjcpnoklaaStActs
namespace Go.Proofs.Ytkokhmjcpnoklaa.Sto
open Go.RowKit

theorem len_q (p g cap : Nat) (x : St) (w : World) (n : Nat) (hx : CodeAt w p g cap x) :
    Calls Try.prog 13 #[.pointer (some ⟨p, 0, none⟩)] (w.drewN n) fun e w' => e = .returned (.int .i64 x.l.length) ∧ w' = w.drewN n :=
  (len_any p g cap x _ (hx.drewN n)).mono fun _ _ ⟨h1, h2⟩ => ⟨h1, h2.symm⟩

set_option maxRecDepth 100000 in
set_option maxHeartbeats 4000000 in
theorem runs_walk (z : Int) (s : ByteArray) (cap : Nat) (ao : Option Addr) (xs : List Ac) (w : World) (hs : s.size ≤ maxLen) (hI : Lies w w.heap.size ao xs) (hF : Fit xs) (hl : xs.length ≤ maxLen) :
    Calls Try.prog 3 #[.int .i64 z, .string s, .slice ao xs.length cap] w fun e w' => e = .returned (.bool true) ∧ Below w.heap.size w w' := by
  unfold maxLen at hs hl
  have HI := Lib.hid hI
  have HF := Lib.hid hF
  clear hI hF
  by_cases h2 : s.size ≤ 200
  · by_cases h60 : xs.length ≤ 60
    · go_enter Try.func3, Try.ntmps3
      go_wp2_with fail
      refine (awake_any _).mono ?_
      rintro e w1 ⟨rfl, hb1⟩
      go_wp2_with fail
      refine (new_any z _ rfl _).mono ?_
      rintro e w2 ⟨p, g, c, rfl, hx2, hp, hg, hb2⟩
      have hbb := hb1.trans (hb2.mono hb1.size)
      go_wp2_with fail
      refine (rnew_any z _ rfl _).mono ?_
      rintro e w3 ⟨q, h, d, rfl, hy3, hq, hh, hb3⟩
      have hB : Both w.heap.size w w3 p g c q h d ⟨zeros (min (max z 0) 1000).toNat, true, none, 0⟩ :=
        ⟨hx2.below hb3 hx2.plt hx2.glt, hy3, hbb.trans (hb3.mono hbb.size), Nat.le_trans hb1.size hp, Nat.le_trans hb1.size hg, Nat.le_trans hbb.size hq, Nat.le_trans hbb.size hh,
          by have := hx2.plt; omega, by have := hx2.plt; omega, by have := hx2.glt; omega, by have := hx2.glt; omega⟩
      clear hx2 hy3 hb1 hb2 hb3 hbb hp hg hq hh
      have HX0 : Hid ((⟨zeros (min (max z 0) 1000).toNat, true, none, 0⟩ : St).n ≤ 0 ∧ ArmOk ⟨zeros (min (max z 0) 1000).toNat, true, none, 0⟩) := ⟨Nat.le_refl _, fun k hk => by cases hk⟩
      by_cases he : s.toList = []
      · generalize (⟨zeros (min (max z 0) 1000).toNat, true, none, 0⟩ : St) = X at *
        have hx0 : X.n ≤ 0 ∧ ArmOk X := HX0.out
        clear HX0
        go_wp2_with fail
        have HB := Lib.hid hB
        have HX0 := Lib.hid hx0
        clear hB hx0
        go_loopw [35] (fun i wr => ∃ (k : Nat) (x : St), k ≤ xs.length ∧ i = .int .i64 k ∧ x.n ≤ 100 * k ∧ Hid (ArmOk x) ∧ Both w.heap.size w wr p g c q h d x) (fun i _ => xs.length - (intOf i).toNat)
        case atStart => exact ⟨0, X, Nat.zero_le _, rfl, HX0.out.1, HX0.out.2, HB.out⟩
        case round =>
          obtain ⟨k, x, hk, rfl, hxn, hxa, hBr⟩ := hrel
          clear HB HX0
          by_cases hlt : k < xs.length
          · have HX := Lib.hid (List.getElem?_eq_getElem hlt)
            obtain ⟨bb, o, rfl, hbb, hi⟩ := HI.out.below hBr.below (by omega)
            have hc := hi k _ HX.out
            have hf := HF.out k _ HX.out
            have hBa := fun ob => hBr.alloc ob
            clear hi
            generalize xs[k] = y at *
            obtain ⟨c0, c1, c2, c3⟩ := hc
            obtain ⟨f0, ⟨f1, f1'⟩, ⟨f2, f2'⟩, f3⟩ := hf
            unfold maxLen at f3
            have hdn := did_n x y
            have hda := Lib.hid (did_arm (y := y) hxa.out f2')
            by_cases h100 : y.s.size ≤ 100
            · go_wp2_with fail
              refine (one_any w.heap.size w _ p g c q h d x y (hBa _) (by omega) hxa.out f1 f1').mono ?_
              rintro e w5 ⟨rfl, hB5⟩
              clear hBa hBr c0 c1 c2 c3
              go_wp2_with fail
              go_roundw
              case rel => exact ⟨k + 1, did x y, by omega, by go_num, by omega, hda, hB5⟩
              case measure => simp [intOf]; omega
            · have hbl := fun ob => (hBa ob).below
              clear hBa
              go_wp2
              go_ret
              exact ⟨rfl, hbl _⟩
          · have hcode := hBr.code
            have c0 := hBr.same.c0
            have hfw := hBr.same.few
            have hcv := fun j => row_text (w := wr.drewN j) (RefAt.drewN hBr.same j).row 0 x.l.length d (by omega) 36 Try.underlying36
            rw [List.drop_zero, List.take_of_length_le (Nat.le_refl _)] at hcv
            have HCV := Lib.hid hcv
            clear hcv
            go_wp2_with fail
            refine (len_any p g c x _ hcode).mono ?_
            rintro e w6 ⟨rfl, rfl⟩
            go_wp2_with fail
            refine (read_all p g c x x.l.length _ hcode rfl).mono ?_
            rintro e w6 ⟨rfl, rfl⟩
            go_wp2_with fail
            have hcv := HCV.out
            generalize S x.l = U at *
            go_quiet ((go_at_call 13; exact Calls.quiet_of_same (len_q _ _ _ _ _ _ hcode)))
            have hBe := (hBr.drewN nq).below
            clear hcv HCV
            go_wp2
            go_ret
            exact ⟨rfl, hBe⟩
      · have he2 : s.toList.isEmpty = false := by simpa using he
        have hbb := hB.below
        have hsz := hB.size
        clear hB HX0
        go_wp2_with fail
        refine (of_any s _ (by unfold maxLen; omega)).mono ?_
        rintro e w4 ⟨p, g, c, rfl, hx4, hp, hg, hb4⟩
        have hbb := hbb.trans (hb4.mono hsz)
        go_wp2_with fail
        refine (rof_any s _ (by omega)).mono ?_
        rintro e w5 ⟨q, h, d, rfl, hy5, hq, hh, hb5⟩
        rw [List.take_of_length_le (by rw [size_list]; omega)] at hx4
        have hs4 := hbb.size
        have hB : Both w.heap.size w w5 p g c q h d ⟨s.data.toList, true, none, 0⟩ :=
          ⟨hx4.below hb5 hx4.plt hx4.glt, hy5, hbb.trans (hb5.mono hs4), Nat.le_trans hsz hp, Nat.le_trans hsz hg, Nat.le_trans hs4 hq, Nat.le_trans hs4 hh,
            by have := hx4.plt; omega, by have := hx4.plt; omega, by have := hx4.glt; omega, by have := hx4.glt; omega⟩
        have HX0 : Hid ((⟨s.data.toList, true, none, 0⟩ : St).n ≤ 0 ∧ ArmOk ⟨s.data.toList, true, none, 0⟩) := ⟨Nat.le_refl _, fun k hk => by cases hk⟩
        clear hx4 hy5 hb4 hb5 hbb hp hg hq hh hs4 hsz
        generalize (⟨s.data.toList, true, none, 0⟩ : St) = X at *
        have hx0 : X.n ≤ 0 ∧ ArmOk X := HX0.out
        clear HX0
        go_wp2_with fail
        have HB := Lib.hid hB
        have HX0 := Lib.hid hx0
        clear hB hx0
        go_loopw [35] (fun i wr => ∃ (k : Nat) (x : St), k ≤ xs.length ∧ i = .int .i64 k ∧ x.n ≤ 100 * k ∧ Hid (ArmOk x) ∧ Both w.heap.size w wr p g c q h d x) (fun i _ => xs.length - (intOf i).toNat)
        case atStart => exact ⟨0, X, Nat.zero_le _, rfl, HX0.out.1, HX0.out.2, HB.out⟩
        case round =>
          obtain ⟨k, x, hk, rfl, hxn, hxa, hBr⟩ := hrel
          clear HB HX0
          by_cases hlt : k < xs.length
          · have HX := Lib.hid (List.getElem?_eq_getElem hlt)
            obtain ⟨bb, o, rfl, hbb, hi⟩ := HI.out.below hBr.below (by omega)
            have hc := hi k _ HX.out
            have hf := HF.out k _ HX.out
            have hBa := fun ob => hBr.alloc ob
            clear hi
            generalize xs[k] = y at *
            obtain ⟨c0, c1, c2, c3⟩ := hc
            obtain ⟨f0, ⟨f1, f1'⟩, ⟨f2, f2'⟩, f3⟩ := hf
            unfold maxLen at f3
            have hdn := did_n x y
            have hda := Lib.hid (did_arm (y := y) hxa.out f2')
            by_cases h100 : y.s.size ≤ 100
            · go_wp2_with fail
              refine (one_any w.heap.size w _ p g c q h d x y (hBa _) (by omega) hxa.out f1 f1').mono ?_
              rintro e w5 ⟨rfl, hB5⟩
              clear hBa hBr c0 c1 c2 c3
              go_wp2_with fail
              go_roundw
              case rel => exact ⟨k + 1, did x y, by omega, by go_num, by omega, hda, hB5⟩
              case measure => simp [intOf]; omega
            · have hbl := fun ob => (hBa ob).below
              clear hBa
              go_wp2
              go_ret
              exact ⟨rfl, hbl _⟩
          · have hcode := hBr.code
            have c0 := hBr.same.c0
            have hfw := hBr.same.few
            have hcv := fun j => row_text (w := wr.drewN j) (RefAt.drewN hBr.same j).row 0 x.l.length d (by omega) 36 Try.underlying36
            rw [List.drop_zero, List.take_of_length_le (Nat.le_refl _)] at hcv
            have HCV := Lib.hid hcv
            clear hcv
            go_wp2_with fail
            refine (len_any p g c x _ hcode).mono ?_
            rintro e w6 ⟨rfl, rfl⟩
            go_wp2_with fail
            refine (read_all p g c x x.l.length _ hcode rfl).mono ?_
            rintro e w6 ⟨rfl, rfl⟩
            go_wp2_with fail
            have hcv := HCV.out
            generalize S x.l = U at *
            go_quiet ((go_at_call 13; exact Calls.quiet_of_same (len_q _ _ _ _ _ _ hcode)))
            have hBe := (hBr.drewN nq).below
            clear hcv HCV
            go_wp2
            go_ret
            exact ⟨rfl, hBe⟩
    · clear HI HF
      go_enter Try.func3, Try.ntmps3
      go_wp2_with fail
      refine (awake_any _).mono ?_
      rintro e w1 ⟨rfl, hb1⟩
      go_wp2_with fail
      go_ret
      exact ⟨rfl, hb1⟩
  · clear HI HF
    go_enter Try.func3, Try.ntmps3
    go_wp2_with fail
    refine (awake_any _).mono ?_
    rintro e w1 ⟨rfl, hb1⟩
    go_wp2_with fail
    go_ret
    exact ⟨rfl, hb1⟩

end Go.Proofs.Ytkokhmjcpnoklaa.Sto
