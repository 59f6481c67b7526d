/-
  The law OctetsReads, walked: it returns true. Conditions: the things are read as data.
-/
import Derived.Test.YtjdlfchllfjhfaaWrite
import Derived.Test.YtjdlfchllfjhfaaWritesWalk
import Derived.Deep.QuietTactic
import Derived.BigQuiet
namespace Go.Proofs.Ytjdlfchllfjhfaa
open Go.RowKit
open Oct

theorem rnumber_same (p : Nat) (n : Int) (l l2 : List UInt8) (b b2 : Bool) (w : World) (h : Same l b l2 b2) (he : EyeAt w p l2 b2) (hn : n ≤ 4) :
    Calls Try.prog 14 #[.pointer (some ⟨p, 0, none⟩), .int .i64 n] w (Reads (.int .u32 (num (got n l))) w p (rleft n l2 b2) (rlost n l2 b2)) := by
  rw [← h.got n]
  exact rnumber_any p n l2 b2 w he hn

theorem rtake_same (p : Nat) (n : Int) (l l2 : List UInt8) (b b2 : Bool) (w : World) (h : Same l b l2 b2) (he : EyeAt w p l2 b2) :
    Calls Try.prog 18 #[.pointer (some ⟨p, 0, none⟩), .int .i64 n] w (Reads (.string (S (got n l))) w p (rleft n l2 b2) (rlost n l2 b2)) := by
  rw [← h.got n]
  exact rtake_any p n l2 b2 w he

theorem rsmall_same (p : Nat) (l l2 : List UInt8) (b b2 : Bool) (w : World) (h : Same l b l2 b2) (he : EyeAt w p l2 b2) :
    Calls Try.prog 20 #[.pointer (some ⟨p, 0, none⟩)] w
      (Reads (.string (S (got (num (got 1 l)) (left 1 l)))) w p (rleft (num (got 1 l)) (rleft 1 l2 b2) (rlost 1 l2 b2)) (rlost (num (got 1 l)) (rleft 1 l2 b2) (rlost 1 l2 b2))) := by
  have h2 := rsmall_any p l2 b2 w he
  rw [h.got 1, (h.step 1).got] at h2
  exact h2

theorem blind_q (p : Nat) (l : List UInt8) (b : Bool) (w : World) (n : Nat) (he : EyeAt w p l b) :
    Calls Try.prog 21 #[.pointer (some ⟨p, 0, none⟩)] (w.drewN n) fun e w' => e = .returned (.bool b) ∧ w' = w.drewN n :=
  (blind_any p l b (w.drewN n) he).mono fun _ _ ⟨h1, h2⟩ => ⟨h1, h2.symm⟩

theorem left_q (p : Nat) (l : List UInt8) (b : Bool) (w : World) (n : Nat) (he : EyeAt w p l b) :
    Calls Try.prog 22 #[.pointer (some ⟨p, 0, none⟩)] (w.drewN n) fun e w' => e = .returned (.int .i64 ((S l).size : Int)) ∧ w' = w.drewN n :=
  (left_any p l b (w.drewN n) he).mono fun _ _ ⟨h1, h2⟩ => ⟨by rw [h1, S_size], h2.symm⟩

theorem done_q (p : Nat) (l : List UInt8) (w : World) (n : Nat) (he : EyeAt w p l false) :
    Calls Try.prog 23 #[.pointer (some ⟨p, 0, none⟩)] (w.drewN n) fun e w' => e = .returned (.bool (((S l).size : Int) == 0)) ∧ w' = w.drewN n :=
  (done_any p l false (w.drewN n) he).mono fun _ _ ⟨h1, h2⟩ => ⟨by rw [h1, S_size]; congr 2; simp [doneB]; rw [Bool.eq_iff_iff]; simp, h2.symm⟩

theorem done_bq (p : Nat) (l : List UInt8) (w : World) (n : Nat) (he : EyeAt w p l true) :
    Calls Try.prog 23 #[.pointer (some ⟨p, 0, none⟩)] (w.drewN n) fun e w' => e = .returned (.bool false) ∧ w' = w.drewN n :=
  (done_any p l true (w.drewN n) he).mono fun _ _ ⟨h1, h2⟩ => ⟨h1, h2.symm⟩

theorem left_bq (p : Nat) (w : World) (n : Nat) (he : EyeAt w p [] true) :
    Calls Try.prog 22 #[.pointer (some ⟨p, 0, none⟩)] (w.drewN n) fun e w' => e = .returned (.int .i64 0) ∧ w' = w.drewN n :=
  (left_any p [] true (w.drewN n) he).mono fun _ _ ⟨h1, h2⟩ => ⟨h1, h2.symm⟩

theorem EyeAt.drewN {w : World} {p : Nat} {l : List UInt8} {b : Bool} (h : EyeAt w p l b) (n : Nat) : EyeAt (w.drewN n) p l b := h
theorem below_drewN {B : Nat} {a w : World} (h : Below B a w) (n : Nat) : Below B a (w.drewN n) := ⟨h.os, h.tape, h.output, h.size, h.block⟩
theorem Same.refl (l : List UInt8) : Same l false l false := ⟨rfl, fun _ => rfl, fun h => by cases h⟩

theorem num_got2 (l : List UInt8) : (num (got 2 l) : Int) ≤ 65535 := by
  have hy0 : num (got 2 l) < 256 ^ 2 := num_got 2 l 2 (by decide)
  have e : (256 : Nat) ^ 2 = 65536 := by decide
  omega

theorem pair_step {N pe pr : Nat} {w a w3 w4 : World} {l1 : List UInt8} {b1 : Bool} (hb : Below N w a) (hN : N ≤ a.heap.size) (hpe : N ≤ pe) (hlt : pe < pr)
    (hg3 : a.grownBy w3 (some pe)) (he3 : EyeAt w3 pe l1 b1) (hg4 : w3.grownBy w4 (some pr)) : EyeAt w4 pe l1 b1 ∧ Below N w w4 :=
  ⟨he3.kept hg4 (by simp; omega), (hb.trans (below_only hg3 hpe hN)).trans (below_only hg4 (by omega) (Nat.le_trans hN hg3.size))⟩

set_option maxRecDepth 100000 in
set_option maxHeartbeats 4000000 in
theorem reads_walk (s : ByteArray) (cap : Nat) (ao : Option Addr) (xs : List It) (w : World) (hs : s.size ≤ maxLen) (hI : Lies w w.heap.size ao xs) (hF : Fit xs) (hl : xs.length ≤ maxLen) :
    Calls Try.prog 4 #[.string s, .slice ao xs.length cap] w fun e w' => e = .returned (.bool true) ∧ Below w.heap.size w w' := by
  unfold maxLen at hs hl
  have HI := Lib.hid hI
  have HF := Lib.hid hF
  clear hI hF
  by_cases h6 : s.size ≤ 600
  · by_cases h60 : xs.length ≤ 60
    · go_enter Try.func4, Try.ntmps4
      go_wp2_with fail
      refine (awake_any _).mono ?_
      rintro e w1 ⟨rfl, hb1⟩
      go_wp2_with fail
      refine (neweye_any s _).mono ?_
      rintro e w2 ⟨rfl, he2, hb2⟩
      have hb12 := hb1.trans (hb2.mono hb1.size)
      have hp1 : w.heap.size ≤ w1.heap.size := hb1.size
      have hp2 : w1.heap.size < w2.heap.size := he2.lt
      have HE := Lib.hid (he2.kept (only_below ((Below.refl _ _).alloc (Nat.le_refl _) (.cells #[.string s, .bool false] 35)) none) (by simp))
      have HR := Lib.hid (eye_new w2 s 35)
      have HB := Lib.hid (hb12.alloc hb12.size (.cells #[.string s, .bool false] 35))
      clear hb1 hb2 he2 hb12
      generalize w1.heap.size = pe at *
      go_wp2_with fail
      generalize w2.heap.size = pr at *
      go_loopw [29] (fun i wr => ∃ (k : Nat) (l l2 : List UInt8) (b b2 : Bool), k ≤ xs.length ∧ i = .int .i64 k ∧ EyeAt wr pe l b ∧ EyeAt wr pr l2 b2 ∧ Same l b l2 b2 ∧ Below w.heap.size w wr) (fun i _ => xs.length - (intOf i).toNat)
      case atStart => exact ⟨0, _, _, _, _, Nat.zero_le _, rfl, HE.out, HR.out, Same.refl _, HB.out⟩
      case round =>
        obtain ⟨k, l, l2, b, b2, hk, rfl, heE, heR, hsame, hbel⟩ := hrel
        by_cases hlt : k < xs.length
        · have HX := Lib.hid (List.getElem?_eq_getElem hlt)
          obtain ⟨ba, o, rfl, hb, hi⟩ := HI.out.below hbel (by omega)
          have hc := hi k _ HX.out
          have hf := HF.out k _ HX.out
          have hN2 := hbel.size
          have hal := fun ob => (Below.refl wr.heap.size wr).alloc (Nat.le_refl _) ob
          have hbel2 := fun ob => hbel.alloc hN2 ob
          have heE2 := fun ob => heE.kept (only_below (hal ob) none) (by simp)
          have heR2 := fun ob => heR.kept (only_below (hal ob) none) (by simp)
          clear hi hbel hal heE heR
          generalize xs[k] = x at *
          obtain ⟨c0, c1, c2⟩ := hc
          obtain ⟨f0, f1, f2⟩ := hf
          unfold maxLen at f2
          rcases case5 x.a with h5 | h5 | h5 | h5 | h5
          · have t0 := test5 x.a _ 0 h5
            clear h5
            have hy := num_got 1 l 1 (by decide)
            go_wp2_with fail
            refine (ebyte_any pe l b _ (heE2 _)).mono ?_
            rintro e w3 ⟨rfl, heE3, hg3⟩
            go_wp2_with fail
            refine (rnumber_same pr 1 l l2 b b2 _ hsame ((heR2 _).kept hg3 (by simp; omega)) (by decide)).mono ?_
            rintro e w4 ⟨rfl, heR4, hg4⟩
            obtain ⟨heE4, hbel4⟩ := pair_step (hbel2 _) (by simp; omega) hp1 hp2 hg3 heE3 hg4
            have hsame4 := hsame.step 1
            generalize left 1 l = l3 at *
            generalize lost 1 l b = b3 at *
            generalize rleft 1 l2 b2 = l4 at *
            generalize rlost 1 l2 b2 = b4 at *
            clear hg3 hg4 heE3 heE2 heR2 hbel2 c0 c1 c2 hsame
            have HS := Lib.hid hsame4
            obtain ⟨rfl, h3, h4⟩ := hsame4
            have hcells := heR4
            obtain ⟨g0, g1, _, _⟩ := hcells
            cases b4
            · obtain rfl := h3 rfl
              clear h3 h4
              go_wp2_with fail
              go_quiet ((first | (go_at_call 21; exact Calls.quiet_of_same (blind_q _ _ _ _ _ heE4)) | (go_at_call 22; exact Calls.quiet_of_same (left_q _ _ _ _ _ heE4)) | (go_at_call 23; exact Calls.quiet_of_same (done_q _ _ _ _ heE4))))
              go_wp2
              go_roundw
              case rel => exact ⟨k + 1, _, _, _, _, by omega, by go_num, heE4.drewN _, heR4.drewN _, HS.out, below_drewN hbel4 _⟩
              case measure => simp [intOf]; omega
            · obtain rfl := h4 rfl
              clear h3 h4
              go_wp2_with fail
              go_quiet ((first | (go_at_call 21; exact Calls.quiet_of_same (blind_q _ _ _ _ _ heE4)) | (go_at_call 22; exact Calls.quiet_of_same (left_bq _ _ _ heE4)) | (go_at_call 23; exact Calls.quiet_of_same (done_bq _ _ _ _ heE4))))
              go_wp2
              go_roundw
              case rel => exact ⟨k + 1, _, _, _, _, by omega, by go_num, heE4.drewN _, heR4.drewN _, HS.out, below_drewN hbel4 _⟩
              case measure => simp [intOf]; omega
          · have t0 := test5 x.a _ 0 h5
            have t1 := test5 x.a _ 1 h5
            clear h5
            have hy := num_got2 l
            go_wp2_with fail
            refine (etwo_any pe l b _ (heE2 _)).mono ?_
            rintro e w3 ⟨rfl, heE3, hg3⟩
            go_wp2_with fail
            refine (rnumber_same pr 2 l l2 b b2 _ hsame ((heR2 _).kept hg3 (by simp; omega)) (by decide)).mono ?_
            rintro e w4 ⟨rfl, heR4, hg4⟩
            obtain ⟨heE4, hbel4⟩ := pair_step (hbel2 _) (by simp; omega) hp1 hp2 hg3 heE3 hg4
            have hsame4 := hsame.step 2
            generalize left 2 l = l3 at *
            generalize lost 2 l b = b3 at *
            generalize rleft 2 l2 b2 = l4 at *
            generalize rlost 2 l2 b2 = b4 at *
            clear hg3 hg4 heE3 heE2 heR2 hbel2 c0 c1 c2 hsame
            have HS := Lib.hid hsame4
            obtain ⟨rfl, h3, h4⟩ := hsame4
            have hcells := heR4
            obtain ⟨g0, g1, _, _⟩ := hcells
            cases b4
            · obtain rfl := h3 rfl
              clear h3 h4
              go_wp2_with fail
              go_quiet ((first | (go_at_call 21; exact Calls.quiet_of_same (blind_q _ _ _ _ _ heE4)) | (go_at_call 22; exact Calls.quiet_of_same (left_q _ _ _ _ _ heE4)) | (go_at_call 23; exact Calls.quiet_of_same (done_q _ _ _ _ heE4))))
              go_wp2
              go_roundw
              case rel => exact ⟨k + 1, _, _, _, _, by omega, by go_num, heE4.drewN _, heR4.drewN _, HS.out, below_drewN hbel4 _⟩
              case measure => simp [intOf]; omega
            · obtain rfl := h4 rfl
              clear h3 h4
              go_wp2_with fail
              go_quiet ((first | (go_at_call 21; exact Calls.quiet_of_same (blind_q _ _ _ _ _ heE4)) | (go_at_call 22; exact Calls.quiet_of_same (left_bq _ _ _ heE4)) | (go_at_call 23; exact Calls.quiet_of_same (done_bq _ _ _ _ heE4))))
              go_wp2
              go_roundw
              case rel => exact ⟨k + 1, _, _, _, _, by omega, by go_num, heE4.drewN _, heR4.drewN _, HS.out, below_drewN hbel4 _⟩
              case measure => simp [intOf]; omega
          · have t0 := test5 x.a _ 0 h5
            have t1 := test5 x.a _ 1 h5
            have t2 := test5 x.a _ 2 h5
            clear h5
            go_wp2_with fail
            refine (efour_any pe l b _ (heE2 _)).mono ?_
            rintro e w3 ⟨rfl, heE3, hg3⟩
            go_wp2_with fail
            refine (rnumber_same pr 4 l l2 b b2 _ hsame ((heR2 _).kept hg3 (by simp; omega)) (by decide)).mono ?_
            rintro e w4 ⟨rfl, heR4, hg4⟩
            obtain ⟨heE4, hbel4⟩ := pair_step (hbel2 _) (by simp; omega) hp1 hp2 hg3 heE3 hg4
            have hsame4 := hsame.step 4
            generalize left 4 l = l3 at *
            generalize lost 4 l b = b3 at *
            generalize rleft 4 l2 b2 = l4 at *
            generalize rlost 4 l2 b2 = b4 at *
            clear hg3 hg4 heE3 heE2 heR2 hbel2 c0 c1 c2 hsame
            have HS := Lib.hid hsame4
            obtain ⟨rfl, h3, h4⟩ := hsame4
            have hcells := heR4
            obtain ⟨g0, g1, _, _⟩ := hcells
            cases b4
            · obtain rfl := h3 rfl
              clear h3 h4
              go_wp2_with fail
              go_quiet ((first | (go_at_call 21; exact Calls.quiet_of_same (blind_q _ _ _ _ _ heE4)) | (go_at_call 22; exact Calls.quiet_of_same (left_q _ _ _ _ _ heE4)) | (go_at_call 23; exact Calls.quiet_of_same (done_q _ _ _ _ heE4))))
              go_wp2
              go_roundw
              case rel => exact ⟨k + 1, _, _, _, _, by omega, by go_num, heE4.drewN _, heR4.drewN _, HS.out, below_drewN hbel4 _⟩
              case measure => simp [intOf]; omega
            · obtain rfl := h4 rfl
              clear h3 h4
              go_wp2_with fail
              go_quiet ((first | (go_at_call 21; exact Calls.quiet_of_same (blind_q _ _ _ _ _ heE4)) | (go_at_call 22; exact Calls.quiet_of_same (left_bq _ _ _ heE4)) | (go_at_call 23; exact Calls.quiet_of_same (done_bq _ _ _ _ heE4))))
              go_wp2
              go_roundw
              case rel => exact ⟨k + 1, _, _, _, _, by omega, by go_num, heE4.drewN _, heR4.drewN _, HS.out, below_drewN hbel4 _⟩
              case measure => simp [intOf]; omega
          · have t0 := test5 x.a _ 0 h5
            have t1 := test5 x.a _ 1 h5
            have t2 := test5 x.a _ 2 h5
            have t3 := test5 x.a _ 3 h5
            clear h5
            go_wp2_with fail
            generalize (x.n : Int) % 1048576 - 2 = nn at *
            go_wp2_with fail
            refine (take_any pe nn l b _ (heE2 _)).mono ?_
            rintro e w3 ⟨rfl, heE3, hg3⟩
            go_wp2_with fail
            refine (rtake_same pr nn l l2 b b2 _ hsame ((heR2 _).kept hg3 (by simp; omega))).mono ?_
            rintro e w4 ⟨rfl, heR4, hg4⟩
            obtain ⟨heE4, hbel4⟩ := pair_step (hbel2 _) (by simp; omega) hp1 hp2 hg3 heE3 hg4
            have hsame4 := hsame.step nn
            generalize left nn l = l3 at *
            generalize lost nn l b = b3 at *
            generalize rleft nn l2 b2 = l4 at *
            generalize rlost nn l2 b2 = b4 at *
            clear hg3 hg4 heE3 heE2 heR2 hbel2 c0 c1 c2 hsame
            have HS := Lib.hid hsame4
            obtain ⟨rfl, h3, h4⟩ := hsame4
            have hcells := heR4
            obtain ⟨g0, g1, _, _⟩ := hcells
            cases b4
            · obtain rfl := h3 rfl
              clear h3 h4
              go_wp2_with fail
              go_quiet ((first | (go_at_call 21; exact Calls.quiet_of_same (blind_q _ _ _ _ _ heE4)) | (go_at_call 22; exact Calls.quiet_of_same (left_q _ _ _ _ _ heE4)) | (go_at_call 23; exact Calls.quiet_of_same (done_q _ _ _ _ heE4))))
              go_wp2
              go_roundw
              case rel => exact ⟨k + 1, _, _, _, _, by omega, by go_num, heE4.drewN _, heR4.drewN _, HS.out, below_drewN hbel4 _⟩
              case measure => simp [intOf]; omega
            · obtain rfl := h4 rfl
              clear h3 h4
              go_wp2_with fail
              go_quiet ((first | (go_at_call 21; exact Calls.quiet_of_same (blind_q _ _ _ _ _ heE4)) | (go_at_call 22; exact Calls.quiet_of_same (left_bq _ _ _ heE4)) | (go_at_call 23; exact Calls.quiet_of_same (done_bq _ _ _ _ heE4))))
              go_wp2
              go_roundw
              case rel => exact ⟨k + 1, _, _, _, _, by omega, by go_num, heE4.drewN _, heR4.drewN _, HS.out, below_drewN hbel4 _⟩
              case measure => simp [intOf]; omega
          · have t0 := test5 x.a _ 0 h5
            have t1 := test5 x.a _ 1 h5
            have t2 := test5 x.a _ 2 h5
            have t3 := test5 x.a _ 3 h5
            have t4 := test5 x.a _ 4 h5
            clear h5
            go_wp2_with fail
            refine (esmall_any pe l b _ (heE2 _)).mono ?_
            rintro e w3 ⟨rfl, heE3, hg3⟩
            go_wp2_with fail
            refine (rsmall_same pr l l2 b b2 _ hsame ((heR2 _).kept hg3 (by simp; omega))).mono ?_
            rintro e w4 ⟨rfl, heR4, hg4⟩
            obtain ⟨heE4, hbel4⟩ := pair_step (hbel2 _) (by simp; omega) hp1 hp2 hg3 heE3 hg4
            have hsame4 := (hsame.step 1).step (num (got 1 l))
            generalize left (num (got 1 l)) (left 1 l) = l3 at *
            generalize lost (num (got 1 l)) (left 1 l) (lost 1 l b) = b3 at *
            generalize rleft (num (got 1 l)) (rleft 1 l2 b2) (rlost 1 l2 b2) = l4 at *
            generalize rlost (num (got 1 l)) (rleft 1 l2 b2) (rlost 1 l2 b2) = b4 at *
            clear hg3 hg4 heE3 heE2 heR2 hbel2 c0 c1 c2 hsame
            have HS := Lib.hid hsame4
            obtain ⟨rfl, h3, h4⟩ := hsame4
            have hcells := heR4
            obtain ⟨g0, g1, _, _⟩ := hcells
            cases b4
            · obtain rfl := h3 rfl
              clear h3 h4
              go_wp2_with fail
              go_quiet ((first | (go_at_call 21; exact Calls.quiet_of_same (blind_q _ _ _ _ _ heE4)) | (go_at_call 22; exact Calls.quiet_of_same (left_q _ _ _ _ _ heE4)) | (go_at_call 23; exact Calls.quiet_of_same (done_q _ _ _ _ heE4))))
              go_wp2
              go_roundw
              case rel => exact ⟨k + 1, _, _, _, _, by omega, by go_num, heE4.drewN _, heR4.drewN _, HS.out, below_drewN hbel4 _⟩
              case measure => simp [intOf]; omega
            · obtain rfl := h4 rfl
              clear h3 h4
              go_wp2_with fail
              go_quiet ((first | (go_at_call 21; exact Calls.quiet_of_same (blind_q _ _ _ _ _ heE4)) | (go_at_call 22; exact Calls.quiet_of_same (left_bq _ _ _ heE4)) | (go_at_call 23; exact Calls.quiet_of_same (done_bq _ _ _ _ heE4))))
              go_wp2
              go_roundw
              case rel => exact ⟨k + 1, _, _, _, _, by omega, by go_num, heE4.drewN _, heR4.drewN _, HS.out, below_drewN hbel4 _⟩
              case measure => simp [intOf]; omega
        · go_wp2
          go_ret
          exact ⟨rfl, hbel⟩
    · clear HI
      go_enter Try.func4, Try.ntmps4
      go_wp2_with fail
      refine (awake_any _).mono ?_
      rintro e w1 ⟨rfl, hb1⟩
      go_wp2
      go_ret
      exact ⟨rfl, hb1⟩
  · clear HI
    go_enter Try.func4, Try.ntmps4
    go_wp2_with fail
    refine (awake_any _).mono ?_
    rintro e w1 ⟨rfl, hb1⟩
    go_wp2
    go_ret
    exact ⟨rfl, hb1⟩

end Go.Proofs.Ytjdlfchllfjhfaa
