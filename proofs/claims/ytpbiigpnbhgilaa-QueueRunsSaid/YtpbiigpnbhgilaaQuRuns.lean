/-
  The law QueueRuns, walked: it returns true, where the calls answer as is asked. Conditions: that, and on sizes.
-/
import Derived.Test.YtpbiigpnbhgilaaQuActs
namespace Go.Proofs.Ytpbiigpnbhgilaa.Qu
open Go.RowKit

theorem put_pl (x : Qs ByteArray) (s : ByteArray) (h : Bool) : (putX x s h).pl = x.pl := by
  unfold putX
  split
  · rfl
  · cases h <;> rfl
theorem take_pl (x : Qs ByteArray) (h : Bool) : (takeX x h).pl = x.pl := by cases h <;> rfl

set_option maxRecDepth 100000 in
set_option maxHeartbeats 16000000 in
theorem runs_walk {F : Face ByteArray} (C : CodeS F) (n : Int) (cap : Nat) (ao : Option Addr) (xs : List Ac) (w : World) (hn : I64 n) (hI : Lies w w.heap.size ao xs) (hF : Fit xs) (hl : xs.length ≤ maxLen) :
    Calls Try.prog 3 #[.int .i64 n, .slice ao xs.length cap] w (Tells (.bool true) w) := by
  have CC := Lib.hid C
  have HI := Lib.hid hI
  have HF := Lib.hid hF
  have HN1 := Lib.hid (fun W => CC.out.new n W hn)
  have HN2 := Lib.hid (fun W => rnew_any n W)
  obtain ⟨hn1, hn2⟩ := hn
  unfold maxLen at hl
  clear hI hF C
  by_cases hgd : xs.length ≤ 200
  · go_enter Try.func3, Try.ntmps3
    go_wp2_with fail
    refine (awake_true CC.out _).mono ?_
    rintro e w1 ⟨rfl, hb1⟩
    go_wp2_with fail
    refine (HN1.out _).mono ?_
    rintro e w2 ⟨p, ms, rfl, hx, hm, hb2⟩
    have hr := Run.first hx hm hb2 hb1 hb1.size
    clear hx hm hb2 hb1
    go_wp2_with fail
    refine (HN2.out _).mono ?_
    rintro e w3 ⟨b, ns, rfl, hx, hm, hb3⟩
    have HP := Lib.hid (Pair.new hr hx hm hb3)
    clear hx hm hb3 hr
    go_wp2_with fail
    generalize hNN : w.heap.size = N at *
    have HNN := Lib.hid hNN
    clear hNN
    go_loopw [6, 25] (fun q i wr => ∃ (k b' : Nat) (ms' ns' : List Nat) (x : Qs ByteArray), k ≤ xs.length ∧ q = .pointer (some ⟨b', 0, none⟩) ∧ i = .int .i64 k ∧ Hid (Pair F N w wr p ms' b' ns' x x ∧ x.pl = placesN n)) (fun _ i _ => xs.length - (intOf i).toNat)
    case atStart => exact ⟨0, b, ms, ns, newX n, Nat.zero_le _, rfl, rfl, Lib.hid ⟨HP.out, rfl⟩⟩
    case round =>
      obtain ⟨k, b, ms1, ns1, x, hk, rfl, rfl, hS⟩ := hrel
      clear HP
      by_cases hlt : k < xs.length
      · have HX := Lib.hid (List.getElem?_eq_getElem hlt)
        obtain ⟨bb, of, rfl, hbb, hi⟩ := HI.out.below hS.out.1.run.below (by omega)
        obtain ⟨c0, c1, c2⟩ := hi k _ HX.out
        have HFk := Lib.hid (HF.out k _ HX.out)
        clear hi
        generalize xs[k] = y at *
        have HA := Lib.hid (ActAt.new wr y 29)
        have HP := Lib.hid (hS.out.1.more (alloc_below wr (.cells #[.int .u8 y.a, .bool y.hi, .string y.s] 29)))
        have HPl := Lib.hid hS.out.2
        have n1 := notin_new hS.out.1.run.at_ (Nat.le_refl wr.heap.size)
        have n2 := notin_new (F := refFace) hS.out.1.ref (Nat.le_refl wr.heap.size)
        have HB := Lib.hid (alloc_below wr (.cells #[.int .u8 y.a, .bool y.hi, .string y.s] 29))
        have a0 := HA.out.c0
        have a1 := HA.out.c1
        have a2 := HA.out.c2
        clear hS
        rcases (show y.a % 5 = 0 ∨ y.a % 5 = 1 ∨ y.a % 5 = 2 ∨ y.a % 5 = 3 ∨ y.a % 5 = 4 by omega) with h5 | h5 | h5 | h5 | h5
        · have t0 : ((y.a : Int) % 5 == 0) = true := by rw [beq_iff_eq]; omega
          have HPC := Lib.hid (fun ms w hx => CC.out.put p ms x y.s y.hi w hx HFk.out.2)
          have HRP := Lib.hid (fun ns w hx => rput_any b ns x y.s y.hi w hx)
          go_wp2_with fail
          generalize wr.alloc (Obj.cells #[Value.int .u8 y.a, Value.bool y.hi, Value.string y.s] 29) = W at *
          generalize wr.heap.size = t at *
          have hT0 := HP.out.drew
          clear c0 c1 c2 a0 HA HP HB
          go_region_held3 (fun W' => W'.cell? ⟨t, 1, none⟩ = some (.bool y.hi) ∧ W'.cell? ⟨t, 2, none⟩ = some (.string y.s)) (go_keep)
            (first
              | (go_at_call 8; have hS := ‹_ ∧ _›; (with_reducible refine (HPC.out _ _ hT0.run.at_).mono ?_); rintro e w4 ⟨rfl, ms4, hx4, ho4, hn4⟩; have hT4 := hT0.code hx4 ho4 hn4; have y1 := onlyL_cell ho4 hS.1 n1; have y2 := onlyL_cell ho4 hS.2 n1)
              | (go_at_call 9; have hS := ‹_ ∧ _›; (with_reducible refine (HRP.out _ _ hT4.ref).mono ?_); rintro e w9 ⟨rfl, ns5, hx5, ho5, hn5⟩; have hT5 := hT4.refd hx5 ho5 hn5; have y1 := onlyL_cell ho5 hS.1 n2; have y2 := onlyL_cell ho5 hS.2 n2))
          all_goals
            have HP9 := Lib.hid hT5
            have HPl9 := Lib.hid (show (putX x y.s y.hi).pl = placesN n from (put_pl x y.s y.hi).trans HPl.out)
            clear hT0 hT4 hT5 hx4 hx5 ho4 ho5 hn4 hn5 y1 y2 hS HPC HRP a1 a2
            generalize putX x y.s y.hi = x9 at *
            generalize hb9 : b = b9 at *
            replace hb9 := Lib.hid hb9
            obtain ⟨z0, -, -⟩ := RefAt.cells HP9.out.ref
            have hOk := refFace.ok HP9.out.ref
            have hfit := hOk.fits
            have hpl64 := hOk.pl
            have hro := room_int hOk
            have HLh := Lib.hid (fun m => (show Calls Try.prog 15 #[.pointer (some ⟨p, 0, none⟩), .bool true] (w9.drewN m) fun e w' => e = .returned (.int .i64 (x9.hi.length : Nat)) ∧ w' = w9.drewN m from (CC.out.len p _ x9 true (w9.drewN m) (HP9.out.drewN m).run.at_).mono fun _ _ ⟨h1, h2⟩ => ⟨h1, h2.symm⟩))
            have HLl := Lib.hid (fun m => (show Calls Try.prog 15 #[.pointer (some ⟨p, 0, none⟩), .bool false] (w9.drewN m) fun e w' => e = .returned (.int .i64 (x9.lo.length : Nat)) ∧ w' = w9.drewN m from (CC.out.len p _ x9 false (w9.drewN m) (HP9.out.drewN m).run.at_).mono fun _ _ ⟨h1, h2⟩ => ⟨h1, h2.symm⟩))
            have HRo := Lib.hid (fun m => (show Calls Try.prog 17 #[.pointer (some ⟨p, 0, none⟩)] (w9.drewN m) fun e w' => e = .returned (.int .i64 ((x9.pl : Int) - x9.hi.length - x9.lo.length)) ∧ ∃ k, w' = (w9.drewN m).drewN k from (CC.out.room p _ x9 (w9.drewN m) (HP9.out.drewN m).run.at_).mono fun _ _ ⟨h1, h2⟩ => ⟨by rw [h1, hro], h2⟩))
            have HRh := Lib.hid (fun m => show Calls Try.prog 16 #[.pointer (some ⟨b9, 0, none⟩), .bool true] (w9.drewN m) fun e w' => e = .returned (.int .i64 (x9.hi.length : Nat)) ∧ ∃ k, w' = (w9.drewN m).drewN k from rlen_core _ _ x9 true (w9.drewN m) (HP9.out.drewN m).ref)
            have HRl := Lib.hid (fun m => show Calls Try.prog 16 #[.pointer (some ⟨b9, 0, none⟩), .bool false] (w9.drewN m) fun e w' => e = .returned (.int .i64 (x9.lo.length : Nat)) ∧ ∃ k, w' = (w9.drewN m).drewN k from rlen_core _ _ x9 false (w9.drewN m) (HP9.out.drewN m).ref)
            clear hro hOk
            go_wp2_with fail
            go_quiet ((first
              | (go_at_call 15; first | with_reducible exact Calls.quiet_of_same (HLh.out _) | with_reducible exact Calls.quiet_of_same (HLl.out _))
              | (go_at_call 16; first | with_reducible exact Calls.quiet_of (HRh.out _) | with_reducible exact Calls.quiet_of (HRl.out _))
              | (go_at_call 17; exact Calls.quiet_of (HRo.out _))))
            go_wp2
            go_roundw
            case rel => exact ⟨k + 1, b9, _, _, x9, by omega, rfl, by go_num, Lib.hid ⟨HP9.out.drewN _, HPl9.out⟩⟩
            case measure => simp [intOf]; omega
        · have t0 : ((y.a : Int) % 5 == 0) = false := by rw [beq_eq_false_iff_ne]; omega
          have t1 : ((y.a : Int) % 5 == 1) = true := by rw [beq_iff_eq]; omega
          have HRT := Lib.hid (fun ns w hx => rtake_any b ns x y.hi true w hx)
          have HTC := Lib.hid (fun ms w hx => CC.out.take p ms x y.hi w hx)
          replace HRT : Hid (∀ ns w, RefAt w b ns x → Calls Try.prog 12 #[.pointer (some ⟨b, 0, none⟩), .bool y.hi, .bool true] w (Done refFace b ns (.tuple #[.string (headD x y.hi noStr), .bool (hasC x y.hi)]) (takeX x y.hi) w)) := HRT
          have HPl9 := Lib.hid (show (takeX x y.hi).pl = placesN n from (take_pl x y.hi).trans HPl.out)
          generalize headD x y.hi noStr = hd at *
          generalize hasC x y.hi = hc at *
          go_wp2_with fail
          generalize wr.alloc (Obj.cells #[Value.int .u8 y.a, Value.bool y.hi, Value.string y.s] 29) = W at *
          generalize wr.heap.size = t at *
          refine (HTC.out _ _ HP.out.run.at_).mono ?_
          rintro e w4 ⟨rfl, ms4, hx4, ho4, hn4⟩
          have hT4 := HP.out.code hx4 ho4 hn4
          have hA4 := HA.out.only ho4 n1
          clear a0 a1 a2 hx4 ho4 hn4 HP HA c0 c1 c2 HB HTC
          have HT4 := Lib.hid hT4
          obtain ⟨a0, a1, a2⟩ := hA4
          clear hT4
          go_wp2_with fail
          refine (HRT.out _ _ HT4.out.ref).mono ?_
          rintro e w9 ⟨rfl, ns5, hx5, ho5, hn5⟩
          have HP9 := Lib.hid (HT4.out.refd hx5 ho5 hn5)
          clear hx5 ho5 hn5 HT4 HRT a0 a1 a2
          generalize takeX x y.hi = x9 at *
          generalize hb9 : b = b9 at *
          replace hb9 := Lib.hid hb9
          obtain ⟨z0, -, -⟩ := RefAt.cells HP9.out.ref
          have hOk := refFace.ok HP9.out.ref
          have hfit := hOk.fits
          have hpl64 := hOk.pl
          have hro := room_int hOk
          have HLh := Lib.hid (fun m => (show Calls Try.prog 15 #[.pointer (some ⟨p, 0, none⟩), .bool true] (w9.drewN m) fun e w' => e = .returned (.int .i64 (x9.hi.length : Nat)) ∧ w' = w9.drewN m from (CC.out.len p _ x9 true (w9.drewN m) (HP9.out.drewN m).run.at_).mono fun _ _ ⟨h1, h2⟩ => ⟨h1, h2.symm⟩))
          have HLl := Lib.hid (fun m => (show Calls Try.prog 15 #[.pointer (some ⟨p, 0, none⟩), .bool false] (w9.drewN m) fun e w' => e = .returned (.int .i64 (x9.lo.length : Nat)) ∧ w' = w9.drewN m from (CC.out.len p _ x9 false (w9.drewN m) (HP9.out.drewN m).run.at_).mono fun _ _ ⟨h1, h2⟩ => ⟨h1, h2.symm⟩))
          have HRo := Lib.hid (fun m => (show Calls Try.prog 17 #[.pointer (some ⟨p, 0, none⟩)] (w9.drewN m) fun e w' => e = .returned (.int .i64 ((x9.pl : Int) - x9.hi.length - x9.lo.length)) ∧ ∃ k, w' = (w9.drewN m).drewN k from (CC.out.room p _ x9 (w9.drewN m) (HP9.out.drewN m).run.at_).mono fun _ _ ⟨h1, h2⟩ => ⟨by rw [h1, hro], h2⟩))
          have HRh := Lib.hid (fun m => show Calls Try.prog 16 #[.pointer (some ⟨b9, 0, none⟩), .bool true] (w9.drewN m) fun e w' => e = .returned (.int .i64 (x9.hi.length : Nat)) ∧ ∃ k, w' = (w9.drewN m).drewN k from rlen_core _ _ x9 true (w9.drewN m) (HP9.out.drewN m).ref)
          have HRl := Lib.hid (fun m => show Calls Try.prog 16 #[.pointer (some ⟨b9, 0, none⟩), .bool false] (w9.drewN m) fun e w' => e = .returned (.int .i64 (x9.lo.length : Nat)) ∧ ∃ k, w' = (w9.drewN m).drewN k from rlen_core _ _ x9 false (w9.drewN m) (HP9.out.drewN m).ref)
          clear hro hOk
          go_wp2_with fail
          go_quiet ((first
            | (go_at_call 15; first | with_reducible exact Calls.quiet_of_same (HLh.out _) | with_reducible exact Calls.quiet_of_same (HLl.out _))
            | (go_at_call 16; first | with_reducible exact Calls.quiet_of (HRh.out _) | with_reducible exact Calls.quiet_of (HRl.out _))
            | (go_at_call 17; exact Calls.quiet_of (HRo.out _))))
          go_wp2
          go_roundw
          case rel => exact ⟨k + 1, b9, _, _, x9, by omega, rfl, by go_num, Lib.hid ⟨HP9.out.drewN _, HPl9.out⟩⟩
          case measure => simp [intOf]; omega
        · have t0 : ((y.a : Int) % 5 == 0) = false := by rw [beq_eq_false_iff_ne]; omega
          have t1 : ((y.a : Int) % 5 == 1) = false := by rw [beq_eq_false_iff_ne]; omega
          have t2 : ((y.a : Int) % 5 == 2) = true := by rw [beq_iff_eq]; omega
          have HRT := Lib.hid (fun ns w hx => rtake_any b ns x y.hi false w hx)
          have HTC := Lib.hid (fun ms w hx => CC.out.peek p ms x y.hi w hx)
          replace HRT : Hid (∀ ns w, RefAt w b ns x → Calls Try.prog 12 #[.pointer (some ⟨b, 0, none⟩), .bool y.hi, .bool false] w (Done refFace b ns (.tuple #[.string (headD x y.hi noStr), .bool (hasC x y.hi)]) x w)) := HRT
          have HPl9 := Lib.hid (show x.pl = placesN n from HPl.out)
          generalize headD x y.hi noStr = hd at *
          generalize hasC x y.hi = hc at *
          go_wp2_with fail
          generalize wr.alloc (Obj.cells #[Value.int .u8 y.a, Value.bool y.hi, Value.string y.s] 29) = W at *
          generalize wr.heap.size = t at *
          refine (HTC.out _ _ HP.out.run.at_).mono ?_
          rintro e w4 ⟨rfl, hb4⟩
          have hT4 := HP.out.more hb4
          have hA4 := HA.out.below hb4
          clear a0 a1 a2 hb4 HP HA c0 c1 c2 HB HTC
          have HT4 := Lib.hid hT4
          obtain ⟨a0, a1, a2⟩ := hA4
          clear hT4
          go_wp2_with fail
          refine (HRT.out _ _ HT4.out.ref).mono ?_
          rintro e w9 ⟨rfl, ns5, hx5, ho5, hn5⟩
          have HP9 := Lib.hid (HT4.out.refd hx5 ho5 hn5)
          clear hx5 ho5 hn5 HT4 HRT a0 a1 a2
          generalize x = x9 at *
          generalize hb9 : b = b9 at *
          replace hb9 := Lib.hid hb9
          obtain ⟨z0, -, -⟩ := RefAt.cells HP9.out.ref
          have hOk := refFace.ok HP9.out.ref
          have hfit := hOk.fits
          have hpl64 := hOk.pl
          have hro := room_int hOk
          have HLh := Lib.hid (fun m => (show Calls Try.prog 15 #[.pointer (some ⟨p, 0, none⟩), .bool true] (w9.drewN m) fun e w' => e = .returned (.int .i64 (x9.hi.length : Nat)) ∧ w' = w9.drewN m from (CC.out.len p _ x9 true (w9.drewN m) (HP9.out.drewN m).run.at_).mono fun _ _ ⟨h1, h2⟩ => ⟨h1, h2.symm⟩))
          have HLl := Lib.hid (fun m => (show Calls Try.prog 15 #[.pointer (some ⟨p, 0, none⟩), .bool false] (w9.drewN m) fun e w' => e = .returned (.int .i64 (x9.lo.length : Nat)) ∧ w' = w9.drewN m from (CC.out.len p _ x9 false (w9.drewN m) (HP9.out.drewN m).run.at_).mono fun _ _ ⟨h1, h2⟩ => ⟨h1, h2.symm⟩))
          have HRo := Lib.hid (fun m => (show Calls Try.prog 17 #[.pointer (some ⟨p, 0, none⟩)] (w9.drewN m) fun e w' => e = .returned (.int .i64 ((x9.pl : Int) - x9.hi.length - x9.lo.length)) ∧ ∃ k, w' = (w9.drewN m).drewN k from (CC.out.room p _ x9 (w9.drewN m) (HP9.out.drewN m).run.at_).mono fun _ _ ⟨h1, h2⟩ => ⟨by rw [h1, hro], h2⟩))
          have HRh := Lib.hid (fun m => show Calls Try.prog 16 #[.pointer (some ⟨b9, 0, none⟩), .bool true] (w9.drewN m) fun e w' => e = .returned (.int .i64 (x9.hi.length : Nat)) ∧ ∃ k, w' = (w9.drewN m).drewN k from rlen_core _ _ x9 true (w9.drewN m) (HP9.out.drewN m).ref)
          have HRl := Lib.hid (fun m => show Calls Try.prog 16 #[.pointer (some ⟨b9, 0, none⟩), .bool false] (w9.drewN m) fun e w' => e = .returned (.int .i64 (x9.lo.length : Nat)) ∧ ∃ k, w' = (w9.drewN m).drewN k from rlen_core _ _ x9 false (w9.drewN m) (HP9.out.drewN m).ref)
          clear hro hOk
          go_wp2_with fail
          go_quiet ((first
            | (go_at_call 15; first | with_reducible exact Calls.quiet_of_same (HLh.out _) | with_reducible exact Calls.quiet_of_same (HLl.out _))
            | (go_at_call 16; first | with_reducible exact Calls.quiet_of (HRh.out _) | with_reducible exact Calls.quiet_of (HRl.out _))
            | (go_at_call 17; exact Calls.quiet_of (HRo.out _))))
          go_wp2
          go_roundw
          case rel => exact ⟨k + 1, b9, _, _, x9, by omega, rfl, by go_num, Lib.hid ⟨HP9.out.drewN _, HPl9.out⟩⟩
          case measure => simp [intOf]; omega
        · have t0 : ((y.a : Int) % 5 == 0) = false := by rw [beq_eq_false_iff_ne]; omega
          have t1 : ((y.a : Int) % 5 == 1) = false := by rw [beq_eq_false_iff_ne]; omega
          have t2 : ((y.a : Int) % 5 == 2) = false := by rw [beq_eq_false_iff_ne]; omega
          have t3 : ((y.a : Int) % 5 == 3) = true := by rw [beq_iff_eq]; omega
          have HFC := Lib.hid (fun ms w hx => CC.out.fault p ms x w hx)
          go_wp2_with fail
          generalize wr.alloc (Obj.cells #[Value.int .u8 y.a, Value.bool y.hi, Value.string y.s] 29) = W at *
          generalize wr.heap.size = t at *
          have hT0 := HP.out.drew
          have hbm : b ∉ ms1 := fun hin => HP.out.apart b hin (RefAt.mem HP.out.ref)
          obtain ⟨-, z3, -⟩ := RefAt.cells HP.out.ref
          have HPl9 := Lib.hid (show (calmX x).pl = placesN n from HPl.out)
          clear c0 c1 c2 a0 a1 a2 HA HP HB
          go_region_held3 (fun W' => W'.cell? ⟨b, 3, none⟩ = some (.bool x.f)) (go_keep)
            (first
              | (go_at_call 13; (with_reducible refine (HFC.out _ _ hT0.run.at_).mono ?_); rintro e w4 ⟨rfl, ms4, hx4, ho4, hn4⟩; have hT4 := hT0.code hx4 ho4 hn4; have y1 := (RefAt.cells hT4.ref).2.1))
          all_goals
            have HT4 := Lib.hid hT4
            have z4 := (RefAt.cells hT4.ref).2.1
            have z5 := (RefAt.cells hT4.ref).2.2
            have HP9 := Lib.hid (hT4.refd (RefAt.calm hT4.ref) (OnlyL.set (RefAt.mem hT4.ref) _ _) (fun j hj => .inl hj))
            clear hT0 hT4 hx4 ho4 hn4 y1 HFC z3 HT4
            generalize calmX x = x9 at *
            generalize hb9 : b = b9 at *
            replace hb9 := Lib.hid hb9
            go_wp2_with fail
            generalize hw9 : w4.setCell ⟨b9, 3, none⟩ (.bool false) = w9 at *
            clear z4 z5 hw9
            obtain ⟨z0, -, -⟩ := RefAt.cells HP9.out.ref
            have hOk := refFace.ok HP9.out.ref
            have hfit := hOk.fits
            have hpl64 := hOk.pl
            have hro := room_int hOk
            have HLh := Lib.hid (fun m => (show Calls Try.prog 15 #[.pointer (some ⟨p, 0, none⟩), .bool true] (w9.drewN m) fun e w' => e = .returned (.int .i64 (x9.hi.length : Nat)) ∧ w' = w9.drewN m from (CC.out.len p _ x9 true (w9.drewN m) (HP9.out.drewN m).run.at_).mono fun _ _ ⟨h1, h2⟩ => ⟨h1, h2.symm⟩))
            have HLl := Lib.hid (fun m => (show Calls Try.prog 15 #[.pointer (some ⟨p, 0, none⟩), .bool false] (w9.drewN m) fun e w' => e = .returned (.int .i64 (x9.lo.length : Nat)) ∧ w' = w9.drewN m from (CC.out.len p _ x9 false (w9.drewN m) (HP9.out.drewN m).run.at_).mono fun _ _ ⟨h1, h2⟩ => ⟨h1, h2.symm⟩))
            have HRo := Lib.hid (fun m => (show Calls Try.prog 17 #[.pointer (some ⟨p, 0, none⟩)] (w9.drewN m) fun e w' => e = .returned (.int .i64 ((x9.pl : Int) - x9.hi.length - x9.lo.length)) ∧ ∃ k, w' = (w9.drewN m).drewN k from (CC.out.room p _ x9 (w9.drewN m) (HP9.out.drewN m).run.at_).mono fun _ _ ⟨h1, h2⟩ => ⟨by rw [h1, hro], h2⟩))
            have HRh := Lib.hid (fun m => show Calls Try.prog 16 #[.pointer (some ⟨b9, 0, none⟩), .bool true] (w9.drewN m) fun e w' => e = .returned (.int .i64 (x9.hi.length : Nat)) ∧ ∃ k, w' = (w9.drewN m).drewN k from rlen_core _ _ x9 true (w9.drewN m) (HP9.out.drewN m).ref)
            have HRl := Lib.hid (fun m => show Calls Try.prog 16 #[.pointer (some ⟨b9, 0, none⟩), .bool false] (w9.drewN m) fun e w' => e = .returned (.int .i64 (x9.lo.length : Nat)) ∧ ∃ k, w' = (w9.drewN m).drewN k from rlen_core _ _ x9 false (w9.drewN m) (HP9.out.drewN m).ref)
            clear hro hOk
            go_quiet ((first
              | (go_at_call 15; first | with_reducible exact Calls.quiet_of_same (HLh.out _) | with_reducible exact Calls.quiet_of_same (HLl.out _))
              | (go_at_call 16; first | with_reducible exact Calls.quiet_of (HRh.out _) | with_reducible exact Calls.quiet_of (HRl.out _))
              | (go_at_call 17; exact Calls.quiet_of (HRo.out _))))
            go_wp2
            go_roundw
            case rel => exact ⟨k + 1, b9, _, _, x9, by omega, rfl, by go_num, Lib.hid ⟨HP9.out.drewN _, HPl9.out⟩⟩
            case measure => simp [intOf]; omega
        · have t0 : ((y.a : Int) % 5 == 0) = false := by rw [beq_eq_false_iff_ne]; omega
          have t1 : ((y.a : Int) % 5 == 1) = false := by rw [beq_eq_false_iff_ne]; omega
          have t2 : ((y.a : Int) % 5 == 2) = false := by rw [beq_eq_false_iff_ne]; omega
          have t3 : ((y.a : Int) % 5 == 3) = false := by rw [beq_eq_false_iff_ne]; omega
          have t4 : ((y.a : Int) % 5 == 4) = true := by rw [beq_iff_eq]; omega
          have HCC := Lib.hid (fun ms w hx => CC.out.clear p ms x w hx)
          have hbx : bareX x = newX n := by unfold bareX newX; rw [HPl.out]
          rw [hbx] at HCC
          have HPl9 := Lib.hid (show (newX n : Qs ByteArray).pl = placesN n from rfl)
          go_wp2_with fail
          generalize wr.alloc (Obj.cells #[Value.int .u8 y.a, Value.bool y.hi, Value.string y.s] 29) = W at *
          generalize wr.heap.size = t at *
          refine (HCC.out _ _ HP.out.run.at_).mono ?_
          rintro e w4 ⟨rfl, ms4, hx4, ho4, hn4⟩
          have hT4 := HP.out.code hx4 ho4 hn4
          clear a0 a1 a2 hx4 ho4 hn4 HP HA c0 c1 c2 HB HCC hbx
          go_wp2_with fail
          refine (HN2.out _).mono ?_
          rintro e w9 ⟨b9, ns9, rfl, hx9, hm9, hb9⟩
          have HP9 := Lib.hid (Pair.new hT4.run hx9 hm9 hb9)
          clear hx9 hm9 hb9 hT4
          generalize (newX n : Qs ByteArray) = x9 at *
          obtain ⟨z0, -, -⟩ := RefAt.cells HP9.out.ref
          have hOk := refFace.ok HP9.out.ref
          have hfit := hOk.fits
          have hpl64 := hOk.pl
          have hro := room_int hOk
          have HLh := Lib.hid (fun m => (show Calls Try.prog 15 #[.pointer (some ⟨p, 0, none⟩), .bool true] (w9.drewN m) fun e w' => e = .returned (.int .i64 (x9.hi.length : Nat)) ∧ w' = w9.drewN m from (CC.out.len p _ x9 true (w9.drewN m) (HP9.out.drewN m).run.at_).mono fun _ _ ⟨h1, h2⟩ => ⟨h1, h2.symm⟩))
          have HLl := Lib.hid (fun m => (show Calls Try.prog 15 #[.pointer (some ⟨p, 0, none⟩), .bool false] (w9.drewN m) fun e w' => e = .returned (.int .i64 (x9.lo.length : Nat)) ∧ w' = w9.drewN m from (CC.out.len p _ x9 false (w9.drewN m) (HP9.out.drewN m).run.at_).mono fun _ _ ⟨h1, h2⟩ => ⟨h1, h2.symm⟩))
          have HRo := Lib.hid (fun m => (show Calls Try.prog 17 #[.pointer (some ⟨p, 0, none⟩)] (w9.drewN m) fun e w' => e = .returned (.int .i64 ((x9.pl : Int) - x9.hi.length - x9.lo.length)) ∧ ∃ k, w' = (w9.drewN m).drewN k from (CC.out.room p _ x9 (w9.drewN m) (HP9.out.drewN m).run.at_).mono fun _ _ ⟨h1, h2⟩ => ⟨by rw [h1, hro], h2⟩))
          have HRh := Lib.hid (fun m => show Calls Try.prog 16 #[.pointer (some ⟨b9, 0, none⟩), .bool true] (w9.drewN m) fun e w' => e = .returned (.int .i64 (x9.hi.length : Nat)) ∧ ∃ k, w' = (w9.drewN m).drewN k from rlen_core _ _ x9 true (w9.drewN m) (HP9.out.drewN m).ref)
          have HRl := Lib.hid (fun m => show Calls Try.prog 16 #[.pointer (some ⟨b9, 0, none⟩), .bool false] (w9.drewN m) fun e w' => e = .returned (.int .i64 (x9.lo.length : Nat)) ∧ ∃ k, w' = (w9.drewN m).drewN k from rlen_core _ _ x9 false (w9.drewN m) (HP9.out.drewN m).ref)
          clear hro hOk
          go_wp2_with fail
          go_quiet ((first
            | (go_at_call 15; first | with_reducible exact Calls.quiet_of_same (HLh.out _) | with_reducible exact Calls.quiet_of_same (HLl.out _))
            | (go_at_call 16; first | with_reducible exact Calls.quiet_of (HRh.out _) | with_reducible exact Calls.quiet_of (HRl.out _))
            | (go_at_call 17; exact Calls.quiet_of (HRo.out _))))
          go_wp2
          go_roundw
          case rel => exact ⟨k + 1, b9, _, _, x9, by omega, rfl, by go_num, Lib.hid ⟨HP9.out.drewN _, HPl9.out⟩⟩
          case measure => simp [intOf]; omega
      · obtain rfl : k = xs.length := by omega
        go_wp2
        go_ret
        exact ⟨rfl, by rw [HNN.out]; exact hS.out.1.run.below⟩
  · have hgi : (200 : Int) < xs.length := by omega
    go_enter Try.func3, Try.ntmps3
    go_wp2_with fail
    refine (awake_true CC.out _).mono ?_
    rintro e w1 ⟨rfl, hb1⟩
    go_wp2
    go_ret
    exact ⟨rfl, hb1⟩

end Go.Proofs.Ytpbiigpnbhgilaa.Qu
