/-
  The landed queue's calls at one type, walked: class, Len, Room, New, Peek, Fault, Clear, Take, Put. Conditions: none.
-/
import Derived.Test.YtpbiigpnbhgilaaQcDelS
namespace Go.Proofs.Ytpbiigpnbhgilaa.Qu
open Go.RowKit

abbrev faceCS : Face ByteArray := cFace 9 Value.string
theorem mapS_one (l : List ByteArray) : ∀ u ∈ l.map Value.string, u.oneCell' = true := by
  intro u hu
  obtain ⟨a, -, rfl⟩ := List.mem_map.1 hu
  rfl
theorem classS_any (b : Nat) (h : Bool) (w : World) : Calls Try.prog 25 #[.pointer (some ⟨b, 0, none⟩), .bool h] w fun e w' => e = .returned (.pointer (some ⟨b, colC h, none⟩)) ∧ w = w' := by
  cases h
  all_goals
    go_enter Try.func25, Try.ntmps25
    go_wp2
    go_ret
    exact ⟨rfl, rfl⟩

set_option maxHeartbeats 800000 in
theorem newS_any (n : Int) (w : World) : Calls Try.prog 6 #[.int .i64 n] w (News faceCS (newX n) w) := by
  have h1 := run_maxI n
  have h2 := run_minI n
  have HF := Lib.hid (fun t => CAt.fresh (T := 9) (enc := Value.string) w n t)
  have HB := Lib.hid (fun o => alloc_below w o)
  generalize placesN n = k at *
  generalize maxI n = m at *
  go_enter Try.func6, Try.ntmps6
  go_wp2
  go_ret
  exact ⟨_, _, rfl, HF.out _, fun j hj => by simp at hj; omega, HB.out _⟩

theorem lenS_core (b : Nat) (x : Qs ByteArray) (v : Bool → Value) (h : Bool) (w : World) (hv : CV 9 Value.string w b x v) :
    Calls Try.prog 15 #[.pointer (some ⟨b, 0, none⟩), .bool h] w fun e w' => e = .returned (.int .i64 ((ofC x h).length : Nat)) ∧ w = w' := by
  have c := hv.cl h
  obtain ⟨A, cp, hA⟩ := ownC_form (hv.row h)
  rw [hA] at c
  have HC := Lib.hid (classS_any b h w)
  clear hv hA
  generalize (ofC x h).length = n at *
  generalize colC h = o at *
  go_enter Try.func15, Try.ntmps15
  go_wp2_with fail
  refine HC.out.mono ?_
  rintro e w1 ⟨rfl, rfl⟩
  go_wp2
  go_ret
  exact ⟨rfl, rfl⟩

theorem roomS_core (b : Nat) (x : Qs ByteArray) (v : Bool → Value) (w : World) (hv : CV 9 Value.string w b x v) :
    Calls Try.prog 17 #[.pointer (some ⟨b, 0, none⟩)] w fun e w' => e = .returned (.int .i64 (roomN x : Nat)) ∧ ∃ k, w' = w.drewN k := by
  have c0 := hv.c0
  have hfit := hv.ok.fits
  have hpl := hv.ok.pl
  have HH := Lib.hid (fun m => (show Calls Try.prog 15 #[.pointer (some ⟨b, 0, none⟩), .bool true] (w.drewN m) fun e w' => e = .returned (.int .i64 (x.hi.length : Nat)) ∧ w' = w.drewN m from (lenS_core b x v true (w.drewN m) (hv.drewN m)).mono fun _ _ ⟨h1, h2⟩ => ⟨h1, h2.symm⟩))
  have HL := Lib.hid (fun m => (show Calls Try.prog 15 #[.pointer (some ⟨b, 0, none⟩), .bool false] (w.drewN m) fun e w' => e = .returned (.int .i64 (x.lo.length : Nat)) ∧ w' = w.drewN m from (lenS_core b x v false (w.drewN m) (hv.drewN m)).mono fun _ _ ⟨h1, h2⟩ => ⟨h1, h2.symm⟩))
  have hR : ((roomN x : Nat) : Int) = (x.pl : Int) - x.hi.length - x.lo.length := by unfold roomN; omega
  rw [hR]
  clear hR hv
  go_enter Try.func17, Try.ntmps17
  go_wp2_with fail
  go_quiet ((go_at_call 15; first | with_reducible exact Calls.quiet_of_same (HH.out _) | with_reducible exact Calls.quiet_of_same (HL.out _)))
  go_wp2
  go_ret
  exact ⟨rfl, _, rfl⟩

theorem peekS_core (b : Nat) (x : Qs ByteArray) (v : Bool → Value) (h : Bool) (w : World) (hv : CV 9 Value.string w b x v) :
    Calls Try.prog 11 #[.pointer (some ⟨b, 0, none⟩), .bool h] w fun e w' => e = .returned (.tuple #[Value.string (headD x h noStr), .bool (hasC x h)]) ∧ w = w' := by
  have c := hv.cl h
  have HC := Lib.hid (classS_any b h w)
  have HL := Lib.hid (lenS_core b x v h w hv)
  have hr := hv.row h
  have hle := of_le hv.ok h
  clear hv
  unfold headD hasC
  generalize colC h = o at *
  generalize ofC x h = l at *
  cases l with
  | nil =>
    clear hr c HC
    go_enter Try.func11, Try.ntmps11
    go_wp2_with fail
    refine HL.out.mono ?_
    rintro e w1 ⟨rfl, rfl⟩
    go_wp2
    go_ret2
    exact ⟨by simp, rfl⟩
  | cons a l =>
    obtain ⟨g, cp, hA⟩ := ownC_slice hr (by simp)
    rw [hA] at c hr
    have ca : w.cell? ⟨g, 0, none⟩ = some (Value.string a) := by
      rw [World.ownsRow.cellAt hr 0 (by simp)]
      rfl
    have hn : ¬ ((a :: l).length : Int) = 0 := by simp; omega
    have hn2 : (0 : Int) < ((a :: l).length : Int) := by omega
    have hd : decide (0 < (a :: l).length) = true := by simp
    rw [hd]
    replace hA := Lib.hid hA
    clear hr hd
    generalize (a :: l).length = n at *
    show Calls _ _ _ _ fun e w' => e = .returned (.tuple #[Value.string a, .bool true]) ∧ w = w'
    clear hA
    go_enter Try.func11, Try.ntmps11
    go_wp2_with fail
    refine HL.out.mono ?_
    rintro e w1 ⟨rfl, rfl⟩
    go_wp2_with fail
    refine HC.out.mono ?_
    rintro e w1 ⟨rfl, rfl⟩
    go_wp2
    go_ret2
    exact ⟨rfl, rfl⟩

theorem faultS_any (b : Nat) (ms : List Nat) (x : Qs ByteArray) (w : World) (hx : faceCS.At w b ms x) : Calls Try.prog 13 #[.pointer (some ⟨b, 0, none⟩)] w (Done faceCS b ms (.bool x.f) (calmX x) w) := by
  obtain ⟨v, rfl, hv⟩ := hx
  have c3 := hv.c3
  have f3 := hv.fz 3
  have HD := Lib.hid (hv.fault_done false (.bool x.f))
  clear hv
  go_enter Try.func13, Try.ntmps13
  go_wp2
  go_ret
  exact HD.out

set_option maxHeartbeats 2000000 in
theorem clearS_any (b : Nat) (ms : List Nat) (x : Qs ByteArray) (w : World) (hx : faceCS.At w b ms x) : Calls Try.prog 14 #[.pointer (some ⟨b, 0, none⟩)] w (Done faceCS b ms (.tuple #[]) (bareX x) w) := by
  obtain ⟨v, rfl, hv⟩ := hx
  have c0 := hv.c0
  have c1 : w.cell? ⟨b, 1, none⟩ = some (v true) := hv.cl true
  have c2 : w.cell? ⟨b, 2, none⟩ = some (v false) := hv.cl false
  have c3 := hv.c3
  have f0 := hv.fz 0
  have f1 := hv.fz 1
  have f2 := hv.fz 2
  have f3 := hv.fz 3
  have HD := Lib.hid (hv.bare (.tuple #[]))
  clear hv
  go_enter Try.func14, Try.ntmps14
  go_wp2
  go_end0
  exact HD.out

set_option maxHeartbeats 2000000 in
theorem takeS_none (b : Nat) (ms : List Nat) (x : Qs ByteArray) (h : Bool) (w : World) (hx : faceCS.At w b ms x) (he : hasC x h = false) :
    Calls Try.prog 10 #[.pointer (some ⟨b, 0, none⟩), .bool h] w (Done faceCS b ms (.tuple #[Value.string (headD x h noStr), .bool (hasC x h)]) (takeX x h) w) := by
  obtain ⟨v, rfl, hv⟩ := hx
  have HP := Lib.hid (peekS_core b x v h w hv)
  have ht : takeX x h = x := by
    have hn : ofC x h = [] := by
      unfold hasC at he
      simpa using he
    cases h <;> simp [ofC] at hn <;> simp [takeX, setC, ofC, hn] <;> cases x <;> simp_all
  rw [ht, he]
  rw [he] at HP
  have HD := Lib.hid (show ∀ val, Done faceCS b (blk b v) val x w (.returned val) w from fun val => ⟨rfl, _, ⟨v, rfl, hv⟩, OnlyL.refl _ w, fun _ hj => .inl hj⟩)
  clear hv ht he
  generalize headD x h noStr = hd at *
  go_enter Try.func10, Try.ntmps10
  go_wp2_with fail
  refine HP.out.mono ?_
  rintro e w1 ⟨rfl, rfl⟩
  go_wp2
  go_ret2
  exact HD.out _

set_option maxHeartbeats 2000000 in
theorem takeS_go (b : Nat) (ms : List Nat) (x : Qs ByteArray) (h : Bool) (w : World) (hx : faceCS.At w b ms x) (he : hasC x h = true) :
    Calls Try.prog 10 #[.pointer (some ⟨b, 0, none⟩), .bool h] w (Done faceCS b ms (.tuple #[Value.string (headD x h noStr), .bool (hasC x h)]) (takeX x h) w) := by
  obtain ⟨v, rfl, hv⟩ := hx
  have HP := Lib.hid (peekS_core b x v h w hv)
  have HC := Lib.hid (classS_any b h w)
  have hle := of_le hv.ok h
  have hlt : 0 < (ofC x h).length := by unfold hasC at he; simpa using he
  obtain ⟨g, cp, hA⟩ := ownC_slice (hv.row h) hlt
  have c := hv.cl h
  have fz := hv.fz (colC h)
  have hr := hv.row h
  rw [hA] at c hr
  have HDel := Lib.hid (deleteS_any g cp ((ofC x h).map Value.string) w (mapS_one _) (by simpa using hr) (by simpa using hlt) (by simpa using hle))
  rw [List.length_map] at HDel
  have HN := Lib.hid (fun (W : World) (hO : OnlyL [g] w W) (hu : W.ownsRow 0 9 1 (.slice (some ⟨g, 0, none⟩) ((ofC x h).length - 1) cp) ((ofC x h).length - 1) (((ofC x h).map Value.string).drop 1)) (val : Value) =>
    (show Done faceCS b (blk b v) val (takeX x h) w (.returned val) (W.setCell ⟨b, colC h, none⟩ (.slice (some ⟨g, 0, none⟩) ((ofC x h).length - 1) cp)) from
      hv.turn h (.slice (some ⟨g, 0, none⟩) ((ofC x h).length - 1) cp) ((ofC x h).drop 1) val ⟨hO.os, hO.tape, hO.output⟩ hO.size
        (fun k hk hne => hO.block k hk (by simp only [List.mem_singleton]; intro e; exact hne (by rw [hA, e]; rfl)))
        (by rw [List.length_drop, List.map_drop]; exact hu) (fun k hk => .inl (by rw [hA]; exact hk)) (hv.ok.take h)))
  have HB := Lib.hid (show b ≠ g from fun e => hv.nb h (by rw [hA, e]; rfl))
  have HBl := Lib.hid (World.block_lt_of_cell? w ⟨b, 0, none⟩ hv.c0)
  rw [he] at HP ⊢
  clear hv hr hA he hle
  generalize headD x h noStr = hd at *
  generalize takeX x h = y at *
  generalize ((ofC x h).map Value.string).drop 1 = l1 at *
  generalize (ofC x h).length = n at *
  generalize colC h = o at *
  go_enter Try.func10, Try.ntmps10
  go_wp2_with fail
  refine HP.out.mono ?_
  rintro e w1 ⟨rfl, rfl⟩
  go_wp2_with fail
  refine HC.out.mono ?_
  rintro e w1 ⟨rfl, rfl⟩
  go_wp2_with fail
  refine HDel.out.mono ?_
  rintro e w1 ⟨rfl, hO, hu⟩
  have c1 := onlyL_cell hO c (by simp only [List.mem_singleton]; exact HB.out)
  have f1 : w1.frozen? ⟨b, o, none⟩ = false := (World.frozen?_of_block (a := ⟨b, o, none⟩) (hO.block b HBl.out (by simp only [List.mem_singleton]; exact HB.out))).trans fz
  have HD := Lib.hid (HN.out w1 hO hu (.tuple #[Value.string hd, .bool true]))
  clear hO hu HN c fz
  go_wp2
  go_ret2
  exact HD.out

theorem takeS_any (b : Nat) (ms : List Nat) (x : Qs ByteArray) (h : Bool) (w : World) (hx : faceCS.At w b ms x) :
    Calls Try.prog 10 #[.pointer (some ⟨b, 0, none⟩), .bool h] w (Done faceCS b ms (.tuple #[Value.string (headD x h noStr), .bool (hasC x h)]) (takeX x h) w) := by
  cases he : hasC x h
  · rw [← he]; exact takeS_none b ms x h w hx he
  · rw [← he]; exact takeS_go b ms x h w hx he

set_option maxHeartbeats 2000000 in
theorem putS_full (b : Nat) (ms : List Nat) (x : Qs ByteArray) (s : ByteArray) (h : Bool) (w : World) (hx : faceCS.At w b ms x) (hf : fullB x = true) :
    Calls Try.prog 8 #[.pointer (some ⟨b, 0, none⟩), Value.string s, .bool h] w (Done faceCS b ms (.int .i64 8) ⟨x.pl, x.hi, x.lo, true⟩ w) := by
  obtain ⟨v, rfl, hv⟩ := hx
  have HR := Lib.hid (roomS_core b x v w hv)
  have hr0 : roomN x = 0 := by
    unfold fullB at hf
    have := of_decide_eq_true hf
    unfold roomN; omega
  rw [hr0] at HR
  have HD := Lib.hid (fun k => Done.after (show Below w.heap.size w (w.drewN k) from ⟨rfl, rfl, rfl, Nat.le_refl _, fun _ _ => rfl⟩) ((hv.drewN k).fault_done true (.int .i64 8)))
  have HC3 := Lib.hid (fun k => (hv.drewN k).c3)
  have HF3 := Lib.hid (fun k => (hv.drewN k).fz 3)
  clear hv hf hr0
  go_enter Try.func8, Try.ntmps8
  go_wp2_with fail
  refine HR.out.mono ?_
  rintro e w1 ⟨rfl, k, hk⟩
  have hD := HD.out k
  have c3 := HC3.out k
  have f3 := HF3.out k
  rw [← hk] at hD c3 f3
  replace hD := Lib.hid hD
  clear hk HD HC3 HF3 HR
  go_wp2
  go_ret
  exact hD.out

set_option maxHeartbeats 4000000 in
theorem putS_more (b : Nat) (ms : List Nat) (x : Qs ByteArray) (s : ByteArray) (h : Bool) (w : World) (hx : faceCS.At w b ms x) (hf : fullB x = false) :
    Calls Try.prog 8 #[.pointer (some ⟨b, 0, none⟩), Value.string s, .bool h] w (Done faceCS b ms (.int .i64 0) (setC x h (ofC x h ++ [s])) w) := by
  obtain ⟨v, rfl, hv0⟩ := hx
  obtain ⟨i0, hi0, hi1, hi2, hi3⟩ := info_parts infoStr
  have HI := Lib.hid (⟨hi0, hi1, hi2, hi3⟩ : _ ∧ _ ∧ _ ∧ _)
  clear hi0 hi1 hi2 hi3
  have HR := Lib.hid (roomS_core b x v w hv0)
  have hfit := hv0.ok.fits
  have hpl := hv0.ok.pl
  have hr0 : (0 : Int) < (roomN x : Int) ∧ (roomN x : Int) ≤ 64 := by
    unfold fullB at hf
    have := of_decide_eq_false hf
    unfold roomN; omega
  have hok : (setC x h (ofC x h ++ [s])).Ok := by
    have := hv0.ok.put s h
    unfold putX at this
    rw [hf] at this
    exact this
  have HV0 := Lib.hid hv0
  obtain ⟨hr1, hr2⟩ := hr0
  have HOk := Lib.hid hok
  clear hv0 hf hok hfit hpl
  generalize roomN x = rm at *
  go_enter Try.func8, Try.ntmps8
  go_wp2_with fail
  refine HR.out.mono ?_
  rintro e w1 ⟨rfl, k, hk⟩
  have hv : CV 9 Value.string w1 b x v := by rw [hk]; exact HV0.out.drewN k
  have HBd := Lib.hid (show Below w.heap.size w w1 from by rw [hk]; exact ⟨rfl, rfl, rfl, Nat.le_refl _, fun _ _ => rfl⟩)
  clear hk HV0 HR
  have HC := Lib.hid (classS_any b h w1)
  have c := hv.cl h
  have fz := hv.fz (colC h)
  have hle := of_le hv.ok h
  obtain ⟨A, cp, hA⟩ := ownC_form (hv.row h)
  have hbw : b < w1.heap.size := World.block_lt_of_cell? w1 ⟨b, 0, none⟩ hv.c0
  rw [hA] at c
  have HO := Lib.hid (show (w1.alloc (.cells #[Value.string s] 9)).ownsRow 0 9 1 (.slice A (ofC x h).length cp) (ofC x h).length ((ofC x h).map Value.string) from by
    have := World.ownsRow.alloc (hv.row h) (.cells #[Value.string s] 9)
    rw [hA] at this
    exact this)
  have HN := Lib.hid (fun (g1 cp1 : Nat) (W : World) (hg : (w1.alloc (.cells #[Value.string s] 9)).grownBy W (Value.slice A (ofC x h).length cp).ownBlock)
      (hown : W.ownsRow 0 9 1 (.slice (some ⟨g1, 0, none⟩) ((ofC x h).length + 1) cp1) ((ofC x h).length + 1) ((ofC x h).map Value.string ++ [Value.string s]))
      (hat : (Value.slice A (ofC x h).length cp).ownBlock = some g1 ∨ g1 = (w1.alloc (.cells #[Value.string s] 9)).heap.size) =>
    (show Done faceCS b (blk b v) (.int .i64 0) (setC x h (ofC x h ++ [s])) w1 (.returned (.int .i64 0)) (W.setCell ⟨b, colC h, none⟩ (.slice (some ⟨g1, 0, none⟩) ((ofC x h).length + 1) cp1)) from
      hv.turn h (.slice (some ⟨g1, 0, none⟩) ((ofC x h).length + 1) cp1) (ofC x h ++ [s]) (.int .i64 0) ⟨hg.os, hg.tape, hg.output⟩ (Nat.le_trans (by simp) hg.size)
        (fun j hj hne => (hg.block j (by simp; omega) (by rw [← hA]; exact hne)).trans ((alloc_below w1 _).block j hj))
        (by rw [List.length_append, List.map_append]; exact hown) (fun j hj => by
          have e : g1 = j := by simpa [Value.ownBlock] using hj
          subst e
          rcases hat with e2 | e2
          · exact .inl (by rw [hA]; exact e2)
          · right; rw [e2]; simp) HOk.out))
  have HLt := Lib.hid (show b < (w1.alloc (.cells #[Value.string s] 9)).heap.size by simp; omega)
  have HBk := Lib.hid ((alloc_below w1 (.cells #[Value.string s] 9)).block b hbw)
  have HNB := Lib.hid (show (Value.slice A (ofC x h).length cp).ownBlock ≠ some b from by have := hv.nb h; rw [hA] at this; exact this)
  clear hv hA
  generalize setC x h (ofC x h ++ [s]) = y at *
  generalize (ofC x h).map Value.string = l at *
  generalize (ofC x h).length = n at *
  generalize colC h = o at *
  go_wp2_with fail
  refine HC.out.mono ?_
  rintro e w2 ⟨rfl, rfl⟩
  go_wp2_with (at_builtin; refine wpList_append_lies _ rfl (.tmp 22) (.tmp 24) 36 rfl 0 9 i0 (.string ⟨#[]⟩) 1 16 Try.underlying36 HI.out.1 HI.out.2.1 HI.out.2.2.1 HI.out.2.2.2 rfl (by decide) _ n l rfl HO.out ⟨w1.heap.size, 0, none⟩ 1 1 [Value.string s] rfl rfl (cell_one_new _ _ _) (by intro u hu; simp at hu; subst hu; rfl) (by decide) (by unfold maxLen; omega) (by omega) (Nat.zero_le _) _ rfl ?_)
  intro g1 cp1 W hown hgr hat hlt
  have q0 := (World.cell?_of_block (a := ⟨b, o, none⟩) ((hgr.block b HLt.out (fun e => HNB.out e.symm)).trans HBk.out)).trans c
  have q1 := (World.frozen?_of_block (a := ⟨b, o, none⟩) ((hgr.block b HLt.out (fun e => HNB.out e.symm)).trans HBk.out)).trans fz
  have HD := Lib.hid (HN.out g1 cp1 W hgr hown (hat.imp id (fun e => by rw [e]; simp)))
  clear hown hgr hat hlt c fz HN
  go_wp2
  go_ret
  exact Done.after HBd.out HD.out

theorem putS_any (b : Nat) (ms : List Nat) (x : Qs ByteArray) (s : ByteArray) (h : Bool) (w : World) (hx : faceCS.At w b ms x) :
    Calls Try.prog 8 #[.pointer (some ⟨b, 0, none⟩), Value.string s, .bool h] w (Done faceCS b ms (.int .i64 (putE x)) (putX x s h) w) := by
  unfold putE putX
  by_cases hf : fullB x = true
  · rw [if_pos hf, if_pos hf]; exact putS_full b ms x s h w hx hf
  · have hf2 : fullB x = false := by simpa using hf
    rw [if_neg hf, if_neg hf]; exact putS_more b ms x s h w hx hf2

end Go.Proofs.Ytpbiigpnbhgilaa.Qu
