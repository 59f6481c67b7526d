/-
  The law OctetsBack, walked: it returns true. Conditions: the things are read as data.
-/
import Derived.Test.YtjdlfchllfjhfaaWrite
import Derived.Test.YtjdlfchllfjhfaaWritesWalk
namespace Go.Proofs.Ytjdlfchllfjhfaa
open Go.RowKit
open Oct

theorem back_byte (p n : Nat) (r : List UInt8) (w : World) (he : EyeAt w p (be n 1 ++ r) false) :
    Calls Try.prog 13 #[.pointer (some ⟨p, 0, none⟩)] w (Reads (.int .u8 ((n : Int) % 256)) w p r false) := by
  have h := ebyte_any p _ false w he
  rw [got_app _ _ 1 (by rw [be_length]; rfl), left_app _ _ 1 (by rw [be_length]; rfl), lost_app _ _ 1 _ (by rw [be_length]; rfl), num_be] at h
  exact h

theorem back_two (p n : Nat) (r : List UInt8) (w : World) (he : EyeAt w p (be n 2 ++ r) false) :
    Calls Try.prog 15 #[.pointer (some ⟨p, 0, none⟩)] w (Reads (.int .u16 ((n : Int) % 65536)) w p r false) := by
  have h := etwo_any p _ false w he
  rw [got_app _ _ 2 (by rw [be_length]; rfl), left_app _ _ 2 (by rw [be_length]; rfl), lost_app _ _ 2 _ (by rw [be_length]; rfl), num_be] at h
  exact h

theorem back_four (p n : Nat) (r : List UInt8) (w : World) (he : EyeAt w p (be n 4 ++ r) false) (hn : (n : Int) ≤ 4294967295) :
    Calls Try.prog 16 #[.pointer (some ⟨p, 0, none⟩)] w (Reads (.int .u32 (n : Int)) w p r false) := by
  have h := efour_any p _ false w he
  rw [got_app _ _ 4 (by rw [be_length]; rfl), left_app _ _ 4 (by rw [be_length]; rfl), lost_app _ _ 4 _ (by rw [be_length]; rfl), num_be,
    Nat.mod_eq_of_lt (by have e : (256 : Nat) ^ 4 = 4294967296 := by decide
                         omega)] at h
  exact h

theorem back_take (p : Nat) (n : Int) (s : ByteArray) (r : List UInt8) (w : World) (hn : n = (s.size : Int)) (he : EyeAt w p (s.data.toList ++ r) false) :
    Calls Try.prog 17 #[.pointer (some ⟨p, 0, none⟩), .int .i64 n] w (Reads (.string s) w p r false) := by
  subst hn
  have h := take_any p s.size _ false w he
  rw [got_app _ _ _ (by rw [size_list]), left_app _ _ _ (by rw [size_list]), lost_app _ _ _ _ (by rw [size_list])] at h
  exact h

theorem back_small (p : Nat) (s : ByteArray) (r : List UInt8) (w : World) (hs : s.size ≤ 255) (he : EyeAt w p ((be s.size 1 ++ s.data.toList) ++ r) false) :
    Calls Try.prog 19 #[.pointer (some ⟨p, 0, none⟩)] w (Reads (.string s) w p r false) := by
  rw [List.append_assoc] at he
  have h := esmall_any p _ false w he
  have e : num (be s.size 1) = s.size := by rw [num_be, Nat.mod_eq_of_lt (by omega)]
  rw [got_app _ _ 1 (by rw [be_length]; rfl), left_app _ _ 1 (by rw [be_length]; rfl), lost_app _ _ 1 _ (by rw [be_length]; rfl), e,
    got_app _ _ _ (by rw [size_list]), left_app _ _ _ (by rw [size_list]), lost_app _ _ _ _ (by rw [size_list])] at h
  exact h

theorem back_end (p : Nat) (w : World) (he : EyeAt w p [] false) : Calls Try.prog 13 #[.pointer (some ⟨p, 0, none⟩)] w (Reads (.int .u8 0) w p [] true) := by
  have h := ebyte_any p [] false w he
  have e1 : (num (got 1 []) : Int) = 0 := by decide +kernel
  have e2 : left 1 [] = [] := by decide +kernel
  have e3 : lost 1 [] false = true := by decide +kernel
  rw [e1, e2, e3] at h
  exact h

theorem back_notdone (p : Nat) (w : World) (he : EyeAt w p [] true) : Calls Try.prog 23 #[.pointer (some ⟨p, 0, none⟩)] w fun e w' => e = .returned (.bool false) ∧ w = w' :=
  done_any p [] true w he

theorem back_isdone (p : Nat) (w : World) (he : EyeAt w p [] false) : Calls Try.prog 23 #[.pointer (some ⟨p, 0, none⟩)] w fun e w' => e = .returned (.bool true) ∧ w = w' :=
  done_any p [] false w he

/-- The law's own copy, behind an eye's call. -/
theorem local_kept {w w3 : World} {pe : Nat} {u v t : Value} (hg : (w.alloc (.cells #[u, v, t] 38)).drew.grownBy w3 (some pe)) (hp : pe < w.heap.size) :
    w3.cell? ⟨w.heap.size, 0, none⟩ = some u ∧ w3.cell? ⟨w.heap.size, 1, none⟩ = some v ∧ w3.cell? ⟨w.heap.size, 2, none⟩ = some t := by
  have h : w3.heap[w.heap.size]? = some (.cells #[u, v, t] 38) :=
    (hg.block w.heap.size (by show _ < (w.alloc _).heap.size; simp) (by simp; omega)).trans (heap_alloc_new w _)
  exact ⟨cell_of_row _ _ 0 _ 38 (0, 0) h, cell_of_row _ _ 1 _ 38 (0, 0) h, cell_of_row _ _ 2 _ 38 (0, 0) h⟩

theorem EyeAt.drew {w : World} {p : Nat} {l : List UInt8} {b : Bool} (h : EyeAt w p l b) : EyeAt w.drew p l b := h

set_option maxRecDepth 100000 in
set_option maxHeartbeats 4000000 in
theorem back_walk (cap : Nat) (ao : Option Addr) (xs : List It) (w : World) (hI : Lies w w.heap.size ao xs) (hF : Fit xs) (hl : xs.length ≤ maxLen) :
    Calls Try.prog 5 #[.slice ao xs.length cap] w fun e w' => e = .returned (.bool true) ∧ Below w.heap.size w w' := by
  have hS : smallB xs = false ∨ smallB xs = true := by cases smallB xs <;> simp
  have HI := Lib.hid hI
  have HF := Lib.hid hF
  clear hI hF
  rcases hS with hs | hs
  all_goals
    have HS := Lib.hid hs
    go_enter Try.func5, Try.ntmps5
    go_wp2_with fail
    refine (awake_any _).mono ?_
    rintro e w1 ⟨rfl, hb1⟩
    go_wp2_with fail
    refine (small_any w.heap.size cap ao xs _ (HI.out.below hb1) HF.out hb1.size hl).mono ?_
    rintro e w2 ⟨rfl, hb2⟩
    have hb12 := hb1.trans hb2
    clear hb1 hb2
    go_wp2_with fail
  · go_ret
    exact ⟨rfl, hb12⟩
  · have hN2 := hb12.size
    refine (newpen_any w.heap.size _ hN2).mono ?_
    rintro e w3 ⟨rfl, hp3, hb3⟩
    have hb13 := hb12.trans (hb3.mono hN2)
    clear hb3 hb12
    go_wp2_with fail
    refine (write_any w.heap.size _ cap ao xs _ hp3 (HI.out.below hb13) HF.out hb13.size HS.out).mono ?_
    rintro e w4 ⟨rfl, hp4, hb4⟩
    have hb14 := hb13.trans hb4
    clear hb4 hb13 hp3
    obtain ⟨h60, _⟩ := small_out hs
    clear hs
    go_wp2_with fail
    refine (pstr_any w.heap.size _ _ _ hp4).mono ?_
    rintro e w5 ⟨rfl, rfl⟩
    go_wp2_with fail
    refine (neweye_any (S (encAll xs)) _).mono ?_
    rintro e w6 ⟨rfl, he6, hb6⟩
    rw [S_list] at he6
    have hpe : w.heap.size ≤ w4.heap.size := hb14.size
    have hb16 := hb14.trans (hb6.mono hpe)
    clear hb6 hb14 hp4
    generalize w4.heap.size = pe at *
    go_wp2_with fail
    go_loopw [29] (fun i wr => ∃ (k : Nat), k ≤ xs.length ∧ i = .int .i64 k ∧ EyeAt wr pe (encAll (xs.drop k)) false ∧ Below w.heap.size w wr) (fun i _ => xs.length - (intOf i).toNat)
    case atStart => exact ⟨0, Nat.zero_le _, rfl, he6, hb16⟩
    case round =>
      obtain ⟨k, hk, rfl, heE, hbel⟩ := hrel
      by_cases hlt : k < xs.length
      · have HX := Lib.hid (List.getElem?_eq_getElem hlt)
        rw [List.drop_eq_getElem_cons hlt, encAll_cons] at heE
        obtain ⟨ba, o, rfl, hb, hi⟩ := HI.out.below hbel (by omega)
        have hc := hi k _ HX.out
        have hf := HF.out k _ HX.out
        have hN2 := hbel.size
        have hpl := heE.lt
        have hbel2 := fun ob => hbel.alloc hN2 ob
        have heE2 := fun ob => heE.kept (only_below ((Below.refl wr.heap.size wr).alloc (Nat.le_refl _) ob) none) (by simp)
        clear hi hbel heE
        generalize xs[k] = x at *
        generalize hr : encAll (xs.drop (k + 1)) = r at *
        have HR := Lib.hid hr
        clear hr
        obtain ⟨c0, c1, c2⟩ := hc
        obtain ⟨f0, f1, f2⟩ := hf
        unfold maxLen at f2
        rcases case5 x.a with h5 | h5 | h5 | h5 | h5
        · have t0 := test5 x.a _ 0 h5
          have he : enc x = be x.n 1 := by simp [enc, h5]
          rw [he] at heE2
          clear h5 he
          have hw : IntKind.u8.wrap (x.n : Int) = (x.n : Int) % 256 := IntKind.wrap_u8 _
          go_wp2_with fail
          go_region_with ((go_at_call 13; refine (back_byte pe x.n r _ (EyeAt.drew (heE2 _))).mono ?_; rintro e w7 ⟨rfl, heE7, hg7⟩; obtain ⟨d0, d1, d2⟩ := local_kept hg7 hpl))
          all_goals
            have hbel7 := (hbel2 _).drew.trans (below_only hg7 hpe (by simp; omega))
            clear hg7 d0 d1 d2 heE2 hbel2 c0 c1 c2
            go_wp2
            go_roundw
            case rel => exact ⟨k + 1, by omega, by go_num, by rw [HR.out]; exact heE7, hbel7⟩
            case measure => simp [intOf]; omega
        · have t0 := test5 x.a _ 0 h5
          have t1 := test5 x.a _ 1 h5
          have he : enc x = be x.n 2 := by simp [enc, h5]
          rw [he] at heE2
          clear h5 he
          have hw : IntKind.u16.wrap (x.n : Int) = (x.n : Int) % 65536 := IntKind.wrap_u16 _
          go_wp2_with fail
          go_region_with ((go_at_call 15; refine (back_two pe x.n r _ (EyeAt.drew (heE2 _))).mono ?_; rintro e w7 ⟨rfl, heE7, hg7⟩; obtain ⟨d0, d1, d2⟩ := local_kept hg7 hpl))
          all_goals
            have hbel7 := (hbel2 _).drew.trans (below_only hg7 hpe (by simp; omega))
            clear hg7 d0 d1 d2 heE2 hbel2 c0 c1 c2
            go_wp2
            go_roundw
            case rel => exact ⟨k + 1, by omega, by go_num, by rw [HR.out]; exact heE7, hbel7⟩
            case measure => simp [intOf]; omega
        · have t0 := test5 x.a _ 0 h5
          have t1 := test5 x.a _ 1 h5
          have t2 := test5 x.a _ 2 h5
          have he : enc x = be x.n 4 := by simp [enc, h5]
          rw [he] at heE2
          clear h5 he
          go_wp2_with fail
          go_region_with ((go_at_call 16; refine (back_four pe x.n r _ (EyeAt.drew (heE2 _)) f1).mono ?_; rintro e w7 ⟨rfl, heE7, hg7⟩; obtain ⟨d0, d1, d2⟩ := local_kept hg7 hpl))
          all_goals
            have hbel7 := (hbel2 _).drew.trans (below_only hg7 hpe (by simp; omega))
            clear hg7 d0 d1 d2 heE2 hbel2 c0 c1 c2
            go_wp2
            go_roundw
            case rel => exact ⟨k + 1, by omega, by go_num, by rw [HR.out]; exact heE7, hbel7⟩
            case measure => simp [intOf]; omega
        · have t0 := test5 x.a _ 0 h5
          have t1 := test5 x.a _ 1 h5
          have t2 := test5 x.a _ 2 h5
          have t3 := test5 x.a _ 3 h5
          have he : enc x = x.s.data.toList := by simp [enc, h5]
          rw [he] at heE2
          clear h5 he
          go_wp2_with fail
          go_region_with ((go_at_call 17; refine (back_take pe _ x.s r _ rfl (EyeAt.drew (heE2 _))).mono ?_; rintro e w7 ⟨rfl, heE7, hg7⟩; obtain ⟨d0, d1, d2⟩ := local_kept hg7 hpl))
          all_goals
            have hbel7 := (hbel2 _).drew.trans (below_only hg7 hpe (by simp; omega))
            clear hg7 d0 d1 d2 heE2 hbel2 c0 c1 c2
            go_wp2
            go_roundw
            case rel => exact ⟨k + 1, by omega, by go_num, by rw [HR.out]; exact heE7, hbel7⟩
            case measure => simp [intOf]; omega
        · have t0 := test5 x.a _ 0 h5
          have t1 := test5 x.a _ 1 h5
          have t2 := test5 x.a _ 2 h5
          have t3 := test5 x.a _ 3 h5
          have t4 := test5 x.a _ 4 h5
          by_cases h255 : x.s.size ≤ 255
          · have he : enc x = be x.s.size 1 ++ x.s.data.toList := by simp [enc, h5, h255]
            rw [he] at heE2
            clear h5 he
            have hd : decide ((255 : Int) < (x.s.size : Int)) = false := by simp; omega
            go_wp2_with fail
            go_region_with ((go_at_call 19; refine (back_small pe x.s r _ h255 (EyeAt.drew (heE2 _))).mono ?_; rintro e w7 ⟨rfl, heE7, hg7⟩; obtain ⟨d0, d1, d2⟩ := local_kept hg7 hpl))
            all_goals
              have hbel7 := (hbel2 _).drew.trans (below_only hg7 hpe (by simp; omega))
              clear hg7 d0 d1 d2 heE2 hbel2 c0 c1 c2
              go_wp2
              go_roundw
              case rel => exact ⟨k + 1, by omega, by go_num, by rw [HR.out]; exact heE7, hbel7⟩
              case measure => simp [intOf]; omega
          · have he : enc x = [] := by simp [enc, h5, h255]
            rw [he] at heE2
            clear h5 he
            have hd : decide ((255 : Int) < (x.s.size : Int)) = true := by simp; omega
            have heE7 := heE2 (Obj.cells #[Value.int IntKind.u8 ↑x.a, Value.int IntKind.u32 ↑x.n, Value.string x.s] 38)
            have hbel7 := hbel2 (Obj.cells #[Value.int IntKind.u8 ↑x.a, Value.int IntKind.u32 ↑x.n, Value.string x.s] 38)
            go_wp2_with fail
            go_region
            all_goals
              clear heE2 hbel2 c0 c1 c2
              go_wp2
              go_roundw
              case rel => exact ⟨k + 1, by omega, by go_num, by rw [HR.out]; exact heE7.drew, hbel7.drew⟩
              case measure => simp [intOf]; omega
      · obtain rfl : k = xs.length := by omega
        rw [List.drop_length] at heE
        have he0 : EyeAt wr pe [] false := heE
        have hN2 := hbel.size
        clear heE
        go_wp2_with fail
        refine (back_isdone _ _ he0).mono ?_
        rintro e w7 ⟨rfl, rfl⟩
        go_wp2_with fail
        refine (blind_any _ _ _ _ he0).mono ?_
        rintro e w7 ⟨rfl, rfl⟩
        go_wp2_with fail
        refine (back_end _ _ he0).mono ?_
        rintro e w7 ⟨rfl, he7, hg7⟩
        have hbel7 := hbel.trans (below_only hg7 hpe hN2)
        clear hbel hg7 he0
        go_wp2_with fail
        refine (blind_any _ _ _ _ he7).mono ?_
        rintro e w8 ⟨rfl, rfl⟩
        go_wp2_with fail
        refine (back_notdone _ _ he7).mono ?_
        rintro e w8 ⟨rfl, rfl⟩
        go_wp2_with fail
        go_ret
        exact ⟨rfl, hbel7⟩

end Go.Proofs.Ytjdlfchllfjhfaa
