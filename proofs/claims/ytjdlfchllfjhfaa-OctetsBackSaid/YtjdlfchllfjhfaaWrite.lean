/-
  The law's writing of things, walked: the pen holds their bytes, and these are what the reference tells. Conditions: few things, short ones.
-/
import Derived.Test.YtjdlfchllfjhfaaItems
import Derived.Deep.RegionHeld3
import Derived.Deep.RegionWith
namespace Go.Proofs.Ytjdlfchllfjhfaa
open Go.RowKit
open Oct

theorem be_mod1 (n : Nat) : be (n % 256) 1 = be n 1 := by
  simp [be]
  rw [← UInt8.toNat_inj]; simp
theorem be_mod2 (n : Nat) : be (n % 65536) 2 = be n 2 := by
  simp [be]
  constructor <;> (rw [← UInt8.toNat_inj]; simp; try omega)

theorem bytes_at (v : Int) (n c : Nat) (vc : Int) (hv : v = (n : Int)) (hvc : vc = (c : Int)) (hn : (n : Int) ≤ 4294967295) (hc : c ≤ 8) (w : World) :
    Calls Try.prog 27 #[.int .u32 v, .int .i64 vc] w fun e w' => e = .returned (.string (S (be n c))) ∧ Below w.heap.size w w' := by
  subst hv hvc
  exact bytes_any n c hn hc w

theorem two_at (N p : Nat) (l : List UInt8) (v : Int) (k : Nat) (hv : v = (k : Int)) (hk : k < 65536) (w : World) (hp : PenAt N w p l) (hN : N ≤ w.heap.size) (hl : l.length ≤ 900000) :
    Calls Try.prog 25 #[.pointer (some ⟨p, 0, none⟩), .int .u16 v] w fun e w' => e = .returned (.pointer (some ⟨p, 0, none⟩)) ∧ PenAt N w' p (l ++ be k 2) ∧ Below N w w' ∧ Beside w w' p := by
  subst hv
  exact two_any N p l k hk w hp hN hl

/-- The law's own copy of a thing, behind what turns nothing of it. -/
theorem local_cells {w w3 : World} {p : Nat} {u v t : Value} (hq : Beside (w.alloc (.cells #[u, v, t] 38)) w3 p) (hp : p < w.heap.size) :
    w3.cell? ⟨w.heap.size, 0, none⟩ = some u ∧ w3.cell? ⟨w.heap.size, 1, none⟩ = some v ∧ w3.cell? ⟨w.heap.size, 2, none⟩ = some t := by
  have h := hq w.heap.size #[u, v, t] 38 (0, 0) (by omega) (by decide) (heap_alloc_new w _)
  exact ⟨cell_of_row _ _ 0 _ 38 (0, 0) h, cell_of_row _ _ 1 _ 38 (0, 0) h, cell_of_row _ _ 2 _ 38 (0, 0) h⟩

theorem case5 (a : Nat) : a % 5 = 0 ∨ a % 5 = 1 ∨ a % 5 = 2 ∨ a % 5 = 3 ∨ a % 5 = 4 := by omega

theorem test5 (a k : Nat) (j : Int) (h : a % 5 = k) : (((a : Int) % 5) == j) = decide ((k : Int) = j) := by
  rw [show ((a : Int) % 5) = (k : Int) by omega]
  rfl

set_option maxRecDepth 100000 in
set_option maxHeartbeats 4000000 in
theorem write_any (N p cap : Nat) (ao : Option Addr) (xs : List It) (w : World) (hp : PenAt N w p []) (hI : Lies w N ao xs) (hF : Fit xs) (hN : N ≤ w.heap.size) (hs : smallB xs = true) :
    Calls Try.prog 9 #[.pointer (some ⟨p, 0, none⟩), .slice ao xs.length cap] w fun e w' => e = .returned (.tuple #[.string (S (encAll xs)), .bool true]) ∧ PenAt N w' p (encAll xs) ∧ Below N w w' := by
  obtain ⟨h60, h300⟩ := small_out hs
  have HI := Lib.hid hI
  have HF := Lib.hid hF
  have H3 := Lib.hid h300
  clear hI hF h300 hs
  go_enter Try.func9, Try.ntmps9
  go_wp2
  go_loopw [6, 12] (fun t i wr => ∃ k : Nat, k ≤ xs.length ∧ i = .int .i64 k ∧ t = .string (S (encAll (xs.take k))) ∧ PenAt N wr p (encAll (xs.take k)) ∧ Below N w wr) (fun _ i _ => xs.length - (intOf i).toNat)
  case atStart => exact ⟨0, Nat.zero_le _, rfl, rfl, hp, Below.refl _ _⟩
  case round =>
    obtain ⟨k, hk, rfl, rfl, hpen, hbel⟩ := hrel
    by_cases hlt : k < xs.length
    · have HX := Lib.hid (List.getElem?_eq_getElem hlt)
      have HS := Lib.hid (show encAll (xs.take (k + 1)) = encAll (xs.take k) ++ enc xs[k] by
        rw [List.take_succ_eq_append_getElem hlt, encAll_snoc])
      have hel : (encAll (xs.take k)).length ≤ 18000 := by
        have h := encAll_le (xs.take k) (fun y hy => H3.out y (List.mem_of_mem_take hy))
        rw [List.length_take] at h
        omega
      obtain ⟨b, o, rfl, hb, hi⟩ := HI.out.below hbel (by omega)
      have hc := hi k _ HX.out
      have hf := HF.out k _ HX.out
      have hx3 := H3.out _ (List.getElem_mem hlt)
      have hN2 := Nat.le_trans hN hbel.size
      have hbel2 := fun ob => hbel.alloc hN2 ob
      have hpl := hpen.lt
      have hpen2 := fun ob => hpen.below ((Below.refl wr.heap.size wr).alloc (Nat.le_refl _) ob)
      clear hi hbel
      generalize xs[k] = x at *
      generalize encAll (xs.take k) = l at *
      have hls : (S l).size ≤ 18000 := by rw [S_size]; exact hel
      obtain ⟨c0, c1, c2⟩ := hc
      obtain ⟨f0, f1, f2⟩ := hf
      unfold maxLen at f2
      rcases case5 x.a with h5 | h5 | h5 | h5 | h5
      · have t0 := test5 x.a _ 0 h5
        have HE := Lib.hid (show enc x = be x.n 1 by simp [enc, h5])
        have hz := S_size (be x.n 1)
        rw [be_length] at hz
        have hz2 : (S (be x.n 1)).size ≤ 1 := by omega
        clear h5 hz
        go_wp2_with fail
        refine (byte_any N p l _ x.n (by omega) _ (hpen2 _) (by simp; omega) (by omega)).mono ?_
        rintro e w3 ⟨rfl, hp3, hb3, hq3⟩
        obtain ⟨d0, d1, d2⟩ := local_cells hq3 hpl
        go_wp2_with fail
        refine (bytes_at _ (x.n % 256) 1 _ (by omega) rfl (by omega) (by omega) _).mono ?_
        rintro e w4 ⟨rfl, hb4⟩
        rw [be_mod1]
        have hp4 := hp3.below hb4
        have hb5 := ((hbel2 _).trans hb3).trans (hb4.mono (by have := hb3.size; simp at this; omega))
        clear hp3 hb3 hq3 hb4 d0 d1 d2
        go_wp2
        go_roundw
        case rel => exact ⟨k + 1, by omega, by go_num, by rw [HS.out, HE.out, ← S_app], by rw [HS.out, HE.out]; exact hp4, hb5⟩
        case measure => simp [intOf]; omega
      · have t0 := test5 x.a _ 0 h5
        have t1 := test5 x.a _ 1 h5
        have HE := Lib.hid (show enc x = be x.n 2 by simp [enc, h5])
        have hz := S_size (be x.n 2)
        rw [be_length] at hz
        have hz2 : (S (be x.n 2)).size ≤ 2 := by omega
        clear h5 hz
        go_wp2_with fail
        refine (two_at N p l _ (x.n % 65536) (by rw [IntKind.wrap_u16]; omega) (by omega) _ (hpen2 _) (by simp; omega) (by omega)).mono ?_
        rintro e w3 ⟨rfl, hp3, hb3, hq3⟩
        obtain ⟨d0, d1, d2⟩ := local_cells hq3 hpl
        go_wp2_with fail
        refine (bytes_at _ (x.n % 65536) 2 _ (by omega) rfl (by omega) (by omega) _).mono ?_
        rintro e w4 ⟨rfl, hb4⟩
        rw [be_mod2] at hp3 ⊢
        have hp4 := hp3.below hb4
        have hb5 := ((hbel2 _).trans hb3).trans (hb4.mono (by have := hb3.size; simp at this; omega))
        clear hp3 hb3 hq3 hb4 d0 d1 d2
        go_wp2
        go_roundw
        case rel => exact ⟨k + 1, by omega, by go_num, by rw [HS.out, HE.out, ← S_app], by rw [HS.out, HE.out]; exact hp4, hb5⟩
        case measure => simp [intOf]; omega
      · have t0 := test5 x.a _ 0 h5
        have t1 := test5 x.a _ 1 h5
        have t2 := test5 x.a _ 2 h5
        have HE := Lib.hid (show enc x = be x.n 4 by simp [enc, h5])
        have hz := S_size (be x.n 4)
        rw [be_length] at hz
        have hz2 : (S (be x.n 4)).size ≤ 4 := by omega
        clear h5 hz
        go_wp2_with fail
        refine (four_any N p l x.n f1 _ (hpen2 _) (by simp; omega) (by omega)).mono ?_
        rintro e w3 ⟨rfl, hp3, hb3, hq3⟩
        obtain ⟨d0, d1, d2⟩ := local_cells hq3 hpl
        go_wp2_with fail
        refine (bytes_at _ x.n 4 _ rfl rfl f1 (by omega) _).mono ?_
        rintro e w4 ⟨rfl, hb4⟩
        skip
        have hp4 := hp3.below hb4
        have hb5 := ((hbel2 _).trans hb3).trans (hb4.mono (by have := hb3.size; simp at this; omega))
        clear hp3 hb3 hq3 hb4 d0 d1 d2
        go_wp2
        go_roundw
        case rel => exact ⟨k + 1, by omega, by go_num, by rw [HS.out, HE.out, ← S_app], by rw [HS.out, HE.out]; exact hp4, hb5⟩
        case measure => simp [intOf]; omega
      · have t0 := test5 x.a _ 0 h5
        have t1 := test5 x.a _ 1 h5
        have t2 := test5 x.a _ 2 h5
        have t3 := test5 x.a _ 3 h5
        have HE := Lib.hid (show enc x = x.s.data.toList by simp [enc, h5])
        clear h5
        go_wp2_with fail
        refine (text_any N p l x.s _ (hpen2 _) (by simp; omega) (by omega)).mono ?_
        rintro e w3 ⟨rfl, hp3, hb3, hq3⟩
        obtain ⟨d0, d1, d2⟩ := local_cells hq3 hpl
        have hb5 := (hbel2 _).trans hb3
        clear hb3 hq3
        go_wp2
        go_roundw
        case rel => exact ⟨k + 1, by omega, by go_num, by rw [HS.out, HE.out, ← S_app]; rfl, by rw [HS.out, HE.out]; exact hp3, hb5⟩
        case measure => simp [intOf]; omega
      · have t0 := test5 x.a _ 0 h5
        have t1 := test5 x.a _ 1 h5
        have t2 := test5 x.a _ 2 h5
        have t3 := test5 x.a _ 3 h5
        have t4 := test5 x.a _ 4 h5
        by_cases h255 : x.s.size ≤ 255
        · have HE := Lib.hid (show enc x = be x.s.size 1 ++ x.s.data.toList by simp [enc, h5, h255])
          clear h5
          go_wp2_with fail
          refine (psmall_yes N p l x.s h255 _ (hpen2 _) (by simp; omega) (by omega)).mono ?_
          rintro e w3 ⟨rfl, hp3, hb3, hq3⟩
          obtain ⟨d0, d1, d2⟩ := local_cells hq3 hpl
          have hd : decide ((x.s.size : Int) ≤ 255) = true := by simp; omega
          have hb5 := (hbel2 _).trans hb3
          have hlt3 : wr.heap.size < w3.heap.size := by have := hb3.size; simp at this; omega
          have hz := S_size (be x.s.size 1)
          rw [be_length] at hz
          have hz2 : (S (be x.s.size 1)).size ≤ 1 := by omega
          clear hz hb3 hq3
          go_wp2_with fail
          go_region_with ((go_at_call 27; refine (bytes_at _ x.s.size 1 _ (by first | omega | (rw [IntKind.wrap_u32]; omega)) rfl (by omega) (by omega) _).mono ?_; rintro e w4 ⟨rfl, hb4⟩; have d3 := (hb4.cell (p := ⟨wr.heap.size, 2, none⟩) hlt3).trans d2))
          all_goals
            have hb4' : Below w3.heap.size w3 w4 := ((Below.refl _ w3).drew).trans hb4
            have hp4 := hp3.below hb4'
            have hb6 := hb5.trans (hb4'.mono (Nat.le_trans hN2 (Nat.le_of_lt hlt3)))
            clear hb4 hb4' hp3 hb5 d3
            go_wp2
            go_roundw
            case rel => exact ⟨k + 1, by omega, by go_num, by rw [HS.out, HE.out, ← S_app, ← S_app]; rfl, by rw [HS.out, HE.out]; exact hp4, hb6⟩
            case measure => simp [intOf]; omega
        · have HE := Lib.hid (show enc x = [] by simp [enc, h5, h255])
          clear h5
          go_wp2_with fail
          refine (psmall_no p x.s (by omega) _).mono ?_
          rintro e w3 ⟨rfl, rfl⟩
          have hb5 := hbel2 (Obj.cells #[Value.int IntKind.u8 ↑x.a, Value.int IntKind.u32 ↑x.n, Value.string x.s] 38)
          have hp5 := hpen2 (Obj.cells #[Value.int IntKind.u8 ↑x.a, Value.int IntKind.u32 ↑x.n, Value.string x.s] 38)
          go_wp2
          go_roundw
          case rel => exact ⟨k + 1, by omega, by go_num, by rw [HS.out, HE.out, List.append_nil], by rw [HS.out, HE.out, List.append_nil]; exact hp5, hb5⟩
          case measure => simp [intOf]; omega
    · obtain rfl : k = xs.length := by omega
      rw [List.take_length] at *
      go_wp2
      go_ret2
      exact ⟨rfl, hpen, hbel⟩

end Go.Proofs.Ytjdlfchllfjhfaa
