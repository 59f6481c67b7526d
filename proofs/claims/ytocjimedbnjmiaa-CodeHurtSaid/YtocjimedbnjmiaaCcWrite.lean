/-
  The code's write, Encode, Stamp, walked. Conditions: numbers that an int holds.
-/
import Derived.Test.YtocjimedbnjmiaaCcPen
import Derived.Test.YtocjimedbnjmiaaCcRead
import Derived.Test.YtocjimedbnjmiaaCoLaw
import Derived.Test.YtocjimedbnjmiaaIkS
namespace Go.Proofs.Ytocjimedbnjmiaa.Co
open Go.RowKit
open Go.Proofs.Ytocjimedbnjmiaa.Il hiding S S_size S_app S_list S_inj
open Go.Proofs.Ytocjimedbnjmiaa.Ic Go.Proofs.Ytocjimedbnjmiaa.Oct Sums

/-- What write tells. -/
def bareE (l : List In) : Bs := if errC l = 0 then bareL l else []
theorem bareE_ok {l : List In} (h : errC l = 0) : bareE l = bareL l := by unfold bareE; rw [if_pos h]
theorem bareE_no {l : List In} (h : errC l ≠ 0) : bareE l = [] := by unfold bareE; rw [if_neg h]
/-- How far write has come. -/
structure Wr (N : Nat) (w wr : World) (p : Nat) (l : List In) (k : Nat) : Prop where
  fine : Fine l k
  pen : PenAt N wr p (UInt8.ofNat l.length :: (l.take k).flatMap insB)
  below : Below N w wr
  hN : N ≤ wr.heap.size
theorem Mine.kept {w w' : World} {b : Nat} {i : In} (h : Mine w b i) (hb : Below w.heap.size w w') : Mine w' b i := (hb.block b h.lt).trans h
theorem acc_len (l : List In) (k : Nat) (h : k ≤ l.length) (h2 : l.length ≤ 200) : (UInt8.ofNat l.length :: (l.take k).flatMap insB).length ≤ 800000 := by
  rw [List.length_cons, flat_len, List.length_take]; omega

set_option maxRecDepth 100000 in
set_option maxHeartbeats 4000000 in
theorem cWrite_any (l : List In) (ao : Option Addr) (cap : Nat) (w : World) (hI : Lies w w.heap.size ao l) (hF : FitL l) :
    Calls Try.prog 17 #[.slice ao l.length cap] w (Tells (.tuple #[.string (S (bareE l)), .int .i64 (errC l : Nat)]) w) := by
  have HI := Lib.hid hI
  have HF := Lib.hid hF
  obtain ⟨N, hN⟩ : ∃ N, w.heap.size = N := ⟨_, rfl⟩
  unfold Tells
  by_cases hl : l.length ≤ 200
  · have HNP := Lib.hid (newpen_any N w (by omega))
    rw [hN] at HI ⊢
    clear hI hF
    have hli : ¬ (200 : Int) < l.length := by omega
    have hl2 : (l.length : Int) ≤ 200 := by omega
    have hw8 : IntKind.u8.wrap (l.length : Int) = (l.length : Int) := by rw [IntKind.wrap_u8]; omega
    have hn8 : (l.length : Int) = ((l.length % 256 : Nat) : Int) := by omega
    have he0 := Lib.hid (show l.all rightI = true → errC l = 0 ∧ bareE l = bareL l from fun h => by
      have : errC l = 0 := by unfold errC; rw [if_neg (by omega), h]; rfl
      exact ⟨this, bareE_ok this⟩)
    have he3 := Lib.hid (show l.all rightI = false → errC l = 3 ∧ bareE l = [] from fun h => by
      have : errC l = 3 := by unfold errC; rw [if_neg (by omega), h]; rfl
      exact ⟨this, bareE_no (by omega)⟩)
    have HL := Lib.hid hl
    have H8 := Lib.hid hn8
    generalize errC l = ec at *
    generalize bareE l = be0 at *
    clear hl hn8
    go_enter Try.func17, Try.ntmps17
    go_wp2_with fail
    refine HNP.out.mono ?_
    rintro e w1 ⟨rfl, hp1, hb1⟩
    rw [hN] at hp1 hb1
    have HP1 := Lib.hid (⟨hp1, hb1, show N ≤ w1.heap.size by have := hb1.size; omega⟩ : _ ∧ _ ∧ _)
    clear hp1 hb1 HNP
    rw [hN]
    go_wp2_with fail
    refine (byte_any N N [] _ l.length H8.out _ HP1.out.1 HP1.out.2.2 (by simp)).mono ?_
    rintro e w2 ⟨rfl, hp2, hb2, -⟩
    have HW2 := Lib.hid (show Wr N w w2 N l 0 from ⟨fun j x hj _ => by omega, by simpa [be_one] using hp2, HP1.out.2.1.trans hb2, Nat.le_trans HP1.out.2.2 hb2.size⟩)
    clear hp2 hb2 HP1
    go_wp2
    go_loopw [17] (fun i wr => ∃ k : Nat, (k : Int) ≤ l.length ∧ i = .int .i64 k ∧ Hid (Wr N w wr N l k)) (fun i _ => l.length - (intOf i).toNat)
    case atStart => exact ⟨0, by omega, rfl, HW2⟩
    case round =>
      obtain ⟨k, hk, rfl, hS⟩ := hrel
      by_cases hlt : (k : Int) < l.length
      · obtain ⟨x, hx⟩ : ∃ x, l[k]? = some x := ⟨_, List.getElem?_eq_getElem (by omega)⟩
        obtain ⟨b, o, rfl, hbN, hIt⟩ := HI.out (by omega)
        obtain ⟨x0, x1, x2, x3, x4⟩ := ins_kept hIt hS.out.below hbN hx
        have HR := Lib.hid (fun W => cRight_any x (HF.out k x hx).2.2.2.2 W)
        unfold insV at HR
        have HX := Lib.hid hx
        have HM := Lib.hid (Mine.new wr x)
        have HB0 := Lib.hid ((Below.refl wr.heap.size wr).alloc (Nat.le_refl _) (.cells #[.int .i64 x.op, .int .i64 x.kd, .int .i64 x.ar, .int .i64 x.pl, .int .i64 x.n] 45))
        clear hx hIt
        cases hr : rightI x
        · rw [hr] at HR
          have HP := Lib.hid (he3.out (not_fine HX.out hr))
          clear hr
          obtain ⟨v0, v1, v2, v3, v4⟩ := HM.out.cells
          go_wp2_with fail
          refine (HR.out _).mono ?_
          rintro e w3 ⟨rfl, hb3⟩
          have HB := Lib.hid (hS.out.below.trans (((HB0.out.trans (hb3.mono (by simp)))).mono hS.out.hN))
          clear hb3
          go_wp2
          go_ret2
          exact ⟨by rw [HP.out.1, HP.out.2]; rfl, HB.out⟩
        · rw [hr] at HR
          have HFn := Lib.hid (fine_next hS.out.fine HX.out hr)
          have Hr := Lib.hid hr
          clear hr
          obtain ⟨v0, v1, v2, v3, v4⟩ := HM.out.cells
          go_wp2_with fail
          refine (HR.out _).mono ?_
          rintro e w3 ⟨rfl, hb3⟩
          have HM3 := Lib.hid (HM.out.kept hb3)
          have HB3 := Lib.hid (HB0.out.trans (hb3.mono (by simp)))
          clear hb3 x0 x1 x2 x3 x4 v0 v1 v2 v3 v4
          obtain ⟨v0, v1, v2, v3, v4⟩ := HM3.out.cells
          have HWI := Lib.hid (cWriteIns_any N N _ x Hr.out w3 (hS.out.pen.below HB3.out) (Nat.le_trans hS.out.hN HB3.out.size) (acc_len l k (by omega) HL.out))
          unfold insV at HWI
          go_wp2_with fail
          refine HWI.out.mono ?_
          rintro e w4 ⟨rfl, hp4, hb4, hn4⟩
          have HW4 := Lib.hid (show Wr N w w4 N l (k + 1) from ⟨HFn.out, by rw [flat_take HX.out, ← List.cons_append]; exact hp4, (hS.out.below.trans (HB3.out.mono hS.out.hN)).trans hb4, hn4⟩)
          clear hp4 hb4 hn4 v0 v1 v2 v3 v4 HWI HM3 HB3
          go_wp2
          go_roundw
          case rel => exact ⟨k + 1, by omega, by go_num, HW4⟩
          case measure => simp [intOf]; omega
      · obtain rfl : k = l.length := by omega
        have HP := Lib.hid (he0.out hS.out.fine.all)
        have hpen := hS.out.pen
        rw [List.take_length] at hpen
        have HPS := Lib.hid (pstr_any N N _ wr hpen)
        clear hpen
        go_wp2_with fail
        refine HPS.out.mono ?_
        rintro e w3 ⟨rfl, rfl⟩
        go_wp2
        go_ret2
        exact ⟨by rw [HP.out.1, HP.out.2]; rfl, hS.out.below⟩
  · have hli : (200 : Int) < l.length := by omega
    have he : errC l = 2 := by unfold errC; rw [if_pos (by omega)]
    rw [he, bareE_no (by omega)]
    clear he hl
    go_enter Try.func17, Try.ntmps17
    go_wp2
    go_ret2
    exact ⟨rfl, Below.refl _ _⟩

set_option maxHeartbeats 4000000 in
theorem cEncode_any (l : List In) (ao : Option Addr) (cap : Nat) (w : World) (hI : Lies w w.heap.size ao l) (hF : FitL l) :
    Calls Try.prog 7 #[.slice ao l.length cap] w (Tells (.tuple #[.string (S (encL l)), .int .i64 (errC l : Nat)]) w) := by
  have HW := Lib.hid (cWrite_any l ao cap w hI hF)
  clear hI hF
  unfold Tells at *
  by_cases he : errC l = 0
  · have HS := Lib.hid (fun W => sealed_any (S (bareL l)) W (by rw [S_size, bare_len]; have := (err_zero he).1; omega))
    rw [seal_S] at HS
    rw [he, bareE_ok he] at HW
    rw [he, enc_ok he]
    clear he
    generalize S (bareL l) = sb at *
    generalize S (sealL (bareL l)) = sl at *
    go_enter Try.func7, Try.ntmps7
    go_wp2_with fail
    refine HW.out.mono ?_
    rintro e w1 ⟨rfl, hb1⟩
    have HB1 := Lib.hid hb1
    clear hb1
    go_wp2_with fail
    refine (HS.out _).mono ?_
    rintro e w2 ⟨rfl, hb2⟩
    have HB2 := Lib.hid (HB1.out.trans (hb2.mono HB1.out.size))
    clear hb2
    go_wp2
    go_ret2
    exact ⟨rfl, HB2.out⟩
  · rw [bareE_no he] at HW
    rw [enc_no he]
    have hb : (((errC l : Nat) : Int) != 0) = true := by rw [bne_iff_ne]; omega
    generalize errC l = ec at *
    clear he
    go_enter Try.func7, Try.ntmps7
    go_wp2_with fail
    refine HW.out.mono ?_
    rintro e w1 ⟨rfl, hb1⟩
    have HB1 := Lib.hid hb1
    clear hb1
    go_wp2
    go_ret2
    exact ⟨rfl, HB1.out⟩

set_option maxHeartbeats 4000000 in
theorem cStamp_any (l : List In) (ao : Option Addr) (cap : Nat) (w : World) (hI : Lies w w.heap.size ao l) (hF : FitL l) :
    Calls Try.prog 9 #[.slice ao l.length cap] w (Tells (.int .u16 (stampN l : Nat)) w) := by
  have HW := Lib.hid (cWrite_any l ao cap w hI hF)
  clear hI hF
  unfold Tells at *
  by_cases he : errC l = 0
  · have HS := Lib.hid (fun W => sum_any (S (bareL l)) W (by rw [S_size, bare_len]; have := (err_zero he).1; unfold maxLen; omega))
    rw [he, bareE_ok he] at HW
    rw [stamp_ok he]
    rw [show (S (bareL l)).data.toList = bareL l from rfl] at HS
    clear he
    generalize S (bareL l) = sb at *
    generalize (sum (bareL l)).toNat = sm at *
    go_enter Try.func9, Try.ntmps9
    go_wp2_with fail
    refine HW.out.mono ?_
    rintro e w1 ⟨rfl, hb1⟩
    have HB1 := Lib.hid hb1
    clear hb1
    go_wp2_with fail
    refine (HS.out _).mono ?_
    rintro e w2 ⟨rfl, rfl⟩
    go_wp2
    go_ret
    exact ⟨rfl, HB1.out⟩
  · rw [bareE_no he] at HW
    rw [stamp_no he]
    have hb : (((errC l : Nat) : Int) != 0) = true := by rw [bne_iff_ne]; omega
    generalize errC l = ec at *
    clear he
    go_enter Try.func9, Try.ntmps9
    go_wp2_with fail
    refine HW.out.mono ?_
    rintro e w1 ⟨rfl, hb1⟩
    have HB1 := Lib.hid hb1
    clear hb1
    go_wp2
    go_ret
    exact ⟨rfl, HB1.out⟩

end Go.Proofs.Ytocjimedbnjmiaa.Co
