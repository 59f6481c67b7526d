/-
  The law IecDoes, walked: it returns true. Conditions: that the calls answer as is asked.
-/
import Derived.Test.YtkjijeogkemgoaaIcCode
namespace Go.Proofs.Ytkjijeogkemgoaa.Ic
open Go.RowKit
open Oct

/-- Two numbers lie in a block of the law's own. -/
structure Box2 (B : Base) (N : Nat) (w0 w : World) (a b : Int) : Prop where
  cur : Cur B N w0 w
  c0 : w.cell? ⟨N, 0, none⟩ = some (.int .i64 a)
  c1 : w.cell? ⟨N, 1, none⟩ = some (.int .i64 b)
theorem kept1 {w w' : World} {p o : Nat} {v : Value} (h : w.cell? ⟨p, o, none⟩ = some v) (hb : Below w.heap.size w w') : w'.cell? ⟨p, o, none⟩ = some v :=
  (World.cell?_of_block (a := ⟨p, o, none⟩) (hb.block p (World.block_lt_of_cell? w ⟨p, o, none⟩ h))).trans h
theorem Box2.next {B : Base} {N : Nat} {w0 w w' : World} {a b : Int} (h : Box2 B N w0 w a b) (hb : Below w.heap.size w w') : Box2 B N w0 w' a b :=
  ⟨h.cur.next hb, kept1 h.c0 hb, kept1 h.c1 hb⟩
theorem Box2.drewN {B : Base} {N : Nat} {w0 w : World} {a b : Int} (h : Box2 B N w0 w a b) (n : Nat) : Box2 B N w0 (w.drewN n) a b := h.next (below_drewN (Below.refl _ _) n)
theorem wrap_i64' (k v : Int) : I64 (wrapI k v) := by have := wrap_bd k v; unfold I64; omega

set_option maxRecDepth 100000 in
set_option maxHeartbeats 8000000 in
theorem does_walk {B : Base} (C : Code B) (op k a b : Int) (w : World) (hE : B.E w.heap.size w) (ho : I64 op) (hk : I64 k) (ha : I64 a) (hb : I64 b) :
    Calls Try.prog 4 #[.int .i64 op, .int .i64 k, .agg #[.int .i64 a, .int .i64 b]] w (Tells (.bool true) w) := by
  have CC := Lib.hid C
  have HK := Lib.hid hk
  have HO := Lib.hid ho
  have HA := Lib.hid ha
  have HB := Lib.hid hb
  have HC := Lib.hid (show Box2 B w.heap.size w (w.alloc (.cells #[.int .i64 a, .int .i64 b] 30)) a b from by
    have h := cell_two_new w (.int .i64 a) (.int .i64 b) 30
    exact ⟨(Cur.first hE).alloc _, h 0 _ rfl, h 1 _ rfl⟩)
  clear C hE ho hk ha hb
  obtain ⟨N, hN⟩ : ∃ N, w.heap.size = N := ⟨_, rfl⟩
  unfold Tells
  rw [hN] at HC ⊢
  go_enter Try.func4, Try.ntmps4
  go_wp2_with fail
  refine (awake_any CC.out _ HC.out.cur).mono ?_
  rintro e w1 ⟨rfl, hb1⟩
  have HC1 := Lib.hid (HC.out.next hb1)
  clear hb1 HC
  go_wp2
  go_loopw [16] (fun i wr => ∃ j : Nat, j ≤ 2 ∧ i = .int .i64 j ∧ Hid (Box2 B N w wr a b)) (fun i _ => 2 - (intOf i).toNat)
  case atStart => exact ⟨0, by omega, rfl, HC1⟩
  case round =>
    obtain ⟨j, hj, rfl, hc⟩ := hrel
    have c0 := hc.out.c0
    have c1 := hc.out.c1
    obtain rfl | rfl | rfl : j = 0 ∨ j = 1 ∨ j = 2 := by omega
    · go_wp2_with fail
      go_quiet (fail)
      have hc1 := Lib.hid (hc.out.drewN nq)
      clear c0 c1 hc
      go_wp2_with fail
      refine (CC.out.do_ N op k a b _ hc1.out.cur.e hc1.out.cur.size HO.out HK.out HA.out HB.out).mono ?_
      rintro e w12 ⟨rfl, hb12⟩
      have hc2 := Lib.hid (hc1.out.next hb12)
      clear hb12 hc1
      go_wp2_with fail
      refine (rDo_any op k a b _).mono ?_
      rintro e w13 ⟨rfl, hb13⟩
      have hc3 := Lib.hid (hc2.out.next hb13)
      clear hb13 hc2
      go_wp2_with fail
      refine (CC.out.not_ N k a _ hc3.out.cur.e hc3.out.cur.size HK.out HA.out).mono ?_
      rintro e w14 ⟨rfl, hb14⟩
      have hc4 := Lib.hid (hc3.out.next hb14)
      clear hb14 hc3
      go_wp2_with fail
      refine (rNot_any k a _).mono ?_
      rintro e w15 ⟨rfl, hb15⟩
      have hc5 := Lib.hid (hc4.out.next hb15)
      clear hb15 hc4
      go_wp2
      go_roundw
      case rel => exact ⟨1, by omega, rfl, hc5⟩
      case measure => simp [intOf]
    · go_wp2_with fail
      go_quiet (fail)
      have hc0 := Lib.hid (hc.out.drewN nq)
      clear c0 c1 hc
      go_wp2_with fail
      refine (rWrap_any k a _ HA.out.1 HA.out.2).mono ?_
      rintro e w3 ⟨rfl, hb3⟩
      have hcx := Lib.hid (hc0.out.next hb3)
      clear hb3 hc0
      go_wp2_with fail
      refine (rWrap_any k b _ HB.out.1 HB.out.2).mono ?_
      rintro e w4 ⟨rfl, hb4⟩
      have hc1 := Lib.hid (hcx.out.next hb4)
      clear hb4 hcx
      have HA2 := Lib.hid (wrap_i64' k a)
      have HB2 := Lib.hid (wrap_i64' k b)
      generalize wrapI k a = a2 at *
      generalize wrapI k b = b2 at *
      go_wp2_with fail
      refine (CC.out.do_ N op k a2 b2 _ hc1.out.cur.e hc1.out.cur.size HO.out HK.out HA2.out HB2.out).mono ?_
      rintro e w12 ⟨rfl, hb12⟩
      have hc2 := Lib.hid (hc1.out.next hb12)
      clear hb12 hc1
      go_wp2_with fail
      refine (rDo_any op k a2 b2 _).mono ?_
      rintro e w13 ⟨rfl, hb13⟩
      have hc3 := Lib.hid (hc2.out.next hb13)
      clear hb13 hc2
      go_wp2_with fail
      refine (CC.out.not_ N k a2 _ hc3.out.cur.e hc3.out.cur.size HK.out HA2.out).mono ?_
      rintro e w14 ⟨rfl, hb14⟩
      have hc4 := Lib.hid (hc3.out.next hb14)
      clear hb14 hc3
      go_wp2_with fail
      refine (rNot_any k a2 _).mono ?_
      rintro e w15 ⟨rfl, hb15⟩
      have hc5 := Lib.hid (hc4.out.next hb15)
      clear hb15 hc4
      go_wp2
      go_roundw
      case rel => exact ⟨2, by omega, rfl, hc5⟩
      case measure => simp [intOf]
    · go_wp2_with fail
      refine (CC.out.may N op k _ hc.out.cur.e hc.out.cur.size HO.out HK.out).mono ?_
      rintro e w3 ⟨rfl, hb3⟩
      have hc3 := Lib.hid (hc.out.next hb3)
      clear hb3 hc c0 c1
      go_wp2_with fail
      refine (rMay_any op k _).mono ?_
      rintro e w4 ⟨rfl, hb4⟩
      have hc4 := Lib.hid (hc3.out.next hb4)
      clear hb4 hc3
      go_wp2
      go_ret
      exact ⟨rfl, hc4.out.cur.below⟩

end Go.Proofs.Ytkjijeogkemgoaa.Ic
