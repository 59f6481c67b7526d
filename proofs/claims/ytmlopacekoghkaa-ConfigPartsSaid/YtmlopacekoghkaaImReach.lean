/-
  reach: walked. Conditions: as each states.
-/
import Derived.Test.YtmlopacekoghkaaImVal
namespace Go.Proofs.Ytmlopacekoghkaa.Bl
open Go.RowKit

/-- A world behind a call's first one, in which spots and a directory lie. -/
structure Im (w W : World) (so : Option Addr) (l : List Spt) (bo : Option Addr) (D : List Blk) : Prop where
  sp : LiesS W w.heap.size so l
  di : Lies W w.heap.size bo D
  below : Below w.heap.size w W
section
variable {w W W' : World} {so bo : Option Addr} {l : List Spt} {D : List Blk}
theorem Im.first (h : LiesS w w.heap.size so l) (k : Lies w w.heap.size bo D) : Im w w so l bo D := ⟨h, k, Below.refl _ _⟩
theorem Im.turn (h : Im w W so l bo D) (hb : Below w.heap.size W W') : Im w W' so l bo D := ⟨h.sp.below hb, h.di.below hb, h.below.trans hb⟩
theorem Im.next (h : Im w W so l bo D) (hb : Below W.heap.size W W') : Im w W' so l bo D := h.turn (hb.mono h.below.size)
theorem Im.self (h : Im w W so l bo D) : Im W W so l bo D := ⟨h.sp.more h.below.size, h.di.more h.below.size, Below.refl _ _⟩
end
/-- .. and a spot and a block of the call's own. -/
structure Rw (w W : World) (so : Option Addr) (l : List Spt) (bo : Option Addr) (D : List Blk) (b c : Nat) (s : Spt) (x : Blk) : Prop where
  im : Im w W so l bo D
  os : Own2 W b s 57
  ob : Own4 W c x 61
theorem Rw.next {w W W' : World} {so bo : Option Addr} {l : List Spt} {D : List Blk} {b c : Nat} {s : Spt} {x : Blk} (h : Rw w W so l bo D b c s x) (hb : Below W.heap.size W W') : Rw w W' so l bo D b c s x := ⟨h.im.next hb, h.os.kept hb h.os.lt, h.ob.kept hb h.ob.lt⟩

theorem spE_no {l : List Spt} {D : List Blk} {i : Nat} {s : Spt} {x : Blk} (hs : l.getD i noS = s) (h : findB D s.b = (x, false)) : spE l D i = 5 ∧ spN l D i = 0 := by
  have : spE l D i = 5 := by
    unfold spE
    rw [hs, h]
    rfl
  exact ⟨this, by unfold spN; rw [if_neg (by rw [this]; decide)]⟩
theorem spE_tw {l : List Spt} {D : List Blk} {i : Nat} {s : Spt} {x : Blk} (hs : l.getD i noS = s) (h : findB D s.b = (x, true)) (ht : twB l i 0 s.b = true) : spE l D i = 14 ∧ spN l D i = 0 := by
  have : spE l D i = 14 := by
    unfold spE
    rw [hs, h, if_pos rfl, if_pos ht]
  exact ⟨this, by unfold spN; rw [if_neg (by rw [this]; decide)]⟩
theorem spE_long {l : List Spt} {D : List Blk} {i : Nat} {s : Spt} {x : Blk} (hs : l.getD i noS = s) (h : findB D s.b = (x, true)) (ht : twB l i 0 s.b = false) (hl : longB s.a x.sz = true) : spE l D i = 2 ∧ spN l D i = 0 := by
  have : spE l D i = 2 := by
    unfold spE
    rw [hs, h, if_pos rfl, ht, if_neg (by decide), if_pos hl]
  exact ⟨this, by unfold spN; rw [if_neg (by rw [this]; decide)]⟩
theorem spE_ok {l : List Spt} {D : List Blk} {i : Nat} {s : Spt} {x : Blk} (hs : l.getD i noS = s) (h : findB D s.b = (x, true)) (ht : twB l i 0 s.b = false) (hl : ¬ longB s.a x.sz = true) : spE l D i = 0 ∧ spN l D i = spanN s.a.toNat x.sz.toNat := by
  have : spE l D i = 0 := by
    unfold spE
    rw [hs, h, if_pos rfl, ht, if_neg (by decide), if_neg hl]
  refine ⟨this, ?_⟩
  unfold spN
  rw [if_pos this]
  unfold spP spZ
  rw [hs, h]

set_option maxRecDepth 100000 in
set_option maxHeartbeats 8000000 in
theorem cReach_any (l : List Spt) (so : Option Addr) (cap : Nat) (D : List Blk) (bo : Option Addr) (capD i : Nat) (w : World) (hI : Im w w so l bo D) (hi : i < l.length) (hc : l.length ≤ cap) (hm : cap ≤ maxLen) (hD : D.length ≤ maxLen) :
    Calls Try.prog 43 #[.slice so l.length cap, .int .i64 i, .slice bo D.length capD] w (Tells (.tuple #[.int .u64 (spN l D i : Nat), .int .i64 (spE l D i)]) w) := by
  have hml : (cap : Int) ≤ 9223372036854775807 := by unfold maxLen at hm; omega
  obtain ⟨b0, o0, rfl, hb0, hcs⟩ := hI.sp (by omega)
  obtain ⟨s, hs⟩ : ∃ s, l[i]? = some s := ⟨_, List.getElem?_eq_getElem hi⟩
  obtain ⟨c0, c1⟩ := hcs i s hs
  have hg := sget_at hs
  have HI := Lib.hid hI
  have HF := fun W (h : Im w W (some ⟨b0, o0, none⟩) l bo D) => cFind_any D bo capD s.b W h.self.di hD
  obtain ⟨x, f, hf⟩ : ∃ x f, findB D s.b = (x, f) := ⟨_, _, rfl⟩
  rw [hf] at HF
  unfold foundV blkV at HF
  obtain ⟨E, hE⟩ : ∃ E, E = spE l D i := ⟨_, rfl⟩
  obtain ⟨N, hN⟩ : ∃ N, N = spN l D i := ⟨_, rfl⟩
  rw [← hE, ← hN]
  have one := one_S w #[.int .i64 s.b, .int .i64 s.a] 57
  have hO : Own2 _ w.heap.size s 57 := Own2.new w s 57
  have HI1 := Lib.hid (HI.out.next one)
  have HO1 := Lib.hid hO
  obtain ⟨d0, d1⟩ := hO.cells
  replace HF := Lib.hid HF
  have HCS := Lib.hid hcs
  clear hI one hO hcs
  generalize hbb : w.heap.size = bb at *
  cases f
  · obtain ⟨h1, h2⟩ := spE_no hg hf
    obtain rfl : E = 5 := hE.trans h1
    obtain rfl : N = 0 := hN.trans h2
    clear hE hN h1 h2 hf hg
    go_enter Try.func43, Try.ntmps43
    go_wp2_with fail
    refine (HF.out _ HI1.out).mono ?_
    rintro e w1 ⟨rfl, hb1⟩
    have HI2 := Lib.hid ((HI1.out.next hb1).next (one_S w1 #[.int .i64 x.id, .int .i64 x.ad, .int .i64 x.sz, .bool x.hi] 61))
    clear hb1 HI1
    go_wp2
    go_ret2
    exact ⟨rfl, HI2.out.below⟩
  · have ht := fun (k : Nat) (y : Spt) (hy : l[k]? = some y) (hk : k < i) => tw_at hy hk s.b
    have HT := Lib.hid ht
    have HX := Lib.hid (⟨hg, hf, hE, hN⟩ : _ ∧ _ ∧ _ ∧ _)
    clear ht hg hf hE hN
    go_enter Try.func43, Try.ntmps43
    go_wp2_with fail
    refine (HF.out _ HI1.out).mono ?_
    rintro e w1 ⟨rfl, hb1⟩
    have HI2 := HI1.out.next hb1
    have HO2 := HO1.out.kept hb1 HO1.out.lt
    have o2 := one_S w1 #[.int .i64 x.id, .int .i64 x.ad, .int .i64 x.sz, .bool x.hi] 61
    have HB2 := Own4.new w1 x 61
    have HR := Lib.hid (⟨HI2.next o2, HO2.kept o2 HO2.lt, HB2⟩ : Rw w _ (some ⟨b0, o0, none⟩) l bo D bb w1.heap.size s x)
    clear HI2 HO2 HB2 o2 hb1 HI1 HO1 HI d0 d1 c0 c1
    obtain ⟨d0, d1⟩ := HR.out.os.cells
    go_wp2
    generalize w1.heap.size = cc at *
    clear d0 d1
    go_loopw [30] (fun j W => ∃ k : Nat, k ≤ i ∧ j = .int .i64 k ∧ Hid (twB l i 0 s.b = twB l i k s.b) ∧ Hid (Rw w W (some ⟨b0, o0, none⟩) l bo D bb cc s x)) (fun j _ => i - (intOf j).toNat)
    case atStart => exact ⟨0, Nat.zero_le _, rfl, Lib.hid rfl, HR⟩
    case round =>
      obtain ⟨k, hk, rfl, hT, hR⟩ := hrel
      clear HR HF
      obtain ⟨d0, d1⟩ := hR.out.os.cells
      by_cases hlt : k < i
      · have e1 : decide ((k : Int) < (i : Int)) = true := by simp; omega
        obtain ⟨y, hy⟩ : ∃ y, l[k]? = some y := ⟨_, List.getElem?_eq_getElem (by omega)⟩
        obtain ⟨b1, o1, hbo, hb1, hcs⟩ := hR.out.im.sp (by omega)
        obtain ⟨c0, c1⟩ := hcs k y hy
        injection hbo with hbo
        injection hbo with hbo hbo2
        subst hbo hbo2
        have htw := HT.out k y hy hlt
        have o2 := one_S wr #[.int .i64 y.b, .int .i64 y.a] 57
        have hR2 := Lib.hid (hR.out.next o2)
        obtain ⟨g0, g1⟩ := (Own2.new wr y 57).cells
        have hlt2 := hR.out.os.lt
        clear hcs o2 hy HCS
        by_cases he : y.b = s.b
        · have e2 : (y.b == s.b) = true := beq_iff_eq.2 he
          rw [decide_eq_true he, Bool.true_or] at htw
          obtain ⟨hg, hf, hE, hN⟩ := HX.out
          obtain ⟨h1, h2⟩ := spE_tw hg hf (hT.out.trans htw)
          obtain rfl : E = 14 := hE.trans h1
          obtain rfl : N = 0 := hN.trans h2
          clear hg hf hE hN h1 h2 HX htw hT he
          go_wp2
          go_ret2
          exact ⟨rfl, hR2.out.im.below⟩
        · have e2 : (y.b == s.b) = false := beq_eq_false_iff_ne.2 he
          rw [decide_eq_false he, Bool.false_or] at htw
          have HT2 := Lib.hid (hT.out.trans htw)
          clear htw hT he
          go_wp2
          go_roundw
          case rel => exact ⟨k + 1, by omega, by go_num, HT2, hR2⟩
          case measure => simp [intOf]; omega
      · obtain rfl : k = i := by omega
        have ht := hT.out
        rw [tw_end] at ht
        obtain ⟨q0, q1, q2, q3⟩ := hR.out.ob.cells
        have HB := Lib.hid hR.out.im.below
        obtain ⟨hg, hf, hE, hN⟩ := HX.out
        clear hR HX hT HT HCS
        by_cases hl : longB s.a x.sz = true
        · obtain ⟨h1, h2⟩ := spE_long hg hf ht hl
          obtain rfl : E = 2 := hE.trans h1
          obtain rfl : N = 0 := hN.trans h2
          have hly := long_yes hl
          clear hg hf hE hN h1 h2 ht hl
          obtain ⟨sb, a⟩ := s
          obtain ⟨i1, i2, z, i4⟩ := x
          dsimp only at *
          by_cases l1 : a < 0
          · have e1 : decide (a < 0) = true := decide_eq_true l1
            clear hly
            go_wp2
            go_ret2
            exact ⟨rfl, HB.out⟩
          · have e1 : decide (a < 0) = false := decide_eq_false l1
            by_cases l2 : 64 < a
            · have e2 : decide (64 < a) = true := decide_eq_true l2
              clear hly l1
              go_wp2
              go_ret2
              exact ⟨rfl, HB.out⟩
            · have e2 : decide (64 < a) = false := decide_eq_false l2
              have hw : IntKind.i64.wrap (64 - a) = 64 - a := by rw [IntKind.wrap_i64]; omega
              by_cases l3 : z < 0
              · have e3 : decide (z < 0) = true := decide_eq_true l3
                clear hly l1 l2
                go_wp2
                go_ret2
                exact ⟨rfl, HB.out⟩
              · have e3 : decide (z < 0) = false := decide_eq_false l3
                have e4 : decide (64 - a < z) = true := decide_eq_true (by omega)
                clear hly l1 l2 l3
                go_wp2
                go_ret2
                exact ⟨rfl, HB.out⟩
        · obtain ⟨h1, h2⟩ := spE_ok hg hf ht hl
          obtain rfl : E = 0 := hE.trans h1
          obtain rfl : N = _ := hN.trans h2
          have hln := long_no hl
          clear hg hf hE hN h1 h2 ht hl
          obtain ⟨sb, a⟩ := s
          obtain ⟨i1, i2, z, i4⟩ := x
          dsimp only at *
          obtain ⟨p, rfl⟩ : ∃ p : Nat, a = (p : Int) := ⟨a.toNat, by omega⟩
          obtain ⟨n, rfl⟩ : ∃ n : Nat, z = (n : Int) := ⟨z.toNat, by omega⟩
          rw [Int.toNat_natCast, Int.toNat_natCast]
          have hw : IntKind.i64.wrap (64 - (p : Int)) = 64 - (p : Int) := by rw [IntKind.wrap_i64]; omega
          have e1 : decide ((p : Int) < 0) = false := by simp
          have e2 : decide ((64 : Int) < (p : Int)) = false := by simp; omega
          have e3 : decide ((n : Int) < 0) = false := by simp
          have e4 : decide ((64 : Int) - (p : Int) < (n : Int)) = false := by simp; omega
          have HSp := Lib.hid (fun W => cSpan p n (by omega) W)
          clear hln
          go_wp2_with fail
          refine (HSp.out _).mono ?_
          rintro e w2 ⟨rfl, rfl⟩
          go_wp2
          go_ret2
          exact ⟨rfl, HB.out⟩
end Go.Proofs.Ytmlopacekoghkaa.Bl
