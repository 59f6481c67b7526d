/-
  The law BusHurts, walked: it returns true, where the calls answer as is asked. Conditions: that, and on sizes.
-/
import Derived.Test.YthepnckbooioeaaBuTwin
import Derived.Deep.RegionHeld3
namespace Go.Proofs.Ythepnckbooioeaa.Bus
open Go.RowKit

set_option maxRecDepth 100000 in
set_option maxHeartbeats 8000000 in
theorem hurts_walk {F : Face} (C : Code F) (s : ByteArray) (y z : Ac) (w : World) (hs : s.size ≤ maxLen) (hy : y.Fit) (hz : z.Fit) :
    Calls Try.prog 6 #[.string s, .agg #[.int .u8 y.a, .int .i64 y.k, .int .i64 y.at_, .int .u16 (y.pat.toNat : Int), .string y.s], .agg #[.int .u8 z.a, .int .i64 z.k, .int .i64 z.at_, .int .u16 (z.pat.toNat : Int), .string z.s]] w (Tells (.bool true) w) := by
  have CC := Lib.hid C
  have HMax := Lib.hid hs
  unfold maxLen at hs
  obtain ⟨z0, z1, z2, z3⟩ := hz
  have HFy := Lib.hid hy
  clear C hy z1 z2 z3
  have hb0 := (alloc_below w (.cells #[.int .u8 y.a, .int .i64 y.k, .int .i64 y.at_, .int .u16 (y.pat.toNat : Int), .string y.s] 33))
  have hb1 := (alloc_below (w.alloc (.cells #[.int .u8 y.a, .int .i64 y.k, .int .i64 y.at_, .int .u16 (y.pat.toNat : Int), .string y.s] 33)) (.cells #[.int .u8 z.a, .int .i64 z.k, .int .i64 z.at_, .int .u16 (z.pat.toNat : Int), .string z.s] 33))
  have HY := Lib.hid ((ActAt.new w y 33).below hb1)
  have HZ := Lib.hid (ActAt.new (w.alloc (.cells #[.int .u8 y.a, .int .i64 y.k, .int .i64 y.at_, .int .u16 (y.pat.toNat : Int), .string y.s] 33)) z 33)
  have hsz : (w.alloc (.cells #[.int .u8 y.a, .int .i64 y.k, .int .i64 y.at_, .int .u16 (y.pat.toNat : Int), .string y.s] 33)).heap.size = w.heap.size + 1 := by simp
  rw [hsz] at HZ
  have HB := Lib.hid (hb0.trans (hb1.mono hb0.size))
  clear hb0 hb1 hsz
  by_cases hgd : 2 ≤ s.size ∧ s.size ≤ 40
  · obtain ⟨g1, g2⟩ := hgd
    have b1 : ¬ (s.size : Int) < 2 := by omega
    have b2 : ¬ (40 : Int) < s.size := by omega
    obtain ⟨f1, f2, f3, f4, f5, f6⟩ := hurts_facts s g1 g2 y.at_ y.pat
    have HS1 := Lib.hid (fun p ms w hx => CC.out.send p ms Bs.zero 3 s w hx ⟨by omega, by omega⟩ HMax.out)
    have HS2 := Lib.hid (fun p ms w hx => CC.out.send p ms (sendX Bs.zero 3 s) 4 other w hx ⟨by omega, by omega⟩ (by decide))
    have HBu := Lib.hid (fun p ms w hx => CC.out.burst p ms (sendX (sendX Bs.zero 3 s) 4 other) 0 y.at_ y.pat w hx ⟨by omega, by omega⟩ HFy.out.2.2.1)
    have HP1 := Lib.hid (fun p ms w hx => CC.out.piece p ms (hurX (sendX (sendX Bs.zero 3 s) 4 other) 0 y.at_ y.pat) 0 w hx ⟨by omega, by omega⟩)
    have HTw := Lib.hid (fun p ms w hx => CC.out.twice p ms (hurX (sendX (sendX Bs.zero 3 s) 4 other) 0 y.at_ y.pat) 0 w hx ⟨by omega, by omega⟩)
    rw [f1] at HS1
    rw [f2] at HS2
    rw [f3] at HBu
    rw [f4] at HP1
    rw [f5, f6] at HTw
    have HPe := Lib.hid (show hurP (sentP 3 s) y.at_ y.pat = ⟨burB s y.at_ y.pat, 3, (sentP 3 s).to, !decide (burB s y.at_ y.pat = s)⟩ from rfl)
    replace HS1 : Hid (∀ p ms w, F.At w p ms Bs.zero → Calls Try.prog 16 #[.pointer (some ⟨p, 0, none⟩), .int .i64 3, .string s] w (Done F p ms (.int .i64 0) (sendX Bs.zero 3 s) w)) := HS1
    replace HS2 : Hid (∀ p ms w, F.At w p ms (sendX Bs.zero 3 s) → Calls Try.prog 16 #[.pointer (some ⟨p, 0, none⟩), .int .i64 4, .string ⟨#[111, 116, 104, 101, 114]⟩] w (Done F p ms (.int .i64 0) (sendX (sendX Bs.zero 3 s) 4 other) w)) := HS2
    unfold Pc.val at HP1
    have HQ := Lib.hid (show sentP 4 other = ⟨⟨#[111, 116, 104, 101, 114]⟩, 4, (sentP 4 other).to, false⟩ from rfl)
    clear f1 f2 f3 f4 f5 f6
    generalize hPP : hurP (sentP 3 s) y.at_ y.pat = P at *
    replace hPP := Lib.hid hPP
    generalize sentP 4 other = Q at *
    generalize hurX (sendX (sendX Bs.zero 3 s) 4 other) 0 y.at_ y.pat = y3 at *
    generalize sendX (sendX Bs.zero 3 s) 4 other = y2 at *
    generalize sendX Bs.zero 3 s = y1 at *
    go_enter Try.func6, Try.ntmps6
    go_wp2_with fail
    generalize (w.alloc (.cells #[.int .u8 y.a, .int .i64 y.k, .int .i64 y.at_, .int .u16 (y.pat.toNat : Int), .string y.s] 33)).alloc (.cells #[.int .u8 z.a, .int .i64 z.k, .int .i64 z.at_, .int .u16 (z.pat.toNat : Int), .string z.s] 33) = w0 at *
    refine (awake_true CC.out _).mono ?_
    rintro e w1 ⟨rfl, hb1⟩
    replace HY := Lib.hid (HY.out.below hb1)
    replace HZ := Lib.hid (HZ.out.below hb1)
    replace HB := Lib.hid (HB.out.trans (hb1.mono HB.out.size))
    clear hb1
    have hsz := HB.out.size
    generalize hNN : w.heap.size = N at *
    have HNN := Lib.hid hNN
    clear hNN hsz
    go_wp2_with fail
    refine (CC.out.new _).mono ?_
    rintro e w2 ⟨p, ms, rfl, hx, hm, hb2⟩
    have n1 : N ∉ ms := fun hin => by have := hm N hin; have := HY.out.lt; omega
    have n2 : N + 1 ∉ ms := fun hin => by have := hm (N + 1) hin; have := HZ.out.lt; omega
    replace HY := Lib.hid (HY.out.below hb2)
    replace HZ := Lib.hid (HZ.out.below hb2)
    have hr2 := Run.first hx hm hb2 HB.out (by have := HY.out.lt; have := HB.out.size; rw [HNN.out] at this; exact this)
    clear hx hm hb2 HB
    go_wp2_with fail
    refine (HS1.out _ _ _ hr2.at_).mono ?_
    rintro e w3 hd
    obtain ⟨rfl, ns3, hr3, ho, hn⟩ := hr2.done hd
    have n1_ := notin_next n1 HY.out.lt hn
    replace HY := Lib.hid (HY.out.only ho n1)
    replace n1 := n1_
    clear n1_
    have n2_ := notin_next n2 HZ.out.lt hn
    replace HZ := Lib.hid (HZ.out.only ho n2)
    replace n2 := n2_
    clear n2_
    clear hd ho hn hr2
    go_wp2_with fail
    refine (HS2.out _ _ _ hr3.at_).mono ?_
    rintro e w4 hd
    obtain ⟨rfl, ns4, hr4, ho, hn⟩ := hr3.done hd
    have n1_ := notin_next n1 HY.out.lt hn
    replace HY := Lib.hid (HY.out.only ho n1)
    replace n1 := n1_
    clear n1_
    have n2_ := notin_next n2 HZ.out.lt hn
    replace HZ := Lib.hid (HZ.out.only ho n2)
    replace n2 := n2_
    clear n2_
    clear hd ho hn hr3
    have c2 := HY.out.c2
    have c3 := HY.out.c3
    go_wp2_with fail
    refine (HBu.out _ _ _ hr4.at_).mono ?_
    rintro e w5 hd
    obtain ⟨rfl, ns5, hr5, ho, hn⟩ := hr4.done hd
    have n1_ := notin_next n1 HY.out.lt hn
    replace HY := Lib.hid (HY.out.only ho n1)
    replace n1 := n1_
    clear n1_
    have n2_ := notin_next n2 HZ.out.lt hn
    replace HZ := Lib.hid (HZ.out.only ho n2)
    replace n2 := n2_
    clear n2_
    clear hd ho hn hr4
    clear c2 c3 HS1 HS2 HBu HY n1
    go_wp2_with fail
    refine (HP1.out _ _ _ hr5.at_).mono ?_
    rintro e w6 ⟨rfl, hb6⟩
    have hr6 := hr5.more hb6
    replace HZ := Lib.hid (HZ.out.below hb6)
    clear hr5 hb6 HP1
    obtain ⟨pb, psrc, pto, ph⟩ := P
    have HPf := Lib.hid (Pc.mk.inj HPe.out)
    clear HPe
    cases ph
    · have heq : pb = s := by
        obtain ⟨e1, -, -, e4⟩ := HPf.out
        rw [e1]
        simpa using e4
      subst heq
      have HP := Lib.hid (BoxP.new w6 ⟨pb, psrc, pto, false⟩ 43)
      have hr7 := hr6.more (box_below w6 ⟨pb, psrc, pto, false⟩ 43)
      replace HZ := Lib.hid (HZ.out.below (box_below w6 ⟨pb, psrc, pto, false⟩ 43))
      have n3 : w6.heap.size ∉ ns5 := notin_new hr6.at_ (Nat.le_refl _)
      clear hr6
      have p0 := HP.out.1
      have p3 := HP.out.2.2.2
      go_wp2_with fail
      generalize w6.alloc (Obj.cells #[Value.string pb, Value.int .i64 psrc, Value.int .u32 (pto.toNat : Int), Value.bool false] 43) = w7 at *
      generalize w6.heap.size = tp at *
      refine (HTw.out _ _ _ hr7.at_).mono ?_
      rintro e w8 hd
      obtain ⟨rfl, ns8, hr8, ho, hn⟩ := hr7.done hd
      have n2_ := notin_next n2 HZ.out.lt hn
      replace HZ := Lib.hid (HZ.out.only ho n2)
      replace n2 := n2_
      clear n2_
      have n3_ := notin_next n3 HP.out.lt hn
      replace HP := Lib.hid (HP.out.only ho n3)
      replace n3 := n3_
      clear n3_
      clear hd ho hn hr7
      clear p0 p3 HTw
      obtain ⟨qb, qsrc, qto, qh⟩ := Q
      obtain ⟨rfl, -, -, rfl⟩ := Pc.mk.inj HQ.out
      clear HQ
      have c0 := HZ.out.c0
      have c3 := HZ.out.c3
      obtain ⟨n, hnw, hn1, hn2⟩ : ∃ n : Nat, wrap64 (1 + (z.pat.toNat : Int) % ((pb.size : Int) - 1)) = (n : Int) ∧ 1 ≤ n ∧ n < pb.size := by
        have m1 := Int.emod_nonneg (z.pat.toNat : Int) (show ((pb.size : Int) - 1) ≠ 0 by omega)
        have m2 := Int.emod_lt_of_pos (z.pat.toNat : Int) (show 0 < ((pb.size : Int) - 1) by omega)
        generalize (z.pat.toNat : Int) % ((pb.size : Int) - 1) = m at *
        exact ⟨(1 + m).toNat, by unfold wrap64; omega, by omega, by omega⟩
      obtain ⟨r, hr⟩ : ∃ r : Nat, pb.size - n = r := ⟨_, rfl⟩
      obtain ⟨rb, hrb⟩ : ∃ rb, pb.extract 0 (pb.size - n) = rb := ⟨_, rfl⟩
      have HRB := Lib.hid (show pb.extract 0 r = rb by rw [← hr]; exact hrb)
      have t3 : (0 : Int) ≤ (pb.size : Int) - n := by omega
      have t4 : r ≤ pb.size := by omega
      have t6 : IntKind.i64.wrap ((pb.size : Int) - n) = (r : Int) := by rw [IntKind.wrap_i64]; omega
      rcases (show z.a % 2 = 0 ∨ z.a % 2 = 1 by omega) with hz | hz
      · have hzi : (z.a : Int) % 2 = 0 := by omega
        obtain ⟨k0, k3⟩ := three_cut0 ⟨pb, psrc, pto, false⟩ ⟨⟨#[111, 116, 104, 101, 114]⟩, qsrc, qto, false⟩ rfl n hn1 hn2
        rw [show cutP ⟨pb, psrc, pto, false⟩ n = ⟨rb, psrc, pto, true⟩ from by rw [cutP_eq, hrb]] at k3
        obtain ⟨s0, s2, s1, v0, v1, v2⟩ := other_show0 ⟨rb, psrc, pto, true⟩ ⟨⟨#[111, 116, 104, 101, 114]⟩, qsrc, qto, false⟩ ⟨pb, psrc, pto, false⟩
        have k5 := cut_again0 ⟨rb, psrc, pto, true⟩ ⟨⟨#[111, 116, 104, 101, 114]⟩, qsrc, qto, false⟩ ⟨pb, psrc, pto, false⟩ rfl 1
        have HCu := Lib.hid (CC.out.cut p ns8 _ 0 n w8 hr8.at_ ⟨by omega, by omega⟩ ⟨by omega, by omega⟩)
        rw [k0, k3] at HCu
        have HPq := Lib.hid (fun ms w hx => CC.out.piece p ms (⟨[⟨rb, psrc, pto, true⟩, ⟨⟨#[111, 116, 104, 101, 114]⟩, qsrc, qto, false⟩, ⟨pb, psrc, pto, false⟩], false⟩ : Bs) 0 w hx ⟨by omega, by omega⟩)
        rw [s0, v0] at HPq
        unfold Pc.val at HPq
        have HPt := Lib.hid (fun ms w hx => CC.out.piece p ms (⟨[⟨rb, psrc, pto, true⟩, ⟨⟨#[111, 116, 104, 101, 114]⟩, qsrc, qto, false⟩, ⟨pb, psrc, pto, false⟩], false⟩ : Bs) 2 w hx ⟨by omega, by omega⟩)
        rw [s2, v2] at HPt
        unfold Pc.val at HPt
        have HPr := Lib.hid (fun ms w hx => CC.out.piece p ms (⟨[⟨rb, psrc, pto, true⟩, ⟨⟨#[111, 116, 104, 101, 114]⟩, qsrc, qto, false⟩, ⟨pb, psrc, pto, false⟩], false⟩ : Bs) 1 w hx ⟨by omega, by omega⟩)
        rw [s1, v1] at HPr
        unfold Pc.val at HPr
        have HLa := Lib.hid (fun ms w hx => CC.out.cut p ms (⟨[⟨rb, psrc, pto, true⟩, ⟨⟨#[111, 116, 104, 101, 114]⟩, qsrc, qto, false⟩, ⟨pb, psrc, pto, false⟩], false⟩ : Bs) 0 1 w hx ⟨by omega, by omega⟩ ⟨by omega, by omega⟩)
        rw [k5] at HLa
        clear s0 s1 s2 v0 v1 v2 k0 k3 k5
        go_wp2_with fail
        refine (HCu.out).mono ?_
        rintro e w9 hd
        obtain ⟨rfl, ns9, hr9, ho, hn⟩ := hr8.done hd
        have n3_ := notin_next n3 HP.out.lt hn
        replace HP := Lib.hid (HP.out.only ho n3)
        replace n3 := n3_
        clear n3_
        clear hd ho hn hr8
        clear c0 c3 HZ n2 HCu
        go_wp2_with fail
        refine (HPq.out _ _ hr9.at_).mono ?_
        rintro e w10 ⟨rfl, hb⟩
        have hr10 := hr9.more hb
        replace HP := Lib.hid (HP.out.below hb)
        clear hr9 hb HPq
        have HQ := Lib.hid (BoxP.new w10 ⟨rb, psrc, pto, true⟩ 43)
        have hr11 := hr10.more (box_below w10 ⟨rb, psrc, pto, true⟩ 43)
        replace HP := Lib.hid (HP.out.below (box_below w10 ⟨rb, psrc, pto, true⟩ 43))
        have n4 : w10.heap.size ∉ ns9 := notin_new hr10.at_ (Nat.le_refl _)
        clear hr10
        go_wp2_with fail
        generalize w10.alloc (Obj.cells #[Value.string rb, Value.int .i64 psrc, Value.int .u32 (pto.toNat : Int), Value.bool true] 43) = w11 at *
        generalize w10.heap.size = tq at *
        refine (HPt.out _ _ hr11.at_).mono ?_
        rintro e w12 ⟨rfl, hb⟩
        have hr12 := hr11.more hb
        replace HP := Lib.hid (HP.out.below hb)
        replace HQ := Lib.hid (HQ.out.below hb)
        clear hr11 hb HPt
        have HT := Lib.hid (BoxP.new w12 ⟨pb, psrc, pto, false⟩ 43)
        have hr13 := hr12.more (box_below w12 ⟨pb, psrc, pto, false⟩ 43)
        replace HP := Lib.hid (HP.out.below (box_below w12 ⟨pb, psrc, pto, false⟩ 43))
        replace HQ := Lib.hid (HQ.out.below (box_below w12 ⟨pb, psrc, pto, false⟩ 43))
        have n5 : w12.heap.size ∉ ns9 := notin_new hr12.at_ (Nat.le_refl _)
        clear hr12
        go_wp2_with fail
        generalize w12.alloc (Obj.cells #[Value.string pb, Value.int .i64 psrc, Value.int .u32 (pto.toNat : Int), Value.bool false] 43) = w13 at *
        generalize w12.heap.size = tt at *
        refine (HPr.out _ _ hr13.at_).mono ?_
        rintro e w14 ⟨rfl, hb⟩
        have hr14 := hr13.more hb
        replace HP := Lib.hid (HP.out.below hb)
        replace HQ := Lib.hid (HQ.out.below hb)
        replace HT := Lib.hid (HT.out.below hb)
        clear hr13 hb HPr
        have HO := Lib.hid (BoxP.new w14 ⟨⟨#[111, 116, 104, 101, 114]⟩, qsrc, qto, false⟩ 43)
        have hr15 := hr14.more (box_below w14 ⟨⟨#[111, 116, 104, 101, 114]⟩, qsrc, qto, false⟩ 43)
        replace HP := Lib.hid (HP.out.below (box_below w14 ⟨⟨#[111, 116, 104, 101, 114]⟩, qsrc, qto, false⟩ 43))
        replace HQ := Lib.hid (HQ.out.below (box_below w14 ⟨⟨#[111, 116, 104, 101, 114]⟩, qsrc, qto, false⟩ 43))
        replace HT := Lib.hid (HT.out.below (box_below w14 ⟨⟨#[111, 116, 104, 101, 114]⟩, qsrc, qto, false⟩ 43))
        have n6 : w14.heap.size ∉ ns9 := notin_new hr14.at_ (Nat.le_refl _)
        clear hr14
        obtain ⟨a0, a1, a2, a3⟩ := HP.out
        obtain ⟨d0, d1, d2, d3⟩ := HT.out
        obtain ⟨o0, -, -, o3⟩ := HO.out
        obtain ⟨q0, q1, q2, q3⟩ := HQ.out
        dsimp only at a0 a1 a2 a3 d0 d1 d2 d3 o0 o3 q0 q1 q2 q3
        clear o3
        have o3 := HO.out.2.2.2
        dsimp only at o3
        go_wp2_with fail
        generalize w14.alloc (Obj.cells #[Value.string ⟨#[111, 116, 104, 101, 114]⟩, Value.int .i64 qsrc, Value.int .u32 (qto.toNat : Int), Value.bool false] 43) = W at *
        have hT0 := hr15.drew
        have hrb2 := HRB.out
        clear hr15 a0 a1 a3 d0 d1 d2 d3 o0 o3 q1 hrb hr
        go_region_held3 (fun W' => W'.cell? ⟨tq, 3, none⟩ = some (.bool true) ∧ W'.cell? ⟨tq, 0, none⟩ = some (.string rb) ∧ W'.cell? ⟨tq, 2, none⟩ = some (.int .u32 (pto.toNat : Int)) ∧ W'.cell? ⟨tp, 2, none⟩ = some (.int .u32 (pto.toNat : Int))) (go_keep)
          (first
            | (go_at_call 20; have hS := ‹_ ∧ _›; (with_reducible refine (HLa.out _ _ hT0.at_).mono ?_); rintro e w16 hd; obtain ⟨rfl, ns16, hr16, ho, hn⟩ := hT0.done hd; have y1 := onlyL_cell ho hS.1 n4; have y2 := onlyL_cell ho hS.2.1 n4; have y3 := onlyL_cell ho hS.2.2.1 n4; have y4 := onlyL_cell ho hS.2.2.2 n3))
        all_goals
          have HBl := Lib.hid hr16.below
          clear hr16 ho hn hd hT0 hS y1 y2 y3 y4
          go_wp2
          go_ret
          exact ⟨by simp, by rw [HNN.out]; exact HBl.out⟩

      · have hzi : (z.a : Int) % 2 = 1 := by omega
        obtain ⟨k0, k3⟩ := three_cut2 ⟨pb, psrc, pto, false⟩ ⟨⟨#[111, 116, 104, 101, 114]⟩, qsrc, qto, false⟩ rfl n hn1 hn2
        rw [show cutP ⟨pb, psrc, pto, false⟩ n = ⟨rb, psrc, pto, true⟩ from by rw [cutP_eq, hrb]] at k3
        obtain ⟨s0, s2, s1, v0, v1, v2⟩ := other_show0 ⟨pb, psrc, pto, false⟩ ⟨⟨#[111, 116, 104, 101, 114]⟩, qsrc, qto, false⟩ ⟨rb, psrc, pto, true⟩
        have k5 := cut_again2 ⟨pb, psrc, pto, false⟩ ⟨⟨#[111, 116, 104, 101, 114]⟩, qsrc, qto, false⟩ ⟨rb, psrc, pto, true⟩ rfl 1
        have HCu := Lib.hid (CC.out.cut p ns8 _ 2 n w8 hr8.at_ ⟨by omega, by omega⟩ ⟨by omega, by omega⟩)
        rw [k0, k3] at HCu
        have HPq := Lib.hid (fun ms w hx => CC.out.piece p ms (⟨[⟨pb, psrc, pto, false⟩, ⟨⟨#[111, 116, 104, 101, 114]⟩, qsrc, qto, false⟩, ⟨rb, psrc, pto, true⟩], false⟩ : Bs) 2 w hx ⟨by omega, by omega⟩)
        rw [s2, v2] at HPq
        unfold Pc.val at HPq
        have HPt := Lib.hid (fun ms w hx => CC.out.piece p ms (⟨[⟨pb, psrc, pto, false⟩, ⟨⟨#[111, 116, 104, 101, 114]⟩, qsrc, qto, false⟩, ⟨rb, psrc, pto, true⟩], false⟩ : Bs) 0 w hx ⟨by omega, by omega⟩)
        rw [s0, v0] at HPt
        unfold Pc.val at HPt
        have HPr := Lib.hid (fun ms w hx => CC.out.piece p ms (⟨[⟨pb, psrc, pto, false⟩, ⟨⟨#[111, 116, 104, 101, 114]⟩, qsrc, qto, false⟩, ⟨rb, psrc, pto, true⟩], false⟩ : Bs) 1 w hx ⟨by omega, by omega⟩)
        rw [s1, v1] at HPr
        unfold Pc.val at HPr
        have HLa := Lib.hid (fun ms w hx => CC.out.cut p ms (⟨[⟨pb, psrc, pto, false⟩, ⟨⟨#[111, 116, 104, 101, 114]⟩, qsrc, qto, false⟩, ⟨rb, psrc, pto, true⟩], false⟩ : Bs) 2 1 w hx ⟨by omega, by omega⟩ ⟨by omega, by omega⟩)
        rw [k5] at HLa
        clear s0 s1 s2 v0 v1 v2 k0 k3 k5
        go_wp2_with fail
        refine (HCu.out).mono ?_
        rintro e w9 hd
        obtain ⟨rfl, ns9, hr9, ho, hn⟩ := hr8.done hd
        have n3_ := notin_next n3 HP.out.lt hn
        replace HP := Lib.hid (HP.out.only ho n3)
        replace n3 := n3_
        clear n3_
        clear hd ho hn hr8
        clear c0 c3 HZ n2 HCu
        go_wp2_with fail
        refine (HPq.out _ _ hr9.at_).mono ?_
        rintro e w10 ⟨rfl, hb⟩
        have hr10 := hr9.more hb
        replace HP := Lib.hid (HP.out.below hb)
        clear hr9 hb HPq
        have HQ := Lib.hid (BoxP.new w10 ⟨rb, psrc, pto, true⟩ 43)
        have hr11 := hr10.more (box_below w10 ⟨rb, psrc, pto, true⟩ 43)
        replace HP := Lib.hid (HP.out.below (box_below w10 ⟨rb, psrc, pto, true⟩ 43))
        have n4 : w10.heap.size ∉ ns9 := notin_new hr10.at_ (Nat.le_refl _)
        clear hr10
        go_wp2_with fail
        generalize w10.alloc (Obj.cells #[Value.string rb, Value.int .i64 psrc, Value.int .u32 (pto.toNat : Int), Value.bool true] 43) = w11 at *
        generalize w10.heap.size = tq at *
        refine (HPt.out _ _ hr11.at_).mono ?_
        rintro e w12 ⟨rfl, hb⟩
        have hr12 := hr11.more hb
        replace HP := Lib.hid (HP.out.below hb)
        replace HQ := Lib.hid (HQ.out.below hb)
        clear hr11 hb HPt
        have HT := Lib.hid (BoxP.new w12 ⟨pb, psrc, pto, false⟩ 43)
        have hr13 := hr12.more (box_below w12 ⟨pb, psrc, pto, false⟩ 43)
        replace HP := Lib.hid (HP.out.below (box_below w12 ⟨pb, psrc, pto, false⟩ 43))
        replace HQ := Lib.hid (HQ.out.below (box_below w12 ⟨pb, psrc, pto, false⟩ 43))
        have n5 : w12.heap.size ∉ ns9 := notin_new hr12.at_ (Nat.le_refl _)
        clear hr12
        go_wp2_with fail
        generalize w12.alloc (Obj.cells #[Value.string pb, Value.int .i64 psrc, Value.int .u32 (pto.toNat : Int), Value.bool false] 43) = w13 at *
        generalize w12.heap.size = tt at *
        refine (HPr.out _ _ hr13.at_).mono ?_
        rintro e w14 ⟨rfl, hb⟩
        have hr14 := hr13.more hb
        replace HP := Lib.hid (HP.out.below hb)
        replace HQ := Lib.hid (HQ.out.below hb)
        replace HT := Lib.hid (HT.out.below hb)
        clear hr13 hb HPr
        have HO := Lib.hid (BoxP.new w14 ⟨⟨#[111, 116, 104, 101, 114]⟩, qsrc, qto, false⟩ 43)
        have hr15 := hr14.more (box_below w14 ⟨⟨#[111, 116, 104, 101, 114]⟩, qsrc, qto, false⟩ 43)
        replace HP := Lib.hid (HP.out.below (box_below w14 ⟨⟨#[111, 116, 104, 101, 114]⟩, qsrc, qto, false⟩ 43))
        replace HQ := Lib.hid (HQ.out.below (box_below w14 ⟨⟨#[111, 116, 104, 101, 114]⟩, qsrc, qto, false⟩ 43))
        replace HT := Lib.hid (HT.out.below (box_below w14 ⟨⟨#[111, 116, 104, 101, 114]⟩, qsrc, qto, false⟩ 43))
        have n6 : w14.heap.size ∉ ns9 := notin_new hr14.at_ (Nat.le_refl _)
        clear hr14
        obtain ⟨a0, a1, a2, a3⟩ := HP.out
        obtain ⟨d0, d1, d2, d3⟩ := HT.out
        obtain ⟨o0, -, -, o3⟩ := HO.out
        obtain ⟨q0, q1, q2, q3⟩ := HQ.out
        dsimp only at a0 a1 a2 a3 d0 d1 d2 d3 o0 o3 q0 q1 q2 q3
        clear o3
        have o3 := HO.out.2.2.2
        dsimp only at o3
        go_wp2_with fail
        generalize w14.alloc (Obj.cells #[Value.string ⟨#[111, 116, 104, 101, 114]⟩, Value.int .i64 qsrc, Value.int .u32 (qto.toNat : Int), Value.bool false] 43) = W at *
        have hT0 := hr15.drew
        have hrb2 := HRB.out
        clear hr15 a0 a1 a3 d0 d1 d2 d3 o0 o3 q1 hrb hr
        go_region_held3 (fun W' => W'.cell? ⟨tq, 3, none⟩ = some (.bool true) ∧ W'.cell? ⟨tq, 0, none⟩ = some (.string rb) ∧ W'.cell? ⟨tq, 2, none⟩ = some (.int .u32 (pto.toNat : Int)) ∧ W'.cell? ⟨tp, 2, none⟩ = some (.int .u32 (pto.toNat : Int))) (go_keep)
          (first
            | (go_at_call 20; have hS := ‹_ ∧ _›; (with_reducible refine (HLa.out _ _ hT0.at_).mono ?_); rintro e w16 hd; obtain ⟨rfl, ns16, hr16, ho, hn⟩ := hT0.done hd; have y1 := onlyL_cell ho hS.1 n4; have y2 := onlyL_cell ho hS.2.1 n4; have y3 := onlyL_cell ho hS.2.2.1 n4; have y4 := onlyL_cell ho hS.2.2.2 n3))
        all_goals
          have HBl := Lib.hid hr16.below
          clear hr16 ho hn hd hT0 hS y1 y2 y3 y4
          go_wp2
          go_ret
          exact ⟨by simp, by rw [HNN.out]; exact HBl.out⟩


    · have hne : ¬ pb = s := by
        obtain ⟨e1, -, -, e4⟩ := HPf.out
        rw [e1]
        intro e
        rw [e] at e4
        simp at e4
      have hq : (pb.toList == s.toList) = false := str_ne hne
      have HP := Lib.hid (BoxP.new w6 ⟨pb, psrc, pto, true⟩ 43)
      have hr7 := hr6.more (box_below w6 ⟨pb, psrc, pto, true⟩ 43)
      replace HZ := Lib.hid (HZ.out.below (box_below w6 ⟨pb, psrc, pto, true⟩ 43))
      have n3 : w6.heap.size ∉ ns5 := notin_new hr6.at_ (Nat.le_refl _)
      clear hr6
      have p0 := HP.out.1
      have p3 := HP.out.2.2.2
      go_wp2_with fail
      generalize w6.alloc (Obj.cells #[Value.string pb, Value.int .i64 psrc, Value.int .u32 (pto.toNat : Int), Value.bool true] 43) = w7 at *
      generalize w6.heap.size = tp at *
      refine (HTw.out _ _ _ hr7.at_).mono ?_
      rintro e w8 hd
      obtain ⟨rfl, ns8, hr8, ho, hn⟩ := hr7.done hd
      have n2_ := notin_next n2 HZ.out.lt hn
      replace HZ := Lib.hid (HZ.out.only ho n2)
      replace n2 := n2_
      clear n2_
      have n3_ := notin_next n3 HP.out.lt hn
      replace HP := Lib.hid (HP.out.only ho n3)
      replace n3 := n3_
      clear n3_
      clear hd ho hn hr7
      clear p0 p3 HTw
      obtain ⟨qb, qsrc, qto, qh⟩ := Q
      obtain ⟨rfl, -, -, rfl⟩ := Pc.mk.inj HQ.out
      clear HQ
      have c0 := HZ.out.c0
      have c3 := HZ.out.c3
      obtain ⟨n, hnw, hn1, hn2⟩ : ∃ n : Nat, wrap64 (1 + (z.pat.toNat : Int) % ((s.size : Int) - 1)) = (n : Int) ∧ 1 ≤ n ∧ n < s.size := by
        have m1 := Int.emod_nonneg (z.pat.toNat : Int) (show ((s.size : Int) - 1) ≠ 0 by omega)
        have m2 := Int.emod_lt_of_pos (z.pat.toNat : Int) (show 0 < ((s.size : Int) - 1) by omega)
        generalize (z.pat.toNat : Int) % ((s.size : Int) - 1) = m at *
        exact ⟨(1 + m).toNat, by unfold wrap64; omega, by omega, by omega⟩
      rcases (show z.a % 2 = 0 ∨ z.a % 2 = 1 by omega) with hz | hz
      · have hzi : (z.a : Int) % 2 = 0 := by omega
        obtain ⟨k0, k2, k3, k4, k5, k6⟩ := three_hurt ⟨pb, psrc, pto, true⟩ ⟨⟨#[111, 116, 104, 101, 114]⟩, qsrc, qto, false⟩ rfl (n : Int)
        obtain ⟨s0, s2, s1, v0, v1, v2⟩ := three_show ⟨pb, psrc, pto, true⟩ ⟨⟨#[111, 116, 104, 101, 114]⟩, qsrc, qto, false⟩
        have HCu := Lib.hid (CC.out.cut p ns8 _ 0 n w8 hr8.at_ ⟨by omega, by omega⟩ ⟨by omega, by omega⟩)
        rw [k0, k3] at HCu
        have HPq := Lib.hid (fun ms w hx => CC.out.piece p ms (three ⟨pb, psrc, pto, true⟩ ⟨⟨#[111, 116, 104, 101, 114]⟩, qsrc, qto, false⟩) 0 w hx ⟨by omega, by omega⟩)
        rw [s0, v0] at HPq
        unfold Pc.val at HPq
        have HPt := Lib.hid (fun ms w hx => CC.out.piece p ms (three ⟨pb, psrc, pto, true⟩ ⟨⟨#[111, 116, 104, 101, 114]⟩, qsrc, qto, false⟩) 2 w hx ⟨by omega, by omega⟩)
        rw [s2, v2] at HPt
        unfold Pc.val at HPt
        have HPr := Lib.hid (fun ms w hx => CC.out.piece p ms (three ⟨pb, psrc, pto, true⟩ ⟨⟨#[111, 116, 104, 101, 114]⟩, qsrc, qto, false⟩) 1 w hx ⟨by omega, by omega⟩)
        rw [s1, v1] at HPr
        unfold Pc.val at HPr
        have HLa := Lib.hid (fun ms w hx => CC.out.burst p ms (three ⟨pb, psrc, pto, true⟩ ⟨⟨#[111, 116, 104, 101, 114]⟩, qsrc, qto, false⟩) 0 0 65535#16 w hx ⟨by omega, by omega⟩ ⟨by omega, by omega⟩)
        rw [k5] at HLa
        clear s0 s1 s2 v0 v1 v2 k0 k3 k5 k2 k4 k6
        go_wp2_with fail
        refine (HCu.out).mono ?_
        rintro e w9 hd
        obtain ⟨rfl, ns9, hr9, ho, hn⟩ := hr8.done hd
        have n3_ := notin_next n3 HP.out.lt hn
        replace HP := Lib.hid (HP.out.only ho n3)
        replace n3 := n3_
        clear n3_
        clear hd ho hn hr8
        clear c0 c3 HZ n2 HCu
        go_wp2_with fail
        refine (HPq.out _ _ hr9.at_).mono ?_
        rintro e w10 ⟨rfl, hb⟩
        have hr10 := hr9.more hb
        replace HP := Lib.hid (HP.out.below hb)
        clear hr9 hb HPq
        have HQ := Lib.hid (BoxP.new w10 ⟨pb, psrc, pto, true⟩ 43)
        have hr11 := hr10.more (box_below w10 ⟨pb, psrc, pto, true⟩ 43)
        replace HP := Lib.hid (HP.out.below (box_below w10 ⟨pb, psrc, pto, true⟩ 43))
        have n4 : w10.heap.size ∉ ns9 := notin_new hr10.at_ (Nat.le_refl _)
        clear hr10
        go_wp2_with fail
        generalize w10.alloc (Obj.cells #[Value.string pb, Value.int .i64 psrc, Value.int .u32 (pto.toNat : Int), Value.bool true] 43) = w11 at *
        generalize w10.heap.size = tq at *
        refine (HPt.out _ _ hr11.at_).mono ?_
        rintro e w12 ⟨rfl, hb⟩
        have hr12 := hr11.more hb
        replace HP := Lib.hid (HP.out.below hb)
        replace HQ := Lib.hid (HQ.out.below hb)
        clear hr11 hb HPt
        have HT := Lib.hid (BoxP.new w12 ⟨pb, psrc, pto, true⟩ 43)
        have hr13 := hr12.more (box_below w12 ⟨pb, psrc, pto, true⟩ 43)
        replace HP := Lib.hid (HP.out.below (box_below w12 ⟨pb, psrc, pto, true⟩ 43))
        replace HQ := Lib.hid (HQ.out.below (box_below w12 ⟨pb, psrc, pto, true⟩ 43))
        have n5 : w12.heap.size ∉ ns9 := notin_new hr12.at_ (Nat.le_refl _)
        clear hr12
        go_wp2_with fail
        generalize w12.alloc (Obj.cells #[Value.string pb, Value.int .i64 psrc, Value.int .u32 (pto.toNat : Int), Value.bool true] 43) = w13 at *
        generalize w12.heap.size = tt at *
        refine (HPr.out _ _ hr13.at_).mono ?_
        rintro e w14 ⟨rfl, hb⟩
        have hr14 := hr13.more hb
        replace HP := Lib.hid (HP.out.below hb)
        replace HQ := Lib.hid (HQ.out.below hb)
        replace HT := Lib.hid (HT.out.below hb)
        clear hr13 hb HPr
        have HO := Lib.hid (BoxP.new w14 ⟨⟨#[111, 116, 104, 101, 114]⟩, qsrc, qto, false⟩ 43)
        have hr15 := hr14.more (box_below w14 ⟨⟨#[111, 116, 104, 101, 114]⟩, qsrc, qto, false⟩ 43)
        replace HP := Lib.hid (HP.out.below (box_below w14 ⟨⟨#[111, 116, 104, 101, 114]⟩, qsrc, qto, false⟩ 43))
        replace HQ := Lib.hid (HQ.out.below (box_below w14 ⟨⟨#[111, 116, 104, 101, 114]⟩, qsrc, qto, false⟩ 43))
        replace HT := Lib.hid (HT.out.below (box_below w14 ⟨⟨#[111, 116, 104, 101, 114]⟩, qsrc, qto, false⟩ 43))
        have n6 : w14.heap.size ∉ ns9 := notin_new hr14.at_ (Nat.le_refl _)
        clear hr14
        obtain ⟨a0, a1, a2, a3⟩ := HP.out
        obtain ⟨d0, d1, d2, d3⟩ := HT.out
        obtain ⟨o0, -, -, o3⟩ := HO.out
        obtain ⟨q0, q1, q2, q3⟩ := HQ.out
        dsimp only at a0 a1 a2 a3 d0 d1 d2 d3 o0 o3 q0 q1 q2 q3
        go_wp2_with fail
        refine (HLa.out _ _ hr15.at_).mono ?_
        rintro e w16 hd
        obtain ⟨rfl, ns16, hr16, -, -⟩ := hr15.done hd
        have HBl := Lib.hid hr16.below
        clear hd hr16 hr15 a0 a1 a2 a3 d0 d1 d2 d3 o0 o3 q0 q1 q2 q3
        go_wp2
        go_ret
        exact ⟨by simp, by rw [HNN.out]; exact HBl.out⟩

      · have hzi : (z.a : Int) % 2 = 1 := by omega
        obtain ⟨k0, k2, k3, k4, k5, k6⟩ := three_hurt ⟨pb, psrc, pto, true⟩ ⟨⟨#[111, 116, 104, 101, 114]⟩, qsrc, qto, false⟩ rfl (n : Int)
        obtain ⟨s0, s2, s1, v0, v1, v2⟩ := three_show ⟨pb, psrc, pto, true⟩ ⟨⟨#[111, 116, 104, 101, 114]⟩, qsrc, qto, false⟩
        have HCu := Lib.hid (CC.out.cut p ns8 _ 2 n w8 hr8.at_ ⟨by omega, by omega⟩ ⟨by omega, by omega⟩)
        rw [k2, k4] at HCu
        have HPq := Lib.hid (fun ms w hx => CC.out.piece p ms (three ⟨pb, psrc, pto, true⟩ ⟨⟨#[111, 116, 104, 101, 114]⟩, qsrc, qto, false⟩) 2 w hx ⟨by omega, by omega⟩)
        rw [s2, v2] at HPq
        unfold Pc.val at HPq
        have HPt := Lib.hid (fun ms w hx => CC.out.piece p ms (three ⟨pb, psrc, pto, true⟩ ⟨⟨#[111, 116, 104, 101, 114]⟩, qsrc, qto, false⟩) 0 w hx ⟨by omega, by omega⟩)
        rw [s0, v0] at HPt
        unfold Pc.val at HPt
        have HPr := Lib.hid (fun ms w hx => CC.out.piece p ms (three ⟨pb, psrc, pto, true⟩ ⟨⟨#[111, 116, 104, 101, 114]⟩, qsrc, qto, false⟩) 1 w hx ⟨by omega, by omega⟩)
        rw [s1, v1] at HPr
        unfold Pc.val at HPr
        have HLa := Lib.hid (fun ms w hx => CC.out.burst p ms (three ⟨pb, psrc, pto, true⟩ ⟨⟨#[111, 116, 104, 101, 114]⟩, qsrc, qto, false⟩) 2 0 65535#16 w hx ⟨by omega, by omega⟩ ⟨by omega, by omega⟩)
        rw [k6] at HLa
        clear s0 s1 s2 v0 v1 v2 k0 k3 k5 k2 k4 k6
        go_wp2_with fail
        refine (HCu.out).mono ?_
        rintro e w9 hd
        obtain ⟨rfl, ns9, hr9, ho, hn⟩ := hr8.done hd
        have n3_ := notin_next n3 HP.out.lt hn
        replace HP := Lib.hid (HP.out.only ho n3)
        replace n3 := n3_
        clear n3_
        clear hd ho hn hr8
        clear c0 c3 HZ n2 HCu
        go_wp2_with fail
        refine (HPq.out _ _ hr9.at_).mono ?_
        rintro e w10 ⟨rfl, hb⟩
        have hr10 := hr9.more hb
        replace HP := Lib.hid (HP.out.below hb)
        clear hr9 hb HPq
        have HQ := Lib.hid (BoxP.new w10 ⟨pb, psrc, pto, true⟩ 43)
        have hr11 := hr10.more (box_below w10 ⟨pb, psrc, pto, true⟩ 43)
        replace HP := Lib.hid (HP.out.below (box_below w10 ⟨pb, psrc, pto, true⟩ 43))
        have n4 : w10.heap.size ∉ ns9 := notin_new hr10.at_ (Nat.le_refl _)
        clear hr10
        go_wp2_with fail
        generalize w10.alloc (Obj.cells #[Value.string pb, Value.int .i64 psrc, Value.int .u32 (pto.toNat : Int), Value.bool true] 43) = w11 at *
        generalize w10.heap.size = tq at *
        refine (HPt.out _ _ hr11.at_).mono ?_
        rintro e w12 ⟨rfl, hb⟩
        have hr12 := hr11.more hb
        replace HP := Lib.hid (HP.out.below hb)
        replace HQ := Lib.hid (HQ.out.below hb)
        clear hr11 hb HPt
        have HT := Lib.hid (BoxP.new w12 ⟨pb, psrc, pto, true⟩ 43)
        have hr13 := hr12.more (box_below w12 ⟨pb, psrc, pto, true⟩ 43)
        replace HP := Lib.hid (HP.out.below (box_below w12 ⟨pb, psrc, pto, true⟩ 43))
        replace HQ := Lib.hid (HQ.out.below (box_below w12 ⟨pb, psrc, pto, true⟩ 43))
        have n5 : w12.heap.size ∉ ns9 := notin_new hr12.at_ (Nat.le_refl _)
        clear hr12
        go_wp2_with fail
        generalize w12.alloc (Obj.cells #[Value.string pb, Value.int .i64 psrc, Value.int .u32 (pto.toNat : Int), Value.bool true] 43) = w13 at *
        generalize w12.heap.size = tt at *
        refine (HPr.out _ _ hr13.at_).mono ?_
        rintro e w14 ⟨rfl, hb⟩
        have hr14 := hr13.more hb
        replace HP := Lib.hid (HP.out.below hb)
        replace HQ := Lib.hid (HQ.out.below hb)
        replace HT := Lib.hid (HT.out.below hb)
        clear hr13 hb HPr
        have HO := Lib.hid (BoxP.new w14 ⟨⟨#[111, 116, 104, 101, 114]⟩, qsrc, qto, false⟩ 43)
        have hr15 := hr14.more (box_below w14 ⟨⟨#[111, 116, 104, 101, 114]⟩, qsrc, qto, false⟩ 43)
        replace HP := Lib.hid (HP.out.below (box_below w14 ⟨⟨#[111, 116, 104, 101, 114]⟩, qsrc, qto, false⟩ 43))
        replace HQ := Lib.hid (HQ.out.below (box_below w14 ⟨⟨#[111, 116, 104, 101, 114]⟩, qsrc, qto, false⟩ 43))
        replace HT := Lib.hid (HT.out.below (box_below w14 ⟨⟨#[111, 116, 104, 101, 114]⟩, qsrc, qto, false⟩ 43))
        have n6 : w14.heap.size ∉ ns9 := notin_new hr14.at_ (Nat.le_refl _)
        clear hr14
        obtain ⟨a0, a1, a2, a3⟩ := HP.out
        obtain ⟨d0, d1, d2, d3⟩ := HT.out
        obtain ⟨o0, -, -, o3⟩ := HO.out
        obtain ⟨q0, q1, q2, q3⟩ := HQ.out
        dsimp only at a0 a1 a2 a3 d0 d1 d2 d3 o0 o3 q0 q1 q2 q3
        go_wp2_with fail
        refine (HLa.out _ _ hr15.at_).mono ?_
        rintro e w16 hd
        obtain ⟨rfl, ns16, hr16, -, -⟩ := hr15.done hd
        have HBl := Lib.hid hr16.below
        clear hd hr16 hr15 a0 a1 a2 a3 d0 d1 d2 d3 o0 o3 q0 q1 q2 q3
        go_wp2
        go_ret
        exact ⟨by simp, by rw [HNN.out]; exact HBl.out⟩


  · have hb : s.size < 2 ∨ (2 ≤ s.size ∧ 40 < s.size) := by omega
    clear hgd HMax HY HZ HFy
    rcases hb with b1 | ⟨b1, b2⟩
    all_goals
      go_enter Try.func6, Try.ntmps6
      go_wp2_with fail
      refine (awake_true CC.out _).mono ?_
      rintro e w1 ⟨rfl, hb1⟩
      have HB1 := Lib.hid (HB.out.trans (hb1.mono HB.out.size))
      clear hb1
      go_wp2
      go_ret
      exact ⟨by simp, HB1.out⟩

end Go.Proofs.Ythepnckbooioeaa.Bus
