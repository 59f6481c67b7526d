/-
  The law BusRuns, walked: it returns true, where the calls answer as is asked. Conditions: that, and on sizes.
-/
import Derived.Test.YthepnckbooioeaaBuTwin
namespace Go.Proofs.Ythepnckbooioeaa.Bus
open Go.RowKit

/-- The code's bus and the reference's, of the call's own, apart. -/
structure Pair (F : Face) (N : Nat) (w0 w : World) (p : Nat) (ms : List Nat) (b : Nat) (ns : List Nat) (x y : Bs) : Prop where
  run : Run F N w0 w p ms x
  ref : RefAt w b ns y
  nb : ∀ k ∈ ns, N ≤ k
  apart : ∀ k ∈ ms, k ∉ ns
section
variable {F : Face} {N p b : Nat} {ms ns ms' ns' : List Nat} {w0 w w' : World} {x y z : Bs}
theorem Pair.code (h : Pair F N w0 w p ms b ns x y) (hx : F.At w' p ms' z) (ho : OnlyL ms w w') (hn : ∀ j ∈ ms', j ∈ ms ∨ w.heap.size ≤ j) : Pair F N w0 w' p ms' b ns z y :=
  ⟨h.run.next hx ho hn, Face.only (F := refFace) h.ref ho (fun k hk hin => h.apart k hin hk), h.nb, fun k hk hin => (hn k hk).elim (fun h1 => h.apart k h1 hin) (fun h1 => by have := refFace.lt h.ref k hin; omega)⟩
theorem Pair.refd (h : Pair F N w0 w p ms b ns x y) (hx : RefAt w' b ns' z) (ho : OnlyL ns w w') (hn : ∀ j ∈ ns', j ∈ ns ∨ w.heap.size ≤ j) : Pair F N w0 w' p ms b ns' x z :=
  ⟨⟨Face.only h.run.at_ ho h.apart, h.run.below.trans (ho.below h.nb h.run.size), h.run.hm, Nat.le_trans h.run.size ho.size⟩, hx, fun k hk => (hn k hk).elim (h.nb k) (fun hle => Nat.le_trans h.run.size hle), fun k hk hin => (hn k hin).elim (h.apart k hk) (fun h1 => by have := F.lt h.run.at_ k hk; omega)⟩
theorem Pair.more (h : Pair F N w0 w p ms b ns x y) (hb : Below w.heap.size w w') : Pair F N w0 w' p ms b ns x y := ⟨h.run.more hb, Face.below (F := refFace) h.ref hb, h.nb, h.apart⟩
theorem Pair.drewN (h : Pair F N w0 w p ms b ns x y) (n : Nat) : Pair F N w0 (w.drewN n) p ms b ns x y := h.more ⟨rfl, rfl, rfl, Nat.le_refl _, fun _ _ => rfl⟩
end
theorem RefAt.fresh (w : World) (t : TypeId) : RefAt (w.alloc (.cells #[.slice none 0 0, .bool false] t)) w.heap.size [w.heap.size] Bs.zero := by
  have hc : ∀ j v, #[Value.slice none 0 0, .bool false][j]? = some v → (w.alloc (.cells #[.slice none 0 0, .bool false] t)).cell? ⟨w.heap.size, j, none⟩ = some v := by
    intro j v hv
    rw [cell_of_row _ _ j _ t (0, 0) (heap_alloc_new w _)]
    exact hv
  exact ⟨.slice none 0 0, rfl, hc 0 _ rfl, hc 1 _ rfl, by simp [go_sem], by simp [go_sem], World.ownsRow_nil _ _ _ _, by simp [Value.ownBlock], Bs.zero_ok⟩
theorem RefAt.flt {w : World} {b : Nat} {ms : List Nat} {x : Bs} (h : RefAt w b ms x) : w.cell? ⟨b, 1, none⟩ = some (.bool x.f) := by
  obtain ⟨v, rfl, c0, c1, _⟩ := h
  exact c1

set_option maxRecDepth 100000 in
set_option maxHeartbeats 8000000 in
theorem runs_walk {F : Face} (C : Code F) (cap : Nat) (ao : Option Addr) (xs : List Ac) (w : World) (hI : Lies w w.heap.size ao xs) (hF : Fit xs) (hl : xs.length ≤ maxLen) :
    Calls Try.prog 3 #[.slice ao xs.length cap] w (Tells (.bool true) w) := by
  have CC := Lib.hid C
  have HI := Lib.hid hI
  have HF := Lib.hid hF
  have HLm := Lib.hid hl
  unfold maxLen at hl
  clear hI hF C
  have HSm := Lib.hid (fun W (hb : Below w.heap.size w W) => small_any cap ao xs 150 W (by omega) (show Lies W W.heap.size ao xs from fun h1 => by
    obtain ⟨b, o, ha, hlt, hi⟩ := HI.out h1
    exact ⟨b, o, ha, Nat.lt_of_lt_of_le hlt hb.size, hi.below hb hlt⟩) HF.out HLm.out)
  by_cases hgd : smallB xs 150 = true
  · rw [hgd] at HSm
    go_enter Try.func3, Try.ntmps3
    go_wp2_with fail
    refine (awake_true CC.out _).mono ?_
    rintro e w1 ⟨rfl, hb1⟩
    go_wp2_with fail
    refine (HSm.out _ hb1).mono ?_
    rintro e w2 ⟨rfl, hb2⟩
    have hb12 := hb1.trans (hb2.mono hb1.size)
    clear hb1 hb2 HSm
    go_wp2_with fail
    refine (CC.out.new _).mono ?_
    rintro e w3 ⟨p, ms, rfl, hx, hm, hb3⟩
    have hr := Run.first hx hm hb3 hb12 hb12.size
    have HP := Lib.hid (show Pair F w.heap.size w (w3.alloc (Obj.cells #[Value.slice none 0 0, Value.bool false] 30)) p ms w3.heap.size [w3.heap.size] Bs.zero Bs.zero from
      ⟨hr.more (alloc_below _ _), RefAt.fresh w3 _, fun k hk => by simp at hk; subst hk; exact hr.size, fun k hk hin => by simp at hin; subst hin; exact absurd (F.lt hr.at_ _ hk) (by omega)⟩)
    clear hx hm hb3 hb12 hr hgd
    go_wp2_with fail
    generalize w3.alloc (Obj.cells #[Value.slice none 0 0, Value.bool false] 30) = W3 at *
    generalize w3.heap.size = b at *
    generalize hNN : w.heap.size = N at *
    have HNN := Lib.hid hNN
    clear hNN
    go_loopw [28] (fun i wr => ∃ (k : Nat) (ms' ns' : List Nat) (x : Bs), k ≤ xs.length ∧ i = .int .i64 k ∧ Hid (Pair F N w wr p ms' b ns' x x)) (fun i _ => xs.length - (intOf i).toNat)
    case atStart => exact ⟨0, _, _, Bs.zero, Nat.zero_le _, rfl, HP⟩
    case round =>
      obtain ⟨k, ms1, ns1, x, hk, rfl, hS⟩ := hrel
      clear HP
      by_cases hlt : k < xs.length
      · have HX := Lib.hid (List.getElem?_eq_getElem hlt)
        obtain ⟨bb, of, rfl, hbb, hi⟩ := HI.out.below hS.out.run.below (by omega)
        obtain ⟨c0, c1, c2, c3, c4⟩ := hi k _ HX.out
        have HFk := Lib.hid (HF.out k _ HX.out)
        clear hi
        generalize xs[k] = y at *
        have HA := Lib.hid (ActAt.new wr y 33)
        have hP := hS.out.more (alloc_below wr (.cells #[.int .u8 y.a, .int .i64 y.k, .int .i64 y.at_, .int .u16 (y.pat.toNat : Int), .string y.s] 33))
        have n1 := notin_new hS.out.run.at_ (Nat.le_refl wr.heap.size)
        have n2 := notin_new (F := refFace) hS.out.ref (Nat.le_refl wr.heap.size)
        have a0 := HA.out.c0
        have a1 := HA.out.c1
        have a2 := HA.out.c2
        have a3 := HA.out.c3
        have a4 := HA.out.c4
        have HDo := Lib.hid (do_any CC.out p ms1 x y _ hP.run.at_ HFk.out)
        have HPh := Lib.hid hP
        clear hS hP
        go_wp2_with fail
        generalize wr.alloc (Obj.cells #[Value.int .u8 y.a, Value.int .i64 y.k, Value.int .i64 y.at_, Value.int .u16 (y.pat.toNat : Int), Value.string y.s] 33) = W at *
        generalize wr.heap.size = t at *
        refine (HDo.out).mono ?_
        rintro e w4 ⟨rfl, ms4, hx4, ho4, hn4⟩
        have hA4 := HA.out.only ho4 n1
        have hP4 := HPh.out.code hx4 ho4 hn4
        have HSh := Lib.hid (should_any b ns1 x y w4 hP4.ref HFk.out)
        have HP4 := Lib.hid hP4
        clear a0 a1 a2 a3 a4 c0 c1 c2 c3 c4 HA HPh HDo hx4 ho4 hn4 n1 hP4
        obtain ⟨a0, a1, a2, a3, a4⟩ := hA4
        go_wp2_with fail
        refine (HSh.out).mono ?_
        rintro e w5 ⟨rfl, ns5, hx5, ho5, hn5⟩
        have hP5 := HP4.out.refd hx5 ho5 hn5
        have HP5 := Lib.hid hP5
        obtain ⟨A, c, e0⟩ := RefAt.head hP5.ref
        have e1 := RefAt.flt hP5.ref
        clear a0 a1 a2 a3 a4 HSh HP4 hx5 ho5 hn5 n2 hP5
        generalize doX x y = x' at *
        generalize doE x y = er at *
        generalize doS x y = sr at *
        have HLe := Lib.hid (fun n => (CC.out.len p ms4 x' (w5.drewN n) (HP5.out.drewN n).run.at_).mono fun _ _ ⟨h1, h2⟩ => (⟨h1, h2.symm⟩ : _ ∧ _))
        have HFa := Lib.hid (fun n => (CC.out.fault p ms4 x' (w5.drewN n) (HP5.out.drewN n).run.at_).mono fun _ _ ⟨h1, h2⟩ => (⟨h1, h2.symm⟩ : _ ∧ _))
        go_wp2_with fail
        go_quiet ((first | (go_at_call 12; exact Calls.quiet_of_same (HLe.out _)) | (go_at_call 13; exact Calls.quiet_of_same (HFa.out _))))
        go_wp2
        go_roundw
        case rel => exact ⟨k + 1, ms4, ns5, x', by omega, by go_num, Lib.hid (HP5.out.drewN _)⟩
        case measure => simp [intOf]; omega
      · obtain ⟨A0, cA, e0⟩ := RefAt.head hS.out.ref
        have HOk := Lib.hid (refFace.ok hS.out.ref)
        have hl64 := (refFace.ok hS.out.ref).len
        obtain rfl : k = xs.length := by omega
        clear hlt hk HI HF HLm
        go_wp2_with fail
        clear e0
        generalize hLL : x.l.length = L at *
        have HLL := Lib.hid hLL
        clear hLL
        go_loopw [77] (fun i wr => ∃ j : Nat, j ≤ L ∧ i = .int .i64 j ∧ Hid (Pair F N w wr p ms1 b ns1 x x)) (fun i _ => L - (intOf i).toNat)
        case atStart => exact ⟨0, Nat.zero_le _, rfl, hS⟩
        case round =>
          obtain ⟨j, hj, rfl, hQ⟩ := hrel
          clear hS
          by_cases hlt : j < L
          · have hlx : j < x.l.length := by rw [HLL.out]; exact hlt
            have ht : thereB x (j : Int) = true := by simp [thereB]; exact hlx
            have hsh : shownP x (j : Int) = x.l[j] := by unfold shownP; rw [if_pos ht]; exact getD_lt _ _ hlx
            have HPi := Lib.hid (CC.out.piece p ms1 x (j : Int) wr hQ.out.run.at_ ⟨by omega, by omega⟩)
            rw [ht, hsh] at HPi
            unfold Pc.val at HPi
            have HRp := Lib.hid (fun W (h : RefAt W b ns1 x) => h.piece j hlx)
            rw [HLL.out] at HRp
            clear ht hsh
            generalize x.l[j] = q at *
            go_wp2_with fail
            refine (HPi.out).mono ?_
            rintro e w6 ⟨rfl, hb6⟩
            have hQ6 := hQ.out.more hb6
            have HB := Lib.hid (BoxP.new w6 q 43)
            have HQ7 := Lib.hid (hQ6.more (box_below w6 q 43))
            obtain ⟨g, c, r0, -, -, -, r1, r2, r3, r4⟩ := HRp.out _ HQ7.out.ref
            obtain ⟨q0, q1, q2, q3⟩ := HB.out
            clear hb6 hQ6 hQ HPi HRp HB
            have hji : (j : Int) < L := by omega
            go_wp2_with fail
            generalize w6.alloc (Obj.cells #[Value.string q.b, Value.int .i64 q.src, Value.int .u32 (q.to.toNat : Int), Value.bool q.hurt] 43) = W7 at *
            generalize w6.heap.size = tq at *
            go_quiet (fail)
            go_wp2
            go_roundw
            case rel => exact ⟨j + 1, by omega, by go_num, Lib.hid (HQ7.out.drewN _)⟩
            case measure => simp [intOf]; omega
          · have t1 : thereB x (-1) = false := by simp [thereB]
            have t2 : thereB x (L : Int) = false := by simp [thereB, HLL.out]
            have HP1 := Lib.hid (fun W h => CC.out.piece p ms1 x (-1) W h ⟨by omega, by omega⟩)
            have HP2 := Lib.hid (fun W h => CC.out.piece p ms1 x (L : Int) W h ⟨by omega, by omega⟩)
            rw [t1] at HP1
            rw [t2] at HP2
            generalize shownP x (-1) = q1 at *
            generalize shownP x (L : Int) = q2 at *
            unfold Pc.val at HP1 HP2
            clear t1 t2
            go_wp2_with fail
            refine (HP1.out _ hQ.out.run.at_).mono ?_
            rintro e w6 ⟨rfl, hb6⟩
            have HQ7 := Lib.hid ((hQ.out.more hb6).more (box_below w6 q1 43))
            obtain ⟨A1, c1, r0⟩ := RefAt.head HQ7.out.ref
            rw [HLL.out] at r0
            clear hb6 hQ HP1
            go_wp2_with fail
            generalize w6.alloc (Obj.cells #[Value.string q1.b, Value.int .i64 q1.src, Value.int .u32 (q1.to.toNat : Int), Value.bool q1.hurt] 43) = W7 at *
            refine (HP2.out _ HQ7.out.run.at_).mono ?_
            rintro e w8 ⟨rfl, hb8⟩
            have HQ9 := Lib.hid ((HQ7.out.more hb8).more (box_below w8 q2 43))
            clear hb8 HQ7 r0 HP2
            go_wp2
            go_ret
            exact ⟨by simp, by rw [HNN.out]; exact HQ9.out.run.below⟩
  · replace hgd : smallB xs 150 = false := by simpa using hgd
    rw [hgd] at HSm
    go_enter Try.func3, Try.ntmps3
    go_wp2_with fail
    refine (awake_true CC.out _).mono ?_
    rintro e w1 ⟨rfl, hb1⟩
    go_wp2_with fail
    refine (HSm.out _ hb1).mono ?_
    rintro e w2 ⟨rfl, hb2⟩
    have hb12 := hb1.trans (hb2.mono hb1.size)
    go_wp2
    go_ret
    exact ⟨by simp, hb12⟩

end Go.Proofs.Ythepnckbooioeaa.Bus
