/-
  same, walked: a station is the same as itself, wherever its lists lie. Conditions: as each states.
-/
import Derived.Test.YtmlopacekoghkaaCfFn
import Derived.Deep.QuietTactic
namespace Go.Proofs.Ytmlopacekoghkaa.Cf
open Go.RowKit
open Go.Proofs.Ytmlopacekoghkaa.Bl (Blk Spt findB layO noS Tells I64 one_S cell_of_row kept_own blkV spV Own2 Own4)
open Go.Proofs.Ytmlopacekoghkaa.Il (In)

set_option maxRecDepth 100000 in
set_option maxHeartbeats 4000000 in
theorem neq_ins (x : In) (W : World) : (binOp .neq 55 (.agg #[.int .i64 x.op, .int .i64 x.kd, .int .i64 x.ar, .int .i64 x.pl, .int .i64 x.n]) (.agg #[.int .i64 x.op, .int .i64 x.kd, .int .i64 x.ar, .int .i64 x.pl, .int .i64 x.n])).run Try.prog W = .ok (.bool false) W := by
  go_simp
set_option maxRecDepth 100000 in
set_option maxHeartbeats 4000000 in
theorem neq_spt (x : Spt) (W : World) : (binOp .neq 57 (.agg #[.int .i64 x.b, .int .i64 x.a]) (.agg #[.int .i64 x.b, .int .i64 x.a])).run Try.prog W = .ok (.bool false) W := by
  go_simp
/-- A world of same: two stations' lists, and their boxes. -/
structure Sw (w W : World) (s t : Sta) : Prop where
  ls : StaL W w.heap.size s
  lt : StaL W w.heap.size t
  os : Own6 W w.heap.size s 36
  ot : Own6 W (w.heap.size + 1) t 36
  below : Below w.heap.size w W
section
variable {w W W' : World} {s t : Sta}
theorem Sw.first (hs : StaL w w.heap.size s) (ht : StaL w w.heap.size t) : Sw w ((w.alloc (.cells (staC s) 36)).alloc (.cells (staC t) 36)) s t := by
  have h1 := one_S w (staC s) 36
  have h2 := one_S (w.alloc (.cells (staC s) 36)) (staC t) 36
  have hb := h1.trans (h2.mono h1.size)
  refine ⟨hs.below hb, ht.below hb, (Own6.new w s 36).kept h2 (Own6.new w s 36).lt, ?_, hb⟩
  have := Own6.new (w.alloc (.cells (staC s) 36)) t 36
  rwa [show (w.alloc (.cells (staC s) 36)).heap.size = w.heap.size + 1 by simp] at this
theorem Sw.next (h : Sw w W s t) (hb : Below W.heap.size W W') : Sw w W' s t :=
  have hb2 := hb.mono h.below.size
  ⟨h.ls.below hb2, h.lt.below hb2, h.os.kept hb h.os.lt, h.ot.kept hb h.ot.lt, h.below.trans hb2⟩
end

set_option maxRecDepth 100000 in
set_option maxHeartbeats 4000000 in
theorem same_any (s : Sta) (a b d : Hd) (w : World) (hs : StaL w w.heap.size s) (ht : StaL w w.heap.size (withH s a b d)) (hf : FitS s) (hg : FitS (withH s a b d)) :
    Calls Try.prog 12 #[.agg (staC s), .agg (staC (withH s a b d))] w (Tells (.bool true) w) := by
  have hW := Sw.first hs ht
  obtain ⟨d0, d1, d2, d3, d4, d5⟩ := hW.os.cells
  obtain ⟨e0, e1, e2, e3, e4, e5⟩ := hW.ot.cells
  have HW := Lib.hid hW
  have HF := Lib.hid (⟨hf, hg⟩ : _ ∧ _)
  have t1 : (s.ad != s.ad) = false := by simp
  have t2 : (s.sc != s.sc) = false := by simp
  have t3 : (s.lo != s.lo) = false := by simp
  have t4 : ((s.cd.length : Int) != (s.cd.length : Int)) = false := by simp
  have t5 : ((s.sb.length : Int) != (s.sb.length : Int)) = false := by simp
  have t6 : ((s.pb.length : Int) != (s.pb.length : Int)) = false := by simp
  clear hW hs ht hf hg
  unfold withH at *
  unfold staC at *
  dsimp only at e0 e1 e2 e3 e4 e5
  have hl1 : (s.cd.length : Int) ≤ 9223372036854775807 := by have h1 := HF.out.1.1.1; have := HF.out.1.1.2.1; unfold maxLen at this; omega
  have hl2 : (s.sb.length : Int) ≤ 9223372036854775807 := by have h1 := HF.out.1.2.1.1; have := HF.out.1.2.1.2.1; unfold maxLen at this; omega
  have hl3 : (s.pb.length : Int) ≤ 9223372036854775807 := by have h1 := HF.out.1.2.2.1.1; have := HF.out.1.2.2.1.2.1; unfold maxLen at this; omega
  have k1 : s.cd.length ≤ s.co.cap := HF.out.1.1.1
  have k2 : s.sb.length ≤ s.so.cap := HF.out.1.2.1.1
  have k3 : s.pb.length ≤ s.po.cap := HF.out.1.2.2.1.1
  have m1 : s.cd.length ≤ a.cap := HF.out.2.1.1
  have m2 : s.sb.length ≤ b.cap := HF.out.2.2.1.1
  have m3 : s.pb.length ≤ d.cap := HF.out.2.2.2.1.1
  go_enter Try.func12, Try.ntmps12
  go_wp2
  clear d0 d1 d2 d3 d4 d5 e0 e1 e2 e3 e4 e5
  go_loopw [57] (fun j W => ∃ q : Nat, q ≤ s.cd.length ∧ j = .int .i64 q ∧ Hid (Sw w W s ⟨s.ad, s.sc, s.lo, s.cd, s.sb, s.pb, a, b, d⟩)) (fun j _ => s.cd.length - (intOf j).toNat)
  case atStart => exact ⟨0, Nat.zero_le _, rfl, HW⟩
  case round =>
    obtain ⟨q, hq, rfl, hW⟩ := hrel
    clear HW
    obtain ⟨d0, d1, d2, d3, d4, d5⟩ := hW.out.os.cells
    obtain ⟨e0, e1, e2, e3, e4, e5⟩ := hW.out.ot.cells
    dsimp only at e0 e1 e2 e3 e4 e5
    by_cases hlt : q < s.cd.length
    · have r1 : decide ((q : Int) < (s.cd.length : Int)) = true := by simp; omega
      obtain ⟨y, hy⟩ : ∃ y, s.cd[q]? = some y := ⟨_, List.getElem?_eq_getElem (by omega)⟩
      obtain ⟨b1, o1, hbo, hb1, hcs⟩ := hW.out.ls.cd (by omega)
      obtain ⟨c0, c1, c2, c3, c4⟩ := hcs q y hy
      obtain ⟨b2, o2, hbp, hb2, hzs⟩ := hW.out.lt.cd (by show 1 ≤ s.cd.length; omega)
      obtain ⟨z0, z1, z2, z3, z4⟩ := hzs q y hy
      dsimp only at hbp
      rw [hbo] at d3
      rw [hbp] at e3
      have hn := neq_ins y
      clear hcs hzs hy hbo hbp
      go_wp2_with fail
      go_quiet (fail)
      have hW2 := Lib.hid (hW.out.next (Bl.dn wr wr.heap.size nq))
      go_wp2
      go_roundw
      case rel => exact ⟨q + 1, by omega, by go_num, hW2⟩
      case measure => simp [intOf]; omega
    · obtain rfl : q = s.cd.length := by omega
      have HW2 := hW
      clear hW
      go_wp2
      clear d0 d1 d2 d3 d4 d5 e0 e1 e2 e3 e4 e5
      go_loopw [75] (fun j W => ∃ q : Nat, q ≤ s.sb.length ∧ j = .int .i64 q ∧ Hid (Sw w W s ⟨s.ad, s.sc, s.lo, s.cd, s.sb, s.pb, a, b, d⟩)) (fun j _ => s.sb.length - (intOf j).toNat)
      case atStart => exact ⟨0, Nat.zero_le _, rfl, HW2⟩
      case round =>
        obtain ⟨q, hq, rfl, hW⟩ := hrel
        clear HW2
        obtain ⟨d0, d1, d2, d3, d4, d5⟩ := hW.out.os.cells
        obtain ⟨e0, e1, e2, e3, e4, e5⟩ := hW.out.ot.cells
        dsimp only at e0 e1 e2 e3 e4 e5
        by_cases hlt : q < s.sb.length
        · have r1 : decide ((q : Int) < (s.sb.length : Int)) = true := by simp; omega
          obtain ⟨y, hy⟩ : ∃ y, s.sb[q]? = some y := ⟨_, List.getElem?_eq_getElem (by omega)⟩
          obtain ⟨b1, o1, hbo, hb1, hcs⟩ := hW.out.ls.sb (by omega)
          obtain ⟨c0, c1⟩ := hcs q y hy
          obtain ⟨b2, o2, hbp, hb2, hzs⟩ := hW.out.lt.sb (by show 1 ≤ s.sb.length; omega)
          obtain ⟨z0, z1⟩ := hzs q y hy
          dsimp only at hbp
          rw [hbo] at d4
          rw [hbp] at e4
          have hn := neq_spt y
          clear hcs hzs hy hbo hbp
          go_wp2_with fail
          go_quiet (fail)
          have hW2 := Lib.hid (hW.out.next (Bl.dn wr wr.heap.size nq))
          go_wp2
          go_roundw
          case rel => exact ⟨q + 1, by omega, by go_num, hW2⟩
          case measure => simp [intOf]; omega
        · obtain rfl : q = s.sb.length := by omega
          have HW3 := hW
          clear hW
          go_wp2
          clear d0 d1 d2 d3 d4 d5 e0 e1 e2 e3 e4 e5
          go_loopw [93] (fun j W => ∃ q : Nat, q ≤ s.pb.length ∧ j = .int .i64 q ∧ Hid (Sw w W s ⟨s.ad, s.sc, s.lo, s.cd, s.sb, s.pb, a, b, d⟩)) (fun j _ => s.pb.length - (intOf j).toNat)
          case atStart => exact ⟨0, Nat.zero_le _, rfl, HW3⟩
          case round =>
            obtain ⟨q, hq, rfl, hW⟩ := hrel
            clear HW3
            obtain ⟨d0, d1, d2, d3, d4, d5⟩ := hW.out.os.cells
            obtain ⟨e0, e1, e2, e3, e4, e5⟩ := hW.out.ot.cells
            dsimp only at e0 e1 e2 e3 e4 e5
            by_cases hlt : q < s.pb.length
            · have r1 : decide ((q : Int) < (s.pb.length : Int)) = true := by simp; omega
              obtain ⟨y, hy⟩ : ∃ y, s.pb[q]? = some y := ⟨_, List.getElem?_eq_getElem (by omega)⟩
              obtain ⟨b1, o1, hbo, hb1, hcs⟩ := hW.out.ls.pb (by omega)
              obtain ⟨c0, c1⟩ := hcs q y hy
              obtain ⟨b2, o2, hbp, hb2, hzs⟩ := hW.out.lt.pb (by show 1 ≤ s.pb.length; omega)
              obtain ⟨z0, z1⟩ := hzs q y hy
              dsimp only at hbp
              rw [hbo] at d5
              rw [hbp] at e5
              have hn := neq_spt y
              clear hcs hzs hy hbo hbp
              go_wp2_with fail
              go_quiet (fail)
              have hW2 := Lib.hid (hW.out.next (Bl.dn wr wr.heap.size nq))
              go_wp2
              go_roundw
              case rel => exact ⟨q + 1, by omega, by go_num, hW2⟩
              case measure => simp [intOf]; omega
            · obtain rfl : q = s.pb.length := by omega
              go_wp2
              go_ret
              exact ⟨rfl, hW.out.below⟩
end Go.Proofs.Ytmlopacekoghkaa.Cf
