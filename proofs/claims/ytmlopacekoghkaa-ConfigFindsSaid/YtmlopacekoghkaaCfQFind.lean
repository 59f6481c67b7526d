/-
  The reference's Find, walked. Conditions: as each states.
-/
import Derived.Test.YtmlopacekoghkaaCfFn
namespace Go.Proofs.Ytmlopacekoghkaa.Cf
open Go.RowKit
open Go.Proofs.Ytmlopacekoghkaa.Bl (Blk Spt findB layO noS Tells I64 one_S cell_of_row kept_own blkV spV Own2 Own4)
open Go.Proofs.Ytmlopacekoghkaa.Il (In)

set_option maxRecDepth 100000 in
set_option maxHeartbeats 8000000 in
theorem qFind_any (c : Clu) (addr : Int) (w : World) (hL : CluL w w.heap.size c) (hF : FitC c) :
    Calls Try.prog 11 #[.agg (cluC c), .int .i64 addr] w (Found w (findC c.st addr)) := by
  have hml : (c.st.length : Int) ≤ 9223372036854775807 := by have h1 := hF.2.1.1; have := hF.2.1.2.1; unfold maxLen at this; omega
  have hA := Fw.first hL
  obtain ⟨g0, g1, g2, g3, g4, g5, g6, g7⟩ := hA.cw.ow.cells
  have HA := Lib.hid hA
  have HF := Lib.hid hF
  have hlc : c.st.length ≤ c.sh.cap := hF.2.1.1
  obtain ⟨r, hr⟩ : ∃ r, r = findC c.st addr := ⟨_, rfl⟩
  rw [← hr]
  have HR := Lib.hid hr
  clear hA hL hF hr
  unfold cluC staC noT noH at *
  go_enter Try.func11, Try.ntmps11
  go_wp2
  clear g0 g1 g2 g3 g4 g5 g6 g7
  generalize hN : w.heap.size = N at *
  go_loopw [6] (fun j W => ∃ k : Nat, k ≤ c.st.length ∧ j = .int .i64 k ∧ Hid (r = findC (c.st.drop k) addr) ∧ Hid (Fw w W c)) (fun j _ => c.st.length - (intOf j).toNat)
  case atStart => exact ⟨0, Nat.zero_le _, rfl, HR, HA⟩
  case round =>
    obtain ⟨k, hk, rfl, hR, hA⟩ := hrel
    clear HR HA
    obtain ⟨g0, g1, g2, g3, g4, g5, g6, g7⟩ := hA.out.cw.ow.cells
    obtain ⟨r0, r1, r2, r3, r4, r5⟩ := hA.out.rs.1
    have rf := hA.out.rs.2
    have f0 := rf 0
    have f1 := rf 1
    have f2 := rf 2
    have f3 := rf 3
    have f4 := rf 4
    have f5 := rf 5
    clear rf
    rw [hN] at r0 r1 r2 r3 r4 r5 f0 f1 f2 f3 f4 f5 g0 g1 g2 g3 g4 g5 g6 g7
    by_cases hlt : k < c.st.length
    · have e1 : decide ((k : Int) < (c.st.length : Int)) = true := by simp; omega
      obtain ⟨y, hy⟩ : ∃ y, c.st[k]? = some y := ⟨_, List.getElem?_eq_getElem (by omega)⟩
      obtain ⟨b1, o1, hbo, hb1, hcs⟩ := hA.out.cw.ca.lies.row (by omega)
      obtain ⟨c0, c1, c2, c3, c4, c5⟩ := hcs k y hy
      have hfi := findC_at hy addr
      rw [hbo] at g7
      by_cases he : y.ad = addr
      · have e2 : (y.ad == addr) = true := beq_iff_eq.2 he
        have hr : r = (y, true) := by rw [hR.out, hfi, if_pos he]
        have HE := Lib.hid (⟨HF.out.2.2 k y hy, ((hA.out.cw.ca.lies.st k y hy).below (put_below (Nat.le_succ _) y)).more (by rw [put_size]; exact hA.out.cw.ca.below.size), hA.out.cw.ca.below.trans (put_below (Nat.le_succ _) y)⟩ : FitS y ∧ StaL (putT wr (w.heap.size + 1) y) (putT wr (w.heap.size + 1) y).heap.size y ∧ Below w.heap.size w (putT wr (w.heap.size + 1) y))
        obtain ⟨q0, q1, q2, q3, q4, q5⟩ := (hA.out.rs.put y).1
        unfold putT at HE q0 q1 q2 q3 q4 q5
        rw [hN] at q0 q1 q2 q3 q4 q5
        clear hR he hfi hcs hy hA
        subst hr
        go_wp2
        refine bodyPost_ret (v := .tuple #[.agg #[.int .i64 y.ad, .int .i64 y.sc, .int .i64 y.lo, .slice y.co.ao y.cd.length y.co.cap, .slice y.so.ao y.sb.length y.so.cap, .slice y.po.ao y.pb.length y.po.cap], .bool true]) (by simp [results, Try.results11, go_sem, q0, q1, q2, q3, q4, q5]) rfl ?_
        subst hN
        exact ⟨y.co, y.so, y.po, rfl, HE.out⟩
      · have e2 : (y.ad == addr) = false := beq_eq_false_iff_ne.2 he
        have hR1 := Lib.hid (show r = findC (c.st.drop (k + 1)) addr by rw [hR.out, hfi, if_neg he])
        clear hR he hfi hcs hy
        go_wp2
        go_roundw
        case rel => exact ⟨k + 1, by omega, by go_num, hR1, hA⟩
        case measure => simp [intOf]; omega
    · obtain rfl : k = c.st.length := by omega
      have hr : r = (noT, false) := by rw [hR.out, List.drop_eq_nil_of_le (Nat.le_refl _)]; rfl
      clear hR
      subst hr
      have HE := Lib.hid (⟨fit_no, StaL.no _ _, hA.out.cw.ca.below.trans (put_below (Nat.le_succ _) noT)⟩ : FitS noT ∧ StaL (putT wr (w.heap.size + 1) noT) (putT wr (w.heap.size + 1) noT).heap.size noT ∧ _)
      obtain ⟨q0, q1, q2, q3, q4, q5⟩ := (hA.out.rs.put noT).1
      unfold putT noT noH at HE q0 q1 q2 q3 q4 q5
      dsimp only [List.length_nil] at HE q0 q1 q2 q3 q4 q5
      rw [hN] at q0 q1 q2 q3 q4 q5
      clear hA
      unfold noT noH at r0 r1 r2 r3 r4 r5
      go_wp2
      refine bodyPost_ret (v := .tuple #[.agg #[.int .i64 0, .int .i64 0, .int .i64 0, .slice none 0 0, .slice none 0 0, .slice none 0 0], .bool false]) (by simp [results, Try.results11, go_sem, q0, q1, q2, q3, q4, q5]) rfl ?_
      subst hN
      exact ⟨noH, noH, noH, rfl, HE.out⟩
end Go.Proofs.Ytmlopacekoghkaa.Cf
