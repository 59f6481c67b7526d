/-
  The landed verify's follow, walked: what is ahead of each instruction, or the first error. Conditions: numbers that an int holds.
-/
import Derived.Test.YtbejajnhgoejhaaVeStep
import Derived.Laws.MakeOwn
namespace Go.Proofs.Ytbejajnhgoejhaa.Ve
open Go.RowKit
open Go.Proofs.Ytbejajnhgoejhaa.Il hiding Next
open Go.Proofs.Ytbejajnhgoejhaa.Ic

def zero19 : Array Value := #[.bool false, .int .i64 0, .int .i64 0, .int .i64 0, .int .i64 0, .int .i64 0, .int .i64 0, .int .i64 0, .int .i64 0, .int .i64 0, .int .i64 0, .int .i64 0, .int .i64 0, .int .i64 0, .int .i64 0, .int .i64 0, .int .i64 0, .int .i64 0, .int .i64 0]
theorem Try.infoS : (Try.prog.info? 55).map (fun i => (i.zero, i.size, i.bytes)) = some (some (.agg zero19), 19, 152) := by kernel_rfl
theorem info_parts {P : Program} {t : TypeId} {z : Option Value} {a b : Nat} (h : (P.info? t).map (fun i => (i.zero, i.size, i.bytes)) = some (z, a, b)) : ∃ i, P.info? t = some i ∧ i.zero = z ∧ i.size = a ∧ i.bytes = b := by
  cases hi : P.info? t with
  | none => rw [hi] at h; cases h
  | some i =>
    rw [hi] at h
    simp at h
    exact ⟨i, rfl, h.1, h.2.1, h.2.2⟩
theorem mkS (n : Nat) (hn : n ≤ 4000) (w : World) : (Instr.makeSlice 44 (.int .i64 ((n : Int) + 1)) (.int .i64 ((n : Int) + 1))).run Try.prog w = .ok (.slice (some ⟨w.heap.size, 0, none⟩) (n + 1) (n + 1)) (w.alloc (.cells (madeCells zero19 ((n + 1) * 19)) 55)) := by
  obtain ⟨i0, hi0, hi1, hi2, hi3⟩ := info_parts Try.infoS
  have h := run_make (P := Try.prog) w 44 55 i0 _ Try.underlying44 hi0 hi1 .i64 .i64 ((n : Int) + 1) ((n : Int) + 1) (by omega) (by omega) (by rw [hi3]; omega) (by omega)
  rw [hi2, show ((n : Int) + 1).toNat = n + 1 by omega] at h
  exact h
theorem short_rep (n : Nat) : Short (List.replicate n ah0) := fun a ha => by
  rw [List.mem_replicate] at ha
  rw [ha.2]
  decide
theorem made_list (n : Nat) : (madeCells zero19 (n * 19)).toList = flatS (List.replicate n ah0) := by
  refine flat_ext (short_rep n) (by unfold madeCells; simp) fun k j a ha hj => ?_
  rw [List.getElem?_replicate] at ha
  split at ha
  · next hk =>
    injection ha with ha
    subst ha
    unfold madeCells
    rw [Array.toList_map, Array.toList_range, List.getElem?_map, List.getElem?_range (by omega)]
    show some (zero19[(k * 19 + j) % 19]!) = _
    rw [show (k * 19 + j) % 19 = j by omega, show stC ah0 = zero19.toList from rfl]
    have h19 : j < zero19.size := hj
    rw [getElem!_pos zero19 j h19, Array.getElem?_toList, Array.getElem?_eq_getElem h19]
  · cases ha
theorem first_row (w : World) (n : Nat) (hn : n ≤ 4000) : SRow (w.alloc (.cells ((madeCells zero19 ((n + 1) * 19)).setIfInBounds 0 (.bool true)) 55)) w.heap.size w.heap.size (n + 1) (firstB n) := by
  have h := World.ownsRow_lit (base := w.heap.size) (e := 55) (size := 19) w ((madeCells zero19 ((n + 1) * 19)).setIfInBounds 0 (.bool true)) (n + 1) (Nat.le_refl _) (by unfold maxLen; omega) (by rw [Array.size_setIfInBounds]; unfold madeCells; simp)
  refine ⟨?_, first_len n, wf_first n⟩
  have e : ((madeCells zero19 ((n + 1) * 19)).setIfInBounds 0 (.bool true)).toList = flatS (firstB n) := by
    rw [Array.toList_setIfInBounds, made_list]
    rfl
  rw [e] at h
  exact h

/-- What follow answers. -/
def Follows (w : World) (c : List In) (e : Ending) (w' : World) : Prop :=
  match allB c with
  | .error (r, k) => e = .returned (.tuple #[.slice none 0 0, .int .i64 (r : Nat), .int .i64 (k : Nat)]) ∧ Below w.heap.size w w'
  | .ok l => ∃ g, e = .returned (.tuple #[.slice (some ⟨g, 0, none⟩) (c.length + 1) (c.length + 1), .int .i64 0, .int .i64 0]) ∧ SRow w' w.heap.size g (c.length + 1) l ∧ Below w.heap.size w w'
theorem follows_err {w w' : World} {c : List In} {r k : Nat} (h : allB c = .error (r, k)) (hb : Below w.heap.size w w') : Follows w c (.returned (.tuple #[.slice none 0 0, .int .i64 (r : Nat), .int .i64 (k : Nat)])) w' := by
  unfold Follows
  rw [h]
  exact ⟨rfl, hb⟩
theorem follows_ok {w w' : World} {c : List In} {l : List Ah} {g : Nat} (h : allB c = .ok l) (hR : SRow w' w.heap.size g (c.length + 1) l) (hb : Below w.heap.size w w') : Follows w c (.returned (.tuple #[.slice (some ⟨g, 0, none⟩) (c.length + 1) (c.length + 1), .int .i64 0, .int .i64 0])) w' := by
  unfold Follows
  rw [h]
  exact ⟨g, rfl, hR, hb⟩
/-- How far follow has come. -/
structure Fo (w wr : World) (g : Nat) (c : List In) (k : Nat) (l : List Ah) : Prop where
  run : runB c k = .ok l
  row : SRow wr w.heap.size g (c.length + 1) l
  below : Below w.heap.size w wr
  hg : w.heap.size ≤ g
section
variable {w wr w' : World} {g k : Nat} {c : List In} {l : List Ah} {x : In} {ao : Option Addr}
theorem Fo.size (h : Fo w wr g c k l) : w.heap.size ≤ wr.heap.size := h.below.size
theorem Fo.grown (h : Fo w wr g c k l) (o : Obj) (hg : (wr.alloc o).grownBy w' (some g)) : Below w.heap.size w w' :=
  (h.below.alloc h.size o).trans (bel_only hg h.hg (by simp; have := h.size; omega))
theorem Fo.next (h : Fo w wr g c k l) (o : Obj) (hx : c[k]? = some x) (hz : (stepB x k c.length l).1 = 0) (hg : (wr.alloc o).grownBy w' (some g)) (hR : SRow w' w.heap.size g (c.length + 1) (stepB x k c.length l).2) :
    Fo w w' g c (k + 1) (stepB x k c.length l).2 := ⟨run_next h.run hx hz, hR, h.grown o hg, h.hg⟩

set_option maxRecDepth 100000 in
set_option maxHeartbeats 8000000 in
theorem cFollow_any (c : List In) (ao : Option Addr) (cap : Nat) (w : World) (hI : Lies w w.heap.size ao c) (hF : FitL c) (hm : c.length ≤ maxLen) :
    Calls Try.prog 14 #[.slice ao c.length cap] w (Follows w c) := by
  have HI := Lib.hid hI
  have HF := Lib.hid hF
  have hmi : (c.length : Int) ≤ 9223372036854775807 := by unfold maxLen at hm; omega
  clear hI hF hm
  by_cases h200 : (200 : Int) < c.length
  · have HD := Lib.hid (all_long (c := c) (by omega))
    go_enter Try.func14, Try.ntmps14
    go_wp2
    go_ret3
    exact follows_err HD.out (Below.refl _ _)
  · obtain ⟨n, hn⟩ : ∃ n, n = c.length := ⟨_, rfl⟩
    have HN := Lib.hid hn
    have hn2 : (n : Int) ≤ 200 := by omega
    have h200' : ¬ (200 : Int) < n := by omega
    have hmk := mkS n (by omega)
    have hadd : IntKind.i64.wrap ((n : Int) + 1) = (n : Int) + 1 := by rw [IntKind.wrap_i64]; omega
    have HR0 := Lib.hid (first_row w n (by omega))
    have hz0 : (madeCells zero19 ((n + 1) * 19))[0]? = some (.bool false) := by
      have h := made_list (n + 1)
      rw [← Array.getElem?_toList, h]
      rfl
    rw [← hn]
    generalize madeCells zero19 ((n + 1) * 19) = Z at *
    clear hn h200 hmi
    go_enter Try.func14, Try.ntmps14
    go_wp2
    go_loopw [23] (fun i wr => ∃ (k : Nat) (l : List Ah), (k : Int) ≤ n ∧ i = .int .i64 k ∧ Hid (Fo w wr w.heap.size c k l)) (fun i _ => n - (intOf i).toNat)
    case atStart =>
      refine ⟨0, firstB n, by omega, rfl, Lib.hid ⟨by rw [HN.out]; rfl, by rw [← HN.out]; exact HR0.out, (Below.refl _ _).alloc (Nat.le_refl _) _, Nat.le_refl _⟩⟩
    case round =>
      obtain ⟨k, l, hk, rfl, hS⟩ := hrel
      clear hz0 hmk HR0
      by_cases hlt : (k : Int) < n
      · obtain ⟨x, hx⟩ : ∃ x, c[k]? = some x := ⟨_, List.getElem?_eq_getElem (by rw [← HN.out]; omega)⟩
        have HX := Lib.hid hx
        have HFx := Lib.hid (HF.out k x hx)
        obtain ⟨b, o, rfl, -, hIt⟩ := (HI.out.below hS.out.below) (by rw [← HN.out]; omega)
        obtain ⟨y0, y1, y2, y3, y4⟩ := hIt k x hx
        clear hIt
        have HSt := Lib.hid (cStep_any x k n w.heap.size w.heap.size l (wr.alloc (.cells #[.int .i64 x.op, .int .i64 x.kd, .int .i64 x.ar, .int .i64 x.pl, .int .i64 x.n] 41)) (by rw [HN.out]; exact hS.out.row.alloc _) (by omega) (by omega) HFx.out.2.2.2.2)
        unfold insV at HSt
        obtain ⟨r, hr⟩ : ∃ r, r = (stepB x k n l).1 := ⟨_, rfl⟩
        have Hr := Lib.hid hr
        have hr8 : (r : Int) ≤ 8 := by have := err_pos x k n l; omega
        clear hr
        go_wp2_with fail
        refine HSt.out.mono ?_
        rintro e w1 ⟨rfl, hg1, hR1⟩
        rw [← Hr.out]
        have Hg := Lib.hid hg1
        have HR := Lib.hid hR1
        clear hg1 hR1 y0 y1 y2 y3 y4 HSt
        by_cases hr0 : r = 0
        · subst hr0
          have HS2 := Lib.hid (hS.out.next _ HX.out (by rw [← HN.out]; exact Hr.out.symm) Hg.out (by rw [← HN.out]; exact HR.out Hr.out.symm))
          rw [← HN.out] at HS2
          clear hS Hg HR
          go_wp2
          go_roundw
          case rel => exact ⟨k + 1, _, by omega, by go_num, HS2⟩
          case measure => simp [intOf]; omega
        · have hrb : ((r : Int) != 0) = true := by rw [bne_iff_ne]; omega
          have HD := Lib.hid (all_stop (by rw [← HN.out]; omega) hS.out.run HX.out (by rw [← HN.out, ← Hr.out]; exact hr0))
          rw [← HN.out, ← Hr.out] at HD
          have HB := Lib.hid (hS.out.grown _ Hg.out)
          clear hr0 hS Hg HR
          go_wp2
          go_ret3
          exact follows_err HD.out HB.out
      · obtain rfl : k = n := by omega
        have hlen : (gt l k).br.length ≤ 8 := (hS.out.row.wf k).len
        have y2 := hS.out.row.cell (k := k) (by rw [HN.out]; omega) (j := 2) rfl
        obtain ⟨d, hd⟩ : ∃ d, d = (gt l k).br.length := ⟨_, rfl⟩
        rw [← hd] at y2
        have hd8 : (d : Int) ≤ 8 := by omega
        have Hd := Lib.hid hd
        have hrun := hS.out.run
        rw [HN.out] at hrun
        by_cases h0 : d = 0
        · have HD := Lib.hid (all_done (by rw [← HN.out]; omega) hrun (by rw [← HN.out, ← Hd.out]; exact h0))
          have HR := Lib.hid hS.out.row
          have HB := Lib.hid hS.out.below
          subst h0
          clear hS hrun hd hlen
          go_wp2
          go_ret3
          have := follows_ok HD.out HR.out HB.out
          rw [← HN.out] at this
          exact this
        · have hdp : (0 : Int) < d := by omega
          have HD := Lib.hid (all_end (by rw [← HN.out]; omega) hrun (by rw [← HN.out, ← Hd.out]; exact h0))
          rw [← HN.out] at HD
          have HB := Lib.hid hS.out.below
          clear hS hrun h0 hd hlen
          go_wp2
          go_ret3
          exact follows_err HD.out HB.out
end
end Go.Proofs.Ytbejajnhgoejhaa.Ve
