/-
  The landed code of layer 14, walked: follow; Check. Conditions: as each states.
-/
import Derived.Test.YtmlopacekoghkaaVeStep
import Derived.Laws.MakeOwn
namespace Go.Proofs.Ytmlopacekoghkaa.Ve
open Go.RowKit
open Go.Proofs.Ytmlopacekoghkaa.Il hiding Next
open Go.Proofs.Ytmlopacekoghkaa.Ic hiding I64

def zero19 : Array Value := #[.bool false, .int .i64 0, .int .i64 0, .int .i64 0, .int .i64 0, .int .i64 0, .int .i64 0, .int .i64 0, .int .i64 0, .int .i64 0, .int .i64 0, .int .i64 0, .int .i64 0, .int .i64 0, .int .i64 0, .int .i64 0, .int .i64 0, .int .i64 0, .int .i64 0]
theorem Try.infoS : (Try.prog.info? 96).map (fun i => (i.zero, i.size, i.bytes)) = some (some (.agg zero19), 19, 152) := by kernel_rfl
theorem info_parts {P : Program} {t : TypeId} {z : Option Value} {a b : Nat} (h : (P.info? t).map (fun i => (i.zero, i.size, i.bytes)) = some (z, a, b)) : ∃ i, P.info? t = some i ∧ i.zero = z ∧ i.size = a ∧ i.bytes = b := by
  cases hi : P.info? t with
  | none => rw [hi] at h; cases h
  | some i =>
    rw [hi] at h
    simp at h
    exact ⟨i, rfl, h.1, h.2.1, h.2.2⟩
theorem mkS (n : Nat) (hn : n ≤ 4000) (w : World) : (Instr.makeSlice 80 (.int .i64 ((n : Int) + 1)) (.int .i64 ((n : Int) + 1))).run Try.prog w = .ok (.slice (some ⟨w.heap.size, 0, none⟩) (n + 1) (n + 1)) (w.alloc (.cells (madeCells zero19 ((n + 1) * 19)) 96)) := by
  obtain ⟨i0, hi0, hi1, hi2, hi3⟩ := info_parts Try.infoS
  have h := run_make (P := Try.prog) w 80 96 i0 _ Try.underlying80 hi0 hi1 .i64 .i64 ((n : Int) + 1) ((n : Int) + 1) (by omega) (by omega) (by rw [hi3]; omega) (by omega)
  rw [hi2, show ((n : Int) + 1).toNat = n + 1 by omega] at h
  exact h
theorem short_rep (n : Nat) : Short (List.replicate n ah0) := fun a ha => by
  rw [List.mem_replicate] at ha
  rw [ha.2]
  decide
theorem made_list (n : Nat) : (madeCells zero19 (n * 19)).toList = flatS (List.replicate n ah0) := by
  refine flat_ext (short_rep n) (by unfold madeCells; simp) fun k j a ha hj => ?_
  rw [List.getElem?_replicate] at ha
  split at ha
  · next hk =>
    injection ha with ha
    subst ha
    unfold madeCells
    rw [Array.toList_map, Array.toList_range, List.getElem?_map, List.getElem?_range (by omega)]
    show some (zero19[(k * 19 + j) % 19]!) = _
    rw [show (k * 19 + j) % 19 = j by omega, show stC ah0 = zero19.toList from rfl]
    have h19 : j < zero19.size := hj
    rw [getElem!_pos zero19 j h19, Array.getElem?_toList, Array.getElem?_eq_getElem h19]
  · cases ha
theorem first_row (w : World) (n : Nat) (hn : n ≤ 4000) : SRow (w.alloc (.cells ((madeCells zero19 ((n + 1) * 19)).setIfInBounds 0 (.bool true)) 96)) w.heap.size w.heap.size (n + 1) (firstB n) := by
  have h := World.ownsRow_lit (base := w.heap.size) (e := 96) (size := 19) w ((madeCells zero19 ((n + 1) * 19)).setIfInBounds 0 (.bool true)) (n + 1) (Nat.le_refl _) (by unfold maxLen; omega) (by rw [Array.size_setIfInBounds]; unfold madeCells; simp)
  refine ⟨?_, first_len n, wf_first n⟩
  have e : ((madeCells zero19 ((n + 1) * 19)).setIfInBounds 0 (.bool true)).toList = flatS (firstB n) := by
    rw [Array.toList_setIfInBounds, made_list]
    rfl
  rw [e] at h
  exact h

/-- What follow answers. -/
def Follows (w : World) (c : List In) (e : Ending) (w' : World) : Prop :=
  match allB c with
  | .error (r, k) => e = .returned (.tuple #[.slice none 0 0, .int .i64 (r : Nat), .int .i64 (k : Nat)]) ∧ Below w.heap.size w w'
  | .ok l => ∃ g, e = .returned (.tuple #[.slice (some ⟨g, 0, none⟩) (c.length + 1) (c.length + 1), .int .i64 0, .int .i64 0]) ∧ SRow w' w.heap.size g (c.length + 1) l ∧ Below w.heap.size w w'
theorem follows_err {w w' : World} {c : List In} {r k : Nat} (h : allB c = .error (r, k)) (hb : Below w.heap.size w w') : Follows w c (.returned (.tuple #[.slice none 0 0, .int .i64 (r : Nat), .int .i64 (k : Nat)])) w' := by
  unfold Follows
  rw [h]
  exact ⟨rfl, hb⟩
theorem follows_ok {w w' : World} {c : List In} {l : List Ah} {g : Nat} (h : allB c = .ok l) (hR : SRow w' w.heap.size g (c.length + 1) l) (hb : Below w.heap.size w w') : Follows w c (.returned (.tuple #[.slice (some ⟨g, 0, none⟩) (c.length + 1) (c.length + 1), .int .i64 0, .int .i64 0])) w' := by
  unfold Follows
  rw [h]
  exact ⟨g, rfl, hR, hb⟩
/-- How far follow has come. -/
structure Fo (w wr : World) (g : Nat) (c : List In) (k : Nat) (l : List Ah) : Prop where
  run : runB c k = .ok l
  row : SRow wr w.heap.size g (c.length + 1) l
  below : Below w.heap.size w wr
  hg : w.heap.size ≤ g
section
variable {w wr w' : World} {g k : Nat} {c : List In} {l : List Ah} {x : In} {ao : Option Addr}
theorem Fo.size (h : Fo w wr g c k l) : w.heap.size ≤ wr.heap.size := h.below.size
theorem Fo.grown (h : Fo w wr g c k l) (o : Obj) (hg : (wr.alloc o).grownBy w' (some g)) : Below w.heap.size w w' :=
  (h.below.alloc h.size o).trans (bel_only hg h.hg (by simp; have := h.size; omega))
theorem Fo.next (h : Fo w wr g c k l) (o : Obj) (hx : c[k]? = some x) (hz : (stepB x k c.length l).1 = 0) (hg : (wr.alloc o).grownBy w' (some g)) (hR : SRow w' w.heap.size g (c.length + 1) (stepB x k c.length l).2) :
    Fo w w' g c (k + 1) (stepB x k c.length l).2 := ⟨run_next h.run hx hz, hR, h.grown o hg, h.hg⟩

set_option maxRecDepth 100000 in
set_option maxHeartbeats 8000000 in
theorem cFollow_any (c : List In) (ao : Option Addr) (cap : Nat) (w : World) (hI : Lies w w.heap.size ao c) (hF : FitL c) (hm : c.length ≤ maxLen) :
    Calls Try.prog 44 #[.slice ao c.length cap] w (Follows w c) := by
  have HI := Lib.hid hI
  have HF := Lib.hid hF
  have hmi : (c.length : Int) ≤ 9223372036854775807 := by unfold maxLen at hm; omega
  clear hI hF hm
  by_cases h200 : (200 : Int) < c.length
  · have HD := Lib.hid (all_long (c := c) (by omega))
    go_enter Try.func44, Try.ntmps44
    go_wp2
    go_ret3
    exact follows_err HD.out (Below.refl _ _)
  · obtain ⟨n, hn⟩ : ∃ n, n = c.length := ⟨_, rfl⟩
    have HN := Lib.hid hn
    have hn2 : (n : Int) ≤ 200 := by omega
    have h200' : ¬ (200 : Int) < n := by omega
    have hmk := mkS n (by omega)
    have hadd : IntKind.i64.wrap ((n : Int) + 1) = (n : Int) + 1 := by rw [IntKind.wrap_i64]; omega
    have HR0 := Lib.hid (first_row w n (by omega))
    have hz0 : (madeCells zero19 ((n + 1) * 19))[0]? = some (.bool false) := by
      have h := made_list (n + 1)
      rw [← Array.getElem?_toList, h]
      rfl
    rw [← hn]
    generalize madeCells zero19 ((n + 1) * 19) = Z at *
    clear hn h200 hmi
    go_enter Try.func44, Try.ntmps44
    go_wp2
    go_loopw [23] (fun i wr => ∃ (k : Nat) (l : List Ah), (k : Int) ≤ n ∧ i = .int .i64 k ∧ Hid (Fo w wr w.heap.size c k l)) (fun i _ => n - (intOf i).toNat)
    case atStart =>
      refine ⟨0, firstB n, by omega, rfl, Lib.hid ⟨by rw [HN.out]; rfl, by rw [← HN.out]; exact HR0.out, (Below.refl _ _).alloc (Nat.le_refl _) _, Nat.le_refl _⟩⟩
    case round =>
      obtain ⟨k, l, hk, rfl, hS⟩ := hrel
      clear hz0 hmk HR0
      by_cases hlt : (k : Int) < n
      · obtain ⟨x, hx⟩ : ∃ x, c[k]? = some x := ⟨_, List.getElem?_eq_getElem (by rw [← HN.out]; omega)⟩
        have HX := Lib.hid hx
        have HFx := Lib.hid (HF.out k x hx)
        obtain ⟨b, o, rfl, -, hIt⟩ := (HI.out.below hS.out.below) (by rw [← HN.out]; omega)
        obtain ⟨y0, y1, y2, y3, y4⟩ := hIt k x hx
        clear hIt
        have HSt := Lib.hid (cStep_any x k n w.heap.size w.heap.size l (wr.alloc (.cells #[.int .i64 x.op, .int .i64 x.kd, .int .i64 x.ar, .int .i64 x.pl, .int .i64 x.n] 55)) (by rw [HN.out]; exact hS.out.row.alloc _) (by omega) (by omega) HFx.out.2.2.2.2)
        unfold insV at HSt
        obtain ⟨r, hr⟩ : ∃ r, r = (stepB x k n l).1 := ⟨_, rfl⟩
        have Hr := Lib.hid hr
        have hr8 : (r : Int) ≤ 8 := by have := err_pos x k n l; omega
        clear hr
        go_wp2_with fail
        refine HSt.out.mono ?_
        rintro e w1 ⟨rfl, hg1, hR1⟩
        rw [← Hr.out]
        have Hg := Lib.hid hg1
        have HR := Lib.hid hR1
        clear hg1 hR1 y0 y1 y2 y3 y4 HSt
        by_cases hr0 : r = 0
        · subst hr0
          have HS2 := Lib.hid (hS.out.next _ HX.out (by rw [← HN.out]; exact Hr.out.symm) Hg.out (by rw [← HN.out]; exact HR.out Hr.out.symm))
          rw [← HN.out] at HS2
          clear hS Hg HR
          go_wp2
          go_roundw
          case rel => exact ⟨k + 1, _, by omega, by go_num, HS2⟩
          case measure => simp [intOf]; omega
        · have hrb : ((r : Int) != 0) = true := by rw [bne_iff_ne]; omega
          have HD := Lib.hid (all_stop (by rw [← HN.out]; omega) hS.out.run HX.out (by rw [← HN.out, ← Hr.out]; exact hr0))
          rw [← HN.out, ← Hr.out] at HD
          have HB := Lib.hid (hS.out.grown _ Hg.out)
          clear hr0 hS Hg HR
          go_wp2
          go_ret3
          exact follows_err HD.out HB.out
      · obtain rfl : k = n := by omega
        have hlen : (gt l k).br.length ≤ 8 := (hS.out.row.wf k).len
        have y2 := hS.out.row.cell (k := k) (by rw [HN.out]; omega) (j := 2) rfl
        obtain ⟨d, hd⟩ : ∃ d, d = (gt l k).br.length := ⟨_, rfl⟩
        rw [← hd] at y2
        have hd8 : (d : Int) ≤ 8 := by omega
        have Hd := Lib.hid hd
        have hrun := hS.out.run
        rw [HN.out] at hrun
        by_cases h0 : d = 0
        · have HD := Lib.hid (all_done (by rw [← HN.out]; omega) hrun (by rw [← HN.out, ← Hd.out]; exact h0))
          have HR := Lib.hid hS.out.row
          have HB := Lib.hid hS.out.below
          subst h0
          clear hS hrun hd hlen
          go_wp2
          go_ret3
          have := follows_ok HD.out HR.out HB.out
          rw [← HN.out] at this
          exact this
        · have hdp : (0 : Int) < d := by omega
          have HD := Lib.hid (all_end (by rw [← HN.out]; omega) hrun (by rw [← HN.out, ← Hd.out]; exact h0))
          rw [← HN.out] at HD
          have HB := Lib.hid hS.out.below
          clear hS hrun h0 hd hlen
          go_wp2
          go_ret3
          exact follows_err HD.out HB.out
end
end Go.Proofs.Ytmlopacekoghkaa.Ve

namespace Go.Proofs.Ytmlopacekoghkaa.Ve
open Go.RowKit
open Go.Proofs.Ytmlopacekoghkaa.Il hiding Next
open Go.Proofs.Ytmlopacekoghkaa.Ic hiding I64

/-- The first error, and where. -/
def chkB (c : List In) : Nat × Nat := match allB c with
  | .error p => p
  | .ok _ => (0, 0)
theorem chk_err {c : List In} {p : Nat × Nat} (h : allB c = .error p) : chkB c = p := by unfold chkB; rw [h]
theorem chk_ok {c : List In} {l : List Ah} (h : allB c = .ok l) : chkB c = (0, 0) := by unfold chkB; rw [h]
theorem all_cases (c : List In) : (∃ r k, allB c = .error (r, k) ∧ r ≠ 0 ∧ r ≤ 10 ∧ k ≤ c.length + 200) ∨ ∃ l, allB c = .ok l ∧ WfL l ∧ l.length = c.length + 1 ∧ c.length ≤ 200 := by
  cases h : allB c with
  | ok l =>
    obtain ⟨h1, h2, _⟩ := all_ok h
    exact .inr ⟨l, rfl, (run_ok h2).1, (run_ok h2).2, h1⟩
  | error p =>
    refine .inl ⟨p.1, p.2, rfl, ?_⟩
    by_cases h2 : 200 < c.length
    · rw [all_long h2] at h
      injection h with h
      rw [← h]
      exact ⟨by decide, by decide, by show 200 ≤ _; omega⟩
    · have hgo : ∀ m, m ≤ c.length → ∀ p, runB c m = .error p → p.1 ≠ 0 ∧ p.1 ≤ 8 ∧ p.2 ≤ c.length := by
        intro m
        induction m with
        | zero => intro _ p h; cases h
        | succ m ih =>
          intro hm p hp
          cases h0 : runB c m with
          | error q =>
            have h1 := run_error 1 h0
            rw [hp] at h1
            injection h1 with h1
            rw [h1]
            exact ih (by omega) q h0
          | ok l0 =>
            obtain ⟨x, hx⟩ : ∃ x, c[m]? = some x := ⟨_, List.getElem?_eq_getElem (by omega)⟩
            by_cases hz : (stepB x m c.length l0).1 = 0
            · rw [run_next h0 hx hz] at hp; cases hp
            · rw [run_stop h0 hx hz] at hp
              injection hp with hp
              rw [← hp]
              exact ⟨hz, err_pos _ _ _ _, by show m ≤ _; omega⟩
      unfold allB at h
      rw [if_neg h2] at h
      split at h
      · next q hq =>
        injection h with h
        have := hgo _ (Nat.le_refl _) q hq
        rw [← h]
        omega
      · split at h
        · cases h
        · injection h with h
          rw [← h]
          exact ⟨by show 3 ≠ 0; omega, by show 3 ≤ 10; omega, by show c.length ≤ _; omega⟩

section
variable {c : List In} {ao : Option Addr} {cap : Nat} {w : World}
set_option maxRecDepth 100000 in
set_option maxHeartbeats 4000000 in
theorem cCheck_any (c : List In) (ao : Option Addr) (cap : Nat) (w : World) (hI : Lies w w.heap.size ao c) (hF : FitL c) (hm : c.length ≤ maxLen) :
    Calls Try.prog 34 #[.slice ao c.length cap] w (Tells (.tuple #[.int .i64 ((chkB c).1 : Nat), .int .i64 ((chkB c).2 : Nat)]) w) := by
  have HC := Lib.hid (cFollow_any c ao cap w hI hF hm)
  unfold Follows at HC
  rcases all_cases c with ⟨r, k, h, -⟩ | ⟨l, h, -⟩
  · rw [h] at HC
    rw [chk_err h]
    clear h hI hF hm
    go_enter Try.func34, Try.ntmps34
    go_wp2_with fail
    refine HC.out.mono ?_
    rintro e w1 ⟨rfl, hb⟩
    go_wp2
    go_ret2
    exact ⟨rfl, hb⟩
  · rw [h] at HC
    rw [chk_ok h]
    clear h hI hF hm
    go_enter Try.func34, Try.ntmps34
    go_wp2_with fail
    refine HC.out.mono ?_
    rintro e w1 ⟨g, rfl, -, hb⟩
    go_wp2
    go_ret2
    exact ⟨rfl, hb⟩

/-! ### Kinds -/
def kindB (a : Ah) : Int := if a.on then a.kd else -1
def kindsV (l : List Ah) (n : Nat) : List Value := (List.range n).map fun k => .int .i64 (kindB (gt l k))
/-- The row when k of n are told. -/
def kindsK (l : List Ah) (n k : Nat) : List Value := (List.range n).map fun j => if j < k then .int .i64 (kindB (gt l j)) else .int .i64 0
theorem kindsK_at {l : List Ah} {n k j : Nat} (h : j < n) : (kindsK l n k)[j]? = some (if j < k then .int .i64 (kindB (gt l j)) else .int .i64 0) := by
  unfold kindsK
  rw [List.getElem?_map, List.getElem?_range h]; rfl
theorem kindsK_len (l : List Ah) (n k : Nat) : (kindsK l n k).length = n := by unfold kindsK; simp
theorem kindsK_zero (l : List Ah) (n : Nat) : kindsK l n 0 = List.replicate n (.int .i64 0) := by
  apply List.ext_getElem?
  intro j
  by_cases h : j < n
  · rw [kindsK_at h, List.getElem?_replicate, if_pos h, if_neg (by omega)]
  · rw [List.getElem?_eq_none (by rw [kindsK_len]; omega), List.getElem?_eq_none (by simp; omega)]
theorem kindsK_set {l : List Ah} {n k : Nat} (h : k < n) : (kindsK l n k).set k (.int .i64 (kindB (gt l k))) = kindsK l n (k + 1) := by
  apply List.ext_getElem?
  intro j
  rw [List.getElem?_set, kindsK_len]
  by_cases hj : j < n
  · rw [kindsK_at hj, kindsK_at hj]
    by_cases e : k = j
    · subst e
      rw [if_pos rfl, if_pos h, if_pos (by omega)]
    · rw [if_neg e]
      congr 1
      by_cases h2 : j < k
      · rw [if_pos h2, if_pos (by omega)]
      · rw [if_neg h2, if_neg (by omega)]
  · rw [if_neg (by omega), List.getElem?_eq_none (by rw [kindsK_len]; omega), List.getElem?_eq_none (by rw [kindsK_len]; omega)]
theorem kindsK_all (l : List Ah) (n : Nat) : kindsK l n n = kindsV l n := by
  apply List.ext_getElem?
  intro j
  by_cases hj : j < n
  · rw [kindsK_at hj, if_pos hj]
    unfold kindsV
    rw [List.getElem?_map, List.getElem?_range hj]; rfl
  · rw [List.getElem?_eq_none (by rw [kindsK_len]; omega), List.getElem?_eq_none (by unfold kindsV; simp; omega)]
/-- What Kinds answers. -/
def KindsOf (w : World) (c : List In) (e : Ending) (w' : World) : Prop :=
  match allB c with
  | .error _ => e = .returned (.tuple #[.slice none 0 0, .bool false]) ∧ Below w.heap.size w w'
  | .ok l => ∃ h, e = .returned (.tuple #[.slice (some ⟨h, 0, none⟩) c.length c.length, .bool true]) ∧ w'.ownsRow w.heap.size 3 1 (.slice (some ⟨h, 0, none⟩) c.length c.length) c.length (kindsV l c.length) ∧ Below w.heap.size w w'
theorem Try.infoI : (Try.prog.info? 3).map (fun i => (i.zero, i.size, i.bytes)) = some (some (.int .i64 0), 1, 8) := by kernel_rfl
theorem mkI (n : Nat) (hn : n ≤ 4000) (w : World) : (Instr.makeSlice 44 (.int .i64 (n : Int)) (.int .i64 (n : Int))).run Try.prog w = .ok (.slice (some ⟨w.heap.size, 0, none⟩) n n) (w.alloc (.cells (madeCells #[.int .i64 0] n) 3)) := by
  obtain ⟨i0, hi0, hi1, hi2, hi3⟩ := info_parts Try.infoI
  have h := run_make (P := Try.prog) w 44 3 i0 _ Try.underlying44 hi0 hi1 .i64 .i64 n n (by omega) (by omega) (by rw [hi3]; omega) (by omega)
  rw [hi2, Int.toNat_natCast, Nat.mul_one] at h
  exact h
/-- How far Kinds has come. -/
structure Kn (w wr : World) (g h n : Nat) (l : List Ah) (k : Nat) : Prop where
  row : SRow wr w.heap.size g (n + 1) l
  own : wr.ownsRow w.heap.size 3 1 (.slice (some ⟨h, 0, none⟩) n n) n (kindsK l n k)
  below : Below w.heap.size w wr
  lt : g < h
  hg : w.heap.size ≤ g
section
variable {wr : World} {g h n k : Nat} {l : List Ah}
theorem Kn.first {w1 : World} (hR : SRow w1 w.heap.size g (n + 1) l) (hb : Below w.heap.size w w1) (hn : n ≤ 4000) : Kn w (w1.alloc (.cells (madeCells #[.int .i64 0] n) 3)) g w1.heap.size n l 0 := by
  have h := World.ownsRow_lit (base := w.heap.size) (e := 3) (size := 1) w1 (madeCells #[.int .i64 0] n) n hb.size (by unfold maxLen; omega) (by unfold madeCells; simp)
  rw [toList_madeCells_one, ← kindsK_zero l] at h
  exact ⟨hR.alloc _, h, hb.alloc hb.size _, hR.lt.2, hR.lt.1⟩
theorem SRow.other {W : World} {N g n : Nat} {l : List Ah} (h : SRow W N g n l) {b j : Nat} (hne : g ≠ b) (v : Value) : SRow (W.setCell ⟨b, j, none⟩ v) N g n l :=
  ⟨World.ownsRow.kept h.own (only_setv W b j v) (.inr (fun e => hne (by simpa [Value.ownBlock] using e))), h.len, h.wf⟩
theorem Kn.put (h0 : Kn w wr g h n l k) (hk : k < n) (u : Value) (v : Int) (hv : v = kindB (gt l k)) : Kn w ((wr.setCell ⟨h, k, none⟩ u).setCell ⟨h, k, none⟩ (.int .i64 v)) g h n l (k + 1) := by
  have hne : g ≠ h := Nat.ne_of_lt h0.lt
  have hh : w.heap.size ≤ h := Nat.le_of_lt (Nat.lt_of_le_of_lt h0.hg h0.lt)
  refine ⟨(h0.row.other hne _).other hne _, ?_, (h0.below.setCell hh _).setCell hh _, h0.lt, h0.hg⟩
  have h1 := (World.ownsRow.stored (World.ownsRow.stored h0.own k u).1 k (.int .i64 v)).1
  rw [List.set_set, hv, kindsK_set hk] at h1
  rw [hv]
  exact h1
theorem Kn.put1 (h0 : Kn w wr g h n l k) (hk : k < n) (v : Int) (hv : v = kindB (gt l k)) : Kn w (wr.setCell ⟨h, k, none⟩ (.int .i64 v)) g h n l (k + 1) := by
  have hne : g ≠ h := Nat.ne_of_lt h0.lt
  have hh : w.heap.size ≤ h := Nat.le_of_lt (Nat.lt_of_le_of_lt h0.hg h0.lt)
  refine ⟨h0.row.other hne _, ?_, h0.below.setCell hh _, h0.lt, h0.hg⟩
  have h1 := (World.ownsRow.stored h0.own k (.int .i64 v)).1
  rw [hv, kindsK_set hk] at h1
  rw [hv]
  exact h1
end

end
end Go.Proofs.Ytmlopacekoghkaa.Ve
