/-
  The code's pass: so many ticks at once, no more than the soonest timer has left. Conditions: none.
-/
import Derived.Test.YtmjbdpgjalkbpaaWhCode
import Derived.Test.YtmjbdpgjalkbpaaWhPMath
namespace Go.Proofs.Ytmjbdpgjalkbpaa.Whl
open Go.RowKit

/-- An element of an array that was loaded whole. -/
theorem run_at2 (arr : Array Value) (k : Nat) (v : Value) (w : World) (hk : k < 16) (h : arr[k]? = some v) : (Instr.index 27 (.agg arr) (.int .i64 (k : Int))).run Try.prog w = .ok v w := by
  have h1 : 0 ≤ (k : Int) ∧ (k : Int) < 16 := by omega
  simp [Instr.index, run_underlying Try.underlying27, asIntOf, h1, go_sem]
  rw [if_pos hk, h]
  rfl

/-- How far pass has come: the first k timers. -/
structure PassS (p N : Nat) (x : Wh) (s : Nat) (w wr : World) (v : Value) (k : Nat) : Prop where
  own : OwnL N wr v (metTo x s k)
  ref : RefAt wr p (passTo x s k)
  only : Only p p w wr
  lt : p < N
  base : w.heap.size = N
  size : N ≤ wr.heap.size
def MidP (p N : Nat) (x : Wh) (s : Nat) (w W : World) (v : Value) (k : Nat) : Prop := OwnL N W v (metTo x s k) ∧ RefAt W p (passTo x s (k + 1)) ∧ Only p p w W ∧ N ≤ W.heap.size
theorem PassS.stay {p N k s : Nat} {x : Wh} {w wr : World} {v : Value} (hl : x.length = 16) (hk : k < 16) (hs : 1 ≤ s) (h : PassS p N x s w wr v k) (h0 : x.getD k 0 = 0) : PassS p N x s w wr v (k + 1) :=
  ⟨by rw [metTo_succ, if_neg (by omega), List.append_nil]; exact h.own, by rw [← passTo_same (by omega) h0]; exact h.ref, h.only, h.lt, h.base, h.size⟩
theorem midp_store {p N k s : Nat} {x : Wh} {w wr : World} {v : Value} (hl : x.length = 16) (hk : k < 16) (h : PassS p N x s w wr v k) :
    MidP p N x s w (wr.setCell ⟨p, k, none⟩ (.int .i64 ((x.getD k 0 - s : Nat) : Int))) v k := by
  have hle : x.getD k 0 - s ≤ 10000 := by
    have := h.ref.1.le k
    rw [passTo_getD (by omega), if_neg (by omega)] at this
    omega
  refine ⟨?_, ?_, h.only.trans (Only.set _ _ _ _ _), by simp [World.setCell]; exact h.size⟩
  · refine World.ownsRow.kept h.own (row := some p) ⟨rfl, rfl, rfl, by simp [World.setCell], fun j _ hj => Below.heap_setCell _ _ _ _ (fun e => hj (by simp [e]))⟩ ?_
    rcases hv : v.ownBlock with _ | g
    · exact .inl rfl
    · refine .inr fun e => ?_
      injection e with e
      have := (World.ownsRow.lt h.own g hv).1
      have := h.lt
      omega
  · rw [← passTo_succ (by omega)]
    exact h.ref.put k _ hk hle
theorem midp_drew {p N k s : Nat} {x : Wh} {w W : World} {v : Value} (h : MidP p N x s w W v k) : MidP p N x s w W.drew v k := ⟨World.ownsRow.drew h.1, h.2.1.drew, h.2.2.1.drew, h.2.2.2⟩
theorem midp_stay {p N k s : Nat} {x : Wh} {w W : World} {v : Value} (h : MidP p N x s w W v k) (h1 : ¬ x.getD k 0 = s) (hlt : p < N) (hb : w.heap.size = N) : PassS p N x s w W v (k + 1) :=
  ⟨by rw [metTo_succ, if_neg h1, List.append_nil]; exact h.1, h.2.1, h.2.2.1, hlt, hb, h.2.2.2⟩
theorem midp_app {p N k s : Nat} {x : Wh} {w W w1 : World} {v v1 : Value} (h : MidP p N x s w W v k) (h1 : x.getD k 0 = s) (hlt : p < N) (hbase : w.heap.size = N) (o : Obj)
    (hown : w1.ownsRow N 3 1 v1 ((metTo x s k).length + 1) (ints (metTo x s k) ++ [.int .i64 (k : Int)])) (hg : (W.alloc o).grownBy w1 v.ownBlock) : PassS p N x s w w1 v1 (k + 1) := by
  have hb : ∀ j, j < N → w1.heap[j]? = W.heap[j]? := fun j hj => by
    have e1 : (W.alloc o).heap[j]? = W.heap[j]? := ((Below.refl W.heap.size W).alloc (Nat.le_refl _) o).block j (by have := h.2.2.2; omega)
    rw [← e1]
    exact hg.block j (by have := h.2.2.2; simp; omega) (fun e => by have := (World.ownsRow.lt h.1 j e.symm).1; omega)
  have hs := hg.size
  simp at hs
  have h4 := h.2.2.2
  have h5 := h.2.2.1.size
  refine ⟨?_, h.2.1.of (hb p hlt), ⟨hg.os.trans h.2.2.1.os, hg.tape.trans h.2.2.1.tape, hg.output.trans h.2.2.1.output, by omega, fun j hj k1 k2 => (hb j (by omega)).trans (h.2.2.1.block j hj k1 k2)⟩, hlt, hbase, by omega⟩
  unfold OwnL
  rw [metTo_succ, if_pos h1, List.length_append, ints_app]
  exact hown

set_option maxRecDepth 100000 in
set_option maxHeartbeats 4000000 in
theorem cpass_any (p : Nat) (x : Wh) (s : Nat) (w : World) (hx : RefAt w p x) (hs1 : 1 ≤ s) (hs2 : s ≤ 20000) (hf : Far x s) :
    Calls Try.prog 21 #[.pointer (some ⟨p, 0, none⟩), .int .i64 (s : Int)] w (RefComes p (metTo x s 16) (passTo x s 16) w) := by
  obtain ⟨i0, hi, hz0, hz1, hz2⟩ := info_parts infoInt
  have HI := Lib.hid (⟨hi, hz0, hz1, hz2⟩ : _ ∧ _ ∧ _ ∧ _)
  clear hi hz0 hz1 hz2
  have hl := hx.1.len
  have HL := Lib.hid hl
  have HOk := Lib.hid hx.1
  have HF := Lib.hid hf
  have HS1 := Lib.hid hs1
  have HS : Hid (PassS p w.heap.size x s w w (.slice none 0 0) 0) := Lib.hid ⟨World.ownsRow_nil _ _ _ _, by rw [passTo_zero]; exact hx, Only.refl _ _ _, hx.lt, rfl, Nat.le_refl _⟩
  have hc := fun i hi => (hx.2 i hi).1
  have c0 := hc 0 (by omega)
  have c1 := hc 1 (by omega)
  have c2 := hc 2 (by omega)
  have c3 := hc 3 (by omega)
  have c4 := hc 4 (by omega)
  have c5 := hc 5 (by omega)
  have c6 := hc 6 (by omega)
  have c7 := hc 7 (by omega)
  have c8 := hc 8 (by omega)
  have c9 := hc 9 (by omega)
  have c10 := hc 10 (by omega)
  have c11 := hc 11 (by omega)
  have c12 := hc 12 (by omega)
  have c13 := hc 13 (by omega)
  have c14 := hc 14 (by omega)
  have c15 := hc 15 (by omega)
  clear hc hx hl hf hs1
  go_enter Try.func21, Try.ntmps21
  go_wp2
  have harr : ∀ k, k < 16 → (#[Value.int IntKind.i64 ((x[0]?.getD 0 : Nat) : Int), Value.int IntKind.i64 ((x[1]?.getD 0 : Nat) : Int), Value.int IntKind.i64 ((x[2]?.getD 0 : Nat) : Int), Value.int IntKind.i64 ((x[3]?.getD 0 : Nat) : Int), Value.int IntKind.i64 ((x[4]?.getD 0 : Nat) : Int), Value.int IntKind.i64 ((x[5]?.getD 0 : Nat) : Int), Value.int IntKind.i64 ((x[6]?.getD 0 : Nat) : Int), Value.int IntKind.i64 ((x[7]?.getD 0 : Nat) : Int), Value.int IntKind.i64 ((x[8]?.getD 0 : Nat) : Int), Value.int IntKind.i64 ((x[9]?.getD 0 : Nat) : Int), Value.int IntKind.i64 ((x[10]?.getD 0 : Nat) : Int), Value.int IntKind.i64 ((x[11]?.getD 0 : Nat) : Int), Value.int IntKind.i64 ((x[12]?.getD 0 : Nat) : Int), Value.int IntKind.i64 ((x[13]?.getD 0 : Nat) : Int), Value.int IntKind.i64 ((x[14]?.getD 0 : Nat) : Int), Value.int IntKind.i64 ((x[15]?.getD 0 : Nat) : Int)] : Array Value)[k]? = some (.int .i64 ((x.getD k 0 : Nat) : Int)) := by
    intro k hk
    match k, hk with
    | 0, _ | 1, _ | 2, _ | 3, _ | 4, _ | 5, _ | 6, _ | 7, _ | 8, _ | 9, _ | 10, _ | 11, _ | 12, _ | 13, _ | 14, _ | 15, _ => simp [List.getD_eq_getElem?_getD]
    | n + 16, h => exact absurd h (by omega)
  have hsz : (#[Value.int IntKind.i64 ((x[0]?.getD 0 : Nat) : Int), Value.int IntKind.i64 ((x[1]?.getD 0 : Nat) : Int), Value.int IntKind.i64 ((x[2]?.getD 0 : Nat) : Int), Value.int IntKind.i64 ((x[3]?.getD 0 : Nat) : Int), Value.int IntKind.i64 ((x[4]?.getD 0 : Nat) : Int), Value.int IntKind.i64 ((x[5]?.getD 0 : Nat) : Int), Value.int IntKind.i64 ((x[6]?.getD 0 : Nat) : Int), Value.int IntKind.i64 ((x[7]?.getD 0 : Nat) : Int), Value.int IntKind.i64 ((x[8]?.getD 0 : Nat) : Int), Value.int IntKind.i64 ((x[9]?.getD 0 : Nat) : Int), Value.int IntKind.i64 ((x[10]?.getD 0 : Nat) : Int), Value.int IntKind.i64 ((x[11]?.getD 0 : Nat) : Int), Value.int IntKind.i64 ((x[12]?.getD 0 : Nat) : Int), Value.int IntKind.i64 ((x[13]?.getD 0 : Nat) : Int), Value.int IntKind.i64 ((x[14]?.getD 0 : Nat) : Int), Value.int IntKind.i64 ((x[15]?.getD 0 : Nat) : Int)] : Array Value).size = 16 := rfl
  generalize (#[Value.int IntKind.i64 ((x[0]?.getD 0 : Nat) : Int), Value.int IntKind.i64 ((x[1]?.getD 0 : Nat) : Int), Value.int IntKind.i64 ((x[2]?.getD 0 : Nat) : Int), Value.int IntKind.i64 ((x[3]?.getD 0 : Nat) : Int), Value.int IntKind.i64 ((x[4]?.getD 0 : Nat) : Int), Value.int IntKind.i64 ((x[5]?.getD 0 : Nat) : Int), Value.int IntKind.i64 ((x[6]?.getD 0 : Nat) : Int), Value.int IntKind.i64 ((x[7]?.getD 0 : Nat) : Int), Value.int IntKind.i64 ((x[8]?.getD 0 : Nat) : Int), Value.int IntKind.i64 ((x[9]?.getD 0 : Nat) : Int), Value.int IntKind.i64 ((x[10]?.getD 0 : Nat) : Int), Value.int IntKind.i64 ((x[11]?.getD 0 : Nat) : Int), Value.int IntKind.i64 ((x[12]?.getD 0 : Nat) : Int), Value.int IntKind.i64 ((x[13]?.getD 0 : Nat) : Int), Value.int IntKind.i64 ((x[14]?.getD 0 : Nat) : Int), Value.int IntKind.i64 ((x[15]?.getD 0 : Nat) : Int)] : Array Value) = arr at *
  have HA := Lib.hid harr
  clear harr c0 c1 c2 c3 c4 c5 c6 c7 c8 c9 c10 c11 c12 c13 c14 c15
  generalize hN : w.heap.size = N at *
  have HN := Lib.hid hN
  clear hN
  go_loopw [5, 12] (fun v i wr => ∃ k : Nat, k ≤ 16 ∧ i = .int .i64 k ∧ Hid (PassS p N x s w wr v k)) (fun _ i _ => 16 - (intOf i).toNat)
  case atStart => exact ⟨0, Nat.zero_le _, rfl, HS⟩
  case round =>
    clear HS
    obtain ⟨k, hk, rfl, hS⟩ := hrel
    obtain ⟨A, c, rfl⟩ := own_form hS.out.own
    by_cases hlt : k < 16
    · have hle := HOk.out.le k
      have ha := HA.out k hlt
      obtain ⟨c0, f0⟩ := hS.out.ref.2 k hlt
      rw [passTo_getD (by rw [HL.out]; omega), if_neg (by omega)] at c0
      have hbN := hS.out.lt
      by_cases h0 : x.getD k 0 = 0
      · have hT := Lib.hid (hS.out.stay HL.out hlt HS1.out h0)
        rw [h0] at ha
        have hat := fun W => run_at2 arr k _ W hlt ha
        clear ha c0 f0 hle h0
        go_wp2
        go_roundw
        case rel => exact ⟨k + 1, by omega, by go_num, hT⟩
        case measure => simp [intOf]; omega
      · have HM := Lib.hid (midp_store HL.out hlt hS.out)
        have hfar := HF.out k hlt h0
        have hsub : ((x.getD k 0 - s : Nat) : Int) = (x.getD k 0 : Nat) - s := by omega
        rw [hsub] at HM
        have hat := fun W => run_at2 arr k _ W hlt ha
        have hv0 : ¬ ((x.getD k 0 : Nat) : Int) = 0 := by omega
        have hv2 : ((x.getD k 0 : Nat) : Int) ≤ 10000 := by omega
        have hv3 : (s : Int) ≤ (x.getD k 0 : Nat) := by omega
        by_cases h1 : x.getD k 0 = s
        · have hcl := metTo_le x s k
          have HH := Lib.hid h1
          have hv1 : ((x.getD k 0 : Nat) : Int) = s := by omega
          rw [hv1, Int.sub_self] at HM
          rw [hv1] at hat hv0 c0
          have HO := Lib.hid (World.ownsRow.alloc HM.out.1 (.cells #[.int .i64 (k : Int)] 3))
          have hsz5 : N ≤ (wr.setCell ⟨p, k, none⟩ (.int .i64 0)).heap.size := HM.out.2.2.2
          have HZ5 := Lib.hid hsz5
          have hcn := cell_one_new (wr.setCell ⟨p, k, none⟩ (.int .i64 0)) (.int .i64 (k : Int)) 3
          rw [show (wr.setCell ⟨p, k, none⟩ (.int .i64 0)).heap.size = wr.heap.size from by simp [World.setCell]] at hcn
          have HC := Lib.hid hcn
          have hs0 := Int.sub_self (s : Int)
          clear hS hsub h0 ha hle h1 hfar hv1 hv2 hv3 hsz5 hcn
          go_wp2_with (at_builtin; refine wpList_append_own _ rfl (.tmp 29) (.tmp 31) 35 rfl N 3 i0 (.int .i64 0) 1 8 Try.underlying35 HI.out.1 HI.out.2.1 HI.out.2.2.1 HI.out.2.2.2 rfl (by decide) _ (metTo x s k).length (ints (metTo x s k)) rfl HO.out ⟨wr.heap.size, 0, none⟩ 1 1 [.int .i64 (k : Int)] rfl rfl HC.out (by intro u hu; simp at hu; subst hu; rfl) (by unfold maxLen; omega) (by omega) (by have := HZ5.out; simp at this ⊢; omega) ?_)
          intro v1 w1 hown hgrow _
          have HG := Lib.hid (midp_app HM.out HH.out hbN HN.out _ hown hgrow)
          clear hown hgrow HO
          go_wp2
          go_roundw
          case rel => exact ⟨k + 1, by omega, by go_num, HG⟩
          case measure => simp [intOf]; omega
        · have HH := Lib.hid h1
          have hv1 : ¬ ((x.getD k 0 : Nat) : Int) = s := by omega
          clear h0 h1 hle hsub hS ha hfar
          generalize hV : ((x.getD k 0 : Nat) : Int) = V at *
          clear hV
          go_wp2
          go_roundw
          case rel => exact ⟨k + 1, by omega, by go_num, Lib.hid (midp_stay HM.out HH.out hbN HN.out)⟩
          case measure => simp [intOf]; omega
    · obtain rfl : k = 16 := by omega
      go_wp2
      go_ret
      refine ⟨_, rfl, ?_, ?_, hS.out.only⟩
      · rw [HN.out]; exact hS.out.own
      · exact hS.out.ref

end Go.Proofs.Ytmjbdpgjalkbpaa.Whl
