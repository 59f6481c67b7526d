/-
  The reference's tick and its soonest, walked. Conditions: none.
-/
import Derived.Test.YtmjbdpgjalkbpaaWhRef
import Derived.RegionTactic
namespace Go.Proofs.Ytmjbdpgjalkbpaa.Whl
open Go.RowKit

/-- A row of the call's own is a slice. -/
theorem own_form {N : Nat} {w : World} {v : Value} {l : List Nat} (h : OwnL N w v l) : ∃ A c, v = .slice A l.length c := by
  rcases h.2 with ⟨rfl, h0⟩ | ⟨b, cap, cur, rfl, _⟩
  · exact ⟨none, 0, by rw [h0]⟩
  · exact ⟨_, _, rfl⟩

/-- What stands in the reference's tick. -/
structure TickS (b N : Nat) (x : Wh) (w wr : World) (v : Value) (k : Nat) : Prop where
  own : OwnL N wr v (comeTo x k)
  ref : RefAt wr b (tickTo x k)
  only : Only b b w wr
  lt : b < N
  base : w.heap.size = N
  size : N ≤ wr.heap.size

theorem TickS.grown {b N k : Nat} {x : Wh} {w wr w1 : World} {v v1 : Value} (h : TickS b N x w wr v k) (hown : w1.ownsRow N 3 1 v1 ((comeTo x k).length + 1) (ints (comeTo x k) ++ [.int .i64 (k : Int)])) (o : Obj) (hg : (wr.alloc o).grownBy w1 v.ownBlock) (h1 : x.getD k 0 = 1) :
    OwnL N w1 v1 (comeTo x (k + 1)) ∧ RefAt w1 b (tickTo x k) ∧ Only b b w w1 ∧ N ≤ w1.heap.size := by
  have hb : ∀ j, j < N → w1.heap[j]? = wr.heap[j]? := fun j hj => by
    have e1 : (wr.alloc o).heap[j]? = wr.heap[j]? := ((Below.refl wr.heap.size wr).alloc (Nat.le_refl _) o).block j (by have := h.size; omega)
    rw [← e1]
    exact hg.block j (by have := h.size; simp; omega) (fun e => by have := (World.ownsRow.lt h.own j e.symm).1; omega)
  refine ⟨?_, h.ref.of (hb b h.lt), ?_, ?_⟩
  · unfold OwnL
    rw [comeTo_succ, if_pos h1, List.length_append, ints_app]
    exact hown
  · have hs := hg.size
    simp at hs
    exact ⟨hg.os.trans h.only.os, hg.tape.trans h.only.tape, hg.output.trans h.only.output, by have := h.only.size; omega, fun j hj k1 k2 => (hb j (by have := h.base; omega)).trans (h.only.block j hj k1 k2)⟩
  · have hs := hg.size
    have := h.size
    simp at hs
    omega

theorem TickS.put {b N k : Nat} {x : Wh} {w wr : World} {v : Value} (hl : x.length = 16) (hk : k < 16) (h : OwnL N wr v (comeTo x (k + 1)) ∧ RefAt wr b (tickTo x k) ∧ Only b b w wr ∧ N ≤ wr.heap.size) (hlt : b < N) (hbase : w.heap.size = N) :
    TickS b N x w (wr.setCell ⟨b, k, none⟩ (.int .i64 ((x.getD k 0 - 1 : Nat) : Int))) v (k + 1) := by
  obtain ⟨h1, h2, h3, h4⟩ := h
  have hle : x.getD k 0 - 1 ≤ 10000 := by
    have := h2.1.le k
    rw [tickTo_getD (by omega), if_neg (by omega)] at this
    omega
  refine ⟨?_, ?_, h3.trans (Only.set _ _ _ _ _), hlt, hbase, by simp [World.setCell]; exact h4⟩
  · refine World.ownsRow.kept h1 (row := some b) ⟨rfl, rfl, rfl, by simp [World.setCell], fun j _ hj => Below.heap_setCell _ _ _ _ (fun e => hj (by simp [e]))⟩ ?_
    rcases hv : v.ownBlock with _ | g
    · exact .inl rfl
    · refine .inr fun e => ?_
      injection e with e
      have := (World.ownsRow.lt h1 g hv).1
      omega
  · rw [← tickTo_succ (by omega)]
    exact h2.put k _ hk hle
theorem TickS.stay {b N k : Nat} {x : Wh} {w wr : World} {v : Value} (hl : x.length = 16) (hk : k < 16) (h : TickS b N x w wr v k) (h0 : x.getD k 0 = 0) : TickS b N x w wr v (k + 1) :=
  ⟨by rw [comeTo_succ, if_neg (by omega), List.append_nil]; exact h.own, by rw [← tickTo_same (by omega) h0]; exact h.ref, h.only, h.lt, h.base, h.size⟩
theorem TickS.more {b N k : Nat} {x : Wh} {w wr : World} {v : Value} (h : TickS b N x w wr v k) (h1 : ¬ x.getD k 0 = 1) :
    OwnL N wr v (comeTo x (k + 1)) ∧ RefAt wr b (tickTo x k) ∧ Only b b w wr ∧ N ≤ wr.heap.size :=
  ⟨by rw [comeTo_succ, if_neg h1, List.append_nil]; exact h.own, h.ref, h.only, h.size⟩
theorem more_drew {b N k : Nat} {x : Wh} {w wr : World} {v : Value} (h : OwnL N wr v (comeTo x (k + 1)) ∧ RefAt wr b (tickTo x k) ∧ Only b b w wr ∧ N ≤ wr.heap.size) :
    OwnL N wr.drew v (comeTo x (k + 1)) ∧ RefAt wr.drew b (tickTo x k) ∧ Only b b w wr.drew ∧ N ≤ wr.drew.heap.size := ⟨h.1, h.2.1, h.2.2.1.drew, h.2.2.2⟩

def RefComes (b : Nat) (l : List Nat) (x : Wh) (w : World) (e : Ending) (w' : World) : Prop :=
  ∃ v, e = .returned v ∧ OwnL w.heap.size w' v l ∧ RefAt w' b x ∧ Only b b w w'

set_option maxRecDepth 100000 in
set_option maxHeartbeats 4000000 in
theorem rtick_any (b : Nat) (x : Wh) (w : World) (hx : RefAt w b x) :
    Calls Try.prog 14 #[.pointer (some ⟨b, 0, none⟩)] w (RefComes b (comeL x) (tickX x) w) := by
  obtain ⟨i0, hi, hz0, hz1, hz2⟩ := info_parts infoInt
  have HI := Lib.hid (⟨hi, hz0, hz1, hz2⟩ : _ ∧ _ ∧ _ ∧ _)
  clear hi hz0 hz1 hz2
  have hl := hx.1.len
  have HL := Lib.hid hl
  have HOk := Lib.hid hx.1
  have HS : Hid (TickS b w.heap.size x w w (.slice none 0 0) 0) := Lib.hid ⟨World.ownsRow_nil _ _ _ _, by rw [tickTo_zero]; exact hx, Only.refl _ _ _, hx.lt, rfl, Nat.le_refl _⟩
  clear hx hl
  go_enter Try.func14, Try.ntmps14
  go_wp2
  generalize hN : w.heap.size = N at *
  have HN := Lib.hid hN
  clear hN
  go_loopw [3, 4] (fun v i wr => ∃ k : Nat, k ≤ 16 ∧ i = .int .i64 k ∧ Hid (TickS b N x w wr v k)) (fun _ i _ => 16 - (intOf i).toNat)
  case atStart => exact ⟨0, Nat.zero_le _, rfl, HS⟩
  case round =>
    clear HS
    obtain ⟨k, hk, rfl, hS⟩ := hrel
    obtain ⟨A, c, rfl⟩ := own_form hS.out.own
    by_cases hlt : k < 16
    · have hle := HOk.out.le k
      obtain ⟨c0, f0⟩ := hS.out.ref.2 k hlt
      rw [tickTo_getD (by rw [HL.out]; omega), if_neg (by omega)] at c0
      have hsz := hS.out.size
      have hbN := hS.out.lt
      by_cases h1 : x.getD k 0 = 1
      · rw [h1] at c0
        have hcl := comeTo_le x k
        have HO := Lib.hid (World.ownsRow.alloc hS.out.own (.cells #[.int .i64 (k : Int)] 3))
        go_wp2_with (at_builtin; refine wpList_append_own _ rfl (.tmp 15) (.tmp 17) 35 rfl N 3 i0 (.int .i64 0) 1 8 Try.underlying35 HI.out.1 HI.out.2.1 HI.out.2.2.1 HI.out.2.2.2 rfl (by decide) _ (comeTo x k).length (ints (comeTo x k)) rfl HO.out ⟨wr.heap.size, 0, none⟩ 1 1 [.int .i64 (k : Int)] rfl rfl (cell_one_new _ _ _) (by intro u hu; simp at hu; subst hu; rfl) (by unfold maxLen; omega) (by omega) (by simp; omega) ?_)
        intro v1 w1 hown hgrow _
        have hG := hS.out.grown hown _ hgrow h1
        clear hown hgrow HO
        obtain ⟨c1, f1⟩ := hG.2.1.2 k hlt
        rw [tickTo_getD (by rw [HL.out]; omega), if_neg (by omega), h1] at c1
        have HG := Lib.hid hG
        clear hG c0 f0
        go_wp2
        go_region
        all_goals
          go_wp2
          go_roundw
          case rel =>
            refine ⟨k + 1, by omega, by go_num, Lib.hid ?_⟩
            have := TickS.put HL.out hlt (more_drew HG.out) hbN HN.out
            rw [h1] at this
            exact this
          case measure => simp [intOf]; omega
      · by_cases h0 : x.getD k 0 = 0
        · rw [h0] at c0
          have hT := Lib.hid (hS.out.stay HL.out hlt h0)
          go_wp2
          go_roundw
          case rel => exact ⟨k + 1, by omega, by go_num, hT⟩
          case measure => simp [intOf]; omega
        · have HG := Lib.hid (hS.out.more h1)
          have hsub : ((x.getD k 0 - 1 : Nat) : Int) = (x.getD k 0 : Nat) - 1 := by omega
          have HP := Lib.hid (TickS.put HL.out hlt (more_drew HG.out) hbN HN.out)
          rw [hsub] at HP
          have hv1 : (1 : Int) < (x.getD k 0 : Nat) := by omega
          have hv2 : ((x.getD k 0 : Nat) : Int) ≤ 10000 := by omega
          clear h0 h1 hle hsub HG
          generalize ((x.getD k 0 : Nat) : Int) = V at *
          go_wp2
          go_region
          all_goals
            go_wp2
            go_roundw
            case rel => exact ⟨k + 1, by omega, by go_num, HP⟩
            case measure => simp [intOf]; omega
    · obtain rfl : k = 16 := by omega
      go_wp2
      go_ret
      refine ⟨_, rfl, ?_, ?_, hS.out.only⟩
      · rw [HN.out]; exact hS.out.own
      · rw [← tickTo_all HL.out]; exact hS.out.ref

end Go.Proofs.Ytmjbdpgjalkbpaa.Whl
