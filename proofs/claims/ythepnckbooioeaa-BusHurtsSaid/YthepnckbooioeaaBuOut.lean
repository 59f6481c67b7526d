/-
  The reference's bus: one piece less, walked. Conditions: none.
-/
import Derived.Test.YthepnckbooioeaaBuAdd
import Derived.LoopTactic
import Derived.Deep.RegionHeldLaw
namespace Go.Proofs.Ythepnckbooioeaa.Bus
open Go.RowKit

theorem own_base {w : World} {base n size : Nat} {e : TypeId} {v : Value} {xs : List Value} (h : w.ownsRow base e size v n xs) (g : Nat) (hg : v.ownBlock = some g) : base ≤ g := (World.ownsRow.lt h g hg).1
/-- What the loop over the pieces stands on. -/
def Wo (w wr : World) (l : List Pc) (j : Nat) (v : Value) (k : Nat) : Prop :=
  Below w.heap.size w wr ∧ w.heap.size ≤ wr.heap.size ∧ wr.ownsRow w.heap.size 43 4 v (skipTo l j k).length (flat (skipTo l j k))
theorem Wo.form {w wr : World} {l : List Pc} {j k : Nat} {v : Value} (h : Wo w wr l j v k) : ∃ A c, v = .slice A (skipTo l j k).length c := by
  rcases h.2.2.2 with ⟨rfl, h0⟩ | ⟨g, cap, cur, rfl, _⟩
  · exact ⟨none, 0, by rw [h0]⟩
  · exact ⟨_, _, rfl⟩
theorem Wo.next {w wr W w3 : World} {l : List Pc} {j k g c : Nat} {v : Value} (h : Wo w wr l j v k) (hk : k < l.length) (hne : k ≠ j) (hW : Below wr.heap.size wr W)
    (hown : w3.ownsRow w.heap.size 43 4 (.slice (some ⟨g, 0, none⟩) ((skipTo l j k).length + 1) c) ((skipTo l j k).length + 1) (flat (skipTo l j k) ++ cells4 l[k])) (hg : W.grownBy w3 v.ownBlock) : Wo w w3 l j (.slice (some ⟨g, 0, none⟩) ((skipTo l j k).length + 1) c) (k + 1) := by
  obtain ⟨h1, h2, h3⟩ := h
  refine ⟨(h1.trans (hW.mono h2)).grown hg (Nat.le_trans h2 hW.size) (own_base h3), Nat.le_trans h2 (Nat.le_trans hW.size hg.size), ?_⟩
  rw [skip_more l j k hk hne, flat_app, List.length_append]
  simpa [flat] using hown

theorem cells_of {w wr : World} {l : List Pc} {g c k : Nat} (ho : w.ownsRow 0 43 4 (.slice (some ⟨g, 0, none⟩) l.length c) l.length (flat l)) (hb : wr.heap[g]? = w.heap[g]?) (hk : k < l.length) :
    wr.cell? ⟨g, k * 4, none⟩ = some (.string l[k].b) ∧ wr.cell? ⟨g, k * 4 + 1, none⟩ = some (.int .i64 l[k].src) ∧ wr.cell? ⟨g, k * 4 + 2, none⟩ = some (.int .u32 (l[k].to.toNat : Int)) ∧ wr.cell? ⟨g, k * 4 + 3, none⟩ = some (.bool l[k].hurt) := by
  have h : ∀ j, j < 4 → wr.cell? ⟨g, k * 4 + j, none⟩ = (cells4 l[k])[j]? := fun j hj =>
    ((World.cell?_of_block (a := ⟨g, k * 4 + j, none⟩) hb).trans (World.ownsRow.cellAt ho (k * 4 + j) (by omega))).trans (flat_at l k j hk hj)
  exact ⟨h 0 (by omega), h 1 (by omega), h 2 (by omega), h 3 (by omega)⟩
theorem own_zero {w : World} {N n : Nat} {v : Value} {xs : List Value} (h : w.ownsRow N 43 4 v n xs) : w.ownsRow 0 43 4 v n xs := by
  rcases h.2 with ⟨rfl, h0⟩ | ⟨g, cap, cur, rfl, hN, h'⟩
  · exact ⟨h.1, .inl ⟨rfl, h0⟩⟩
  · exact ⟨h.1, .inr ⟨g, cap, cur, rfl, Nat.zero_le _, h'⟩⟩

theorem out_done {w wr : World} {b j : Nat} {v v0 : Value} {x : Bs} (c0 : w.cell? ⟨b, 0, none⟩ = some v0) (c1 : w.cell? ⟨b, 1, none⟩ = some (.bool x.f)) (f0 : w.frozen? ⟨b, 0, none⟩ = false) (f1 : w.frozen? ⟨b, 1, none⟩ = false) (hok : x.Ok)
    (h : Wo w wr x.l j v x.l.length) {r : Value} : Done refFace b (b :: v0.ownBlock.toList) r (lessX x j) w (.returned r) (wr.setCell ⟨b, 0, none⟩ v) := by
  obtain ⟨h1, h2, h3⟩ := h
  have hbw : b < w.heap.size := World.block_lt_of_cell? w ⟨b, 0, none⟩ c0
  have hb := h1.block b hbw
  rw [skip_all] at h3
  have hlt : ∀ k, v.ownBlock = some k → w.heap.size ≤ k ∧ k < wr.heap.size := World.ownsRow.lt h3
  have hR := RefAt.row (v := v) ((World.cell?_of_block (a := ⟨b, 0, none⟩) hb).trans c0) ((World.cell?_of_block (a := ⟨b, 1, none⟩) hb).trans c1) ((World.frozen?_of_block (a := ⟨b, 0, none⟩) hb).trans f0) ((World.frozen?_of_block (a := ⟨b, 1, none⟩) hb).trans f1) (own_zero h3)
    (fun e => by have := hlt b e; omega) (less_ok hok j)
  refine ⟨rfl, _, hR, (OnlyL.of_below h1).trans (OnlyL.set (ms := [b]) (by simp) 0 v) ?_, ?_⟩
  · intro k hk
    simp at hk
    subst hk
    exact .inl (by simp)
  · intro k hk
    simp at hk
    rcases hk with rfl | hk
    · exact .inl (by simp)
    · exact .inr (hlt k hk).1

set_option maxRecDepth 100000 in
set_option maxHeartbeats 4000000 in
theorem rwithout_any (b : Nat) (ms : List Nat) (x : Bs) (j : Nat) (w : World) (hx : RefAt w b ms x) (hj : j < x.l.length) :
    Calls Try.prog 41 #[.pointer (some ⟨b, 0, none⟩), .int .i64 j] w (Done refFace b ms (.tuple #[]) (lessX x j) w) := by
  obtain ⟨v, rfl, c0, c1, f0, f1, ho, hne, hok⟩ := hx
  have hbw : b < w.heap.size := World.block_lt_of_cell? w ⟨b, 0, none⟩ c0
  obtain ⟨g0, cp0, rfl⟩ : ∃ g cp, v = .slice (some ⟨g, 0, none⟩) x.l.length cp := by
    rcases ho.2 with ⟨rfl, h0⟩ | ⟨g, cap, cur, rfl, _⟩
    · omega
    · exact ⟨g, cap, rfl⟩
  have hg0 : g0 < w.heap.size := (World.ownsRow.lt ho g0 rfl).2
  have hle := hok.len
  obtain ⟨i0, hi0, hi1, hi2, hi3⟩ := pc_parts
  have HI := Lib.hid (⟨hi0, hi1, hi2, hi3⟩ : _ ∧ _ ∧ _ ∧ _)
  clear hi0 hi1 hi2 hi3
  have HO := Lib.hid ho
  have HC := Lib.hid (⟨c0, c1, f0, f1, hok⟩ : _ ∧ _ ∧ _ ∧ _ ∧ _)
  have HD := Lib.hid (fun (wr : World) (v : Value) (h : Wo w wr x.l j v x.l.length) => out_done c0 c1 f0 f1 hok h (r := .tuple #[]))
  clear ho hne hok c0 c1 f0 f1
  have HW0 := Lib.hid (show Wo w w x.l j (.slice none 0 0) 0 from ⟨Below.refl _ _, Nat.le_refl _, by rw [skip_zero]; exact World.ownsRow_nil _ _ _ _⟩)
  go_enter Try.func41, Try.ntmps41
  go_wp2
  go_loopw [4, 5] (fun v i wr => ∃ k : Nat, k ≤ x.l.length ∧ i = .int .i64 k ∧ Hid (Wo w wr x.l j v k)) (fun _ i _ => x.l.length - (intOf i).toNat)
  case atStart => exact ⟨0, Nat.zero_le _, rfl, HW0⟩
  case round =>
    obtain ⟨k, hk, rfl, hw⟩ := hrel
    obtain ⟨A, d, rfl⟩ := hw.out.form
    have hb := hw.out.1.block b hbw
    have e0 := (World.cell?_of_block (a := ⟨b, 0, none⟩) hb).trans HC.out.1
    have r0 := (World.frozen?_of_block (a := ⟨b, 0, none⟩) hb).trans HC.out.2.2.1
    clear hb
    by_cases hlt : k < x.l.length
    · have hI : (k : Int) < (x.l.length : Int) := by omega
      by_cases hkj : k = j
      · subst hkj
        have hw2 := Lib.hid (show Wo w wr x.l k _ (k + 1) from by have := hw.out; unfold Wo at *; rw [skip_same _ _ hj]; exact this)
        go_wp2
        go_roundw
        case rel => exact ⟨k + 1, by omega, by go_num, hw2⟩
        case measure => simp [intOf]; omega
      · have hij : ¬ (k : Int) = (j : Int) := by omega
        have HN := Lib.hid (fun (w3 : World) (g c : Nat) => hw.out.next (w3 := w3) (g := g) (c := c) (W := wr.alloc (.cells #[.string x.l[k].b, .int .i64 x.l[k].src, .int .u32 (x.l[k].to.toNat : Int), .bool x.l[k].hurt] 43)) hlt hkj ((Below.refl _ _).alloc (Nat.le_refl _) _))
        have HOk := Lib.hid (hw.out.2.2.alloc (.cells #[.string x.l[k].b, .int .i64 x.l[k].src, .int .u32 (x.l[k].to.toNat : Int), .bool x.l[k].hurt] 43))
        have hsk : (skipTo x.l j k).length ≤ 64 := by
          have := List.length_eraseIdx_le (x.l.take k) j
          have h2 : (x.l.take k).length ≤ 64 := by rw [List.length_take]; omega
          unfold skipTo; omega
        have hsz : w.heap.size ≤ wr.heap.size := hw.out.2.1
        obtain ⟨q0, q1, q2, q3⟩ := cells_of HO.out (hw.out.1.block g0 hg0) hlt
        generalize hy : skipTo x.l j k = y at *
        go_wp2_with (at_builtin; refine wpList_append_lies _ rfl (.tmp 18) (.tmp 26) 28 rfl w.heap.size 43 i0 (.agg #[.string ⟨#[]⟩, .int .i64 0, .int .u32 0, .bool false]) 4 32 Try.underlying28 HI.out.1 HI.out.2.1 HI.out.2.2.1 HI.out.2.2.2 rfl (by decide) _ y.length (flat y) rfl HOk.out ⟨wr.heap.size, 0, none⟩ 1 1 (cells4 x.l[k]) rfl rfl (laid_piece _ _ _ rfl) (by intro u hu; simp [cells4] at hu; rcases hu with rfl | rfl | rfl | rfl <;> rfl) (by decide) (by unfold maxLen; omega) (by omega) (by simp; omega) _ rfl ?_)
        intro g1 c1 w1 hown hgr hat hlt1
        have hw2 := Lib.hid (HN.out _ _ _ hown hgr)
        clear hown hgr hat HOk
        go_wp2
        go_roundw
        case rel => exact ⟨k + 1, by omega, by go_num, hw2⟩
        case measure => simp [intOf]; omega
    · obtain rfl : k = x.l.length := by omega
      go_wp2
      refine bodyPost_end (results_none rfl _ _ _) rfl ?_
      exact HD.out _ _ hw.out

end Go.Proofs.Ythepnckbooioeaa.Bus
