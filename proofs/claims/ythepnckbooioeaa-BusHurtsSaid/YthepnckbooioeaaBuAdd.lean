/-
  The reference's bus: one piece more where there is room, walked. Conditions: none.
-/
import Derived.Test.YthepnckbooioeaaBuRef
import Derived.Deep.AppendLies
import Derived.Deep.RegionLaw
namespace Go.Proofs.Ythepnckbooioeaa.Bus
open Go.RowKit

/-- What an append to the row and the store of its head leave. -/
theorem grown_done {w W w1 : World} {b g cap : Nat} {v : Value} {x : Bs} {p : Pc} (hW : Below w.heap.size w W) (c0 : w.cell? ⟨b, 0, none⟩ = some v) (c1 : w.cell? ⟨b, 1, none⟩ = some (.bool x.f)) (f0 : w.frozen? ⟨b, 0, none⟩ = false) (f1 : w.frozen? ⟨b, 1, none⟩ = false)
    (hne : v.ownBlock ≠ some b) (hok : Bs.Ok ⟨x.l ++ [p], x.f⟩) (hown : w1.ownsRow 0 43 4 (.slice (some ⟨g, 0, none⟩) (x.l.length + 1) cap) (x.l.length + 1) (flat x.l ++ cells4 p)) (hgr : W.grownBy w1 v.ownBlock) (hat : v.ownBlock = some g ∨ g = W.heap.size)
    {r : Value} : Done refFace b (b :: v.ownBlock.toList) r ⟨x.l ++ [p], x.f⟩ w (.returned r) (w1.setCell ⟨b, 0, none⟩ (.slice (some ⟨g, 0, none⟩) (x.l.length + 1) cap)) := by
  have hbw : b < w.heap.size := World.block_lt_of_cell? w ⟨b, 0, none⟩ c0
  have hS := hW.size
  have hbk := hW.block b hbw
  have d0 := grown_cell hgr hS hbk c0 hne
  have d1 := grown_cell hgr hS hbk c1 hne
  have e0 := grown_frozen hgr (Nat.lt_of_lt_of_le hbw hS) hbk f0 hne
  have e1 := grown_frozen hgr (Nat.lt_of_lt_of_le hbw hS) hbk f1 hne
  have hgb : (Value.slice (some ⟨g, 0, none⟩) (x.l.length + 1) cap).ownBlock ≠ some b := by
    intro e
    have e : g = b := by simpa [Value.ownBlock] using e
    subst e
    rcases hat with h | h
    · exact hne h
    · exact absurd hbw (by rw [h]; omega)
  have ho : w1.ownsRow 0 43 4 (.slice (some ⟨g, 0, none⟩) (x.l.length + 1) cap) (x.l ++ [p]).length (flat (x.l ++ [p])) := by
    rw [flat_app, List.length_append]
    simpa [flat] using hown
  have hR := RefAt.row (v := .slice (some ⟨g, 0, none⟩) (x.l.length + 1) cap) d0 d1 e0 e1 ho hgb hok
  refine ⟨rfl, _, hR, ⟨?_, ?_, ?_, ?_, ?_⟩, ?_⟩
  · exact hgr.os.trans hW.os
  · exact hgr.tape.trans hW.tape
  · exact hgr.output.trans hW.output
  · have h1 := hgr.size
    simp [World.setCell]
    omega
  · intro k hk hm
    simp at hm
    rw [set_block _ _ _ _ _ hm.1, hgr.block k (by omega) (fun e => hm.2 (by rw [← e])), hW.block k hk]
  · intro j hj
    simp [Value.ownBlock] at hj
    rcases hj with rfl | rfl
    · exact .inl (by simp)
    · rcases hat with h | h
      · exact .inl (by simp [h])
      · exact .inr (by omega)

set_option maxRecDepth 100000 in
set_option maxHeartbeats 4000000 in
theorem radd_more (b : Nat) (ms : List Nat) (x : Bs) (p : Pc) (w : World) (hx : RefAt w b ms x) (hp : p.b.size ≤ 255) (hl : ¬ x.l.length = 64) :
    Calls Try.prog 37 #[.pointer (some ⟨b, 0, none⟩), .agg #[.string p.b, .int .i64 p.src, .int .u32 (p.to.toNat : Int), .bool p.hurt]] w (Done refFace b ms (.int .i64 0) ⟨x.l ++ [p], x.f⟩ w) := by
  obtain ⟨v, rfl, c0, c1, f0, f1, ho, hne, hok⟩ := hx
  have hbw : b < w.heap.size := World.block_lt_of_cell? w ⟨b, 0, none⟩ c0
  have hfm : ∃ A c, v = .slice A x.l.length c := by
    rcases ho.2 with ⟨rfl, h0⟩ | ⟨g, cap, cur, rfl, _⟩
    · exact ⟨none, 0, by rw [h0]⟩
    · exact ⟨_, _, rfl⟩
  obtain ⟨A, c, rfl⟩ := hfm
  have hle := hok.len
  have hli : ¬ (x.l.length : Int) = 64 := by omega
  have hl2 : (x.l.length : Int) < 64 := by omega
  go_enter Try.func37, Try.ntmps37
  obtain ⟨i0, hi0, hi1, hi2, hi3⟩ := pc_parts
  have HI := Lib.hid (⟨hi0, hi1, hi2, hi3⟩ : _ ∧ _ ∧ _ ∧ _)
  clear hi0 hi1 hi2 hi3
  go_wp2_with fail
  have hk := (BoxP.new w p 43)
  have k0 := hk.1
  have k1 := hk.2.1
  have k2 := hk.2.2.1
  have k3 := hk.2.2.2
  have HO := Lib.hid (World.ownsRow.alloc (World.ownsRow.alloc ho (.cells #[.string p.b, .int .i64 p.src, .int .u32 (p.to.toNat : Int), .bool p.hurt] 43)) (.cells #[.string p.b, .int .i64 p.src, .int .u32 (p.to.toNat : Int), .bool p.hurt] 43))
  have HBk := Lib.hid ((((Below.refl w.heap.size w).alloc (Nat.le_refl _) (.cells #[.string p.b, .int .i64 p.src, .int .u32 (p.to.toNat : Int), .bool p.hurt] 43)).alloc (by simp) (.cells #[.string p.b, .int .i64 p.src, .int .u32 (p.to.toNat : Int), .bool p.hurt] 43)).block b hbw)
  have HBs := Lib.hid (show w.heap.size ≤ ((w.alloc (.cells #[.string p.b, .int .i64 p.src, .int .u32 (p.to.toNat : Int), .bool p.hurt] 43)).alloc (.cells #[.string p.b, .int .i64 p.src, .int .u32 (p.to.toNat : Int), .bool p.hurt] 43)).heap.size by simp; omega)
  have HW := Lib.hid ((((Below.refl w.heap.size w).alloc (Nat.le_refl _) (.cells #[.string p.b, .int .i64 p.src, .int .u32 (p.to.toNat : Int), .bool p.hurt] 43)).alloc (by simp) (.cells #[.string p.b, .int .i64 p.src, .int .u32 (p.to.toNat : Int), .bool p.hurt] 43)).drew)
  have HC := Lib.hid (⟨c0, c1, f0, f1, hne, hok⟩ : _ ∧ _ ∧ _ ∧ _ ∧ _ ∧ _)
  clear ho hne hok hk
  go_region_law ((refine step_append_lies _ (by rfl) (.tmp 18) (.tmp 20) 28 (by rfl) 0 43 i0 (.agg #[.string ⟨#[]⟩, .int .i64 0, .int .u32 0, .bool false]) 4 32 Try.underlying28 HI.out.1 HI.out.2.1 HI.out.2.2.1 HI.out.2.2.2 rfl (by decide) _ x.l.length (flat x.l) (by simp [Act.eval]) HO.out ⟨w.heap.size + 1, 0, none⟩ 1 1 (cells4 p) (by simp [Act.eval]) rfl (laid_piece _ _ _ (by simp)) (by intro u hu; simp [cells4] at hu; rcases hu with rfl | rfl | rfl | rfl <;> rfl) (by decide) (by unfold maxLen; omega) (by omega) (Nat.zero_le _) _ rfl ?_; intro g1 cp1 w1 hown hgr hat hlt; have q0 := grown_cell hgr HBs.out HBk.out HC.out.1 HC.out.2.2.2.2.1; have q1 := grown_frozen hgr (Nat.lt_of_lt_of_le hbw HBs.out) HBk.out HC.out.2.2.1 HC.out.2.2.2.2.1))
  all_goals
    go_wp2
    go_ret
    exact grown_done HW.out HC.out.1 HC.out.2.1 HC.out.2.2.1 HC.out.2.2.2.1 HC.out.2.2.2.2.1 (by have := add_ok HC.out.2.2.2.2.2 p hp; simpa [addX, hl] using this) hown hgr hat

end Go.Proofs.Ythepnckbooioeaa.Bus
