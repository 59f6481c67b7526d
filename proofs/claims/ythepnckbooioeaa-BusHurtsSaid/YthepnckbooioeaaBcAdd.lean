/-
  The landed bus: one piece more, walked. Conditions: none.
-/
import Derived.Test.YthepnckbooioeaaBuOps
namespace Go.Proofs.Ythepnckbooioeaa.Bus
open Go.RowKit

set_option maxRecDepth 100000 in
set_option maxHeartbeats 4000000 in
theorem cadd_full (b : Nat) (ms : List Nat) (x : Bs) (p : Pc) (w : World) (hx : RefAt w b ms x) (hl : x.l.length = 64) :
    Calls Try.prog 32 #[.pointer (some ⟨b, 0, none⟩), .agg #[.string p.b, .int .i64 p.src, .int .u32 (p.to.toNat : Int), .bool p.hurt]] w (Done refFace b ms (.int .i64 8) ⟨x.l, true⟩ w) := by
  obtain ⟨v, rfl, c0, c1, f0, f1, ho, hne, hok⟩ := hx
  have hbw : b < w.heap.size := World.block_lt_of_cell? w ⟨b, 0, none⟩ c0
  have hfm : ∃ A c, v = .slice A x.l.length c := by
    rcases ho.2 with ⟨rfl, h0⟩ | ⟨g, cap, cur, rfl, _⟩
    · exact ⟨none, 0, by rw [h0]⟩
    · exact ⟨_, _, rfl⟩
  obtain ⟨A, c, rfl⟩ := hfm
  have hli : (x.l.length : Int) = 64 := by omega
  have hr : RefAt w b (b :: (Value.slice A x.l.length c).ownBlock.toList) x := ⟨_, rfl, c0, c1, f0, f1, ho, hne, hok⟩
  have HX := Lib.hid (hr.fault true)
  have HO := Lib.hid (OnlyL.set (ms := b :: (Value.slice A x.l.length c).ownBlock.toList) (w := w) (b := b) (by simp) 1 (.bool true))
  clear ho hne hok hr
  go_enter Try.func32, Try.ntmps32
  go_wp2
  go_ret
  exact ⟨rfl, _, Face.below (F := refFace) HX.out ((Below.refl _ _).alloc (Nat.le_refl _) _), HO.out.alloc _, fun j hj => .inl hj⟩

set_option maxRecDepth 100000 in
set_option maxHeartbeats 4000000 in
theorem cadd_more (b : Nat) (ms : List Nat) (x : Bs) (p : Pc) (w : World) (hx : RefAt w b ms x) (hp : p.b.size ≤ 255) (hl : ¬ x.l.length = 64) :
    Calls Try.prog 32 #[.pointer (some ⟨b, 0, none⟩), .agg #[.string p.b, .int .i64 p.src, .int .u32 (p.to.toNat : Int), .bool p.hurt]] w (Done refFace b ms (.int .i64 0) ⟨x.l ++ [p], x.f⟩ w) := by
  obtain ⟨v, rfl, c0, c1, f0, f1, ho, hne, hok⟩ := hx
  have hbw : b < w.heap.size := World.block_lt_of_cell? w ⟨b, 0, none⟩ c0
  have hfm : ∃ A c, v = .slice A x.l.length c := by
    rcases ho.2 with ⟨rfl, h0⟩ | ⟨g, cap, cur, rfl, _⟩
    · exact ⟨none, 0, by rw [h0]⟩
    · exact ⟨_, _, rfl⟩
  obtain ⟨A, c, rfl⟩ := hfm
  have hle := hok.len
  have hli : ¬ (x.l.length : Int) = 64 := by omega
  have hl2 : (x.l.length : Int) < 64 := by omega
  go_enter Try.func32, Try.ntmps32
  obtain ⟨i0, hi0, hi1, hi2, hi3⟩ := pc_parts
  have HI := Lib.hid (⟨hi0, hi1, hi2, hi3⟩ : _ ∧ _ ∧ _ ∧ _)
  clear hi0 hi1 hi2 hi3
  go_wp2_with fail
  have hk := (BoxP.new w p 43)
  have k0 := hk.1
  have k1 := hk.2.1
  have k2 := hk.2.2.1
  have k3 := hk.2.2.2
  have HO := Lib.hid (World.ownsRow.alloc (World.ownsRow.alloc ho (.cells #[.string p.b, .int .i64 p.src, .int .u32 (p.to.toNat : Int), .bool p.hurt] 43)) (.cells #[.string p.b, .int .i64 p.src, .int .u32 (p.to.toNat : Int), .bool p.hurt] 43))
  have HBk := Lib.hid ((((Below.refl w.heap.size w).alloc (Nat.le_refl _) (.cells #[.string p.b, .int .i64 p.src, .int .u32 (p.to.toNat : Int), .bool p.hurt] 43)).alloc (by simp) (.cells #[.string p.b, .int .i64 p.src, .int .u32 (p.to.toNat : Int), .bool p.hurt] 43)).block b hbw)
  have HBs := Lib.hid (show w.heap.size ≤ ((w.alloc (.cells #[.string p.b, .int .i64 p.src, .int .u32 (p.to.toNat : Int), .bool p.hurt] 43)).alloc (.cells #[.string p.b, .int .i64 p.src, .int .u32 (p.to.toNat : Int), .bool p.hurt] 43)).heap.size by simp; omega)
  have HW := Lib.hid ((((Below.refl w.heap.size w).alloc (Nat.le_refl _) (.cells #[.string p.b, .int .i64 p.src, .int .u32 (p.to.toNat : Int), .bool p.hurt] 43)).alloc (by simp) (.cells #[.string p.b, .int .i64 p.src, .int .u32 (p.to.toNat : Int), .bool p.hurt] 43)).drew)
  have HC := Lib.hid (⟨c0, c1, f0, f1, hne, hok⟩ : _ ∧ _ ∧ _ ∧ _ ∧ _ ∧ _)
  clear ho hne hok hk
  go_region_law ((refine step_append_lies _ (by rfl) (.tmp 18) (.tmp 20) 28 (by rfl) 0 43 i0 (.agg #[.string ⟨#[]⟩, .int .i64 0, .int .u32 0, .bool false]) 4 32 Try.underlying28 HI.out.1 HI.out.2.1 HI.out.2.2.1 HI.out.2.2.2 rfl (by decide) _ x.l.length (flat x.l) (by simp [Act.eval]) HO.out ⟨w.heap.size + 1, 0, none⟩ 1 1 (cells4 p) (by simp [Act.eval]) rfl (laid_piece _ _ _ (by simp)) (by intro u hu; simp [cells4] at hu; rcases hu with rfl | rfl | rfl | rfl <;> rfl) (by decide) (by unfold maxLen; omega) (by omega) (Nat.zero_le _) _ rfl ?_; intro g1 cp1 w1 hown hgr hat hlt; have q0 := grown_cell hgr HBs.out HBk.out HC.out.1 HC.out.2.2.2.2.1; have q1 := grown_frozen hgr (Nat.lt_of_lt_of_le hbw HBs.out) HBk.out HC.out.2.2.1 HC.out.2.2.2.2.1))
  all_goals
    go_wp2
    go_ret
    exact grown_done HW.out HC.out.1 HC.out.2.1 HC.out.2.2.1 HC.out.2.2.2.1 HC.out.2.2.2.2.1 (by have := add_ok HC.out.2.2.2.2.2 p hp; simpa [addX, hl] using this) hown hgr hat

theorem cadd_any (b : Nat) (ms : List Nat) (x : Bs) (p : Pc) (w : World) (hx : RefAt w b ms x) (hp : p.b.size ≤ 255) :
    Calls Try.prog 32 #[.pointer (some ⟨b, 0, none⟩), .agg #[.string p.b, .int .i64 p.src, .int .u32 (p.to.toNat : Int), .bool p.hurt]] w (Done refFace b ms (.int .i64 (addE x)) (addX x p) w) := by
  unfold addE addX
  by_cases hl : x.l.length = 64
  · rw [if_pos hl, if_pos hl]; exact cadd_full b ms x p w hx hl
  · rw [if_neg hl, if_neg hl]; exact cadd_more b ms x p w hx hp hl

end Go.Proofs.Ythepnckbooioeaa.Bus
