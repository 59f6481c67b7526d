/-
  The landed code's do, walked: brackets; all operations. Conditions: as each states.
-/
import Derived.Test.YtbjmdehfdnpljaaVmDob
import Derived.Deep.AppendLies
import Derived.Laws.OwnMore
import Derived.Deep.RegionLaw
namespace Go.Proofs.Ytbjmdehfdnpljaa.Vm
open Go.RowKit
open Go.Proofs.Ytbjmdehfdnpljaa.Il hiding Next S S_size S_app S_inj S_list
open Go.Proofs.Ytbjmdehfdnpljaa.Ic Go.Proofs.Ytbjmdehfdnpljaa.Ve
open Oct

theorem Try.infoBr : (Try.prog.info? 97).map (fun i => (i.zero, i.size, i.bytes)) = some (some (.agg #[.int .i64 0, .int .i64 0, .int .i64 0]), 3, 24) := by kernel_rfl
section
variable {N g : Nat} {p : Int} {s : St} {ov : Value}
theorem flatK_app (a b : List Bk) : flatK (a ++ b) = flatK a ++ flatK b := by unfold flatK; rw [List.flatMap_append]
/-- A bracket more: the row behind an append, and the run that names it. -/
theorem pushed {X W1 : World} {ov1 : Value} {b : Bk} {g1 H : Nat} (h : RunAt X N g p s ov) (hown : W1.ownsRow N 97 3 ov1 (s.op.length + 1) (flatK s.op ++ brkC b)) (hgr : X.grownBy W1 ov.ownBlock) (hb : ov1.ownBlock = some g1) (hat : ov.ownBlock = some g1 ∨ g1 = H) (hH : X.heap.size = H) :
    W1.cell? ⟨g, 259, none⟩ = some ov ∧ W1.frozen? ⟨g, 259, none⟩ = false ∧ g < W1.heap.size ∧ Now N g p ⟨s.A, s.kd, s.v, s.op ++ [b], s.z⟩ ov X (W1.setCell ⟨g, 259, none⟩ ov1) ov1 := by
  have hne : some g ≠ ov.ownBlock := fun e => h.far g e.symm rfl
  have hblk : W1.heap[g]? = _ := (hgr.block g h.lt hne).trans h.blk
  have hl : W1.ownsRow N 97 3 ov1 (s.op ++ [b]).length (flatK (s.op ++ [b])) := by
    rw [List.length_append, flatK_app]
    have e : flatK [b] = brkC b := by simp [flatK]
    rw [e]
    exact hown
  have hR : RunAt (W1.setCell ⟨g, 259, none⟩ ov1) N g p ⟨s.A, s.kd, s.v, s.op ++ [b], s.z⟩ ov1 := by
    have hne1 : ov1.ownBlock = none ∨ ov1.ownBlock ≠ some g := by
      refine .inr (fun e => ?_)
      rcases hl.2 with ⟨rfl, _⟩ | ⟨g', cap, cur, rfl, _, hg, _⟩
      · simp [Value.ownBlock] at e
      · simp [Value.ownBlock] at e
        subst e
        rw [hblk] at hg
        injection hg with hg
        injection hg with _ hg
        exact absurd hg (by decide)
    refine ⟨h.lo, ?_, World.ownsRow.kept hl (only_setv W1 g 259 ov1) hne1, h.ok⟩
    rw [heap_set hblk]
    congr 2
    apply Array.toList_inj.1
    rw [Array.toList_setIfInBounds]
    unfold runC
    dsimp only
    rw [show (259 : Nat) = 256 + 3 from rfl, List.set_append_right _ _ (by rw [ar_256 h.ok]; omega), ar_256 h.ok, Nat.add_sub_cancel_left]
    rfl
  refine ⟨(hgr.cell_far ⟨g, 259, none⟩ h.lt hne).trans h.opn, (hgr.frozen_far ⟨g, 259, none⟩ h.lt hne).trans (h.free 259), Nat.lt_of_lt_of_le h.lt hgr.size, hR, ⟨hgr.os, hgr.tape, hgr.output, ?_, fun k hk hkg hko => ?_⟩, ?_⟩
  · have := hgr.size
    simpa using this
  · rw [heap_setCell_other _ _ _ _ (by simpa using hkg)]
    exact hgr.block k hk (fun e => hko e.symm)
  · rcases hat with e | e
    · exact .inl (hb.trans e.symm)
    · refine .inr (fun k hk => ?_)
      rw [hb] at hk
      injection hk with hk
      omega
theorem laid_brk (W : World) (b : Bk) (t : TypeId) : ∀ j u, (brkC b)[j]? = some u → (W.alloc (.cells #[.int .i64 b.1, .int .i64 b.2.1, .int .i64 b.2.2] t)).cell? ((⟨W.heap.size, 0, none⟩ : Addr).add j) = some u :=
  World.news_of_block (cs := #[.int .i64 b.1, .int .i64 b.2.1, .int .i64 b.2.2]) (heap_alloc_new W _)
set_option maxRecDepth 100000 in
set_option maxHeartbeats 4000000 in
theorem do_32 (w : World) (h : RunAt w N g p s ov) (_hN : N ≤ w.heap.size) (kd ar pl n : Int) (hl : s.op.length < 8) :
    Calls Try.prog 27 #[.pointer (some ⟨g, 0, none⟩), insV ⟨32, kd, ar, pl, n⟩] w fun e w' => e = .returned (.tuple #[]) ∧ Steps N g p ⟨s.A, 0, 0, s.op ++ [(pl, s.kd, s.v)], s.z⟩ ov w w' := by
  have HR := Lib.hid (Nb.new h ⟨32, kd, ar, pl, n⟩ 54)
  have hlt := Lib.hid h.lt
  have hov := Lib.hid (own_new h)
  clear h
  unfold insV
  go_enter Try.func27, Try.ntmps27
  go_wp2_with fail
  refine world_cutR (G := fun W => Code.wp _ _ _ _ W) (fun W => Nb N g p s ov w w.heap.size ⟨32, kd, ar, pl, n⟩ W ov) HR.out ?_
  rintro W hW
  obtain ⟨c0, c1, c2, c3, c4⟩ := nb5 hW
  dsimp only at c0 c1 c2 c3 c4
  have d0 := hW.now.at_.val
  have d1 := hW.now.at_.kd
  have d2 := hW.now.at_.opn
  have lg := hW.now.at_.lt
  have HX := Lib.hid (hW.now.drew.next ((Below.refl _ _).alloc (Nat.le_refl _) (.cells #[.int .i64 pl, .int .i64 s.kd, .int .i64 s.v] 97)))
  have hlo := hW.now.at_.lo
  clear HR hW
  obtain ⟨i0, hi0, hi1, hi2, hi3⟩ := info_parts Try.infoBr
  generalize hbb : w.heap.size = b at *
  replace hbb := Lib.hid hbb
  go_region_law ((refine step_append_lies _ (by rfl) (.tmp 98) (.tmp 110) 73 (by rfl) N 97 i0 (.agg #[.int .i64 0, .int .i64 0, .int .i64 0]) 3 24 Try.underlying73 hi0 hi1 hi2 hi3 rfl (by decide) _ s.op.length (flatK s.op) (by simp [Act.eval]) HX.out.at_.own ⟨W.heap.size, 0, none⟩ 1 1 (brkC (pl, s.kd, s.v)) (by simp [Act.eval]) rfl (laid_brk W.drew (pl, s.kd, s.v) 97) (by intro u hu; simp [brkC] at hu; rcases hu with rfl | rfl | rfl <;> rfl) (by decide) (by unfold maxLen; omega) (by omega) (by simp; omega) _ rfl ?_; intro g1 cp1 W1 hown1 hgr1 hat1 hlt1; have HQ1 := pushed HX.out.at_ hown1 hgr1 rfl hat1 rfl; have q0 := HQ1.1; have qf := HQ1.2.1; have ql := HQ1.2.2.1; have HQ2 := Lib.hid (HX.out.trans HQ1.2.2.2)))
  all_goals
    have z7 := HQ2.out.at_.kd
    have z8 := HQ2.out.at_.val
    have g7 := HQ2.out.at_.free 257
    have g8 := HQ2.out.at_.free 258
    have lq := HQ2.out.at_.lt
    have HQ3 := Lib.hid ((HQ2.out.kind 0).value 0)
    clear HX hlo d0 d1 d2 c0 c1 c2 c3 c4 lg hown1 hgr1 hat1 hlt1 HQ1 q0 qf ql HQ2
    generalize (W1.setCell ⟨g, 259, none⟩ (.slice (some ⟨g1, 0, none⟩) (s.op.length + 1) cp1)) = W2 at *
    go_wp2
    go_end0
    exact ⟨rfl, ⟨_, HQ3.out⟩⟩

end
end Go.Proofs.Ytbjmdehfdnpljaa.Vm
