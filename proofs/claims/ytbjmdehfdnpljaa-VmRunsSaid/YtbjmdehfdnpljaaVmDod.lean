/-
  The landed code's do, walked: a bracket's end. Conditions: as each states.
-/
import Derived.Test.YtbjmdehfdnpljaaVmDoa
import Derived.Laws.OwnMore
namespace Go.Proofs.Ytbjmdehfdnpljaa.Vm
open Go.RowKit
open Go.Proofs.Ytbjmdehfdnpljaa.Il hiding Next S S_size S_app S_inj S_list
open Go.Proofs.Ytbjmdehfdnpljaa.Ic Go.Proofs.Ytbjmdehfdnpljaa.Ve
open Oct

section
variable {N g : Nat} {p : Int} {s : St} {ov : Value}
theorem last_form {l : List Bk} (h : l.length ≠ 0) : l = l.dropLast ++ [lastK l] := by
  have hn : l ≠ [] := fun e => h (by rw [e]; rfl)
  unfold lastK
  rw [List.getLastD_eq_getLast?, List.getLast?_eq_some_getLast hn]
  exact (List.dropLast_concat_getLast hn).symm
theorem flatK_two (a b : List Bk) : flatK (a ++ b) = flatK a ++ flatK b := by unfold flatK; rw [List.flatMap_append]
/-- The last bracket's cells, and the row without it. -/
theorem own_last {W : World} {l : List Bk} (h : W.ownsRow N 97 3 ov l.length (flatK l)) (hl : l.length ≠ 0) : ∃ go cap m, l.length = m + 1 ∧ ov = .slice (some ⟨go, 0, none⟩) (m + 1) cap ∧ m + 1 ≤ cap ∧ cap ≤ maxLen ∧
    W.cell? ⟨go, m * 3, none⟩ = some (.int .i64 (lastK l).1) ∧ W.cell? ⟨go, m * 3 + 1, none⟩ = some (.int .i64 (lastK l).2.1) ∧ W.cell? ⟨go, m * 3 + 2, none⟩ = some (.int .i64 (lastK l).2.2) ∧
    W.ownsRow N 97 3 (.slice (some ⟨go, 0, none⟩) m cap) l.dropLast.length (flatK l.dropLast) := by
  obtain ⟨m, hm⟩ : ∃ m, l.length = m + 1 := ⟨l.length - 1, by omega⟩
  have hd : l.dropLast.length = m := by rw [List.length_dropLast]; omega
  have hf := last_form hl
  have hfl : flatK l = flatK l.dropLast ++ brkC (lastK l) := by
    conv => lhs; rw [hf]
    rw [flatK_two]
    simp [flatK]
  rcases h.2 with ⟨_, hn⟩ | ⟨go, cap, cur, rfl, hN, hg, hle, hmx, hsz, htk⟩
  · omega
  · have hcell : ∀ j u, (flatK l)[j]? = some u → W.cell? ⟨go, j, none⟩ = some u := fun j u hu => by
      have hjl := (List.getElem?_eq_some_iff.1 hu).1
      rw [flatK_len] at hjl
      rw [World.ownsRow.cellAt h j (by omega)]
      exact hu
    have hlen : (flatK l.dropLast).length = m * 3 := by rw [flatK_len, hd]
    refine ⟨go, cap, m, hm, by rw [hm], by omega, hmx, ?_, ?_, ?_, ⟨by rw [hlen, hd], .inr ⟨go, cap, cur, by rw [hd], hN, hg, by omega, hmx, hsz, ?_⟩⟩⟩
    · refine hcell _ _ ?_
      rw [hfl, List.getElem?_append_right (by omega), hlen, Nat.sub_self]
      rfl
    · refine hcell _ _ ?_
      rw [hfl, List.getElem?_append_right (by omega), hlen, Nat.add_sub_cancel_left]
      rfl
    · refine hcell _ _ ?_
      rw [hfl, List.getElem?_append_right (by omega), hlen, Nat.add_sub_cancel_left]
      rfl
    · have : cur.toList.take (m * 3) = (cur.toList.take (l.length * 3)).take (m * 3) := by rw [List.take_take]; congr 1; omega
      rw [hd, this, htk, hfl, List.take_left' hlen]
theorem Now.opens {w W : World} {ov' : Value} {op' : List Bk} (h : Now N g p s ov w W ov) (ho : W.ownsRow N 97 3 ov' op'.length (flatK op')) (e : ov'.ownBlock = ov.ownBlock) : Now N g p ⟨s.A, s.kd, s.v, op', s.z⟩ ov w (W.setCell ⟨g, 259, none⟩ ov') ov' :=
  h.trans ⟨h.at_.store (j := 3) (v := ov') (by omega) rfl ho, Kp.one (only1_set _ _ _ _), .inl e⟩
set_option maxRecDepth 100000 in
set_option maxHeartbeats 4000000 in
theorem do_33 (w : World) (h : RunAt w N g p s ov) (kd ar pl n : Int) (hl : s.op.length ≠ 0) (h8 : s.op.length ≤ 8) (hz : s.z < 1000) (hv : isI s.kd s.v = true) (hb : isI s.kd (lastK s.op).2.2 = true) :
    Calls Try.prog 27 #[.pointer (some ⟨g, 0, none⟩), insV ⟨33, kd, ar, pl, n⟩] w fun e w' => e = .returned (.tuple #[]) ∧ Steps N g p (joinI (lastK s.op).1 s.kd (lastK s.op).2.2 s.v ⟨s.A, s.kd, s.v, s.op.dropLast, s.z⟩) ov w w' := by
  obtain ⟨go, cap, m, hm, hov, hc1, hc2, k0, k1, k2, ho⟩ := own_last h.own hl
  have HN := ((Now.first h).opens ho (by rw [hov]; rfl)).next ((one_S _ #[.int .i64 33, .int .i64 kd, .int .i64 ar, .int .i64 pl, .int .i64 n] 54).trans ((one_S _ #[.int .i64 (lastK s.op).1, .int .i64 (lastK s.op).2.1, .int .i64 (lastK s.op).2.2] 97).mono (by simp)))
  replace HN := Lib.hid HN
  have HJ := Lib.hid (fun W ov' (h : RunAt W N g p ⟨s.A, s.kd, s.v, s.op.dropLast, s.z⟩ ov') => cJoin_any W h (lastK s.op).1 (lastK s.op).2.2 s.v hz (is_i64 hb).1 (is_i64 hb).2 (is_i64 hv).1 (is_i64 hv).2)
  have c9 := h.opn
  have c8 := h.val
  have f9 := h.free 259
  have l9 := h.lt
  have lgo := World.block_lt_of_cell? w ⟨go, m * 3, none⟩ k0
  rw [hov] at c9
  generalize joinI (lastK s.op).1 s.kd (lastK s.op).2.2 s.v ⟨s.A, s.kd, s.v, s.op.dropLast, s.z⟩ = s1 at *
  generalize (lastK s.op).1 = x0 at *
  generalize (lastK s.op).2.1 = x1 at *
  generalize (lastK s.op).2.2 = x2 at *
  have m8 : (m : Int) < 8 := by omega
  have m9 : IntKind.i64.wrap ((m : Int) + 1 - 1) = (m : Int) := by rw [IntKind.wrap_i64]; omega
  have m7 : (m : Int) + 1 - 1 = (m : Int) := by omega
  have hcc : (m : Int) ≤ (cap : Int) := by omega
  dsimp only at lgo
  clear h hl h8 hz hv hb hm ho hc1 hc2 hov
  unfold insV
  go_enter Try.func27, Try.ntmps27
  go_wp2_with fail
  refine world_cutR (G := fun W => Code.wp _ _ _ _ W) (fun W => Now N g p ⟨s.A, s.kd, s.v, s.op.dropLast, s.z⟩ ov w W (.slice (some ⟨go, 0, none⟩) m cap) ∧ W.cell? ⟨w.heap.size + 1, 0, none⟩ = some (.int .i64 x0) ∧ W.cell? ⟨w.heap.size + 1, 2, none⟩ = some (.int .i64 x2)) ⟨HN.out, ?_, ?_⟩ ?_
  · have := World.cell?_alloc_new ((w.setCell ⟨g, 259, none⟩ (.slice (some ⟨go, 0, none⟩) m cap)).alloc (.cells #[.int .i64 33, .int .i64 kd, .int .i64 ar, .int .i64 pl, .int .i64 n] 54)) #[.int .i64 x0, .int .i64 x1, .int .i64 x2] 97 0
    simpa using this
  · have := World.cell?_alloc_new ((w.setCell ⟨g, 259, none⟩ (.slice (some ⟨go, 0, none⟩) m cap)).alloc (.cells #[.int .i64 33, .int .i64 kd, .int .i64 ar, .int .i64 pl, .int .i64 n] 54)) #[.int .i64 x0, .int .i64 x1, .int .i64 x2] 97 2
    simpa using this
  rintro W ⟨hW, q0, q2⟩
  have HW := Lib.hid hW
  have q8 := hW.at_.val
  dsimp only at q8
  clear HN hW c9 c8 f9 l9 lgo k0 k1 k2 m7 m8 m9 hcc
  generalize w.heap.size + 1 = b2 at *
  go_region_with (first | (go_at_call 44; (with_reducible refine (HJ.out _ _ HW.out.at_.drew).mono ?_); rintro e w1 ⟨rfl, hb1⟩; have HQ := Lib.hid (HW.out.drew.trans hb1)))
  all_goals
    go_wp2
    go_end0
    exact ⟨rfl, ⟨_, HQ.out⟩⟩

end
end Go.Proofs.Ytbjmdehfdnpljaa.Vm
