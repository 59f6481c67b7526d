/-
  The landed code's store, walked. Conditions: as each states.
-/
import Derived.Test.YtbjmdehfdnpljaaVmJoin
namespace Go.Proofs.Ytbjmdehfdnpljaa.Vm
open Go.RowKit
open Go.Proofs.Ytbjmdehfdnpljaa.Il hiding Next S S_size S_app S_inj S_list
open Go.Proofs.Ytbjmdehfdnpljaa.Ic Go.Proofs.Ytbjmdehfdnpljaa.Ve
open Oct

/-- The run is here, and an instruction in a block of its own. -/
structure Nb (N g : Nat) (p : Int) (s : St) (ov : Value) (w : World) (b : Nat) (i : In) (W : World) (ov' : Value) : Prop where
  now : Now N g p s ov w W ov'
  bi : Bi W b i
  lt : b < W.heap.size
  far : w.heap.size ≤ b
section
variable {N g b : Nat} {p : Int} {s s' : St} {ov ov1 ov2 : Value} {w W W' : World} {i : In}
theorem Nb.new (h : RunAt w N g p s ov) (i : In) (t : TypeId) : Nb N g p s ov w w.heap.size i (w.alloc (.cells #[.int .i64 i.op, .int .i64 i.kd, .int .i64 i.ar, .int .i64 i.pl, .int .i64 i.n] t)) ov := ⟨Now.same h (one_S _ _ _), Bi.new w i t, by simp, Nat.le_refl _⟩
theorem Nb.drew (h : Nb N g p s ov w b i W ov1) : Nb N g p s ov w b i W.drew ov1 := ⟨h.now.drew, h.bi, h.lt, h.far⟩
theorem Nb.next (h : Nb N g p s ov w b i W ov1) (hb : Below W.heap.size W W') : Nb N g p s ov w b i W' ov1 := ⟨h.now.next hb, h.bi.next hb, Nat.lt_of_lt_of_le h.lt hb.size, h.far⟩
/-- A call on the run turns no block that is not the run's. -/
theorem Nb.step (h : Nb N g p s ov w b i W ov1) (hb : Now N g p s' ov1 W W' ov2) (h0 : g < w.heap.size) (ho : ∀ k, ov1.ownBlock = some k → k ≠ b) : Nb N g p s' ov w b i W' ov2 := by
  have e := hb.kp.block b h.lt (by have := h.far; omega) (fun e => ho b e rfl)
  refine ⟨h.now.trans hb, ?_, Nat.lt_of_lt_of_le h.lt hb.kp.size, h.far⟩
  obtain ⟨b0, b1, b2, b3, b4⟩ := h.bi
  have hc : ∀ j, W'.cell? ⟨b, j, none⟩ = W.cell? ⟨b, j, none⟩ := fun j => World.cell?_of_block (a := ⟨b, j, none⟩) e
  exact ⟨(hc 0).trans b0, (hc 1).trans b1, (hc 2).trans b2, (hc 3).trans b3, (hc 4).trans b4⟩
end
section
variable {N g : Nat} {p : Int} {s : St} {ov : Value}
set_option maxRecDepth 100000 in
set_option maxHeartbeats 4000000 in
theorem store_3 (w : World) (h : RunAt w N g p s ov) (kd ar pl n : Int) (h1 : 1 ≤ ar) (h4 : ar ≤ 4) (h0 : 0 ≤ pl) (hk : pl + szI kd ≤ 64) (hs : szI kd ≠ 0) (hv : isI kd s.v = true)  :
    Calls Try.prog 42 #[.pointer (some ⟨g, 0, none⟩), insV ⟨3, kd, ar, pl, n⟩] w fun e w' => e = .returned (.tuple #[]) ∧ Now N g p (ptV s ar pl kd s.v) ov w w' ov := by
  have hvb := is_i64 hv
  have HP := Lib.hid (fun W (h : RunAt W N g p s ov) => cAput_any W h ar pl kd (s.v) h1 h4 h0 hk hs (by omega) (by omega))
  have HR := Lib.hid (Nb.new h ⟨3, kd, ar, pl, n⟩ 54)
  generalize ptV s ar pl kd (s.v) = s' at *
  have cv0 := h.val
  have hlt0 := h.lt
  clear h1 h4 h0 hk hs hv hvb h
  unfold insV
  go_enter Try.func42, Try.ntmps42
  go_wp2
  refine world_cutR (G := fun W => Code.wp _ _ _ _ W) (fun W => Nb N g p s ov w w.heap.size ⟨3, kd, ar, pl, n⟩ W ov) HR.out ?_
  rintro W hW
  have HW := Lib.hid hW
  obtain ⟨c0, c1, c2, c3, c4⟩ := hW.bi
  have cv := hW.now.at_.val
  dsimp only at c0 c1 c2 c3 c4
  clear HR hW cv0 hlt0
  generalize w.heap.size = b at *
  go_wp2_with fail
  go_region_with (first | (go_at_call 63; (with_reducible refine (HP.out _ HW.out.now.at_.drew).mono ?_); rintro e w2 ⟨rfl, hn2⟩; have N2 := Lib.hid (HW.out.now.drew.trans hn2)))
  all_goals
    go_wp2
    go_end0
    exact ⟨rfl, N2.out⟩
theorem not_i64 (k v : Int) : -9223372036854775808 ≤ notI k v ∧ notI k v ≤ 9223372036854775807 := by
  unfold notI
  split
  · next h =>
    have := not_bd h.1 h.2
    unfold notI at this
    rw [if_pos h] at this
    omega
  · omega
set_option maxRecDepth 100000 in
set_option maxHeartbeats 4000000 in
theorem store_4 (w : World) (h : RunAt w N g p s ov) (kd ar pl n : Int) (h1 : 1 ≤ ar) (h4 : ar ≤ 4) (h0 : 0 ≤ pl) (hk : pl + szI kd ≤ 64) (hs : szI kd ≠ 0) (hv : isI kd s.v = true)  :
    Calls Try.prog 42 #[.pointer (some ⟨g, 0, none⟩), insV ⟨4, kd, ar, pl, n⟩] w fun e w' => e = .returned (.tuple #[]) ∧ Now N g p (ptV s ar pl kd (notI kd s.v)) ov w w' ov := by
  have hvb := is_i64 hv
  have hnb := not_i64 kd s.v
  have HN := Lib.hid (fun W => cNot_any kd s.v W hvb.1 hvb.2)
  have HP := Lib.hid (fun W (h : RunAt W N g p s ov) => cAput_any W h ar pl kd (notI kd s.v) h1 h4 h0 hk hs (by omega) (by omega))
  have HR := Lib.hid (Nb.new h ⟨4, kd, ar, pl, n⟩ 54)
  generalize ptV s ar pl kd (notI kd s.v) = s' at *
  generalize notI kd s.v = V at *
  have cv0 := h.val
  have hlt0 := h.lt
  clear h1 h4 h0 hk hs hv hvb h
  unfold insV
  go_enter Try.func42, Try.ntmps42
  go_wp2_with fail
  with_reducible refine (HN.out _).mono ?_
  rintro e w1 ⟨rfl, hb1⟩
  have HW := Lib.hid (HR.out.next hb1)
  obtain ⟨c0, c1, c2, c3, c4⟩ := HW.out.bi
  have cv := HW.out.now.at_.val
  dsimp only at c0 c1 c2 c3 c4
  clear HR hb1 cv0 hlt0
  generalize w.heap.size = b at *
  go_wp2_with fail
  go_region_with (first | (go_at_call 63; (with_reducible refine (HP.out _ HW.out.now.at_.drew).mono ?_); rintro e w2 ⟨rfl, hn2⟩; have N2 := Lib.hid (HW.out.now.drew.trans hn2)))
  all_goals
    go_wp2
    go_end0
    exact ⟨rfl, N2.out⟩
set_option maxRecDepth 100000 in
set_option maxHeartbeats 4000000 in
theorem store_5a (w : World) (h : RunAt w N g p s ov) (kd ar pl n : Int) (h1 : 1 ≤ ar) (h4 : ar ≤ 4) (h0 : 0 ≤ pl) (hk : pl + szI kd ≤ 64) (hs : szI kd ≠ 0) (hv : isI kd s.v = true) (hv1 : s.v = 1) :
    Calls Try.prog 42 #[.pointer (some ⟨g, 0, none⟩), insV ⟨5, kd, ar, pl, n⟩] w fun e w' => e = .returned (.tuple #[]) ∧ Now N g p (ptV s ar pl kd (yesI true)) ov w w' ov := by
  have hvb := is_i64 hv
  have cv0 := h.val
  have HN := Lib.hid (fun W => cVtruth_any true W)
  have HP := Lib.hid (fun W (h : RunAt W N g p s ov) => cAput_any W h ar pl kd (yesI true) h1 h4 h0 hk hs (by decide) (by decide))
  have HR := Lib.hid (Nb.new h ⟨5, kd, ar, pl, n⟩ 54)
  generalize ptV s ar pl kd (yesI true) = s' at *
  generalize yesI true = V at *
  rw [hv1] at cv0
  have hlt0 := h.lt
  clear h1 h4 h0 hk hs hv hvb h
  unfold insV
  go_enter Try.func42, Try.ntmps42
  go_wp2_with fail
  with_reducible refine (HN.out _).mono ?_
  rintro e w1 ⟨rfl, hb1⟩
  have HW := Lib.hid (HR.out.next hb1)
  obtain ⟨c0, c1, c2, c3, c4⟩ := HW.out.bi
  have cv := HW.out.now.at_.val
  dsimp only at c0 c1 c2 c3 c4
  clear HR hb1 cv0 hlt0
  generalize w.heap.size = b at *
  go_wp2_with fail
  go_region_with (first | (go_at_call 63; (with_reducible refine (HP.out _ HW.out.now.at_.drew).mono ?_); rintro e w2 ⟨rfl, hn2⟩; have N2 := Lib.hid (HW.out.now.drew.trans hn2)))
  all_goals
    go_wp2
    go_end0
    exact ⟨rfl, N2.out⟩
set_option maxRecDepth 100000 in
set_option maxHeartbeats 4000000 in
theorem store_5b (w : World) (h : RunAt w N g p s ov) (kd ar pl n : Int) (hv0 : s.v = 0) :
    Calls Try.prog 42 #[.pointer (some ⟨g, 0, none⟩), insV ⟨5, kd, ar, pl, n⟩] w fun e w' => e = .returned (.tuple #[]) ∧ Now N g p s ov w w' ov := by
  have HR := Lib.hid (Nb.new h ⟨5, kd, ar, pl, n⟩ 54)
  have cv0 := h.val
  rw [hv0] at cv0
  have hlt0 := h.lt
  clear h hv0
  unfold insV
  go_enter Try.func42, Try.ntmps42
  go_wp2
  (try simp only [Exit.inBlock, Exit.then])
  refine bodyPost_ret (results_none rfl _ _ _) rfl ?_
  exact ⟨rfl, HR.out.now⟩
set_option maxRecDepth 100000 in
set_option maxHeartbeats 4000000 in
theorem store_6a (w : World) (h : RunAt w N g p s ov) (kd ar pl n : Int) (h1 : 1 ≤ ar) (h4 : ar ≤ 4) (h0 : 0 ≤ pl) (hk : pl + szI kd ≤ 64) (hs : szI kd ≠ 0) (hv : isI kd s.v = true) (hv1 : s.v = 1) :
    Calls Try.prog 42 #[.pointer (some ⟨g, 0, none⟩), insV ⟨6, kd, ar, pl, n⟩] w fun e w' => e = .returned (.tuple #[]) ∧ Now N g p (ptV s ar pl kd (yesI false)) ov w w' ov := by
  have hvb := is_i64 hv
  have cv0 := h.val
  have HN := Lib.hid (fun W => cVtruth_any false W)
  have HP := Lib.hid (fun W (h : RunAt W N g p s ov) => cAput_any W h ar pl kd (yesI false) h1 h4 h0 hk hs (by decide) (by decide))
  have HR := Lib.hid (Nb.new h ⟨6, kd, ar, pl, n⟩ 54)
  generalize ptV s ar pl kd (yesI false) = s' at *
  generalize yesI false = V at *
  rw [hv1] at cv0
  have hlt0 := h.lt
  clear h1 h4 h0 hk hs hv hvb h
  unfold insV
  go_enter Try.func42, Try.ntmps42
  go_wp2_with fail
  with_reducible refine (HN.out _).mono ?_
  rintro e w1 ⟨rfl, hb1⟩
  have HW := Lib.hid (HR.out.next hb1)
  obtain ⟨c0, c1, c2, c3, c4⟩ := HW.out.bi
  have cv := HW.out.now.at_.val
  dsimp only at c0 c1 c2 c3 c4
  clear HR hb1 cv0 hlt0
  generalize w.heap.size = b at *
  go_wp2_with fail
  go_region_with (first | (go_at_call 63; (with_reducible refine (HP.out _ HW.out.now.at_.drew).mono ?_); rintro e w2 ⟨rfl, hn2⟩; have N2 := Lib.hid (HW.out.now.drew.trans hn2)))
  all_goals
    go_wp2
    go_end0
    exact ⟨rfl, N2.out⟩
set_option maxRecDepth 100000 in
set_option maxHeartbeats 4000000 in
theorem store_6b (w : World) (h : RunAt w N g p s ov) (kd ar pl n : Int) (hv0 : s.v = 0) :
    Calls Try.prog 42 #[.pointer (some ⟨g, 0, none⟩), insV ⟨6, kd, ar, pl, n⟩] w fun e w' => e = .returned (.tuple #[]) ∧ Now N g p s ov w w' ov := by
  have HR := Lib.hid (Nb.new h ⟨6, kd, ar, pl, n⟩ 54)
  have cv0 := h.val
  rw [hv0] at cv0
  have hlt0 := h.lt
  clear h hv0
  unfold insV
  go_enter Try.func42, Try.ntmps42
  go_wp2
  (try simp only [Exit.inBlock, Exit.then])
  refine bodyPost_ret (results_none rfl _ _ _) rfl ?_
  exact ⟨rfl, HR.out.now⟩
theorem cStore_any (w : World) (h : RunAt w N g p s ov) (i : In) (hr : rightI i = true) (ho : 3 ≤ i.op ∧ i.op ≤ 6) (ht : Ty i s) :
    Calls Try.prog 42 #[.pointer (some ⟨g, 0, none⟩), insV i] w fun e w' => e = .returned (.tuple #[]) ∧ Now N g p (doI p i s) ov w w' ov := by
  obtain ⟨q1, q2, q3, q4, q5⟩ := put_at hr ho
  obtain ⟨_, hv⟩ := ht.t3 ho.1 ho.2
  have h5 := ht.t5
  obtain ⟨op, kd, ar, pl, n⟩ := i
  dsimp only at *
  have hk : pl + szI kd ≤ 64 := by omega
  rcases (by omega : op = 3 ∨ op = 4 ∨ op = 5 ∨ op = 6) with rfl | rfl | rfl | rfl
  · exact store_3 w h kd ar pl n (by omega) q2 q3 hk q5 hv
  · exact store_4 w h kd ar pl n (by omega) q2 q3 hk q5 hv
  · have e := h5 (.inl rfl)
    subst e
    rcases is_bool hv with hv0 | hv1
    · have : doI p ⟨5, 1, ar, pl, n⟩ s = s := by show (if s.v = 1 then _ else s) = s; rw [if_neg (by omega)]
      rw [this]
      exact store_5b w h 1 ar pl n hv0
    · have : doI p ⟨5, 1, ar, pl, n⟩ s = ptV s ar pl 1 (yesI true) := by show (if s.v = 1 then _ else s) = _; rw [if_pos hv1]; rfl
      rw [this]
      exact store_5a w h 1 ar pl n (by omega) q2 q3 hk q5 hv hv1
  · have e := h5 (.inr rfl)
    subst e
    rcases is_bool hv with hv0 | hv1
    · have : doI p ⟨6, 1, ar, pl, n⟩ s = s := by show (if s.v = 1 then _ else s) = s; rw [if_neg (by omega)]
      rw [this]
      exact store_6b w h 1 ar pl n hv0
    · have : doI p ⟨6, 1, ar, pl, n⟩ s = ptV s ar pl 1 (yesI false) := by show (if s.v = 1 then _ else s) = _; rw [if_pos hv1]; rfl
      rw [this]
      exact store_6a w h 1 ar pl n (by omega) q2 q3 hk q5 hv hv1

end
end Go.Proofs.Ytbjmdehfdnpljaa.Vm
