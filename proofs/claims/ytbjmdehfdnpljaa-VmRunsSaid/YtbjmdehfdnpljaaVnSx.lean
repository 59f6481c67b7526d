/-
  The step of the reference, walked: all operations. Conditions: as each states.
-/
import Derived.Test.YtbjmdehfdnpljaaVnOx
import Derived.Deep.AppendLies
import Derived.Laws.OwnMore
import Derived.Deep.RegionLaw
namespace Go.Proofs.Ytbjmdehfdnpljaa.Vm
open Go.RowKit
open Go.Proofs.Ytbjmdehfdnpljaa.Il hiding Next S S_size S_app S_inj S_list
open Go.Proofs.Ytbjmdehfdnpljaa.Ic Go.Proofs.Ytbjmdehfdnpljaa.Ve
open Oct

section
variable {N g b : Nat} {p : Int} {t : Nat} {s : St} {ov ov1 : Value} {w W : World} {i : In}
theorem Rn.new3 (h : RfAt w N g p t s ov) (i : In) (ty : TypeId) (t' : Int) (e : t' = ((t + 1 : Nat) : Int)) : Rn N g p (t + 1) s ov w w.heap.size i ((w.setCell ⟨g, 8, none⟩ (.int .i64 t')).alloc (.cells #[.int .i64 i.op, .int .i64 i.kd, .int .i64 i.ar, .int .i64 i.pl, .int .i64 i.n] ty)) ov := by
  subst e
  have e : (w.setCell ⟨g, 8, none⟩ (.int .i64 ((t + 1 : Nat) : Int))).heap.size = w.heap.size := by simp
  refine ⟨((RNow.first h).steps (t + 1)).next (one_S _ _ _), ?_, by simp, Nat.le_refl _⟩
  have := Bi.new (w.setCell ⟨g, 8, none⟩ (.int .i64 ((t + 1 : Nat) : Int))) i ty
  rw [e] at this
  exact this
theorem Rn.newA {w W : World} {s' : St} {t' : Nat} (hn : RNow N g p t' s' ov w W ov) (e : W.heap.size = w.heap.size) (i : In) (ty : TypeId) : Rn N g p t' s' ov w w.heap.size i (W.alloc (.cells #[.int .i64 i.op, .int .i64 i.kd, .int .i64 i.ar, .int .i64 i.pl, .int .i64 i.n] ty)) ov := by
  refine ⟨hn.next (one_S _ _ _), ?_, by simp [e], Nat.le_refl _⟩
  have := Bi.new W i ty
  rw [e] at this
  exact this
theorem rn5s (h : Rn N g p t s ov w b i W ov1) (hne : g ≠ b) (j : Nat) (v : Value) : (W.setCell ⟨g, j, none⟩ v).cell? ⟨b, 0, none⟩ = some (.int .i64 i.op) ∧ (W.setCell ⟨g, j, none⟩ v).cell? ⟨b, 1, none⟩ = some (.int .i64 i.kd) ∧ (W.setCell ⟨g, j, none⟩ v).cell? ⟨b, 2, none⟩ = some (.int .i64 i.ar) ∧ (W.setCell ⟨g, j, none⟩ v).cell? ⟨b, 3, none⟩ = some (.int .i64 i.pl) ∧ (W.setCell ⟨g, j, none⟩ v).cell? ⟨b, 4, none⟩ = some (.int .i64 i.n) := by
  have sf : ∀ k, (W.setCell ⟨g, j, none⟩ v).cell? ⟨b, k, none⟩ = W.cell? ⟨b, k, none⟩ := fun k => World.cell?_setCell_other _ _ _ _ (by intro e; injection e with e; exact hne e)
  simp only [sf]; exact h.bi
theorem Rn.val (h : Rn N g p t s ov w b i W ov) (hg : g ≠ b) (ho : ∀ k, ov.ownBlock = some k → k ≠ b) (v : Int) : Rn N g p t ⟨s.A, s.kd, v, s.op, s.z⟩ ov w b i (W.setCell ⟨g, 6, none⟩ (.int .i64 v)) ov := h.step ((RNow.first h.now.at_).value v) hg ho
theorem Rn.knd (h : Rn N g p t s ov w b i W ov) (hg : g ≠ b) (ho : ∀ k, ov.ownBlock = some k → k ≠ b) (v : Int) : Rn N g p t ⟨s.A, v, s.v, s.op, s.z⟩ ov w b i (W.setCell ⟨g, 5, none⟩ (.int .i64 v)) ov := h.step ((RNow.first h.now.at_).kind v) hg ho
end
section
variable {N g : Nat} {p : Int} {t : Nat} {s : St} {ov : Value}
set_option maxRecDepth 100000 in
set_option maxHeartbeats 4000000 in
theorem st_1 (w : World) (h : RfAt w N g p t s ov) (kd ar pl n : Int) (k : Nat) (hk : (k : Int) < 1000) (ht : t < 1000) (hi : AskOk ⟨1, kd, ar, pl, n⟩) :
    Calls Try.prog 31 #[.pointer (some ⟨g, 0, none⟩), insV ⟨1, kd, ar, pl, n⟩, .int .i64 k] w fun e w' => e = .returned (.int .i64 ((k : Int) + 1)) ∧ RNow N g p (t + 1) (⟨s.A, kd, askI ⟨1, kd, ar, pl, n⟩ s, s.op, s.z⟩) ov w w' ov := by
  have HC := Lib.hid (fun W (h : RfAt W N g p (t + 1) (⟨s.A, kd, s.v, s.op, s.z⟩) ov) => rGetR_any W h ⟨1, kd, ar, pl, n⟩ hi)
  rw [show askI ⟨1, kd, ar, pl, n⟩ (⟨s.A, kd, s.v, s.op, s.z⟩) = askI ⟨1, kd, ar, pl, n⟩ s from rfl] at HC
  generalize askI ⟨1, kd, ar, pl, n⟩ s = V at *
  unfold insV at HC
  obtain ⟨hne, hov⟩ := own_newR h
  have HR := Rn.newA (((RNow.first h).steps (t + 1)).kind kd) (by simp) ⟨1, kd, ar, pl, n⟩ 54
  rw [show ((t + 1 : Nat) : Int) = (t : Int) + 1 by simp] at HR
  replace HR := Lib.hid HR
  replace hne := Lib.hid hne
  replace hov := Lib.hid hov
  have _u := hk
  clear _u
  have ct := h.stp
  have ft := h.free 8
  have x5 := h.kd
  have x6 := h.val
  have y5 := h.free 5
  have y6 := h.free 6
  have hlt := h.lt
  have ht2 : (t : Int) < 1000 := by omega
  clear h ht hi
  unfold insV
  go_enter Try.func31, Try.ntmps31
  go_wp2_with fail
  with_reducible refine (HC.out _ HR.out.now.at_).mono ?_
  rintro e w1 ⟨rfl, hb1⟩
  have hP1 := HR.out.next hb1
  clear HR hb1 ct ft hlt x5 x6 y5 y6
  obtain ⟨c0, c1, c2, c3, c4⟩ := rn5 hP1
  have d5 := hP1.now.at_.kd
  have d6 := hP1.now.at_.val
  have f5 := hP1.now.at_.free 5
  have f6 := hP1.now.at_.free 6
  have l6 := hP1.now.at_.lt
  dsimp only at c0 c1 c2 c3 c4 d5 d6
  have hP2 := hP1.val hne.out hov.out (V)
  clear hP1
  have hP1 := hP2
  clear hP2
  replace hP1 := Lib.hid hP1
  go_wp2
  go_ret
  exact ⟨rfl, hP1.out.now⟩
set_option maxRecDepth 100000 in
set_option maxHeartbeats 4000000 in
theorem st_2 (w : World) (h : RfAt w N g p t s ov) (kd ar pl n : Int) (k : Nat) (hk : (k : Int) < 1000) (ht : t < 1000) (hi : AskOk ⟨2, kd, ar, pl, n⟩) :
    Calls Try.prog 31 #[.pointer (some ⟨g, 0, none⟩), insV ⟨2, kd, ar, pl, n⟩, .int .i64 k] w fun e w' => e = .returned (.int .i64 ((k : Int) + 1)) ∧ RNow N g p (t + 1) (⟨s.A, kd, notI kd (askI ⟨2, kd, ar, pl, n⟩ s), s.op, s.z⟩) ov w w' ov := by
  have HK := Lib.hid (fun W => rNot_any kd (askI ⟨2, kd, ar, pl, n⟩ s) W)
  generalize hV2 : notI kd (askI ⟨2, kd, ar, pl, n⟩ s) = V2 at *
  clear hV2
  have HC := Lib.hid (fun W (h : RfAt W N g p (t + 1) (⟨s.A, kd, s.v, s.op, s.z⟩) ov) => rGetR_any W h ⟨2, kd, ar, pl, n⟩ hi)
  rw [show askI ⟨2, kd, ar, pl, n⟩ (⟨s.A, kd, s.v, s.op, s.z⟩) = askI ⟨2, kd, ar, pl, n⟩ s from rfl] at HC
  generalize askI ⟨2, kd, ar, pl, n⟩ s = V at *
  unfold insV at HC
  obtain ⟨hne, hov⟩ := own_newR h
  have HR := Rn.newA (((RNow.first h).steps (t + 1)).kind kd) (by simp) ⟨2, kd, ar, pl, n⟩ 54
  rw [show ((t + 1 : Nat) : Int) = (t : Int) + 1 by simp] at HR
  replace HR := Lib.hid HR
  replace hne := Lib.hid hne
  replace hov := Lib.hid hov
  have _u := hk
  clear _u
  have ct := h.stp
  have ft := h.free 8
  have x5 := h.kd
  have x6 := h.val
  have y5 := h.free 5
  have y6 := h.free 6
  have hlt := h.lt
  have ht2 : (t : Int) < 1000 := by omega
  clear h ht hi
  unfold insV
  go_enter Try.func31, Try.ntmps31
  go_wp2_with fail
  refine world_cutR (G := fun W => Code.wp _ _ _ _ W) (fun W => Rn N g p (t + 1) (⟨s.A, kd, s.v, s.op, s.z⟩) ov w w.heap.size ⟨2, kd, ar, pl, n⟩ W ov) HR.out ?_
  rintro W hP1
  clear HR ct ft hlt x5 x6 y5 y6
  generalize hbb : w.heap.size = b at *
  replace hbb := Lib.hid hbb
  obtain ⟨c0, c1, c2, c3, c4⟩ := rn5 hP1
  have d5 := hP1.now.at_.kd
  have d6 := hP1.now.at_.val
  have f5 := hP1.now.at_.free 5
  have f6 := hP1.now.at_.free 6
  have l6 := hP1.now.at_.lt
  dsimp only at c0 c1 c2 c3 c4 d5 d6
  have hP2 := hP1.drew
  clear hP1
  have hP1 := hP2
  clear hP2
  go_region_held3 (fun W' => W'.cell? ⟨b, 0, none⟩ = some (.int .i64 2) ∧ W'.cell? ⟨b, 1, none⟩ = some (.int .i64 kd) ∧ W'.cell? ⟨b, 2, none⟩ = some (.int .i64 ar) ∧ W'.cell? ⟨b, 3, none⟩ = some (.int .i64 pl) ∧ W'.cell? ⟨b, 4, none⟩ = some (.int .i64 n)) (first | exact rn5 hP1 | exact rn5s hP1 hne.out _ _)
      ((first | (go_at_call 50; (with_reducible refine (HC.out _ hP1.now.at_).mono ?_); rintro e w1 ⟨rfl, hb1⟩; have hP2 := hP1.next hb1; clear hb1 hP1; have hP1 := hP2; clear hP2; have f5 := hP1.now.at_.free 5; have f6 := hP1.now.at_.free 6; have d5 := hP1.now.at_.kd; have d6 := hP1.now.at_.val; have l6 := hP1.now.at_.lt) | (go_at_call 51; (with_reducible refine (HK.out _).mono ?_); rintro e w1 ⟨rfl, hb1⟩; have hP2 := hP1.next hb1; clear hb1 hP1; have hP1 := hP2; clear hP2; have f5 := hP1.now.at_.free 5; have f6 := hP1.now.at_.free 6; have d5 := hP1.now.at_.kd; have d6 := hP1.now.at_.val; have l6 := hP1.now.at_.lt)))
  all_goals
    have hP2 := hP1.val hne.out hov.out (V2)
    clear hP1
    have hP1 := hP2
    clear hP2
    replace hP1 := Lib.hid hP1
    go_wp2
    go_ret
    exact ⟨rfl, hP1.out.now⟩
set_option maxRecDepth 100000 in
set_option maxHeartbeats 4000000 in
theorem st_3 (w : World) (h : RfAt w N g p t s ov) (kd ar pl n : Int) (k : Nat) (hk : (k : Int) < 1000) (ht : t < 1000) (h1 : 1 ≤ ar) (h4 : ar ≤ 4) (h0 : 0 ≤ pl) (hb : pl + szI kd ≤ 64) (hs : szI kd ≠ 0) (hv : isI kd s.v = true) :
    Calls Try.prog 31 #[.pointer (some ⟨g, 0, none⟩), insV ⟨3, kd, ar, pl, n⟩, .int .i64 k] w fun e w' => e = .returned (.int .i64 ((k : Int) + 1)) ∧ RNow N g p (t + 1) (ptV s ar pl kd s.v) ov w w' ov := by
  have hvb := is_i64 hv
  have HP := Lib.hid (fun W (h : RfAt W N g p (t + 1) s ov) => rPutR_any W h ar pl kd (s.v) h1 h4 h0 hb hs (by omega) (by omega))
  obtain ⟨hne, hov⟩ := own_newR h
  have HR := Rn.newA (((RNow.first h).steps (t + 1))) (by simp) ⟨3, kd, ar, pl, n⟩ 54
  rw [show ((t + 1 : Nat) : Int) = (t : Int) + 1 by simp] at HR
  replace HR := Lib.hid HR
  replace hne := Lib.hid hne
  replace hov := Lib.hid hov
  have _u := hk
  clear _u
  have ct := h.stp
  have ft := h.free 8
  have x5 := h.kd
  have x6 := h.val
  have y5 := h.free 5
  have y6 := h.free 6
  have hlt := h.lt
  have ht2 : (t : Int) < 1000 := by omega
  clear h ht h1 h4 h0 hb hs hv hvb
  unfold insV
  go_enter Try.func31, Try.ntmps31
  go_wp2_with fail
  refine world_cutR (G := fun W => Code.wp _ _ _ _ W) (fun W => Rn N g p (t + 1) (s) ov w w.heap.size ⟨3, kd, ar, pl, n⟩ W ov) HR.out ?_
  rintro W hP1
  clear HR ct ft hlt x5 x6 y5 y6
  generalize hbb : w.heap.size = b at *
  replace hbb := Lib.hid hbb
  obtain ⟨c0, c1, c2, c3, c4⟩ := rn5 hP1
  have d5 := hP1.now.at_.kd
  have d6 := hP1.now.at_.val
  have f5 := hP1.now.at_.free 5
  have f6 := hP1.now.at_.free 6
  have l6 := hP1.now.at_.lt
  dsimp only at c0 c1 c2 c3 c4 d5 d6
  have hP2 := hP1.drew
  clear hP1
  have hP1 := hP2
  clear hP2
  go_region_held3 (fun W' => W'.cell? ⟨b, 0, none⟩ = some (.int .i64 3) ∧ W'.cell? ⟨b, 1, none⟩ = some (.int .i64 kd) ∧ W'.cell? ⟨b, 2, none⟩ = some (.int .i64 ar) ∧ W'.cell? ⟨b, 3, none⟩ = some (.int .i64 pl) ∧ W'.cell? ⟨b, 4, none⟩ = some (.int .i64 n) ∧ W'.cell? ⟨g, 6, none⟩ = some (.int .i64 s.v)) (exact ⟨hP1.bi.1, hP1.bi.2.1, hP1.bi.2.2.1, hP1.bi.2.2.2.1, hP1.bi.2.2.2.2, hP1.now.at_.val⟩)
      ((first | (go_at_call 52; (with_reducible refine (HP.out _ hP1.now.at_).mono ?_); rintro e w1 ⟨rfl, hb1⟩; have hP2 := hP1.step hb1 hne.out hov.out; clear hb1 hP1; have hP1 := hP2; clear hP2; have f5 := hP1.now.at_.free 5; have f6 := hP1.now.at_.free 6; have d5 := hP1.now.at_.kd; have d6 := hP1.now.at_.val; have l6 := hP1.now.at_.lt)))
  all_goals
    replace hP1 := Lib.hid hP1
    go_wp2
    go_ret
    exact ⟨rfl, hP1.out.now⟩
set_option maxRecDepth 100000 in
set_option maxHeartbeats 4000000 in
theorem st_4 (w : World) (h : RfAt w N g p t s ov) (kd ar pl n : Int) (k : Nat) (hk : (k : Int) < 1000) (ht : t < 1000) (h1 : 1 ≤ ar) (h4 : ar ≤ 4) (h0 : 0 ≤ pl) (hb : pl + szI kd ≤ 64) (hs : szI kd ≠ 0) (hv : isI kd s.v = true) :
    Calls Try.prog 31 #[.pointer (some ⟨g, 0, none⟩), insV ⟨4, kd, ar, pl, n⟩, .int .i64 k] w fun e w' => e = .returned (.int .i64 ((k : Int) + 1)) ∧ RNow N g p (t + 1) (ptV s ar pl kd (notI kd s.v)) ov w w' ov := by
  have hnb := not_i64 kd s.v
  have HK := Lib.hid (fun W => rNot_any kd s.v W)
  have hvb := is_i64 hv
  have HP := Lib.hid (fun W (h : RfAt W N g p (t + 1) s ov) => rPutR_any W h ar pl kd (notI kd s.v) h1 h4 h0 hb hs (by omega) (by omega))
  generalize notI kd s.v = V at *
  obtain ⟨hne, hov⟩ := own_newR h
  have HR := Rn.newA (((RNow.first h).steps (t + 1))) (by simp) ⟨4, kd, ar, pl, n⟩ 54
  rw [show ((t + 1 : Nat) : Int) = (t : Int) + 1 by simp] at HR
  replace HR := Lib.hid HR
  replace hne := Lib.hid hne
  replace hov := Lib.hid hov
  have _u := hk
  clear _u
  have ct := h.stp
  have ft := h.free 8
  have x5 := h.kd
  have x6 := h.val
  have y5 := h.free 5
  have y6 := h.free 6
  have hlt := h.lt
  have ht2 : (t : Int) < 1000 := by omega
  clear h ht h1 h4 h0 hb hs hv hvb hnb
  unfold insV
  go_enter Try.func31, Try.ntmps31
  go_wp2_with fail
  refine world_cutR (G := fun W => Code.wp _ _ _ _ W) (fun W => Rn N g p (t + 1) (s) ov w w.heap.size ⟨4, kd, ar, pl, n⟩ W ov) HR.out ?_
  rintro W hP1
  clear HR ct ft hlt x5 x6 y5 y6
  generalize hbb : w.heap.size = b at *
  replace hbb := Lib.hid hbb
  obtain ⟨c0, c1, c2, c3, c4⟩ := rn5 hP1
  have d5 := hP1.now.at_.kd
  have d6 := hP1.now.at_.val
  have f5 := hP1.now.at_.free 5
  have f6 := hP1.now.at_.free 6
  have l6 := hP1.now.at_.lt
  dsimp only at c0 c1 c2 c3 c4 d5 d6
  have hP2 := hP1.drew
  clear hP1
  have hP1 := hP2
  clear hP2
  go_region_held3 (fun W' => W'.cell? ⟨b, 0, none⟩ = some (.int .i64 4) ∧ W'.cell? ⟨b, 1, none⟩ = some (.int .i64 kd) ∧ W'.cell? ⟨b, 2, none⟩ = some (.int .i64 ar) ∧ W'.cell? ⟨b, 3, none⟩ = some (.int .i64 pl) ∧ W'.cell? ⟨b, 4, none⟩ = some (.int .i64 n) ∧ W'.cell? ⟨g, 6, none⟩ = some (.int .i64 s.v)) (exact ⟨hP1.bi.1, hP1.bi.2.1, hP1.bi.2.2.1, hP1.bi.2.2.2.1, hP1.bi.2.2.2.2, hP1.now.at_.val⟩)
      ((first | (go_at_call 52; (with_reducible refine (HP.out _ hP1.now.at_).mono ?_); rintro e w1 ⟨rfl, hb1⟩; have hP2 := hP1.step hb1 hne.out hov.out; clear hb1 hP1; have hP1 := hP2; clear hP2; have f5 := hP1.now.at_.free 5; have f6 := hP1.now.at_.free 6; have d5 := hP1.now.at_.kd; have d6 := hP1.now.at_.val; have l6 := hP1.now.at_.lt) | (go_at_call 51; (with_reducible refine (HK.out _).mono ?_); rintro e w1 ⟨rfl, hb1⟩; have hP2 := hP1.next hb1; clear hb1 hP1; have hP1 := hP2; clear hP2; have f5 := hP1.now.at_.free 5; have f6 := hP1.now.at_.free 6; have d5 := hP1.now.at_.kd; have d6 := hP1.now.at_.val; have l6 := hP1.now.at_.lt)))
  all_goals
    replace hP1 := Lib.hid hP1
    go_wp2
    go_ret
    exact ⟨rfl, hP1.out.now⟩
set_option maxRecDepth 100000 in
set_option maxHeartbeats 4000000 in
theorem st_5a (w : World) (h : RfAt w N g p t s ov) (kd ar pl n : Int) (k : Nat) (hk : (k : Int) < 1000) (ht : t < 1000) (h1 : 1 ≤ ar) (h4 : ar ≤ 4) (h0 : 0 ≤ pl) (hb : pl + szI 1 ≤ 64) (hs : szI 1 ≠ 0) (hv : isI 1 s.v = true) (hv1 : s.v = 1) :
    Calls Try.prog 31 #[.pointer (some ⟨g, 0, none⟩), insV ⟨5, kd, ar, pl, n⟩, .int .i64 k] w fun e w' => e = .returned (.int .i64 ((k : Int) + 1)) ∧ RNow N g p (t + 1) (ptV s ar pl 1 1) ov w w' ov := by
  have hvb := is_i64 hv
  have HP := Lib.hid (fun W (h : RfAt W N g p (t + 1) s ov) => rPutR_any W h ar pl 1 (1) h1 h4 h0 hb hs (by omega) (by omega))
  generalize ptV s ar pl 1 (1) = s' at *
  obtain ⟨hne, hov⟩ := own_newR h
  have HR := Rn.newA (((RNow.first h).steps (t + 1))) (by simp) ⟨5, kd, ar, pl, n⟩ 54
  rw [show ((t + 1 : Nat) : Int) = (t : Int) + 1 by simp] at HR
  replace HR := Lib.hid HR
  replace hne := Lib.hid hne
  replace hov := Lib.hid hov
  have _u := hk
  clear _u
  have ct := h.stp
  have ft := h.free 8
  have x5 := h.kd
  have x6 := h.val
  rw [hv1] at x6
  have y5 := h.free 5
  have y6 := h.free 6
  have hlt := h.lt
  have ht2 : (t : Int) < 1000 := by omega
  clear h ht h1 h4 h0 hb hs hv hvb
  unfold insV
  go_enter Try.func31, Try.ntmps31
  go_wp2_with fail
  with_reducible refine (HP.out _ HR.out.now.at_).mono ?_
  rintro e w1 ⟨rfl, hb1⟩
  have hP1 := HR.out.step hb1 hne.out hov.out
  clear HR hb1 ct ft hlt x5 x6 y5 y6
  obtain ⟨c0, c1, c2, c3, c4⟩ := rn5 hP1
  have d5 := hP1.now.at_.kd
  have d6 := hP1.now.at_.val
  have f5 := hP1.now.at_.free 5
  have f6 := hP1.now.at_.free 6
  have l6 := hP1.now.at_.lt
  dsimp only at c0 c1 c2 c3 c4 d5 d6
  replace hP1 := Lib.hid hP1
  go_wp2
  go_ret
  exact ⟨rfl, hP1.out.now⟩
set_option maxRecDepth 100000 in
set_option maxHeartbeats 4000000 in
theorem st_5b (w : World) (h : RfAt w N g p t s ov) (kd ar pl n : Int) (k : Nat) (hk : (k : Int) < 1000) (ht : t < 1000) (hv0 : s.v = 0) :
    Calls Try.prog 31 #[.pointer (some ⟨g, 0, none⟩), insV ⟨5, kd, ar, pl, n⟩, .int .i64 k] w fun e w' => e = .returned (.int .i64 ((k : Int) + 1)) ∧ RNow N g p (t + 1) (s) ov w w' ov := by
  obtain ⟨hne, hov⟩ := own_newR h
  have HR := Rn.newA (((RNow.first h).steps (t + 1))) (by simp) ⟨5, kd, ar, pl, n⟩ 54
  rw [show ((t + 1 : Nat) : Int) = (t : Int) + 1 by simp] at HR
  replace HR := Lib.hid HR
  replace hne := Lib.hid hne
  replace hov := Lib.hid hov
  have _u := hk
  clear _u
  have ct := h.stp
  have ft := h.free 8
  have x5 := h.kd
  have x6 := h.val
  rw [hv0] at x6
  have y5 := h.free 5
  have y6 := h.free 6
  have hlt := h.lt
  have ht2 : (t : Int) < 1000 := by omega
  clear h ht
  unfold insV
  go_enter Try.func31, Try.ntmps31
  go_wp2_with fail
  go_wp2
  go_ret
  exact ⟨rfl, HR.out.now⟩
set_option maxRecDepth 100000 in
set_option maxHeartbeats 4000000 in
theorem st_6a (w : World) (h : RfAt w N g p t s ov) (kd ar pl n : Int) (k : Nat) (hk : (k : Int) < 1000) (ht : t < 1000) (h1 : 1 ≤ ar) (h4 : ar ≤ 4) (h0 : 0 ≤ pl) (hb : pl + szI 1 ≤ 64) (hs : szI 1 ≠ 0) (hv : isI 1 s.v = true) (hv1 : s.v = 1) :
    Calls Try.prog 31 #[.pointer (some ⟨g, 0, none⟩), insV ⟨6, kd, ar, pl, n⟩, .int .i64 k] w fun e w' => e = .returned (.int .i64 ((k : Int) + 1)) ∧ RNow N g p (t + 1) (ptV s ar pl 1 0) ov w w' ov := by
  have hvb := is_i64 hv
  have HP := Lib.hid (fun W (h : RfAt W N g p (t + 1) s ov) => rPutR_any W h ar pl 1 (0) h1 h4 h0 hb hs (by omega) (by omega))
  generalize ptV s ar pl 1 (0) = s' at *
  obtain ⟨hne, hov⟩ := own_newR h
  have HR := Rn.newA (((RNow.first h).steps (t + 1))) (by simp) ⟨6, kd, ar, pl, n⟩ 54
  rw [show ((t + 1 : Nat) : Int) = (t : Int) + 1 by simp] at HR
  replace HR := Lib.hid HR
  replace hne := Lib.hid hne
  replace hov := Lib.hid hov
  have _u := hk
  clear _u
  have ct := h.stp
  have ft := h.free 8
  have x5 := h.kd
  have x6 := h.val
  rw [hv1] at x6
  have y5 := h.free 5
  have y6 := h.free 6
  have hlt := h.lt
  have ht2 : (t : Int) < 1000 := by omega
  clear h ht h1 h4 h0 hb hs hv hvb
  unfold insV
  go_enter Try.func31, Try.ntmps31
  go_wp2_with fail
  with_reducible refine (HP.out _ HR.out.now.at_).mono ?_
  rintro e w1 ⟨rfl, hb1⟩
  have hP1 := HR.out.step hb1 hne.out hov.out
  clear HR hb1 ct ft hlt x5 x6 y5 y6
  obtain ⟨c0, c1, c2, c3, c4⟩ := rn5 hP1
  have d5 := hP1.now.at_.kd
  have d6 := hP1.now.at_.val
  have f5 := hP1.now.at_.free 5
  have f6 := hP1.now.at_.free 6
  have l6 := hP1.now.at_.lt
  dsimp only at c0 c1 c2 c3 c4 d5 d6
  replace hP1 := Lib.hid hP1
  go_wp2
  go_ret
  exact ⟨rfl, hP1.out.now⟩
set_option maxRecDepth 100000 in
set_option maxHeartbeats 4000000 in
theorem st_6b (w : World) (h : RfAt w N g p t s ov) (kd ar pl n : Int) (k : Nat) (hk : (k : Int) < 1000) (ht : t < 1000) (hv0 : s.v = 0) :
    Calls Try.prog 31 #[.pointer (some ⟨g, 0, none⟩), insV ⟨6, kd, ar, pl, n⟩, .int .i64 k] w fun e w' => e = .returned (.int .i64 ((k : Int) + 1)) ∧ RNow N g p (t + 1) (s) ov w w' ov := by
  obtain ⟨hne, hov⟩ := own_newR h
  have HR := Rn.newA (((RNow.first h).steps (t + 1))) (by simp) ⟨6, kd, ar, pl, n⟩ 54
  rw [show ((t + 1 : Nat) : Int) = (t : Int) + 1 by simp] at HR
  replace HR := Lib.hid HR
  replace hne := Lib.hid hne
  replace hov := Lib.hid hov
  have _u := hk
  clear _u
  have ct := h.stp
  have ft := h.free 8
  have x5 := h.kd
  have x6 := h.val
  rw [hv0] at x6
  have y5 := h.free 5
  have y6 := h.free 6
  have hlt := h.lt
  have ht2 : (t : Int) < 1000 := by omega
  clear h ht
  unfold insV
  go_enter Try.func31, Try.ntmps31
  go_wp2_with fail
  go_wp2
  go_ret
  exact ⟨rfl, HR.out.now⟩
set_option maxRecDepth 100000 in
set_option maxHeartbeats 4000000 in
theorem st_13 (w : World) (h : RfAt w N g p t s ov) (kd ar pl n : Int) (k : Nat) (hk : (k : Int) < 1000) (ht : t < 1000)  :
    Calls Try.prog 31 #[.pointer (some ⟨g, 0, none⟩), insV ⟨13, kd, ar, pl, n⟩, .int .i64 k] w fun e w' => e = .returned (.int .i64 ((k : Int) + 1)) ∧ RNow N g p (t + 1) (⟨s.A, s.kd, notI s.kd s.v, s.op, s.z⟩) ov w w' ov := by
  have HK := Lib.hid (fun W => rNot_any s.kd s.v W)
  generalize notI s.kd s.v = V at *
  obtain ⟨hne, hov⟩ := own_newR h
  have HR := Rn.newA (((RNow.first h).steps (t + 1))) (by simp) ⟨13, kd, ar, pl, n⟩ 54
  rw [show ((t + 1 : Nat) : Int) = (t : Int) + 1 by simp] at HR
  replace HR := Lib.hid HR
  replace hne := Lib.hid hne
  replace hov := Lib.hid hov
  have _u := hk
  clear _u
  have ct := h.stp
  have ft := h.free 8
  have x5 := h.kd
  have x6 := h.val
  have y5 := h.free 5
  have y6 := h.free 6
  have hlt := h.lt
  have ht2 : (t : Int) < 1000 := by omega
  clear h ht
  unfold insV
  go_enter Try.func31, Try.ntmps31
  go_wp2_with fail
  refine world_cutR (G := fun W => Code.wp _ _ _ _ W) (fun W => Rn N g p (t + 1) (s) ov w w.heap.size ⟨13, kd, ar, pl, n⟩ W ov) HR.out ?_
  rintro W hP1
  clear HR ct ft hlt x5 x6 y5 y6
  generalize hbb : w.heap.size = b at *
  replace hbb := Lib.hid hbb
  obtain ⟨c0, c1, c2, c3, c4⟩ := rn5 hP1
  have d6 := hP1.now.at_.val
  have d5 := hP1.now.at_.kd
  have f6 := hP1.now.at_.free 6
  dsimp only at c0 c1 c2 c3 c4 d6
  clear c2 c3 c4
  have hP2 := hP1.drew
  clear hP1
  have hP1 := hP2
  clear hP2
  go_region_with (first | (go_at_call 51; (with_reducible refine (HK.out _).mono ?_); rintro e w1 ⟨rfl, hb1⟩; have hP2 := hP1.next hb1; clear hb1 hP1; have hP1 := hP2; clear hP2; have d6 := hP1.now.at_.val; have f6 := hP1.now.at_.free 6; have l6 := hP1.now.at_.lt))
  all_goals
    have hP2 := hP1.val hne.out hov.out (V)
    clear hP1
    have hP1 := hP2
    clear hP2
    replace hP1 := Lib.hid hP1
    go_wp2
    go_ret
    exact ⟨rfl, hP1.out.now⟩
set_option maxRecDepth 100000 in
set_option maxHeartbeats 4000000 in
theorem st_31 (w : World) (h : RfAt w N g p t s ov) (kd ar pl n : Int) (k : Nat) (hk : (k : Int) < 1000) (ht : t < 1000) (hv : isI s.kd s.v = true) :
    Calls Try.prog 31 #[.pointer (some ⟨g, 0, none⟩), insV ⟨31, kd, ar, pl, n⟩, .int .i64 k] w fun e w' => e = .returned (.int .i64 ((k : Int) + 1)) ∧ RNow N g p (t + 1) (⟨s.A, kd, wrapI kd s.v, s.op, s.z⟩) ov w w' ov := by
  have HK := Lib.hid (fun W => rWrap_any kd s.v W (is_i64 hv).1 (is_i64 hv).2)
  generalize wrapI kd s.v = V at *
  obtain ⟨hne, hov⟩ := own_newR h
  have HR := Rn.newA (((RNow.first h).steps (t + 1))) (by simp) ⟨31, kd, ar, pl, n⟩ 54
  rw [show ((t + 1 : Nat) : Int) = (t : Int) + 1 by simp] at HR
  replace HR := Lib.hid HR
  replace hne := Lib.hid hne
  replace hov := Lib.hid hov
  have _u := hk
  clear _u
  have ct := h.stp
  have ft := h.free 8
  have x5 := h.kd
  have x6 := h.val
  have y5 := h.free 5
  have y6 := h.free 6
  have hlt := h.lt
  have ht2 : (t : Int) < 1000 := by omega
  clear h ht hv
  unfold insV
  go_enter Try.func31, Try.ntmps31
  go_wp2_with fail
  refine world_cutR (G := fun W => Code.wp _ _ _ _ W) (fun W => Rn N g p (t + 1) (s) ov w w.heap.size ⟨31, kd, ar, pl, n⟩ W ov) HR.out ?_
  rintro W hP1
  clear HR ct ft hlt x5 x6 y5 y6
  generalize hbb : w.heap.size = b at *
  replace hbb := Lib.hid hbb
  obtain ⟨c0, c1, c2, c3, c4⟩ := rn5 hP1
  have d6 := hP1.now.at_.val
  have f6 := hP1.now.at_.free 6
  dsimp only at c0 c1 c2 c3 c4 d6
  clear c2 c3 c4
  have hP2 := hP1.drew
  clear hP1
  have hP1 := hP2
  clear hP2
  go_region_with (first | (go_at_call 54; (with_reducible refine (HK.out _).mono ?_); rintro e w1 ⟨rfl, hb1⟩; have hP2 := hP1.next hb1; clear hb1 hP1; have hP1 := hP2; clear hP2; have d6 := hP1.now.at_.val; have f6 := hP1.now.at_.free 6; have l6 := hP1.now.at_.lt; have d5 := hP1.now.at_.kd; have f5 := hP1.now.at_.free 5; have y1 := hP1.bi.2.1))
  all_goals
    have hP2 := hP1.val hne.out hov.out (V)
    clear hP1
    have hP1 := hP2
    clear hP2
    have hP2 := hP1.knd hne.out hov.out (kd)
    clear hP1
    have hP1 := hP2
    clear hP2
    replace hP1 := Lib.hid hP1
    go_wp2
    go_ret
    exact ⟨rfl, hP1.out.now⟩
set_option maxRecDepth 100000 in
set_option maxHeartbeats 4000000 in
theorem st_25a (w : World) (h : RfAt w N g p t s ov) (kd ar pl n : Int) (k : Nat) (hk : (k : Int) < 1000) (ht : t < 1000)  :
    Calls Try.prog 31 #[.pointer (some ⟨g, 0, none⟩), insV ⟨25, kd, ar, pl, n⟩, .int .i64 k] w fun e w' => e = .returned (.int .i64 (pl)) ∧ RNow N g p (t + 1) (s) ov w w' ov := by
  obtain ⟨hne, hov⟩ := own_newR h
  have HR := Rn.newA (((RNow.first h).steps (t + 1))) (by simp) ⟨25, kd, ar, pl, n⟩ 54
  rw [show ((t + 1 : Nat) : Int) = (t : Int) + 1 by simp] at HR
  replace HR := Lib.hid HR
  replace hne := Lib.hid hne
  replace hov := Lib.hid hov
  have _u := hk
  clear _u
  have ct := h.stp
  have ft := h.free 8
  have x5 := h.kd
  have x6 := h.val
  have y5 := h.free 5
  have y6 := h.free 6
  have hlt := h.lt
  have ht2 : (t : Int) < 1000 := by omega
  clear h ht
  unfold insV
  go_enter Try.func31, Try.ntmps31
  go_wp2_with fail
  go_wp2
  go_ret
  exact ⟨rfl, HR.out.now⟩
set_option maxRecDepth 100000 in
set_option maxHeartbeats 4000000 in
theorem st_26a (w : World) (h : RfAt w N g p t s ov) (kd ar pl n : Int) (k : Nat) (hk : (k : Int) < 1000) (ht : t < 1000) (hv : s.v = 1) :
    Calls Try.prog 31 #[.pointer (some ⟨g, 0, none⟩), insV ⟨26, kd, ar, pl, n⟩, .int .i64 k] w fun e w' => e = .returned (.int .i64 (pl)) ∧ RNow N g p (t + 1) (s) ov w w' ov := by
  obtain ⟨hne, hov⟩ := own_newR h
  have HR := Rn.newA (((RNow.first h).steps (t + 1))) (by simp) ⟨26, kd, ar, pl, n⟩ 54
  rw [show ((t + 1 : Nat) : Int) = (t : Int) + 1 by simp] at HR
  replace HR := Lib.hid HR
  replace hne := Lib.hid hne
  replace hov := Lib.hid hov
  have _u := hk
  clear _u
  have ct := h.stp
  have ft := h.free 8
  have x5 := h.kd
  have x6 := h.val
  rw [hv] at x6
  have y5 := h.free 5
  have y6 := h.free 6
  have hlt := h.lt
  have ht2 : (t : Int) < 1000 := by omega
  clear h ht
  unfold insV
  go_enter Try.func31, Try.ntmps31
  go_wp2_with fail
  go_wp2
  go_ret
  exact ⟨rfl, HR.out.now⟩
set_option maxRecDepth 100000 in
set_option maxHeartbeats 4000000 in
theorem st_26b (w : World) (h : RfAt w N g p t s ov) (kd ar pl n : Int) (k : Nat) (hk : (k : Int) < 1000) (ht : t < 1000) (hv : s.v = 0) :
    Calls Try.prog 31 #[.pointer (some ⟨g, 0, none⟩), insV ⟨26, kd, ar, pl, n⟩, .int .i64 k] w fun e w' => e = .returned (.int .i64 ((k : Int) + 1)) ∧ RNow N g p (t + 1) (s) ov w w' ov := by
  obtain ⟨hne, hov⟩ := own_newR h
  have HR := Rn.newA (((RNow.first h).steps (t + 1))) (by simp) ⟨26, kd, ar, pl, n⟩ 54
  rw [show ((t + 1 : Nat) : Int) = (t : Int) + 1 by simp] at HR
  replace HR := Lib.hid HR
  replace hne := Lib.hid hne
  replace hov := Lib.hid hov
  have _u := hk
  clear _u
  have ct := h.stp
  have ft := h.free 8
  have x5 := h.kd
  have x6 := h.val
  rw [hv] at x6
  have y5 := h.free 5
  have y6 := h.free 6
  have hlt := h.lt
  have ht2 : (t : Int) < 1000 := by omega
  clear h ht
  unfold insV
  go_enter Try.func31, Try.ntmps31
  go_wp2_with fail
  go_wp2
  go_ret
  exact ⟨rfl, HR.out.now⟩
set_option maxRecDepth 100000 in
set_option maxHeartbeats 4000000 in
theorem st_27a (w : World) (h : RfAt w N g p t s ov) (kd ar pl n : Int) (k : Nat) (hk : (k : Int) < 1000) (ht : t < 1000) (hv : s.v = 0) :
    Calls Try.prog 31 #[.pointer (some ⟨g, 0, none⟩), insV ⟨27, kd, ar, pl, n⟩, .int .i64 k] w fun e w' => e = .returned (.int .i64 (pl)) ∧ RNow N g p (t + 1) (s) ov w w' ov := by
  obtain ⟨hne, hov⟩ := own_newR h
  have HR := Rn.newA (((RNow.first h).steps (t + 1))) (by simp) ⟨27, kd, ar, pl, n⟩ 54
  rw [show ((t + 1 : Nat) : Int) = (t : Int) + 1 by simp] at HR
  replace HR := Lib.hid HR
  replace hne := Lib.hid hne
  replace hov := Lib.hid hov
  have _u := hk
  clear _u
  have ct := h.stp
  have ft := h.free 8
  have x5 := h.kd
  have x6 := h.val
  rw [hv] at x6
  have y5 := h.free 5
  have y6 := h.free 6
  have hlt := h.lt
  have ht2 : (t : Int) < 1000 := by omega
  clear h ht
  unfold insV
  go_enter Try.func31, Try.ntmps31
  go_wp2_with fail
  go_wp2
  go_ret
  exact ⟨rfl, HR.out.now⟩
set_option maxRecDepth 100000 in
set_option maxHeartbeats 4000000 in
theorem st_27b (w : World) (h : RfAt w N g p t s ov) (kd ar pl n : Int) (k : Nat) (hk : (k : Int) < 1000) (ht : t < 1000) (hv : s.v = 1) :
    Calls Try.prog 31 #[.pointer (some ⟨g, 0, none⟩), insV ⟨27, kd, ar, pl, n⟩, .int .i64 k] w fun e w' => e = .returned (.int .i64 ((k : Int) + 1)) ∧ RNow N g p (t + 1) (s) ov w w' ov := by
  obtain ⟨hne, hov⟩ := own_newR h
  have HR := Rn.newA (((RNow.first h).steps (t + 1))) (by simp) ⟨27, kd, ar, pl, n⟩ 54
  rw [show ((t + 1 : Nat) : Int) = (t : Int) + 1 by simp] at HR
  replace HR := Lib.hid HR
  replace hne := Lib.hid hne
  replace hov := Lib.hid hov
  have _u := hk
  clear _u
  have ct := h.stp
  have ft := h.free 8
  have x5 := h.kd
  have x6 := h.val
  rw [hv] at x6
  have y5 := h.free 5
  have y6 := h.free 6
  have hlt := h.lt
  have ht2 : (t : Int) < 1000 := by omega
  clear h ht
  unfold insV
  go_enter Try.func31, Try.ntmps31
  go_wp2_with fail
  go_wp2
  go_ret
  exact ⟨rfl, HR.out.now⟩
set_option maxRecDepth 100000 in
set_option maxHeartbeats 4000000 in
theorem st_28a (w : World) (h : RfAt w N g p t s ov) (kd ar pl n : Int) (k : Nat) (hk : (k : Int) < 1000) (ht : t < 1000)  :
    Calls Try.prog 31 #[.pointer (some ⟨g, 0, none⟩), insV ⟨28, kd, ar, pl, n⟩, .int .i64 k] w fun e w' => e = .returned (.int .i64 (-1)) ∧ RNow N g p (t + 1) (s) ov w w' ov := by
  obtain ⟨hne, hov⟩ := own_newR h
  have HR := Rn.newA (((RNow.first h).steps (t + 1))) (by simp) ⟨28, kd, ar, pl, n⟩ 54
  rw [show ((t + 1 : Nat) : Int) = (t : Int) + 1 by simp] at HR
  replace HR := Lib.hid HR
  replace hne := Lib.hid hne
  replace hov := Lib.hid hov
  have _u := hk
  clear _u
  have ct := h.stp
  have ft := h.free 8
  have x5 := h.kd
  have x6 := h.val
  have y5 := h.free 5
  have y6 := h.free 6
  have hlt := h.lt
  have ht2 : (t : Int) < 1000 := by omega
  clear h ht
  unfold insV
  go_enter Try.func31, Try.ntmps31
  go_wp2_with fail
  go_wp2
  go_ret
  exact ⟨rfl, HR.out.now⟩
set_option maxRecDepth 100000 in
set_option maxHeartbeats 4000000 in
theorem st_29a (w : World) (h : RfAt w N g p t s ov) (kd ar pl n : Int) (k : Nat) (hk : (k : Int) < 1000) (ht : t < 1000) (hv : s.v = 1) :
    Calls Try.prog 31 #[.pointer (some ⟨g, 0, none⟩), insV ⟨29, kd, ar, pl, n⟩, .int .i64 k] w fun e w' => e = .returned (.int .i64 (-1)) ∧ RNow N g p (t + 1) (s) ov w w' ov := by
  obtain ⟨hne, hov⟩ := own_newR h
  have HR := Rn.newA (((RNow.first h).steps (t + 1))) (by simp) ⟨29, kd, ar, pl, n⟩ 54
  rw [show ((t + 1 : Nat) : Int) = (t : Int) + 1 by simp] at HR
  replace HR := Lib.hid HR
  replace hne := Lib.hid hne
  replace hov := Lib.hid hov
  have _u := hk
  clear _u
  have ct := h.stp
  have ft := h.free 8
  have x5 := h.kd
  have x6 := h.val
  rw [hv] at x6
  have y5 := h.free 5
  have y6 := h.free 6
  have hlt := h.lt
  have ht2 : (t : Int) < 1000 := by omega
  clear h ht
  unfold insV
  go_enter Try.func31, Try.ntmps31
  go_wp2_with fail
  go_wp2
  go_ret
  exact ⟨rfl, HR.out.now⟩
set_option maxRecDepth 100000 in
set_option maxHeartbeats 4000000 in
theorem st_29b (w : World) (h : RfAt w N g p t s ov) (kd ar pl n : Int) (k : Nat) (hk : (k : Int) < 1000) (ht : t < 1000) (hv : s.v = 0) :
    Calls Try.prog 31 #[.pointer (some ⟨g, 0, none⟩), insV ⟨29, kd, ar, pl, n⟩, .int .i64 k] w fun e w' => e = .returned (.int .i64 ((k : Int) + 1)) ∧ RNow N g p (t + 1) (s) ov w w' ov := by
  obtain ⟨hne, hov⟩ := own_newR h
  have HR := Rn.newA (((RNow.first h).steps (t + 1))) (by simp) ⟨29, kd, ar, pl, n⟩ 54
  rw [show ((t + 1 : Nat) : Int) = (t : Int) + 1 by simp] at HR
  replace HR := Lib.hid HR
  replace hne := Lib.hid hne
  replace hov := Lib.hid hov
  have _u := hk
  clear _u
  have ct := h.stp
  have ft := h.free 8
  have x5 := h.kd
  have x6 := h.val
  rw [hv] at x6
  have y5 := h.free 5
  have y6 := h.free 6
  have hlt := h.lt
  have ht2 : (t : Int) < 1000 := by omega
  clear h ht
  unfold insV
  go_enter Try.func31, Try.ntmps31
  go_wp2_with fail
  go_wp2
  go_ret
  exact ⟨rfl, HR.out.now⟩
set_option maxRecDepth 100000 in
set_option maxHeartbeats 4000000 in
theorem st_30a (w : World) (h : RfAt w N g p t s ov) (kd ar pl n : Int) (k : Nat) (hk : (k : Int) < 1000) (ht : t < 1000) (hv : s.v = 0) :
    Calls Try.prog 31 #[.pointer (some ⟨g, 0, none⟩), insV ⟨30, kd, ar, pl, n⟩, .int .i64 k] w fun e w' => e = .returned (.int .i64 (-1)) ∧ RNow N g p (t + 1) (s) ov w w' ov := by
  obtain ⟨hne, hov⟩ := own_newR h
  have HR := Rn.newA (((RNow.first h).steps (t + 1))) (by simp) ⟨30, kd, ar, pl, n⟩ 54
  rw [show ((t + 1 : Nat) : Int) = (t : Int) + 1 by simp] at HR
  replace HR := Lib.hid HR
  replace hne := Lib.hid hne
  replace hov := Lib.hid hov
  have _u := hk
  clear _u
  have ct := h.stp
  have ft := h.free 8
  have x5 := h.kd
  have x6 := h.val
  rw [hv] at x6
  have y5 := h.free 5
  have y6 := h.free 6
  have hlt := h.lt
  have ht2 : (t : Int) < 1000 := by omega
  clear h ht
  unfold insV
  go_enter Try.func31, Try.ntmps31
  go_wp2_with fail
  go_wp2
  go_ret
  exact ⟨rfl, HR.out.now⟩
set_option maxRecDepth 100000 in
set_option maxHeartbeats 4000000 in
theorem st_30b (w : World) (h : RfAt w N g p t s ov) (kd ar pl n : Int) (k : Nat) (hk : (k : Int) < 1000) (ht : t < 1000) (hv : s.v = 1) :
    Calls Try.prog 31 #[.pointer (some ⟨g, 0, none⟩), insV ⟨30, kd, ar, pl, n⟩, .int .i64 k] w fun e w' => e = .returned (.int .i64 ((k : Int) + 1)) ∧ RNow N g p (t + 1) (s) ov w w' ov := by
  obtain ⟨hne, hov⟩ := own_newR h
  have HR := Rn.newA (((RNow.first h).steps (t + 1))) (by simp) ⟨30, kd, ar, pl, n⟩ 54
  rw [show ((t + 1 : Nat) : Int) = (t : Int) + 1 by simp] at HR
  replace HR := Lib.hid HR
  replace hne := Lib.hid hne
  replace hov := Lib.hid hov
  have _u := hk
  clear _u
  have ct := h.stp
  have ft := h.free 8
  have x5 := h.kd
  have x6 := h.val
  rw [hv] at x6
  have y5 := h.free 5
  have y6 := h.free 6
  have hlt := h.lt
  have ht2 : (t : Int) < 1000 := by omega
  clear h ht
  unfold insV
  go_enter Try.func31, Try.ntmps31
  go_wp2_with fail
  go_wp2
  go_ret
  exact ⟨rfl, HR.out.now⟩
set_option maxRecDepth 100000 in
set_option maxHeartbeats 4000000 in
theorem st_34 (w : World) (h : RfAt w N g p t s ov) (kd ar pl n : Int) (k : Nat) (hk : (k : Int) < 1000) (ht : t < 1000) (hr : rightI ⟨34, kd, ar, pl, n⟩ = true) (hy : Ty ⟨34, kd, ar, pl, n⟩ s) (hp0 : 0 ≤ p) (hp1 : p ≤ 10000) :
    Calls Try.prog 31 #[.pointer (some ⟨g, 0, none⟩), insV ⟨34, kd, ar, pl, n⟩, .int .i64 k] w fun e w' => e = .returned (.int .i64 ((k : Int) + 1)) ∧ RNow N g p (t + 1) (doI p ⟨34, kd, ar, pl, n⟩ s) ov w w' ov := by
  have HB := Lib.hid (fun W (h : RfAt W N g p (t + 1) s ov) => rBlock_any W h ⟨34, kd, ar, pl, n⟩ (by dsimp only; omega) hr hy hp0 hp1)
  generalize doI p ⟨34, kd, ar, pl, n⟩ s = s1 at *
  unfold insV at HB
  obtain ⟨hne, hov⟩ := own_newR h
  have HR := Rn.newA (((RNow.first h).steps (t + 1))) (by simp) ⟨34, kd, ar, pl, n⟩ 54
  rw [show ((t + 1 : Nat) : Int) = (t : Int) + 1 by simp] at HR
  replace HR := Lib.hid HR
  replace hne := Lib.hid hne
  replace hov := Lib.hid hov
  have _u := hk
  clear _u
  have ct := h.stp
  have ft := h.free 8
  have x5 := h.kd
  have x6 := h.val
  have y5 := h.free 5
  have y6 := h.free 6
  have hlt := h.lt
  have ht2 : (t : Int) < 1000 := by omega
  clear h ht hr hy hp0 hp1
  unfold insV
  go_enter Try.func31, Try.ntmps31
  go_wp2_with fail
  with_reducible refine (HB.out _ HR.out.now.at_).mono ?_
  rintro e w1 ⟨rfl, hb1⟩
  have hP1 := HR.out.step hb1 hne.out hov.out
  clear HR hb1 ct ft hlt x5 x6 y5 y6
  obtain ⟨c0, c1, c2, c3, c4⟩ := rn5 hP1
  have d5 := hP1.now.at_.kd
  have d6 := hP1.now.at_.val
  have f5 := hP1.now.at_.free 5
  have f6 := hP1.now.at_.free 6
  have l6 := hP1.now.at_.lt
  dsimp only at c0 c1 c2 c3 c4 d5 d6
  replace hP1 := Lib.hid hP1
  go_wp2
  go_ret
  exact ⟨rfl, hP1.out.now⟩
set_option maxRecDepth 100000 in
set_option maxHeartbeats 4000000 in
theorem st_35 (w : World) (h : RfAt w N g p t s ov) (kd ar pl n : Int) (k : Nat) (hk : (k : Int) < 1000) (ht : t < 1000) (hr : rightI ⟨35, kd, ar, pl, n⟩ = true) (hy : Ty ⟨35, kd, ar, pl, n⟩ s) (hp0 : 0 ≤ p) (hp1 : p ≤ 10000) :
    Calls Try.prog 31 #[.pointer (some ⟨g, 0, none⟩), insV ⟨35, kd, ar, pl, n⟩, .int .i64 k] w fun e w' => e = .returned (.int .i64 ((k : Int) + 1)) ∧ RNow N g p (t + 1) (doI p ⟨35, kd, ar, pl, n⟩ s) ov w w' ov := by
  have HB := Lib.hid (fun W (h : RfAt W N g p (t + 1) s ov) => rBlock_any W h ⟨35, kd, ar, pl, n⟩ (by dsimp only; omega) hr hy hp0 hp1)
  generalize doI p ⟨35, kd, ar, pl, n⟩ s = s1 at *
  unfold insV at HB
  obtain ⟨hne, hov⟩ := own_newR h
  have HR := Rn.newA (((RNow.first h).steps (t + 1))) (by simp) ⟨35, kd, ar, pl, n⟩ 54
  rw [show ((t + 1 : Nat) : Int) = (t : Int) + 1 by simp] at HR
  replace HR := Lib.hid HR
  replace hne := Lib.hid hne
  replace hov := Lib.hid hov
  have _u := hk
  clear _u
  have ct := h.stp
  have ft := h.free 8
  have x5 := h.kd
  have x6 := h.val
  have y5 := h.free 5
  have y6 := h.free 6
  have hlt := h.lt
  have ht2 : (t : Int) < 1000 := by omega
  clear h ht hr hy hp0 hp1
  unfold insV
  go_enter Try.func31, Try.ntmps31
  go_wp2_with fail
  with_reducible refine (HB.out _ HR.out.now.at_).mono ?_
  rintro e w1 ⟨rfl, hb1⟩
  have hP1 := HR.out.step hb1 hne.out hov.out
  clear HR hb1 ct ft hlt x5 x6 y5 y6
  obtain ⟨c0, c1, c2, c3, c4⟩ := rn5 hP1
  have d5 := hP1.now.at_.kd
  have d6 := hP1.now.at_.val
  have f5 := hP1.now.at_.free 5
  have f6 := hP1.now.at_.free 6
  have l6 := hP1.now.at_.lt
  dsimp only at c0 c1 c2 c3 c4 d5 d6
  replace hP1 := Lib.hid hP1
  go_wp2
  go_ret
  exact ⟨rfl, hP1.out.now⟩
set_option maxRecDepth 100000 in
set_option maxHeartbeats 4000000 in
theorem st_36 (w : World) (h : RfAt w N g p t s ov) (kd ar pl n : Int) (k : Nat) (hk : (k : Int) < 1000) (ht : t < 1000) (hr : rightI ⟨36, kd, ar, pl, n⟩ = true) (hy : Ty ⟨36, kd, ar, pl, n⟩ s) (hp0 : 0 ≤ p) (hp1 : p ≤ 10000) :
    Calls Try.prog 31 #[.pointer (some ⟨g, 0, none⟩), insV ⟨36, kd, ar, pl, n⟩, .int .i64 k] w fun e w' => e = .returned (.int .i64 ((k : Int) + 1)) ∧ RNow N g p (t + 1) (doI p ⟨36, kd, ar, pl, n⟩ s) ov w w' ov := by
  have HB := Lib.hid (fun W (h : RfAt W N g p (t + 1) s ov) => rBlock_any W h ⟨36, kd, ar, pl, n⟩ (by dsimp only; omega) hr hy hp0 hp1)
  generalize doI p ⟨36, kd, ar, pl, n⟩ s = s1 at *
  unfold insV at HB
  obtain ⟨hne, hov⟩ := own_newR h
  have HR := Rn.newA (((RNow.first h).steps (t + 1))) (by simp) ⟨36, kd, ar, pl, n⟩ 54
  rw [show ((t + 1 : Nat) : Int) = (t : Int) + 1 by simp] at HR
  replace HR := Lib.hid HR
  replace hne := Lib.hid hne
  replace hov := Lib.hid hov
  have _u := hk
  clear _u
  have ct := h.stp
  have ft := h.free 8
  have x5 := h.kd
  have x6 := h.val
  have y5 := h.free 5
  have y6 := h.free 6
  have hlt := h.lt
  have ht2 : (t : Int) < 1000 := by omega
  clear h ht hr hy hp0 hp1
  unfold insV
  go_enter Try.func31, Try.ntmps31
  go_wp2_with fail
  with_reducible refine (HB.out _ HR.out.now.at_).mono ?_
  rintro e w1 ⟨rfl, hb1⟩
  have hP1 := HR.out.step hb1 hne.out hov.out
  clear HR hb1 ct ft hlt x5 x6 y5 y6
  obtain ⟨c0, c1, c2, c3, c4⟩ := rn5 hP1
  have d5 := hP1.now.at_.kd
  have d6 := hP1.now.at_.val
  have f5 := hP1.now.at_.free 5
  have f6 := hP1.now.at_.free 6
  have l6 := hP1.now.at_.lt
  dsimp only at c0 c1 c2 c3 c4 d5 d6
  replace hP1 := Lib.hid hP1
  go_wp2
  go_ret
  exact ⟨rfl, hP1.out.now⟩

end
end Go.Proofs.Ytbjmdehfdnpljaa.Vm

namespace Go.Proofs.Ytbjmdehfdnpljaa.Vm
open Go.RowKit
open Go.Proofs.Ytbjmdehfdnpljaa.Il hiding Next S S_size S_app S_inj S_list
open Go.Proofs.Ytbjmdehfdnpljaa.Ic Go.Proofs.Ytbjmdehfdnpljaa.Ve
open Oct

section
variable {N g : Nat} {p : Int} {t : Nat} {s : St} {ov : Value}
set_option linter.unusedSimpArgs false in
set_option maxRecDepth 100000 in
set_option maxHeartbeats 4000000 in
theorem st_join (w : World) (h : RfAt w N g p t s ov) (kd ar pl n : Int) (k : Nat) (hk : (k : Int) < 1000) (ht : t < 1000) (op : Int) (h1 : (op == 1) = false) (h2 : (op == 2) = false) (h3 : (op == 3) = false) (h4 : (op == 4) = false) (h5 : (op == 5) = false) (h6 : (op == 6) = false) (h13 : (op == 13) = false) (h7 : decide ((7 : Int) ≤ op) = true) (h24 : decide (op ≤ (24 : Int)) = true) (hi : AskOk ⟨op, kd, ar, pl, n⟩) (hz : s.z < 1000) :
    Calls Try.prog 31 #[.pointer (some ⟨g, 0, none⟩), insV ⟨op, kd, ar, pl, n⟩, .int .i64 k] w fun e w' => e = .returned (.int .i64 ((k : Int) + 1)) ∧ RNow N g p (t + 1) (joinI op kd s.v (askI ⟨op, kd, ar, pl, n⟩ s) s) ov w w' ov := by
  have HJ := Lib.hid (fun W (h : RfAt W N g p (t + 1) s ov) => rDoR_any W h op kd s.v (askI ⟨op, kd, ar, pl, n⟩ s) hz (of_decide_eq_true h24))
  generalize hs1 : joinI op kd s.v (askI ⟨op, kd, ar, pl, n⟩ s) s = s1 at *
  clear hs1
  have HC := Lib.hid (fun W (h : RfAt W N g p (t + 1) (s) ov) => rGetR_any W h ⟨op, kd, ar, pl, n⟩ hi)
  rw [show askI ⟨op, kd, ar, pl, n⟩ (s) = askI ⟨op, kd, ar, pl, n⟩ s from rfl] at HC
  generalize askI ⟨op, kd, ar, pl, n⟩ s = V at *
  unfold insV at HC
  obtain ⟨hne, hov⟩ := own_newR h
  have HR := Rn.newA (((RNow.first h).steps (t + 1))) (by simp) ⟨op, kd, ar, pl, n⟩ 54
  rw [show ((t + 1 : Nat) : Int) = (t : Int) + 1 by simp] at HR
  replace HR := Lib.hid HR
  replace hne := Lib.hid hne
  replace hov := Lib.hid hov
  have _u := hk
  clear _u
  have ct := h.stp
  have ft := h.free 8
  have x5 := h.kd
  have x6 := h.val
  have y5 := h.free 5
  have y6 := h.free 6
  have hlt := h.lt
  have ht2 : (t : Int) < 1000 := by omega
  clear h ht hi hz
  unfold insV
  go_enter Try.func31, Try.ntmps31
  go_wp2_with fail
  refine world_cutR (G := fun W => Code.wp _ _ _ _ W) (fun W => Rn N g p (t + 1) (s) ov w w.heap.size ⟨op, kd, ar, pl, n⟩ W ov) HR.out ?_
  rintro W hP1
  clear HR ct ft hlt x5 x6 y5 y6
  generalize hbb : w.heap.size = b at *
  replace hbb := Lib.hid hbb
  obtain ⟨c0, c1, c2, c3, c4⟩ := rn5 hP1
  have d6 := hP1.now.at_.val
  dsimp only at c0 c1 c2 c3 c4 d6
  have hP2 := hP1.drew
  clear hP1
  have hP1 := hP2
  clear hP2
  refine wp_region_held_drew (S := (fun W' => W'.cell? ⟨b, 0, none⟩ = some (.int .i64 op) ∧ W'.cell? ⟨b, 1, none⟩ = some (.int .i64 kd) ∧ W'.cell? ⟨b, 2, none⟩ = some (.int .i64 ar) ∧ W'.cell? ⟨b, 3, none⟩ = some (.int .i64 pl) ∧ W'.cell? ⟨b, 4, none⟩ = some (.int .i64 n))) (by kernel_rfl) (rn5 hP1) (fun hHeld => ?_)
  refine wpAnyH_take (i := 0) (oi := _) (v := ?_) rfl (by kernel_rfl) (by kernel_rfl) (by kernel_rfl) (fun _ _ _ h => h) (Or.inl ⟨by rfl, ?_⟩) (by assumption) ?_
  rotate_left 1
  · intro w hSw
    (try dsimp only at hSw)
    go_simp
    (try with_reducible rfl)
  try simp only [Act.put, List.setIfInBounds_toArray, List.set_cons_zero, List.set_cons_succ]
  refine wpAnyH_take (i := 1) (oi := _) (v := ?_) rfl (by kernel_rfl) (by kernel_rfl) (by kernel_rfl) (fun _ _ _ h => h) (Or.inl ⟨by rfl, ?_⟩) (by assumption) ?_
  rotate_left 1
  · intro w hSw
    (try dsimp only at hSw)
    go_simp
    (try with_reducible rfl)
  try simp only [Act.put, List.setIfInBounds_toArray, List.set_cons_zero, List.set_cons_succ]
  refine wpAnyH_take (i := 2) (oi := _) (v := ?_) rfl (by kernel_rfl) (by kernel_rfl) (by kernel_rfl) (fun _ _ _ h => h) (Or.inl ⟨by rfl, ?_⟩) (by assumption) ?_
  rotate_left 1
  · intro w hSw
    (try dsimp only at hSw)
    go_simp
    (try with_reducible rfl)
  try simp only [Act.put, List.setIfInBounds_toArray, List.set_cons_zero, List.set_cons_succ]
  refine wpAnyH_take (i := 3) (oi := _) (v := ?_) rfl (by kernel_rfl) (by kernel_rfl) (by kernel_rfl) (fun _ _ _ h => h) (Or.inl ⟨by rfl, ?_⟩) (by assumption) ?_
  rotate_left 1
  · intro w hSw
    (try dsimp only at hSw)
    go_simp
    (try with_reducible rfl)
  try simp only [Act.put, List.setIfInBounds_toArray, List.set_cons_zero, List.set_cons_succ]
  refine wpAnyH_take (i := 4) (oi := _) (v := ?_) rfl (by kernel_rfl) (by kernel_rfl) (by kernel_rfl) (fun _ _ _ h => h) (Or.inl ⟨by rfl, ?_⟩) (by assumption) ?_
  rotate_left 1
  · intro w hSw
    (try dsimp only at hSw)
    go_simp
    (try with_reducible rfl)
  try simp only [Act.put, List.setIfInBounds_toArray, List.set_cons_zero, List.set_cons_succ]
  refine wpAnyH_take (i := 5) (oi := _) (v := ?_) rfl (by kernel_rfl) (by kernel_rfl) (by kernel_rfl) (fun _ _ _ h => h) (Or.inl ⟨by rfl, ?_⟩) (by assumption) ?_
  rotate_left 1
  · intro w hSw
    (try dsimp only at hSw)
    go_simp
    (try with_reducible rfl)
  try simp only [Act.put, List.setIfInBounds_toArray, List.set_cons_zero, List.set_cons_succ]
  refine wpAnyH_take (i := 6) (oi := _) (v := ?_) rfl (by kernel_rfl) (by kernel_rfl) (by kernel_rfl) (fun _ _ _ h => h) (Or.inl ⟨by rfl, ?_⟩) (by assumption) ?_
  rotate_left 1
  · intro w hSw
    (try dsimp only at hSw)
    go_simp
    (try with_reducible rfl)
  try simp only [Act.put, List.setIfInBounds_toArray, List.set_cons_zero, List.set_cons_succ]
  refine wpAnyH_take (i := 7) (oi := _) (v := ?_) rfl (by kernel_rfl) (by kernel_rfl) (by kernel_rfl) (fun _ _ _ h => h) (Or.inl ⟨by rfl, ?_⟩) (by assumption) ?_
  rotate_left 1
  · intro w hSw
    (try dsimp only at hSw)
    go_simp
    (try with_reducible rfl)
  try simp only [Act.put, List.setIfInBounds_toArray, List.set_cons_zero, List.set_cons_succ]
  refine wpAnyH_take (i := 9) (oi := _) (v := ?_) rfl (by kernel_rfl) (by kernel_rfl) (by kernel_rfl) (fun _ _ _ h => h) (Or.inl ⟨by rfl, ?_⟩) (by assumption) ?_
  rotate_left 1
  · intro w hSw
    (try dsimp only at hSw)
    go_simp
    (try with_reducible rfl)
  try simp only [Act.put, List.setIfInBounds_toArray, List.set_cons_zero, List.set_cons_succ]
  refine wpAnyH_take (i := 10) (oi := _) (v := ?_) rfl (by kernel_rfl) (by kernel_rfl) (by kernel_rfl) (fun _ _ _ h => h) (Or.inl ⟨by rfl, ?_⟩) (by assumption) ?_
  rotate_left 1
  · intro w hSw
    (try dsimp only at hSw)
    go_simp
    (try with_reducible rfl)
  try simp only [Act.put, List.setIfInBounds_toArray, List.set_cons_zero, List.set_cons_succ]
  refine wpAnyH_ready (rs := [8, 11]) (by kernel_rfl) (by simp) (AllReadyH.cons (o := _) rfl (fun K hK => ?_) (AllReadyH.cons (o := _) rfl (fun K hK => ?_) AllReadyH.nil))
  · go_simp
    refine hK.out _ _ (by with_reducible exact rn5 hP1) (fun hHeld => ?_)
    clear hK K
    try simp only [Act.put, List.setIfInBounds_toArray, List.set_cons_zero, List.set_cons_succ]
    refine wpAnyH_ready (rs := [11]) (by kernel_rfl) (by simp) (AllReadyH.cons (o := _) rfl (fun K hK => ?_) AllReadyH.nil)
    go_simp
    (go_at_call 50; (with_reducible refine (HC.out _ hP1.now.at_).mono ?_))
    rintro e w1 ⟨rfl, hb1⟩
    have hP2 := hP1.next hb1
    clear hb1 hP1
    have hP1 := hP2
    clear hP2
    have d6 := hP1.now.at_.val
    refine hK.out _ _ (by with_reducible exact rn5 hP1) (fun hHeld => ?_)
    clear hK K
    try simp only [Act.put, List.setIfInBounds_toArray, List.set_cons_zero, List.set_cons_succ]
    refine wpAnyH_ready (rs := [12]) (by kernel_rfl) (by simp) (AllReadyH.cons (o := _) rfl (fun K hK => ?_) AllReadyH.nil)
    go_simp
    (go_at_call 53; (with_reducible refine (HJ.out _ hP1.now.at_).mono ?_))
    rintro e w1 ⟨rfl, hb1⟩
    have hP2 := hP1.step hb1 hne.out hov.out
    clear hb1 hP1
    have hP1 := hP2
    clear hP2
    refine hK.out _ _ (by with_reducible exact rn5 hP1) (fun hHeld => ?_)
    clear hK K
    refine wpAnyH_done (by kernel_rfl) ?_ _
    replace hP1 := Lib.hid hP1
    go_wp2
    go_ret
    exact ⟨rfl, hP1.out.now⟩
  · go_simp
    (go_at_call 50; (with_reducible refine (HC.out _ hP1.now.at_).mono ?_))
    rintro e w1 ⟨rfl, hb1⟩
    have hP2 := hP1.next hb1
    clear hb1 hP1
    have hP1 := hP2
    clear hP2
    have d6 := hP1.now.at_.val
    refine hK.out _ _ (by with_reducible exact rn5 hP1) (fun hHeld => ?_)
    clear hK K
    try simp only [Act.put, List.setIfInBounds_toArray, List.set_cons_zero, List.set_cons_succ]
    refine wpAnyH_ready (rs := [8]) (by kernel_rfl) (by simp) (AllReadyH.cons (o := _) rfl (fun K hK => ?_) AllReadyH.nil)
    go_simp
    refine hK.out _ _ (by with_reducible exact rn5 hP1) (fun hHeld => ?_)
    clear hK K
    try simp only [Act.put, List.setIfInBounds_toArray, List.set_cons_zero, List.set_cons_succ]
    refine wpAnyH_ready (rs := [12]) (by kernel_rfl) (by simp) (AllReadyH.cons (o := _) rfl (fun K hK => ?_) AllReadyH.nil)
    go_simp
    (go_at_call 53; (with_reducible refine (HJ.out _ hP1.now.at_).mono ?_))
    rintro e w1 ⟨rfl, hb1⟩
    have hP2 := hP1.step hb1 hne.out hov.out
    clear hb1 hP1
    have hP1 := hP2
    clear hP2
    refine hK.out _ _ (by with_reducible exact rn5 hP1) (fun hHeld => ?_)
    clear hK K
    refine wpAnyH_done (by kernel_rfl) ?_ _
    replace hP1 := Lib.hid hP1
    go_wp2
    go_ret
    exact ⟨rfl, hP1.out.now⟩

end
end Go.Proofs.Ytbjmdehfdnpljaa.Vm

namespace Go.Proofs.Ytbjmdehfdnpljaa.Vm
open Go.RowKit
open Go.Proofs.Ytbjmdehfdnpljaa.Il hiding Next S S_size S_app S_inj S_list
open Go.Proofs.Ytbjmdehfdnpljaa.Ic Go.Proofs.Ytbjmdehfdnpljaa.Ve
open Oct

theorem Try.infoRb : (Try.prog.info? 104).map (fun i => (i.zero, i.size, i.bytes)) = some (some (.agg #[.int .i64 0, .int .i64 0, .int .i64 0]), 3, 24) := by kernel_rfl
section
variable {N g : Nat} {p : Int} {t : Nat} {s : St} {ov : Value}
theorem flatR_app (a b : List Bk) : flatK (a ++ b) = flatK a ++ flatK b := by unfold flatK; rw [List.flatMap_append]
/-- A bracket more: the row behind an append, and the run that names it. -/
theorem pushedR {X W1 : World} {ov1 : Value} {b : Bk} {g1 H : Nat} (h : RfAt X N g p t s ov) (hown : W1.ownsRow N 104 3 ov1 (s.op.length + 1) (flatK s.op ++ brkC b)) (hgr : X.grownBy W1 ov.ownBlock) (hb : ov1.ownBlock = some g1) (hat : ov.ownBlock = some g1 ∨ g1 = H) (hH : X.heap.size = H) :
    W1.cell? ⟨g, 7, none⟩ = some ov ∧ W1.frozen? ⟨g, 7, none⟩ = false ∧ g < W1.heap.size ∧ RNow N g p t ⟨s.A, s.kd, s.v, s.op ++ [b], s.z⟩ ov X (W1.setCell ⟨g, 7, none⟩ ov1) ov1 := by
  have hne : some g ≠ ov.ownBlock := fun e => h.far g e.symm rfl
  have hblk : W1.heap[g]? = _ := (hgr.block g h.lt hne).trans h.blk
  have hl : W1.ownsRow N 104 3 ov1 (s.op ++ [b]).length (flatK (s.op ++ [b])) := by
    rw [List.length_append, flatR_app]
    have e : flatK [b] = brkC b := by simp [flatK]
    rw [e]
    exact hown
  have hR : RfAt (W1.setCell ⟨g, 7, none⟩ ov1) N g p t ⟨s.A, s.kd, s.v, s.op ++ [b], s.z⟩ ov1 := by
    refine ⟨h.lo, ?_, World.ownsRow.kept hl (only_setv W1 g 7 ov1) ?_, h.ok⟩
    · rw [heap_set hblk]
      congr 2
      apply Array.toList_inj.1
      rw [Array.toList_setIfInBounds]
      unfold refC
      dsimp only
      rw [show (7 : Nat) = 5 + 2 from rfl, List.set_append_right _ _ (by rw [List.length_cons, strC_len h.ok]; omega), List.length_cons, strC_len h.ok]
      rfl
    · refine .inr (fun e => own_far hblk hl g e rfl)
  refine ⟨(hgr.cell_far ⟨g, 7, none⟩ h.lt hne).trans h.opn, (hgr.frozen_far ⟨g, 7, none⟩ h.lt hne).trans (h.free 7), Nat.lt_of_lt_of_le h.lt hgr.size, hR, ⟨hgr.os, hgr.tape, hgr.output, ?_, fun k hk hkg hko => ?_⟩, ?_⟩
  · have := hgr.size
    simpa using this
  · rw [heap_setCell_other _ _ _ _ (by simpa using hkg)]
    exact hgr.block k hk (fun e => hko e.symm)
  · rcases hat with e | e
    · exact .inl (hb.trans e.symm)
    · refine .inr (fun k hk => ?_)
      rw [hb] at hk
      injection hk with hk
      omega
theorem laid_rb (W : World) (b : Bk) (t : TypeId) : ∀ j u, (brkC b)[j]? = some u → (W.alloc (.cells #[.int .i64 b.1, .int .i64 b.2.1, .int .i64 b.2.2] t)).cell? ((⟨W.heap.size, 0, none⟩ : Addr).add j) = some u :=
  World.news_of_block (cs := #[.int .i64 b.1, .int .i64 b.2.1, .int .i64 b.2.2]) (heap_alloc_new W _)
set_option maxRecDepth 100000 in
set_option maxHeartbeats 4000000 in
theorem st_32 (w : World) (h : RfAt w N g p t s ov) (kd ar pl n : Int) (k : Nat) (hk : (k : Int) < 1000) (ht : t < 1000) (hl : s.op.length < 8) :
    Calls Try.prog 31 #[.pointer (some ⟨g, 0, none⟩), insV ⟨32, kd, ar, pl, n⟩, .int .i64 k] w fun e w' => e = .returned (.int .i64 ((k : Int) + 1)) ∧ ∃ ov', RNow N g p (t + 1) ⟨s.A, 0, 0, s.op ++ [(pl, s.kd, s.v)], s.z⟩ ov w w' ov' := by
  obtain ⟨hne, hov⟩ := own_newR h
  have HR := Rn.newA (((RNow.first h).steps (t + 1))) (by simp) ⟨32, kd, ar, pl, n⟩ 54
  rw [show ((t + 1 : Nat) : Int) = (t : Int) + 1 by simp] at HR
  replace HR := Lib.hid HR
  replace hne := Lib.hid hne
  replace hov := Lib.hid hov
  have _u := hk
  clear _u
  have ct := h.stp
  have ft := h.free 8
  have hlt := h.lt
  have ht2 : (t : Int) < 1000 := by omega
  clear h ht
  unfold insV
  go_enter Try.func31, Try.ntmps31
  go_wp2_with fail
  refine world_cutR (G := fun W => Code.wp _ _ _ _ W) (fun W => Rn N g p (t + 1) (s) ov w w.heap.size ⟨32, kd, ar, pl, n⟩ W ov) HR.out ?_
  rintro W hP1
  clear HR ct ft hlt
  obtain ⟨c0, c1, c2, c3, c4⟩ := rn5 hP1
  dsimp only at c0 c1 c2 c3 c4
  have d0 := hP1.now.at_.val
  have d1 := hP1.now.at_.kd
  have d2 := hP1.now.at_.opn
  have lg := hP1.now.at_.lt
  have HX := Lib.hid (hP1.now.drew.next ((Below.refl _ _).alloc (Nat.le_refl _) (.cells #[.int .i64 pl, .int .i64 s.kd, .int .i64 s.v] 104)))
  have hlo := hP1.now.at_.lo
  clear hP1
  obtain ⟨i0, hi0, hi1, hi2, hi3⟩ := info_parts Try.infoRb
  generalize hbb : w.heap.size = b at *
  replace hbb := Lib.hid hbb
  go_region_law ((refine step_append_lies _ (by rfl) (.tmp 250) (.tmp 262) 81 (by rfl) N 104 i0 (.agg #[.int .i64 0, .int .i64 0, .int .i64 0]) 3 24 Try.underlying81 hi0 hi1 hi2 hi3 rfl (by decide) _ s.op.length (flatK s.op) (by simp [Act.eval]) HX.out.at_.own ⟨W.heap.size, 0, none⟩ 1 1 (brkC (pl, s.kd, s.v)) (by simp [Act.eval]) rfl (laid_rb W.drew (pl, s.kd, s.v) 104) (by intro u hu; simp [brkC] at hu; rcases hu with rfl | rfl | rfl <;> rfl) (by decide) (by unfold maxLen; omega) (by omega) (by simp; omega) _ rfl ?_; intro g1 cp1 W1 hown1 hgr1 hat1 hlt1; have HQ1 := pushedR HX.out.at_ hown1 hgr1 rfl hat1 rfl; have q0 := HQ1.1; have qf := HQ1.2.1; have ql := HQ1.2.2.1; have HQ2 := Lib.hid (HX.out.trans HQ1.2.2.2)))
  all_goals
    have z7 := HQ2.out.at_.kd
    have z8 := HQ2.out.at_.val
    have g7 := HQ2.out.at_.free 5
    have g8 := HQ2.out.at_.free 6
    have lq := HQ2.out.at_.lt
    have HQ3 := Lib.hid ((HQ2.out.kind 0).value 0)
    clear HX hlo d0 d1 d2 c0 c1 c2 c3 c4 lg hown1 hgr1 hat1 hlt1 HQ1 q0 qf ql HQ2
    generalize (W1.setCell ⟨g, 7, none⟩ (.slice (some ⟨g1, 0, none⟩) (s.op.length + 1) cp1)) = W2 at *
    go_wp2
    go_ret
    exact ⟨rfl, ⟨_, HQ3.out⟩⟩

end
end Go.Proofs.Ytbjmdehfdnpljaa.Vm

namespace Go.Proofs.Ytbjmdehfdnpljaa.Vm
open Go.RowKit
open Go.Proofs.Ytbjmdehfdnpljaa.Il hiding Next S S_size S_app S_inj S_list
open Go.Proofs.Ytbjmdehfdnpljaa.Ic Go.Proofs.Ytbjmdehfdnpljaa.Ve
open Oct

section
variable {N g : Nat} {p : Int} {t : Nat} {s : St} {ov : Value}
/-- The last bracket's cells, and the row without it. -/
theorem own_lastR {W : World} {l : List Bk} (h : W.ownsRow N 104 3 ov l.length (flatK l)) (hl : l.length ≠ 0) : ∃ go cap m, l.length = m + 1 ∧ ov = .slice (some ⟨go, 0, none⟩) (m + 1) cap ∧ m + 1 ≤ cap ∧ cap ≤ maxLen ∧
    W.cell? ⟨go, m * 3, none⟩ = some (.int .i64 (lastK l).1) ∧ W.cell? ⟨go, m * 3 + 1, none⟩ = some (.int .i64 (lastK l).2.1) ∧ W.cell? ⟨go, m * 3 + 2, none⟩ = some (.int .i64 (lastK l).2.2) ∧
    W.ownsRow N 104 3 (.slice (some ⟨go, 0, none⟩) m cap) l.dropLast.length (flatK l.dropLast) := by
  obtain ⟨m, hm⟩ : ∃ m, l.length = m + 1 := ⟨l.length - 1, by omega⟩
  have hd : l.dropLast.length = m := by rw [List.length_dropLast]; omega
  have hf := last_form hl
  have hfl : flatK l = flatK l.dropLast ++ brkC (lastK l) := by
    conv => lhs; rw [hf]
    rw [flatK_two]
    simp [flatK]
  rcases h.2 with ⟨_, hn⟩ | ⟨go, cap, cur, rfl, hN, hg, hle, hmx, hsz, htk⟩
  · omega
  · have hcell : ∀ j u, (flatK l)[j]? = some u → W.cell? ⟨go, j, none⟩ = some u := fun j u hu => by
      have hjl := (List.getElem?_eq_some_iff.1 hu).1
      rw [flatK_len] at hjl
      rw [World.ownsRow.cellAt h j (by omega)]
      exact hu
    have hlen : (flatK l.dropLast).length = m * 3 := by rw [flatK_len, hd]
    refine ⟨go, cap, m, hm, by rw [hm], by omega, hmx, ?_, ?_, ?_, ⟨by rw [hlen, hd], .inr ⟨go, cap, cur, by rw [hd], hN, hg, by omega, hmx, hsz, ?_⟩⟩⟩
    · refine hcell _ _ ?_
      rw [hfl, List.getElem?_append_right (by omega), hlen, Nat.sub_self]
      rfl
    · refine hcell _ _ ?_
      rw [hfl, List.getElem?_append_right (by omega), hlen, Nat.add_sub_cancel_left]
      rfl
    · refine hcell _ _ ?_
      rw [hfl, List.getElem?_append_right (by omega), hlen, Nat.add_sub_cancel_left]
      rfl
    · have : cur.toList.take (m * 3) = (cur.toList.take (l.length * 3)).take (m * 3) := by rw [List.take_take]; congr 1; omega
      rw [hd, this, htk, hfl, List.take_left' hlen]
theorem b3_kept {W W' : World} {ov ov' : Value} {b : Nat} {x0 x1 x2 : Value} (h : RNow N g p t s ov W W' ov') (hb : b < W.heap.size) (hg : g ≠ b) (ho : ∀ k, ov.ownBlock = some k → k ≠ b) (h3 : W.cell? ⟨b, 0, none⟩ = some x0 ∧ W.cell? ⟨b, 1, none⟩ = some x1 ∧ W.cell? ⟨b, 2, none⟩ = some x2) :
    W'.cell? ⟨b, 0, none⟩ = some x0 ∧ W'.cell? ⟨b, 1, none⟩ = some x1 ∧ W'.cell? ⟨b, 2, none⟩ = some x2 := by
  have e := h.kp.block b hb (fun e => hg e.symm) (fun e => ho b e rfl)
  have hc : ∀ j, W'.cell? ⟨b, j, none⟩ = W.cell? ⟨b, j, none⟩ := fun j => World.cell?_of_block (a := ⟨b, j, none⟩) e
  exact ⟨(hc 0).trans h3.1, (hc 1).trans h3.2.1, (hc 2).trans h3.2.2⟩
theorem own_dropR {W : World} {l : List Bk} {go m cap : Nat} (h : W.ownsRow N 104 3 (.slice (some ⟨go, 0, none⟩) (m + 1) cap) l.length (flatK l)) (hl : l.length ≠ 0) : W.ownsRow N 104 3 (.slice (some ⟨go, 0, none⟩) m cap) l.dropLast.length (flatK l.dropLast) := by
  obtain ⟨go', cap', m', hm', hov', hc1', hc2', -, -, -, ho'⟩ := own_lastR h hl
  injection hov' with e1 e2 e3
  injection e1 with e1
  injection e1 with e1
  obtain rfl : m = m' := by omega
  subst e1 e3
  exact ho'
theorem RNow.opens {w W : World} {ov' : Value} {op' : List Bk} (h : RNow N g p t s ov w W ov) (ho : W.ownsRow N 104 3 ov' op'.length (flatK op')) (e : ov'.ownBlock = ov.ownBlock) : RNow N g p t ⟨s.A, s.kd, s.v, op', s.z⟩ ov w (W.setCell ⟨g, 7, none⟩ ov') ov' :=
  h.trans ⟨h.at_.store (j := 2) (v := ov') (by omega) rfl ho, Kp.one (only1_set _ _ _ _), .inl e⟩
set_option linter.unusedSimpArgs false in
set_option maxRecDepth 100000 in
set_option maxHeartbeats 4000000 in
theorem st_33 (w : World) (h : RfAt w N g p t s ov) (kd ar pl n : Int) (k : Nat) (hk : (k : Int) < 1000) (ht : t < 1000) (hl : s.op.length ≠ 0) (h8 : s.op.length ≤ 8) (hz : s.z < 1000) (h24 : (lastK s.op).1 ≤ 24) :
    Calls Try.prog 31 #[.pointer (some ⟨g, 0, none⟩), insV ⟨33, kd, ar, pl, n⟩, .int .i64 k] w fun e w' => e = .returned (.int .i64 ((k : Int) + 1)) ∧ ∃ ov', RNow N g p (t + 1) (joinI (lastK s.op).1 (lastK s.op).2.1 (lastK s.op).2.2 s.v ⟨s.A, s.kd, s.v, s.op.dropLast, s.z⟩) ov w w' ov' := by
  obtain ⟨hne, hov⟩ := own_newR h
  have HR := Rn.newA (((RNow.first h).steps (t + 1))) (by simp) ⟨33, kd, ar, pl, n⟩ 54
  rw [show ((t + 1 : Nat) : Int) = (t : Int) + 1 by simp] at HR
  replace HR := Lib.hid HR
  replace hne := Lib.hid hne
  replace hov := Lib.hid hov
  have _u := hk
  clear _u
  have ct := h.stp
  have ft := h.free 8
  have hlt := h.lt
  have ht2 : (t : Int) < 1000 := by omega
  have HJ := Lib.hid (fun W ov' (h : RfAt W N g p (t + 1) ⟨s.A, s.kd, s.v, s.op.dropLast, s.z⟩ ov') => rDoR_any W h (lastK s.op).1 (lastK s.op).2.1 (lastK s.op).2.2 s.v hz h24)
  generalize joinI (lastK s.op).1 (lastK s.op).2.1 (lastK s.op).2.2 s.v ⟨s.A, s.kd, s.v, s.op.dropLast, s.z⟩ = s1 at *
  clear h ht h24 hz
  unfold insV
  go_enter Try.func31, Try.ntmps31
  go_wp2_with fail
  refine world_cutR (G := fun W => Code.wp _ _ _ _ W) (fun W => Rn N g p (t + 1) (s) ov w w.heap.size ⟨33, kd, ar, pl, n⟩ W ov) HR.out ?_
  rintro W hP1
  clear HR ct ft hlt
  have hP2 := hP1
  clear hP1
  obtain ⟨go, cap, m, hm, hov2, hc1, hc2, k0, k1, k2, ho⟩ := own_lastR hP2.now.at_.own hl
  have HX := Lib.hid (hP2.now)
  have c7 := hP2.now.at_.opn
  have c6 := hP2.now.at_.val
  have f7 := hP2.now.at_.free 7
  have lg := hP2.now.at_.lt
  have lgo := World.block_lt_of_cell? _ ⟨go, m * 3, none⟩ k0
  have hgo : go ≠ g := hP2.now.at_.far go (by rw [hov2]; rfl)
  have e259 : (Value.slice (some ⟨go, 0, none⟩) m cap).ownBlock = ov.ownBlock := by rw [hov2]; rfl
  have HK := Lib.hid (fun W1 (h : RNow N g p (t + 1) s ov w W1 ov) => h.opens (ov' := .slice (some ⟨go, 0, none⟩) m cap) (own_dropR (hov2 ▸ h.at_.own) hl) e259)
  rw [hov2] at c7
  have hov3 := Lib.hid hov2
  clear hP2

  generalize (lastK s.op).1 = x0 at *
  generalize (lastK s.op).2.1 = x1 at *
  generalize (lastK s.op).2.2 = x2 at *
  have m8 : (m : Int) < 8 := by omega
  have m9 : IntKind.i64.wrap ((m : Int) + 1 - 1) = (m : Int) := by rw [IntKind.wrap_i64]; omega
  have m6 : IntKind.i64.wrap (m : Int) = (m : Int) := by rw [IntKind.wrap_i64]; omega
  have m7 : (m : Int) + 1 - 1 = (m : Int) := by omega
  have hcc : (m : Int) ≤ (cap : Int) := by omega
  dsimp only at lgo
  clear hl h8 hm hc1 hc2 hov2 e259 ho hov
  generalize hbb : w.heap.size = b at *
  replace hbb := Lib.hid hbb
  go_region
  go_wp2_with fail
  refine world_cutR (G := fun W => Code.wp _ _ _ _ W) (fun W1 => RNow N g p (t + 1) s ov w W1 ov ∧ (W1.cell? ⟨W.heap.size, 0, none⟩ = some (.int .i64 x0) ∧ W1.cell? ⟨W.heap.size, 1, none⟩ = some (.int .i64 x1) ∧ W1.cell? ⟨W.heap.size, 2, none⟩ = some (.int .i64 x2)) ∧ W1.cell? ⟨g, 7, none⟩ = some (.slice (some ⟨go, 0, none⟩) (m + 1) cap)) ?_ ?_
  · refine ⟨(HX.out.next (one_S _ _ _)).drew, ⟨laid_rb W (x0, x1, x2) 104 0 _ rfl, laid_rb W (x0, x1, x2) 104 1 _ rfl, laid_rb W (x0, x1, x2) 104 2 _ rfl⟩, ?_⟩
    have := HX.out.next (one_S _ #[.int .i64 x0, .int .i64 x1, .int .i64 x2] 104)
    exact this.at_.opn.trans (congrArg some hov3.out)
  rintro W1 ⟨hW1, ⟨r0, r1, r2⟩, c71⟩
  have hb2 : g ≠ W.heap.size := by omega
  generalize W.heap.size = b2 at *
  clear c7 c6 f7 lg k0 k1 k2
  have f7 := hW1.at_.free 7
  have lg := hW1.at_.lt
  have HX1 := Lib.hid hW1
  clear hW1 HX
  go_region
  go_wp2_with fail
  refine world_cutR (G := fun W => Code.wp _ _ _ _ W) (fun W2 => RNow N g p (t + 1) ⟨s.A, s.kd, s.v, s.op.dropLast, s.z⟩ ov w W2 (.slice (some ⟨go, 0, none⟩) m cap) ∧ (W2.cell? ⟨b2, 0, none⟩ = some (.int .i64 x0) ∧ W2.cell? ⟨b2, 1, none⟩ = some (.int .i64 x1) ∧ W2.cell? ⟨b2, 2, none⟩ = some (.int .i64 x2))) ?_ ?_
  · have sf : ∀ j v, (W1.setCell ⟨g, 7, none⟩ v).cell? ⟨b2, j, none⟩ = W1.cell? ⟨b2, j, none⟩ := fun j v => World.cell?_setCell_other _ _ _ _ (by intro e; injection e with e; exact hb2 e)
    exact ⟨(HK.out _ HX1.out).drew, (sf 0 _).trans r0, (sf 1 _).trans r1, (sf 2 _).trans r2⟩
  rintro W2 ⟨hW2, q0, q1, q2⟩
  replace hW2 := hW2.drew
  have q6 := hW2.at_.val
  have HW := Lib.hid hW2
  have HC3 := Lib.hid (show W2.drew.cell? ⟨b2, 0, none⟩ = some (.int .i64 x0) ∧ W2.drew.cell? ⟨b2, 1, none⟩ = some (.int .i64 x1) ∧ W2.drew.cell? ⟨b2, 2, none⟩ = some (.int .i64 x2) from ⟨q0, q1, q2⟩)
  have HL := Lib.hid (show b2 < W2.drew.heap.size from World.block_lt_of_cell? _ ⟨b2, 0, none⟩ q0)
  have HO := Lib.hid (show ∀ k, (Value.slice (some ⟨go, 0, none⟩) m cap).ownBlock = some k → k ≠ b2 from fun k hk => by simp [Value.ownBlock] at hk; omega)
  clear HK HX1 f7 lg c71 r0 r1 r2 m6 m7 m8 m9 hcc hW2
  generalize (Value.slice (some ⟨go, 0, none⟩) m cap) = ov2 at *
  refine wp_region_held_drew (S := (fun W' => W'.cell? ⟨b2, 0, none⟩ = some (.int .i64 x0) ∧ W'.cell? ⟨b2, 1, none⟩ = some (.int .i64 x1) ∧ W'.cell? ⟨b2, 2, none⟩ = some (.int .i64 x2))) (by kernel_rfl) (show W2.drew.cell? ⟨b2, 0, none⟩ = some (.int .i64 x0) ∧ W2.drew.cell? ⟨b2, 1, none⟩ = some (.int .i64 x1) ∧ W2.drew.cell? ⟨b2, 2, none⟩ = some (.int .i64 x2) from HC3.out) (fun hHeld => ?_)
  refine wpAnyH_take (i := 0) (oi := _) (v := ?_) rfl (by kernel_rfl) (by kernel_rfl) (by kernel_rfl) (fun _ _ _ h => h) (Or.inl ⟨by rfl, ?_⟩) (by assumption) ?_
  rotate_left 1
  · intro w hSw
    (try dsimp only at hSw)
    go_simp
    (try with_reducible rfl)
  try simp only [Act.put, List.setIfInBounds_toArray, List.set_cons_zero, List.set_cons_succ]
  refine wpAnyH_take (i := 1) (oi := _) (v := ?_) rfl (by kernel_rfl) (by kernel_rfl) (by kernel_rfl) (fun _ _ _ h => h) (Or.inl ⟨by rfl, ?_⟩) (by assumption) ?_
  rotate_left 1
  · intro w hSw
    (try dsimp only at hSw)
    go_simp
    (try with_reducible rfl)
  try simp only [Act.put, List.setIfInBounds_toArray, List.set_cons_zero, List.set_cons_succ]
  refine wpAnyH_take (i := 2) (oi := _) (v := ?_) rfl (by kernel_rfl) (by kernel_rfl) (by kernel_rfl) (fun _ _ _ h => h) (Or.inl ⟨by rfl, ?_⟩) (by assumption) ?_
  rotate_left 1
  · intro w hSw
    (try dsimp only at hSw)
    go_simp
    (try with_reducible rfl)
  try simp only [Act.put, List.setIfInBounds_toArray, List.set_cons_zero, List.set_cons_succ]
  refine wpAnyH_take (i := 3) (oi := _) (v := ?_) rfl (by kernel_rfl) (by kernel_rfl) (by kernel_rfl) (fun _ _ _ h => h) (Or.inl ⟨by rfl, ?_⟩) (by assumption) ?_
  rotate_left 1
  · intro w hSw
    (try dsimp only at hSw)
    go_simp
    (try with_reducible rfl)
  try simp only [Act.put, List.setIfInBounds_toArray, List.set_cons_zero, List.set_cons_succ]
  refine wpAnyH_take (i := 4) (oi := _) (v := ?_) rfl (by kernel_rfl) (by kernel_rfl) (by kernel_rfl) (fun _ _ _ h => h) (Or.inl ⟨by rfl, ?_⟩) (by assumption) ?_
  rotate_left 1
  · intro w hSw
    (try dsimp only at hSw)
    go_simp
    (try with_reducible rfl)
  try simp only [Act.put, List.setIfInBounds_toArray, List.set_cons_zero, List.set_cons_succ]
  refine wpAnyH_take (i := 5) (oi := _) (v := ?_) rfl (by kernel_rfl) (by kernel_rfl) (by kernel_rfl) (fun _ _ _ h => h) (Or.inl ⟨by rfl, ?_⟩) (by assumption) ?_
  rotate_left 1
  · intro w hSw
    (try dsimp only at hSw)
    go_simp
    (try with_reducible rfl)
  try simp only [Act.put, List.setIfInBounds_toArray, List.set_cons_zero, List.set_cons_succ]
  refine wpAnyH_take (i := 6) (oi := _) (v := ?_) rfl (by kernel_rfl) (by kernel_rfl) (by kernel_rfl) (fun _ _ _ h => h) (Or.inl ⟨by rfl, ?_⟩) (by assumption) ?_
  rotate_left 1
  · intro w hSw
    (try dsimp only at hSw)
    go_simp
    (try with_reducible rfl)
  try simp only [Act.put, List.setIfInBounds_toArray, List.set_cons_zero, List.set_cons_succ]
  refine wpAnyH_take (i := 7) (oi := _) (v := ?_) rfl (by kernel_rfl) (by kernel_rfl) (by kernel_rfl) (fun _ _ _ h => h) (Or.inl ⟨by rfl, ?_⟩) (by assumption) ?_
  rotate_left 1
  · intro w hSw
    (try dsimp only at hSw)
    go_simp
    (try with_reducible rfl)
  try simp only [Act.put, List.setIfInBounds_toArray, List.set_cons_zero, List.set_cons_succ]
  refine wpAnyH_take (i := 8) (oi := _) (v := ?_) rfl (by kernel_rfl) (by kernel_rfl) (by kernel_rfl) (fun _ _ _ h => h) (Or.inl ⟨by rfl, ?_⟩) (by assumption) ?_
  rotate_left 1
  · intro w hSw
    (try dsimp only at hSw)
    go_simp
    (try with_reducible rfl)
  try simp only [Act.put, List.setIfInBounds_toArray, List.set_cons_zero, List.set_cons_succ]
  refine wpAnyH_take (i := 9) (oi := _) (v := ?_) rfl (by kernel_rfl) (by kernel_rfl) (by kernel_rfl) (fun _ _ _ h => h) (Or.inl ⟨by rfl, ?_⟩) (by assumption) ?_
  rotate_left 1
  · intro w hSw
    (try dsimp only at hSw)
    go_simp
    (try with_reducible rfl)
  try simp only [Act.put, List.setIfInBounds_toArray, List.set_cons_zero, List.set_cons_succ]
  refine wpAnyH_ready (rs := [10]) (by kernel_rfl) (by simp) (AllReadyH.cons (o := _) rfl (fun K hK => ?_) AllReadyH.nil)
  go_simp
  refine hK.out _ _ (by with_reducible exact HC3.out) (fun hHeld => ?_)
  clear hK K
  try simp only [Act.put, List.setIfInBounds_toArray, List.set_cons_zero, List.set_cons_succ]
  refine wpAnyH_ready (rs := [11]) (by kernel_rfl) (by simp) (AllReadyH.cons (o := _) rfl (fun K hK => ?_) AllReadyH.nil)
  go_simp
  (go_at_call 53; (with_reducible refine (HJ.out _ _ HW.out.at_).mono ?_))
  rintro e w1 ⟨rfl, hb1⟩
  have HQ := Lib.hid (HW.out.trans hb1)
  have HC4 := Lib.hid (b3_kept hb1 HL.out hb2 HO.out HC3.out)
  clear hb1
  refine hK.out _ _ (by with_reducible exact HC4.out) (fun hHeld => ?_)
  clear hK K
  refine wpAnyH_done (by kernel_rfl) ?_ _
  go_wp2
  go_ret
  exact ⟨rfl, ⟨_, HQ.out⟩⟩

end
end Go.Proofs.Ytbjmdehfdnpljaa.Vm

namespace Go.Proofs.Ytbjmdehfdnpljaa.Vm
open Go.RowKit
open Go.Proofs.Ytbjmdehfdnpljaa.Il hiding Next S S_size S_app S_inj S_list
open Go.Proofs.Ytbjmdehfdnpljaa.Ic Go.Proofs.Ytbjmdehfdnpljaa.Ve
open Oct

/-- Where a step leads, as the reference tells it. -/
def leadsR (r : Int) (nx n : Nat) : Prop := r = (nx : Int) ∨ (r = -1 ∧ nx = n)
section
variable {N g : Nat} {p : Int} {t : Nat} {s : St} {ov : Value}
theorem steps_ofR {w : World} {i : In} {k n : Nat} {r : Int} {s1 s2 : St} (e : s1 = s2) (hr : leadsR r (nxI i k n s) n) (h : Calls Try.prog 31 #[.pointer (some ⟨g, 0, none⟩), insV i, .int .i64 k] w fun e w' => e = .returned (.int .i64 r) ∧ RNow N g p (t + 1) s1 ov w w' ov) :
    Calls Try.prog 31 #[.pointer (some ⟨g, 0, none⟩), insV i, .int .i64 k] w fun e w' => ∃ r ov', e = .returned (.int .i64 r) ∧ leadsR r (nxI i k n s) n ∧ RNow N g p (t + 1) s2 ov w w' ov' := by
  subst e
  exact h.mono (fun e w' h => ⟨r, ov, h.1, hr, h.2⟩)
theorem nx_on {i : In} {k n : Nat} {s : St} (h : ¬ (25 ≤ i.op ∧ i.op ≤ 30)) : leadsR ((k : Int) + 1) (nxI i k n s) n := by
  unfold nxI
  rw [if_neg (by omega), if_neg (by omega)]
  exact .inl (by simp)
theorem rStep_any (w : World) (h : RfAt w N g p t s ov) (i : In) (k m : Nat) (hk : k < 1000) (htt : t < 1000) (hr : rightI i = true) (ht : Ty i s) (ho : Ok s) (h8 : s.op.length ≤ 8) (hz : s.z < 1000) (hp0 : 0 ≤ p) (hp1 : p ≤ 10000) (hfar : jumpB i.op = true → (k : Int) < i.pl ∧ i.pl ≤ m) :
    Calls Try.prog 31 #[.pointer (some ⟨g, 0, none⟩), insV i, .int .i64 k] w fun e w' => ∃ r ov', e = .returned (.int .i64 r) ∧ leadsR r (nxI i k m s) m ∧ RNow N g p (t + 1) (doI p i s) ov w w' ov' := by
  have hop := right_op hr
  have hask := fun (hrd : readsB i.op = true) => ask_ok hr hrd
  have hput := fun (h : 3 ≤ i.op ∧ i.op ≤ 6) => put_at hr h
  have hkk : (k : Int) < 1000 := by omega
  obtain ⟨op, kd, ar, pl, n⟩ := i
  dsimp only at hop hask hput
  by_cases h1 : op = 1
  · subst h1; exact steps_ofR rfl (nx_on (by dsimp only; omega)) (st_1 w h kd ar pl n k hkk htt (hask rfl))
  by_cases h2 : op = 2
  · subst h2; exact steps_ofR rfl (nx_on (by dsimp only; omega)) (st_2 w h kd ar pl n k hkk htt (hask rfl))
  by_cases h3 : op = 3
  · subst h3
    obtain ⟨b1, b2, b3, b4, b5⟩ := hput (by omega)
    exact steps_ofR rfl (nx_on (by dsimp only; omega)) (st_3 w h kd ar pl n k hkk htt (by omega) b2 b3 (by omega) b5 (ht.t3 (by dsimp only; omega) (by dsimp only; omega)).2)
  by_cases h4 : op = 4
  · subst h4
    obtain ⟨b1, b2, b3, b4, b5⟩ := hput (by omega)
    exact steps_ofR rfl (nx_on (by dsimp only; omega)) (st_4 w h kd ar pl n k hkk htt (by omega) b2 b3 (by omega) b5 (ht.t3 (by dsimp only; omega) (by dsimp only; omega)).2)
  by_cases h5 : op = 5
  · subst h5
    obtain ⟨b1, b2, b3, b4, b5⟩ := hput (by omega)
    have hkd := ht.t5 (.inl rfl)
    dsimp only at hkd
    subst hkd
    have hv := (ht.t3 (by dsimp only; omega) (by dsimp only; omega)).2
    dsimp only at hv
    rcases is_bool hv with e | e
    · refine steps_ofR ?_ (nx_on (by dsimp only; omega)) (st_5b w h 1 ar pl n k hkk htt e)
      show s = if s.v = 1 then _ else s
      rw [if_neg (by omega)]
    · refine steps_ofR ?_ (nx_on (by dsimp only; omega)) (st_5a w h 1 ar pl n k hkk htt (by omega) b2 b3 (by omega) b5 hv e)
      show _ = if s.v = 1 then ptV s ar pl 1 (6 - 5) else s
      rw [if_pos e]
      rfl
  by_cases h6 : op = 6
  · subst h6
    obtain ⟨b1, b2, b3, b4, b5⟩ := hput (by omega)
    have hkd := ht.t5 (.inr rfl)
    dsimp only at hkd
    subst hkd
    have hv := (ht.t3 (by dsimp only; omega) (by dsimp only; omega)).2
    dsimp only at hv
    rcases is_bool hv with e | e
    · refine steps_ofR ?_ (nx_on (by dsimp only; omega)) (st_6b w h 1 ar pl n k hkk htt e)
      show s = if s.v = 1 then _ else s
      rw [if_neg (by omega)]
    · refine steps_ofR ?_ (nx_on (by dsimp only; omega)) (st_6a w h 1 ar pl n k hkk htt (by omega) b2 b3 (by omega) b5 hv e)
      show _ = if s.v = 1 then ptV s ar pl 1 (6 - 6) else s
      rw [if_pos e]
      rfl
  by_cases h13 : op = 13
  · subst h13; exact steps_ofR rfl (nx_on (by dsimp only; omega)) (st_13 w h kd ar pl n k hkk htt)
  by_cases h31 : op = 31
  · subst h31; exact steps_ofR rfl (nx_on (by dsimp only; omega)) (st_31 w h kd ar pl n k hkk htt (ht.t31 rfl))
  by_cases h32 : op = 32
  · subst h32
    refine (st_32 w h kd ar pl n k hkk htt (ht.t32 rfl).2.2.2).mono ?_
    rintro e w' ⟨e1, ov', h'⟩
    exact ⟨_, ov', e1, nx_on (by dsimp only; omega), h'⟩
  by_cases h33 : op = 33
  · subst h33
    obtain ⟨q1, q2, q3⟩ := ht.t33 rfl
    have q4 := (ho.br _ (kbs_last q1).2.1).2.1
    refine (st_33 w h kd ar pl n k hkk htt q1 h8 hz (by unfold mayI at q4; rw [decide_eq_true_iff] at q4; omega)).mono ?_
    rintro e w' ⟨e1, ov', h'⟩
    exact ⟨_, ov', e1, nx_on (by dsimp only; omega), h'⟩
  by_cases h34 : op = 34
  · subst h34; exact steps_ofR rfl (nx_on (by dsimp only; omega)) (st_34 w h kd ar pl n k hkk htt hr ht hp0 hp1)
  by_cases h35 : op = 35
  · subst h35; exact steps_ofR rfl (nx_on (by dsimp only; omega)) (st_35 w h kd ar pl n k hkk htt hr ht hp0 hp1)
  by_cases h36 : op = 36
  · subst h36; exact steps_ofR rfl (nx_on (by dsimp only; omega)) (st_36 w h kd ar pl n k hkk htt hr ht hp0 hp1)
  have hto : ∀ {o : Int}, 25 ≤ o → o ≤ 27 → op = o → 0 ≤ pl := fun a b e => by
    have := (hfar (by unfold jumpB; rw [decide_eq_true_iff]; dsimp only; omega)).1
    dsimp only at this
    omega
  by_cases h25 : op = 25
  · subst h25
    have := hto (o := 25) (by omega) (by omega) rfl
    refine steps_ofR rfl (.inl ?_) (st_25a w h kd ar pl n k hkk htt)
    unfold nxI; rw [if_pos (.inl rfl)]; dsimp only; omega
  by_cases h26 : op = 26
  · subst h26
    have := hto (o := 26) (by omega) (by omega) rfl
    rcases is_bool (ht.t1 (by dsimp only; omega)).2 with e | e
    · refine steps_ofR rfl (.inl ?_) (st_26b w h kd ar pl n k hkk htt e)
      unfold nxI; dsimp only; rw [if_neg (by omega), if_neg (by omega)]; simp
    · refine steps_ofR rfl (.inl ?_) (st_26a w h kd ar pl n k hkk htt e)
      unfold nxI; dsimp only; rw [if_pos (by omega)]; omega
  by_cases h27 : op = 27
  · subst h27
    have := hto (o := 27) (by omega) (by omega) rfl
    rcases is_bool (ht.t1 (by dsimp only; omega)).2 with e | e
    · refine steps_ofR rfl (.inl ?_) (st_27a w h kd ar pl n k hkk htt e)
      unfold nxI; dsimp only; rw [if_pos (by omega)]; omega
    · refine steps_ofR rfl (.inl ?_) (st_27b w h kd ar pl n k hkk htt e)
      unfold nxI; dsimp only; rw [if_neg (by omega), if_neg (by omega)]; simp
  by_cases h28 : op = 28
  · subst h28
    refine steps_ofR rfl (.inr ⟨rfl, ?_⟩) (st_28a w h kd ar pl n k hkk htt)
    unfold nxI; dsimp only; rw [if_neg (by omega), if_pos (by omega)]
  by_cases h29 : op = 29
  · subst h29
    rcases is_bool (ht.t1 (by dsimp only; omega)).2 with e | e
    · refine steps_ofR rfl (.inl ?_) (st_29b w h kd ar pl n k hkk htt e)
      unfold nxI; dsimp only; rw [if_neg (by omega), if_neg (by omega)]; simp
    · refine steps_ofR rfl (.inr ⟨rfl, ?_⟩) (st_29a w h kd ar pl n k hkk htt e)
      unfold nxI; dsimp only; rw [if_neg (by omega), if_pos (by omega)]
  by_cases h30 : op = 30
  · subst h30
    rcases is_bool (ht.t1 (by dsimp only; omega)).2 with e | e
    · refine steps_ofR rfl (.inr ⟨rfl, ?_⟩) (st_30a w h kd ar pl n k hkk htt e)
      unfold nxI; dsimp only; rw [if_neg (by omega), if_pos (by omega)]
    · refine steps_ofR rfl (.inl ?_) (st_30b w h kd ar pl n k hkk htt e)
      unfold nxI; dsimp only; rw [if_neg (by omega), if_neg (by omega)]; simp
  have f : ∀ {o : Int}, op ≠ o → (op == o) = false := fun e => by simpa using e
  have hrr : readsB op = true := by unfold readsB; rw [decide_eq_true_iff]; omega
  refine steps_ofR ?_ (nx_on (by dsimp only; omega)) (st_join w h kd ar pl n k hkk htt op (f h1) (f h2) (f h3) (f h4) (f h5) (f h6) (f h13) (decide_eq_true (by omega)) (decide_eq_true (by omega)) (hask hrr) hz)
  unfold doI
  dsimp only
  rw [if_neg h1, if_neg h2, if_neg h3, if_neg h4, if_neg (by omega), if_neg h13, if_neg (by omega), if_neg h31, if_neg h32, if_neg h33, if_neg h34, if_neg h35, if_neg h36]
end
end Go.Proofs.Ytbjmdehfdnpljaa.Vm
