/-
  The landed code's time, count, walked. Conditions: as each states.
-/
import Derived.Test.YtbjmdehfdnpljaaVmStore
namespace Go.Proofs.Ytbjmdehfdnpljaa.Vm
open Go.RowKit
open Go.Proofs.Ytbjmdehfdnpljaa.Il hiding Next S S_size S_app S_inj S_list
open Go.Proofs.Ytbjmdehfdnpljaa.Ic Go.Proofs.Ytbjmdehfdnpljaa.Ve
open Oct

section
variable {N g : Nat} {p : Int} {s : St} {ov : Value}
theorem nbS {b : Nat} {w W : World} {i : In} {ov1 : Value} (h : Nb N g p s ov w b i W ov1) : W.cell? ⟨b, 1, none⟩ = some (.int .i64 i.kd) ∧ W.cell? ⟨b, 2, none⟩ = some (.int .i64 i.ar) ∧ W.cell? ⟨b, 3, none⟩ = some (.int .i64 i.pl) ∧ W.cell? ⟨b, 4, none⟩ = some (.int .i64 i.n) ∧ W.cell? ⟨g, 256, none⟩ = some (.int .i64 p) :=
  ⟨h.bi.2.1, h.bi.2.2.1, h.bi.2.2.2.1, h.bi.2.2.2.2, h.now.at_.psd⟩
theorem dw_bd (l : Bs) (pl : Nat) : 0 ≤ getL l pl 7 ∧ getL l pl 7 ≤ 4294967295 := logic_bd (.inr (.inr rfl)) (get_is l pl (by decide))
set_option maxRecDepth 100000 in
set_option maxHeartbeats 4000000 in
theorem cTime_a (w : World) (h : RunAt w N g p s ov) (kd ar pl n : Int) (h1 : 3 ≤ ar) (h4 : ar ≤ 4) (h0 : 0 ≤ pl) (hk : pl ≤ 59) (hn1 : 1 ≤ n) (hn2 : n ≤ 9999) (hp0 : 0 ≤ p) (hp1 : p ≤ 10000) (hv : s.v = 1) :
    Calls Try.prog 45 #[.pointer (some ⟨g, 0, none⟩), insV ⟨34, kd, ar, pl, n⟩] w fun e w' => e = .returned (.tuple #[]) ∧ Now N g p (tonI p ⟨34, kd, ar, pl, n⟩ s) ov w w' ov := by
  have hd := dw_bd (arL s.A ar) pl.toNat
  have HG := Lib.hid (fun W (h : RunAt W N g p s ov) => cAget_any W h ar pl 7 (by omega) h4 h0 (by rw [show szI 7 = 4 from rfl]; omega) (by decide))
  have e1 : tonN p ⟨34, kd, ar, pl, n⟩ s = min (gtV s ar pl 7 + p) n := by unfold tonN; rw [if_pos hv]
  unfold tonI
  dsimp only
  rw [e1]
  have hgd : gtV s ar pl 7 = getL (arL s.A ar) pl.toNat 7 := rfl
  rw [← hgd] at hd
  have HP := Lib.hid (fun W (h : RunAt W N g p s ov) => cAput_any W h ar pl 7 (min (gtV s ar pl 7 + p) n) (by omega) h4 h0 (by rw [show szI 7 = 4 from rfl]; omega) (by decide) (by omega) (by omega))
  have HS : ∀ x : Int, (⟨ptA s.A ar pl 7 x, s.kd, yesI (decide (x = n)), s.op, s.z⟩ : St) = ⟨(ptV s ar pl 7 x).A, (ptV s ar pl 7 x).kd, yesI (decide (x = n)), (ptV s ar pl 7 x).op, (ptV s ar pl 7 x).z⟩ := fun x => rfl
  rw [HS]
  clear HS hgd e1
  generalize gtV s ar pl 7 = G at *
  obtain ⟨M, hM⟩ : ∃ M, min (G + p) n = M := ⟨_, rfl⟩
  rw [hM] at HP ⊢
  generalize ptV s ar pl 7 M = s' at *
  have HT := Lib.hid (fun b W => cVtruth_any b W)
  have HR := Lib.hid (Nb.new h ⟨34, kd, ar, pl, n⟩ 54)
  have cv0 := h.val
  rw [hv] at cv0
  have hlt0 := h.lt
  have hov := Lib.hid (show ∀ k, ov.ownBlock = some k → k ≠ w.heap.size from fun k hk => by have := (World.ownsRow.lt h.own k hk).2; omega)
  have hlt1 := Lib.hid hlt0
  have hsum : IntKind.i64.wrap (G + p) = G + p := by rw [IntKind.wrap_i64]; omega
  rw [show decide (M = n) = (M == n) from rfl]
  have hmm : (if n < G + p then n else G + p) = M := by rw [← hM]; split <;> omega
  have hM := Lib.hid hmm
  clear hmm
  clear h1 h4 h0 hk h hv hn1 hn2 hp0 hp1 hd
  unfold insV
  go_enter Try.func45, Try.ntmps45
  go_wp2
  refine world_cutR (G := fun W => Code.wp _ _ _ _ W) (fun W => Nb N g p s ov w w.heap.size ⟨34, kd, ar, pl, n⟩ W ov) HR.out ?_
  rintro W hW
  have hP1 := hW.drew
  obtain ⟨c1, c2, c3, c4, cp⟩ := nbS hW
  dsimp only at c1 c2 c3 c4
  clear HR hW cv0 hlt0
  generalize hbb : w.heap.size = b at *
  replace hbb := Lib.hid hbb
  go_region_held3 (fun W' => W'.cell? ⟨b, 1, none⟩ = some (.int .i64 kd) ∧ W'.cell? ⟨b, 2, none⟩ = some (.int .i64 ar) ∧ W'.cell? ⟨b, 3, none⟩ = some (.int .i64 pl) ∧ W'.cell? ⟨b, 4, none⟩ = some (.int .i64 n) ∧ W'.cell? ⟨g, 256, none⟩ = some (.int .i64 p)) (exact nbS hP1)
      ((first | (go_at_call 59; (with_reducible refine (HG.out _ hP1.now.at_).mono ?_); rintro e w1 ⟨rfl, hb1⟩; have hP2 := hP1.next hb1; clear hb1; clear hP1; have hP1 := hP2; clear hP2)))
  rw [hM.out]
  obtain ⟨c1, c2, c3, c4, cp⟩ := nbS hP1
  dsimp only at c1 c2 c3 c4
  have hP2 := hP1.drew
  clear hP1
  have hP1 := hP2
  clear hP2
  go_wp2_with fail
  go_region_held3 (fun W' => W'.cell? ⟨b, 1, none⟩ = some (.int .i64 kd) ∧ W'.cell? ⟨b, 2, none⟩ = some (.int .i64 ar) ∧ W'.cell? ⟨b, 3, none⟩ = some (.int .i64 pl) ∧ W'.cell? ⟨b, 4, none⟩ = some (.int .i64 n) ∧ W'.cell? ⟨g, 256, none⟩ = some (.int .i64 p)) (exact nbS hP1)
      ((first | (go_at_call 63; (with_reducible refine (HP.out _ hP1.now.at_).mono ?_); rintro e w1 ⟨rfl, hb1⟩; have hP2 := hP1.step hb1 (by have := hlt1.out; have := hbb.out; omega) hov.out; clear hb1; clear hP1; have hP1 := hP2; clear hP2)))
  obtain ⟨c1, c2, c3, c4, cp⟩ := nbS hP1
  dsimp only at c1 c2 c3 c4
  replace hP1 := Lib.hid hP1
  go_wp2_with fail
  with_reducible refine (HT.out _ _).mono ?_
  rintro e w2 ⟨rfl, hb2⟩
  have hP3 := Lib.hid (hP1.out.next hb2)
  have d1 := hP3.out.now.at_.val
  have e1 := hP3.out.now.at_.free 258
  have l1 := hP3.out.now.at_.lt
  have HZ := Lib.hid (hP3.out.now.value (yesI (M == n)))
  clear hb2 hP1
  go_wp2
  go_end0
  exact ⟨rfl, HZ.out⟩
set_option maxRecDepth 100000 in
set_option maxHeartbeats 4000000 in
theorem cTime_b (w : World) (h : RunAt w N g p s ov) (kd ar pl n : Int) (h1 : 3 ≤ ar) (h4 : ar ≤ 4) (h0 : 0 ≤ pl) (hk : pl ≤ 59) (hv : s.v = 0) :
    Calls Try.prog 45 #[.pointer (some ⟨g, 0, none⟩), insV ⟨34, kd, ar, pl, n⟩] w fun e w' => e = .returned (.tuple #[]) ∧ Now N g p (tonI p ⟨34, kd, ar, pl, n⟩ s) ov w w' ov := by
  have e1 : tonN p ⟨34, kd, ar, pl, n⟩ s = 0 := by unfold tonN; rw [if_neg (by omega)]
  unfold tonI
  dsimp only
  rw [e1]
  have HP := Lib.hid (fun W (h : RunAt W N g p s ov) => cAput_any W h ar pl 7 0 (by omega) h4 h0 (by rw [show szI 7 = 4 from rfl]; omega) (by decide) (by omega) (by omega))
  have HS : (⟨ptA s.A ar pl 7 0, s.kd, yesI (decide ((0 : Int) = n)), s.op, s.z⟩ : St) = ⟨(ptV s ar pl 7 0).A, (ptV s ar pl 7 0).kd, yesI (decide ((0 : Int) = n)), (ptV s ar pl 7 0).op, (ptV s ar pl 7 0).z⟩ := rfl
  rw [HS]
  clear HS e1
  generalize ptV s ar pl 7 0 = s' at *
  have HT := Lib.hid (fun b W => cVtruth_any b W)
  have HR := Lib.hid (Nb.new h ⟨34, kd, ar, pl, n⟩ 54)
  have cv0 := h.val
  rw [hv] at cv0
  have hlt0 := h.lt
  have hov := Lib.hid (show ∀ k, ov.ownBlock = some k → k ≠ w.heap.size from fun k hk => by have := (World.ownsRow.lt h.own k hk).2; omega)
  have hlt1 := Lib.hid hlt0
  rw [show decide ((0 : Int) = n) = ((0 : Int) == n) from rfl]
  clear h1 h4 h0 hk h hv
  unfold insV
  go_enter Try.func45, Try.ntmps45
  go_wp2
  refine world_cutR (G := fun W => Code.wp _ _ _ _ W) (fun W => Nb N g p s ov w w.heap.size ⟨34, kd, ar, pl, n⟩ W ov) HR.out ?_
  rintro W hW
  have hP1 := hW.drew
  obtain ⟨c1, c2, c3, c4, cp⟩ := nbS hW
  dsimp only at c1 c2 c3 c4
  clear HR hW cv0 hlt0
  generalize hbb : w.heap.size = b at *
  replace hbb := Lib.hid hbb
  go_region_held3 (fun W' => W'.cell? ⟨b, 1, none⟩ = some (.int .i64 kd) ∧ W'.cell? ⟨b, 2, none⟩ = some (.int .i64 ar) ∧ W'.cell? ⟨b, 3, none⟩ = some (.int .i64 pl) ∧ W'.cell? ⟨b, 4, none⟩ = some (.int .i64 n) ∧ W'.cell? ⟨g, 256, none⟩ = some (.int .i64 p)) (exact nbS hP1)
      ((first | (go_at_call 63; (with_reducible refine (HP.out _ hP1.now.at_).mono ?_); rintro e w1 ⟨rfl, hb1⟩; have hP2 := hP1.step hb1 (by have := hlt1.out; have := hbb.out; omega) hov.out; clear hb1; clear hP1; have hP1 := hP2; clear hP2)))
  obtain ⟨c1, c2, c3, c4, cp⟩ := nbS hP1
  dsimp only at c1 c2 c3 c4
  replace hP1 := Lib.hid hP1
  go_wp2_with fail
  with_reducible refine (HT.out _ _).mono ?_
  rintro e w2 ⟨rfl, hb2⟩
  have hP3 := Lib.hid (hP1.out.next hb2)
  have d1 := hP3.out.now.at_.val
  have e1 := hP3.out.now.at_.free 258
  have l1 := hP3.out.now.at_.lt
  have HZ := Lib.hid (hP3.out.now.value (yesI ((0 : Int) == n)))
  clear hb2 hP1
  go_wp2
  go_end0
  exact ⟨rfl, HZ.out⟩
theorem cTime_any (w : World) (h : RunAt w N g p s ov) (i : In) (ho : i.op = 34) (hr : rightI i = true) (ht : Ty i s) (hp0 : 0 ≤ p) (hp1 : p ≤ 10000) :
    Calls Try.prog 45 #[.pointer (some ⟨g, 0, none⟩), insV i] w fun e w' => e = .returned (.tuple #[]) ∧ Now N g p (tonI p i s) ov w w' ov := by
  obtain ⟨b1, b2, b3, b4, b5⟩ := blk_at hr (by omega)
  have b6 := b4 (by omega)
  have hv := is_bool (ht.t1 (by omega)).2
  obtain ⟨op, kd, ar, pl, n⟩ := i
  dsimp only at *
  subst ho
  rcases hv with hv | hv
  · exact cTime_b w h kd ar pl n b1 b2 b3 b6.1 hv
  · exact cTime_a w h kd ar pl n b1 b2 b3 b6.1 b6.2.1 b6.2.2 hp0 hp1 hv
set_option maxRecDepth 100000 in
set_option maxHeartbeats 4000000 in
theorem cCount_a1 (w : World) (h : RunAt w N g p s ov) (kd ar pl n : Int) (h1 : 3 ≤ ar) (h4 : ar ≤ 4) (h0 : 0 ≤ pl) (hk : pl ≤ 59) (hn1 : 1 ≤ n) (hn2 : n ≤ 9999) (hv : isI 1 s.v = true) (hu : decide (s.v = 1 ∧ gtV s ar (pl + 4) 1 = 0) = true) (hlt : n < gtV s ar pl 7 + 1) :
    Calls Try.prog 46 #[.pointer (some ⟨g, 0, none⟩), insV ⟨35, kd, ar, pl, n⟩] w fun e w' => e = .returned (.tuple #[]) ∧ Now N g p (ctuI ⟨35, kd, ar, pl, n⟩ s) ov w w' ov := by
  have hd := dw_bd (arL s.A ar) pl.toNat
  have HG := Lib.hid (fun W (h : RunAt W N g p s ov) => cAget_any W h ar pl 7 (by omega) h4 h0 (by rw [show szI 7 = 4 from rfl]; omega) (by decide))
  have hu' : upI ⟨35, kd, ar, pl, n⟩ s (pl + 4) = true := hu
  have hU := fun W (h : RunAt W N g p s ov) => cRise_any W h ar (pl + 4) (by omega) h4 (by omega) (by omega) hv
  rw [hu] at hU
  have HU := Lib.hid hU
  clear hU
  have e1 : ctuN ⟨35, kd, ar, pl, n⟩ s = min (gtV s ar pl 7 + 1) n := by unfold ctuN; rw [hu']; rfl
  have e2 : ctuA ⟨35, kd, ar, pl, n⟩ s = ptA (ptA s.A ar (pl + 4) 1 s.v) ar pl 7 (min (gtV s ar pl 7 + 1) n) := by unfold ctuA; rw [hu', e1]; rfl
  unfold ctuI
  dsimp only
  rw [e1, e2]
  have hgd : gtV s ar pl 7 = getL (arL s.A ar) pl.toNat 7 := rfl
  rw [← hgd] at hd
  have HS : ∀ x : Int, (⟨ptA (ptA s.A ar (pl + 4) 1 s.v) ar pl 7 x, s.kd, yesI (decide (n ≤ x)), s.op, s.z⟩ : St) = ⟨(ptV (ptV s ar (pl + 4) 1 s.v) ar pl 7 x).A, (ptV (ptV s ar (pl + 4) 1 s.v) ar pl 7 x).kd, yesI (decide (n ≤ x)), (ptV (ptV s ar (pl + 4) 1 s.v) ar pl 7 x).op, (ptV (ptV s ar (pl + 4) 1 s.v) ar pl 7 x).z⟩ := fun x => rfl
  rw [HS]
  clear HS hgd e1 e2 hu hu'
  generalize ptV s ar (pl + 4) 1 s.v = s1 at *
  have HP := Lib.hid (fun W (h : RunAt W N g p s1 ov) => cAput_any W h ar pl 7 (min (gtV s ar pl 7 + 1) n) (by omega) h4 h0 (by rw [show szI 7 = 4 from rfl]; omega) (by decide) (by omega) (by omega))
  generalize gtV s ar pl 7 = G at *
  rw [show min (G + 1) n = n by omega] at HP ⊢
  rw [show decide (n ≤ n) = true by simp]
  have hlt' := hlt
  generalize ptV s1 ar pl 7 (n) = s' at *
  have HT := Lib.hid (fun b W => cVtruth_any b W)
  have HR := Lib.hid (Nb.new h ⟨35, kd, ar, pl, n⟩ 54)
  have hlt0 := h.lt
  have hov := Lib.hid (show ∀ k, ov.ownBlock = some k → k ≠ w.heap.size from fun k hk => by have := (World.ownsRow.lt h.own k hk).2; omega)
  have hlt1 := Lib.hid hlt0
  have hpl : IntKind.i64.wrap (pl + 4) = pl + 4 := by rw [IntKind.wrap_i64]; omega
  have hsum : IntKind.i64.wrap (G + 1) = G + 1 := by rw [IntKind.wrap_i64]; omega
  clear h1 h4 h0 hk h hv hn1 hn2 hd
  unfold insV
  go_enter Try.func46, Try.ntmps46
  go_wp2
  refine world_cutR (G := fun W => Code.wp _ _ _ _ W) (fun W => Nb N g p s ov w w.heap.size ⟨35, kd, ar, pl, n⟩ W ov) HR.out ?_
  rintro W hW
  have hP1 := hW.drew
  obtain ⟨c1, c2, c3, c4, cp⟩ := nbS hW
  dsimp only at c1 c2 c3 c4
  clear HR hW hlt0
  generalize hbb : w.heap.size = b at *
  replace hbb := Lib.hid hbb
  go_region_held3 (fun W' => W'.cell? ⟨b, 1, none⟩ = some (.int .i64 kd) ∧ W'.cell? ⟨b, 2, none⟩ = some (.int .i64 ar) ∧ W'.cell? ⟨b, 3, none⟩ = some (.int .i64 pl) ∧ W'.cell? ⟨b, 4, none⟩ = some (.int .i64 n) ∧ W'.cell? ⟨g, 256, none⟩ = some (.int .i64 p)) (exact nbS hP1)
      ((first | (go_at_call 59; (with_reducible refine (HG.out _ hP1.now.at_).mono ?_); rintro e w1 ⟨rfl, hb1⟩; have hP2 := hP1.next hb1; clear hb1; clear hP1; have hP1 := hP2; clear hP2)))
  obtain ⟨c1, c2, c3, c4, cp⟩ := nbS hP1
  dsimp only at c1 c2 c3 c4
  replace hP1 := Lib.hid hP1
  go_wp2_with fail
  with_reducible refine (HU.out _ hP1.out.now.at_).mono ?_
  rintro e w2 ⟨rfl, hb2⟩
  have hP2 := hP1.out.step hb2 (by have := hlt1.out; have := hbb.out; omega) hov.out
  clear hP1 hb2
  have hP1 := hP2
  clear hP2
  obtain ⟨c1, c2, c3, c4, cp⟩ := nbS hP1
  dsimp only at c1 c2 c3 c4
  have hP2 := hP1.drew
  clear hP1
  have hP1 := hP2
  clear hP2
  go_wp2_with fail
  go_region_held3 (fun W' => W'.cell? ⟨b, 1, none⟩ = some (.int .i64 kd) ∧ W'.cell? ⟨b, 2, none⟩ = some (.int .i64 ar) ∧ W'.cell? ⟨b, 3, none⟩ = some (.int .i64 pl) ∧ W'.cell? ⟨b, 4, none⟩ = some (.int .i64 n) ∧ W'.cell? ⟨g, 256, none⟩ = some (.int .i64 p)) (exact nbS hP1)
      ((first | (go_at_call 63; (with_reducible refine (HP.out _ hP1.now.at_).mono ?_); rintro e w1 ⟨rfl, hb1⟩; have hP2 := hP1.step hb1 (by have := hlt1.out; have := hbb.out; omega) hov.out; clear hb1; clear hP1; have hP1 := hP2; clear hP2)))
  obtain ⟨c1, c2, c3, c4, cp⟩ := nbS hP1
  dsimp only at c1 c2 c3 c4
  replace hP1 := Lib.hid hP1
  go_wp2_with fail
  with_reducible refine (HT.out _ _).mono ?_
  rintro e w2 ⟨rfl, hb2⟩
  have hP3 := Lib.hid (hP1.out.next hb2)
  have d1 := hP3.out.now.at_.val
  have e1 := hP3.out.now.at_.free 258
  have l1 := hP3.out.now.at_.lt
  have HZ := Lib.hid (hP3.out.now.value (yesI (true)))
  clear hb2 hP1
  go_wp2
  go_end0
  exact ⟨rfl, HZ.out⟩
set_option maxRecDepth 100000 in
set_option maxHeartbeats 4000000 in
theorem cCount_a2 (w : World) (h : RunAt w N g p s ov) (kd ar pl n : Int) (h1 : 3 ≤ ar) (h4 : ar ≤ 4) (h0 : 0 ≤ pl) (hk : pl ≤ 59) (hn1 : 1 ≤ n) (hn2 : n ≤ 9999) (hv : isI 1 s.v = true) (hu : decide (s.v = 1 ∧ gtV s ar (pl + 4) 1 = 0) = true) (hlt : ¬ n < gtV s ar pl 7 + 1) :
    Calls Try.prog 46 #[.pointer (some ⟨g, 0, none⟩), insV ⟨35, kd, ar, pl, n⟩] w fun e w' => e = .returned (.tuple #[]) ∧ Now N g p (ctuI ⟨35, kd, ar, pl, n⟩ s) ov w w' ov := by
  have hd := dw_bd (arL s.A ar) pl.toNat
  have HG := Lib.hid (fun W (h : RunAt W N g p s ov) => cAget_any W h ar pl 7 (by omega) h4 h0 (by rw [show szI 7 = 4 from rfl]; omega) (by decide))
  have hu' : upI ⟨35, kd, ar, pl, n⟩ s (pl + 4) = true := hu
  have hU := fun W (h : RunAt W N g p s ov) => cRise_any W h ar (pl + 4) (by omega) h4 (by omega) (by omega) hv
  rw [hu] at hU
  have HU := Lib.hid hU
  clear hU
  have e1 : ctuN ⟨35, kd, ar, pl, n⟩ s = min (gtV s ar pl 7 + 1) n := by unfold ctuN; rw [hu']; rfl
  have e2 : ctuA ⟨35, kd, ar, pl, n⟩ s = ptA (ptA s.A ar (pl + 4) 1 s.v) ar pl 7 (min (gtV s ar pl 7 + 1) n) := by unfold ctuA; rw [hu', e1]; rfl
  unfold ctuI
  dsimp only
  rw [e1, e2]
  have hgd : gtV s ar pl 7 = getL (arL s.A ar) pl.toNat 7 := rfl
  rw [← hgd] at hd
  have HS : ∀ x : Int, (⟨ptA (ptA s.A ar (pl + 4) 1 s.v) ar pl 7 x, s.kd, yesI (decide (n ≤ x)), s.op, s.z⟩ : St) = ⟨(ptV (ptV s ar (pl + 4) 1 s.v) ar pl 7 x).A, (ptV (ptV s ar (pl + 4) 1 s.v) ar pl 7 x).kd, yesI (decide (n ≤ x)), (ptV (ptV s ar (pl + 4) 1 s.v) ar pl 7 x).op, (ptV (ptV s ar (pl + 4) 1 s.v) ar pl 7 x).z⟩ := fun x => rfl
  rw [HS]
  clear HS hgd e1 e2 hu hu'
  generalize ptV s ar (pl + 4) 1 s.v = s1 at *
  have HP := Lib.hid (fun W (h : RunAt W N g p s1 ov) => cAput_any W h ar pl 7 (min (gtV s ar pl 7 + 1) n) (by omega) h4 h0 (by rw [show szI 7 = 4 from rfl]; omega) (by decide) (by omega) (by omega))
  generalize gtV s ar pl 7 = G at *
  rw [show min (G + 1) n = G + 1 by omega] at HP ⊢
  have hlt' : (n < G + 1) = False := by simp; omega
  generalize ptV s1 ar pl 7 (G + 1) = s' at *
  have HT := Lib.hid (fun b W => cVtruth_any b W)
  have HR := Lib.hid (Nb.new h ⟨35, kd, ar, pl, n⟩ 54)
  have hlt0 := h.lt
  have hov := Lib.hid (show ∀ k, ov.ownBlock = some k → k ≠ w.heap.size from fun k hk => by have := (World.ownsRow.lt h.own k hk).2; omega)
  have hlt1 := Lib.hid hlt0
  have hpl : IntKind.i64.wrap (pl + 4) = pl + 4 := by rw [IntKind.wrap_i64]; omega
  have hsum : IntKind.i64.wrap (G + 1) = G + 1 := by rw [IntKind.wrap_i64]; omega
  clear h1 h4 h0 hk h hv hn1 hn2 hd
  unfold insV
  go_enter Try.func46, Try.ntmps46
  go_wp2
  refine world_cutR (G := fun W => Code.wp _ _ _ _ W) (fun W => Nb N g p s ov w w.heap.size ⟨35, kd, ar, pl, n⟩ W ov) HR.out ?_
  rintro W hW
  have hP1 := hW.drew
  obtain ⟨c1, c2, c3, c4, cp⟩ := nbS hW
  dsimp only at c1 c2 c3 c4
  clear HR hW hlt0
  generalize hbb : w.heap.size = b at *
  replace hbb := Lib.hid hbb
  go_region_held3 (fun W' => W'.cell? ⟨b, 1, none⟩ = some (.int .i64 kd) ∧ W'.cell? ⟨b, 2, none⟩ = some (.int .i64 ar) ∧ W'.cell? ⟨b, 3, none⟩ = some (.int .i64 pl) ∧ W'.cell? ⟨b, 4, none⟩ = some (.int .i64 n) ∧ W'.cell? ⟨g, 256, none⟩ = some (.int .i64 p)) (exact nbS hP1)
      ((first | (go_at_call 59; (with_reducible refine (HG.out _ hP1.now.at_).mono ?_); rintro e w1 ⟨rfl, hb1⟩; have hP2 := hP1.next hb1; clear hb1; clear hP1; have hP1 := hP2; clear hP2)))
  obtain ⟨c1, c2, c3, c4, cp⟩ := nbS hP1
  dsimp only at c1 c2 c3 c4
  replace hP1 := Lib.hid hP1
  go_wp2_with fail
  with_reducible refine (HU.out _ hP1.out.now.at_).mono ?_
  rintro e w2 ⟨rfl, hb2⟩
  have hP2 := hP1.out.step hb2 (by have := hlt1.out; have := hbb.out; omega) hov.out
  clear hP1 hb2
  have hP1 := hP2
  clear hP2
  obtain ⟨c1, c2, c3, c4, cp⟩ := nbS hP1
  dsimp only at c1 c2 c3 c4
  have hP2 := hP1.drew
  clear hP1
  have hP1 := hP2
  clear hP2
  go_wp2_with fail
  go_region_held3 (fun W' => W'.cell? ⟨b, 1, none⟩ = some (.int .i64 kd) ∧ W'.cell? ⟨b, 2, none⟩ = some (.int .i64 ar) ∧ W'.cell? ⟨b, 3, none⟩ = some (.int .i64 pl) ∧ W'.cell? ⟨b, 4, none⟩ = some (.int .i64 n) ∧ W'.cell? ⟨g, 256, none⟩ = some (.int .i64 p)) (exact nbS hP1)
      ((first | (go_at_call 63; (with_reducible refine (HP.out _ hP1.now.at_).mono ?_); rintro e w1 ⟨rfl, hb1⟩; have hP2 := hP1.step hb1 (by have := hlt1.out; have := hbb.out; omega) hov.out; clear hb1; clear hP1; have hP1 := hP2; clear hP2)))
  obtain ⟨c1, c2, c3, c4, cp⟩ := nbS hP1
  dsimp only at c1 c2 c3 c4
  replace hP1 := Lib.hid hP1
  go_wp2_with fail
  with_reducible refine (HT.out _ _).mono ?_
  rintro e w2 ⟨rfl, hb2⟩
  have hP3 := Lib.hid (hP1.out.next hb2)
  have d1 := hP3.out.now.at_.val
  have e1 := hP3.out.now.at_.free 258
  have l1 := hP3.out.now.at_.lt
  have HZ := Lib.hid (hP3.out.now.value (yesI (decide (n ≤ G + 1))))
  clear hb2 hP1
  go_wp2
  go_end0
  exact ⟨rfl, HZ.out⟩
set_option maxRecDepth 100000 in
set_option maxHeartbeats 4000000 in
theorem cCount_b (w : World) (h : RunAt w N g p s ov) (kd ar pl n : Int) (h1 : 3 ≤ ar) (h4 : ar ≤ 4) (h0 : 0 ≤ pl) (hk : pl ≤ 59) (_hn1 : 1 ≤ n) (_hn2 : n ≤ 9999) (hv : isI 1 s.v = true) (hu : decide (s.v = 1 ∧ gtV s ar (pl + 4) 1 = 0) = false) :
    Calls Try.prog 46 #[.pointer (some ⟨g, 0, none⟩), insV ⟨35, kd, ar, pl, n⟩] w fun e w' => e = .returned (.tuple #[]) ∧ Now N g p (ctuI ⟨35, kd, ar, pl, n⟩ s) ov w w' ov := by
  have hd := dw_bd (arL s.A ar) pl.toNat
  have HG := Lib.hid (fun W (h : RunAt W N g p s ov) => cAget_any W h ar pl 7 (by omega) h4 h0 (by rw [show szI 7 = 4 from rfl]; omega) (by decide))
  have hu' : upI ⟨35, kd, ar, pl, n⟩ s (pl + 4) = false := hu
  have hU := fun W (h : RunAt W N g p s ov) => cRise_any W h ar (pl + 4) (by omega) h4 (by omega) (by omega) hv
  rw [hu] at hU
  have HU := Lib.hid hU
  clear hU
  have e1 : ctuN ⟨35, kd, ar, pl, n⟩ s = gtV s ar pl 7 := by unfold ctuN; rw [hu']; rfl
  have e2 : ctuA ⟨35, kd, ar, pl, n⟩ s = ptA s.A ar (pl + 4) 1 s.v := by unfold ctuA; rw [hu']; rfl
  unfold ctuI
  dsimp only
  rw [e1, e2]
  have HS : ∀ x : Int, (⟨ptA s.A ar (pl + 4) 1 s.v, s.kd, yesI (decide (n ≤ x)), s.op, s.z⟩ : St) = ⟨(ptV s ar (pl + 4) 1 s.v).A, (ptV s ar (pl + 4) 1 s.v).kd, yesI (decide (n ≤ x)), (ptV s ar (pl + 4) 1 s.v).op, (ptV s ar (pl + 4) 1 s.v).z⟩ := fun x => rfl
  rw [HS]
  clear HS e1 e2 hu hu'
  generalize ptV s ar (pl + 4) 1 s.v = s' at *
  generalize gtV s ar pl 7 = M at *
  have HT := Lib.hid (fun b W => cVtruth_any b W)
  have HR := Lib.hid (Nb.new h ⟨35, kd, ar, pl, n⟩ 54)
  have hlt0 := h.lt
  have hov := Lib.hid (show ∀ k, ov.ownBlock = some k → k ≠ w.heap.size from fun k hk => by have := (World.ownsRow.lt h.own k hk).2; omega)
  have hlt1 := Lib.hid hlt0
  have hpl : IntKind.i64.wrap (pl + 4) = pl + 4 := by rw [IntKind.wrap_i64]; omega
  clear h1 h4 h0 hk h hv _hn1 _hn2 hd
  unfold insV
  go_enter Try.func46, Try.ntmps46
  go_wp2
  refine world_cutR (G := fun W => Code.wp _ _ _ _ W) (fun W => Nb N g p s ov w w.heap.size ⟨35, kd, ar, pl, n⟩ W ov) HR.out ?_
  rintro W hW
  have hP1 := hW.drew
  obtain ⟨c1, c2, c3, c4, cp⟩ := nbS hW
  dsimp only at c1 c2 c3 c4
  clear HR hW hlt0
  generalize hbb : w.heap.size = b at *
  replace hbb := Lib.hid hbb
  go_region_held3 (fun W' => W'.cell? ⟨b, 1, none⟩ = some (.int .i64 kd) ∧ W'.cell? ⟨b, 2, none⟩ = some (.int .i64 ar) ∧ W'.cell? ⟨b, 3, none⟩ = some (.int .i64 pl) ∧ W'.cell? ⟨b, 4, none⟩ = some (.int .i64 n) ∧ W'.cell? ⟨g, 256, none⟩ = some (.int .i64 p)) (exact nbS hP1)
      ((first | (go_at_call 59; (with_reducible refine (HG.out _ hP1.now.at_).mono ?_); rintro e w1 ⟨rfl, hb1⟩; have hP2 := hP1.next hb1; clear hb1; clear hP1; have hP1 := hP2; clear hP2)))
  obtain ⟨c1, c2, c3, c4, cp⟩ := nbS hP1
  dsimp only at c1 c2 c3 c4
  replace hP1 := Lib.hid hP1
  go_wp2_with fail
  with_reducible refine (HU.out _ hP1.out.now.at_).mono ?_
  rintro e w2 ⟨rfl, hb2⟩
  have hP2 := hP1.out.step hb2 (by have := hlt1.out; have := hbb.out; omega) hov.out
  clear hP1 hb2
  have hP1 := hP2
  clear hP2
  obtain ⟨c1, c2, c3, c4, cp⟩ := nbS hP1
  dsimp only at c1 c2 c3 c4
  replace hP1 := Lib.hid hP1
  go_wp2_with fail
  with_reducible refine (HT.out _ _).mono ?_
  rintro e w2 ⟨rfl, hb2⟩
  have hP3 := Lib.hid (hP1.out.next hb2)
  have d1 := hP3.out.now.at_.val
  have e1 := hP3.out.now.at_.free 258
  have l1 := hP3.out.now.at_.lt
  have HZ := Lib.hid (hP3.out.now.value (yesI (decide (n ≤ M))))
  clear hb2 hP1
  go_wp2
  go_end0
  exact ⟨rfl, HZ.out⟩
theorem cCount_any (w : World) (h : RunAt w N g p s ov) (i : In) (ho : i.op = 35) (hr : rightI i = true) (ht : Ty i s) :
    Calls Try.prog 46 #[.pointer (some ⟨g, 0, none⟩), insV i] w fun e w' => e = .returned (.tuple #[]) ∧ Now N g p (ctuI i s) ov w w' ov := by
  obtain ⟨b1, b2, b3, b4, b5⟩ := blk_at hr (by omega)
  have b6 := b4 (by omega)
  have hv := (ht.t1 (by omega)).2
  obtain ⟨op, kd, ar, pl, n⟩ := i
  dsimp only at *
  subst ho
  cases hu : decide (s.v = 1 ∧ gtV s ar (pl + 4) 1 = 0)
  · exact cCount_b w h kd ar pl n b1 b2 b3 b6.1 b6.2.1 b6.2.2 hv hu
  · by_cases hlt : n < gtV s ar pl 7 + 1
    · exact cCount_a1 w h kd ar pl n b1 b2 b3 b6.1 b6.2.1 b6.2.2 hv hu hlt
    · exact cCount_a2 w h kd ar pl n b1 b2 b3 b6.1 b6.2.1 b6.2.2 hv hu hlt

end
end Go.Proofs.Ytbjmdehfdnpljaa.Vm
