/-
  The landed code's do, walked. Conditions: as each states.
-/
import Derived.Test.YtbjmdehfdnpljaaVmTime
namespace Go.Proofs.Ytbjmdehfdnpljaa.Vm
open Go.RowKit
open Go.Proofs.Ytbjmdehfdnpljaa.Il hiding Next S S_size S_app S_inj S_list
open Go.Proofs.Ytbjmdehfdnpljaa.Ic Go.Proofs.Ytbjmdehfdnpljaa.Ve
open Oct

section
variable {N g : Nat} {p : Int} {s : St} {ov : Value}
theorem now_steps {w w' : World} {s' : St} (h : Now N g p s' ov w w' ov) : Steps N g p s' ov w w' := ⟨ov, h⟩
theorem nb5 {b : Nat} {w W : World} {i : In} {ov1 : Value} (h : Nb N g p s ov w b i W ov1) : W.cell? ⟨b, 0, none⟩ = some (.int .i64 i.op) ∧ W.cell? ⟨b, 1, none⟩ = some (.int .i64 i.kd) ∧ W.cell? ⟨b, 2, none⟩ = some (.int .i64 i.ar) ∧ W.cell? ⟨b, 3, none⟩ = some (.int .i64 i.pl) ∧ W.cell? ⟨b, 4, none⟩ = some (.int .i64 i.n) := h.bi
theorem set_far {W : World} {g b j k : Nat} (h : g ≠ b) (v : Value) : (W.setCell ⟨g, j, none⟩ v).cell? ⟨b, k, none⟩ = W.cell? ⟨b, k, none⟩ := World.cell?_setCell_other _ _ _ _ (by intro e; injection e with e; exact h e)
theorem nb5s {b : Nat} {w W : World} {i : In} {ov1 : Value} (h : Nb N g p s ov w b i W ov1) (hne : g ≠ b) (j : Nat) (v : Value) : (W.setCell ⟨g, j, none⟩ v).cell? ⟨b, 0, none⟩ = some (.int .i64 i.op) ∧ (W.setCell ⟨g, j, none⟩ v).cell? ⟨b, 1, none⟩ = some (.int .i64 i.kd) ∧ (W.setCell ⟨g, j, none⟩ v).cell? ⟨b, 2, none⟩ = some (.int .i64 i.ar) ∧ (W.setCell ⟨g, j, none⟩ v).cell? ⟨b, 3, none⟩ = some (.int .i64 i.pl) ∧ (W.setCell ⟨g, j, none⟩ v).cell? ⟨b, 4, none⟩ = some (.int .i64 i.n) := by
  simp only [set_far hne]; exact h.bi
theorem nb5ss {b : Nat} {w W : World} {i : In} {ov1 : Value} (h : Nb N g p s ov w b i W ov1) (hne : g ≠ b) (j j2 : Nat) (v v2 : Value) : ((W.setCell ⟨g, j, none⟩ v).setCell ⟨g, j2, none⟩ v2).cell? ⟨b, 0, none⟩ = some (.int .i64 i.op) ∧ ((W.setCell ⟨g, j, none⟩ v).setCell ⟨g, j2, none⟩ v2).cell? ⟨b, 1, none⟩ = some (.int .i64 i.kd) ∧ ((W.setCell ⟨g, j, none⟩ v).setCell ⟨g, j2, none⟩ v2).cell? ⟨b, 2, none⟩ = some (.int .i64 i.ar) ∧ ((W.setCell ⟨g, j, none⟩ v).setCell ⟨g, j2, none⟩ v2).cell? ⟨b, 3, none⟩ = some (.int .i64 i.pl) ∧ ((W.setCell ⟨g, j, none⟩ v).setCell ⟨g, j2, none⟩ v2).cell? ⟨b, 4, none⟩ = some (.int .i64 i.n) := by
  simp only [set_far hne]; exact h.bi
theorem own_new {w : World} (h : RunAt w N g p s ov) : ∀ k, ov.ownBlock = some k → k ≠ w.heap.size := fun k hk => by have := (World.ownsRow.lt h.own k hk).2; omega
set_option maxRecDepth 100000 in
set_option maxHeartbeats 4000000 in
theorem do_3 (w : World) (h : RunAt w N g p s ov) (kd ar pl n : Int) (hr : rightI ⟨3, kd, ar, pl, n⟩ = true) (ht : Ty ⟨3, kd, ar, pl, n⟩ s) :
    Calls Try.prog 27 #[.pointer (some ⟨g, 0, none⟩), insV ⟨3, kd, ar, pl, n⟩] w fun e w' => e = .returned (.tuple #[]) ∧ Now N g p (doI p ⟨3, kd, ar, pl, n⟩ s) ov w w' ov := by
  have HR := Lib.hid (Nb.new h ⟨3, kd, ar, pl, n⟩ 54)
  have HC := Lib.hid (fun o => cStore_any _ (h.alloc o) ⟨3, kd, ar, pl, n⟩ hr (by dsimp only; omega) ht)
  generalize doI p ⟨3, kd, ar, pl, n⟩ s = s' at *
  unfold insV at HC
  clear h hr ht
  unfold insV
  go_enter Try.func27, Try.ntmps27
  go_wp2_with fail
  with_reducible refine (HC.out _).mono ?_
  rintro e w1 ⟨rfl, hn1⟩
  have HN := Lib.hid (HR.out.now.trans hn1)
  clear hn1 HR
  go_wp2
  go_end0
  exact ⟨rfl, HN.out⟩
set_option maxRecDepth 100000 in
set_option maxHeartbeats 4000000 in
theorem do_4 (w : World) (h : RunAt w N g p s ov) (kd ar pl n : Int) (hr : rightI ⟨4, kd, ar, pl, n⟩ = true) (ht : Ty ⟨4, kd, ar, pl, n⟩ s) :
    Calls Try.prog 27 #[.pointer (some ⟨g, 0, none⟩), insV ⟨4, kd, ar, pl, n⟩] w fun e w' => e = .returned (.tuple #[]) ∧ Now N g p (doI p ⟨4, kd, ar, pl, n⟩ s) ov w w' ov := by
  have HR := Lib.hid (Nb.new h ⟨4, kd, ar, pl, n⟩ 54)
  have HC := Lib.hid (fun o => cStore_any _ (h.alloc o) ⟨4, kd, ar, pl, n⟩ hr (by dsimp only; omega) ht)
  generalize doI p ⟨4, kd, ar, pl, n⟩ s = s' at *
  unfold insV at HC
  clear h hr ht
  unfold insV
  go_enter Try.func27, Try.ntmps27
  go_wp2_with fail
  with_reducible refine (HC.out _).mono ?_
  rintro e w1 ⟨rfl, hn1⟩
  have HN := Lib.hid (HR.out.now.trans hn1)
  clear hn1 HR
  go_wp2
  go_end0
  exact ⟨rfl, HN.out⟩
set_option maxRecDepth 100000 in
set_option maxHeartbeats 4000000 in
theorem do_5 (w : World) (h : RunAt w N g p s ov) (kd ar pl n : Int) (hr : rightI ⟨5, kd, ar, pl, n⟩ = true) (ht : Ty ⟨5, kd, ar, pl, n⟩ s) :
    Calls Try.prog 27 #[.pointer (some ⟨g, 0, none⟩), insV ⟨5, kd, ar, pl, n⟩] w fun e w' => e = .returned (.tuple #[]) ∧ Now N g p (doI p ⟨5, kd, ar, pl, n⟩ s) ov w w' ov := by
  have HR := Lib.hid (Nb.new h ⟨5, kd, ar, pl, n⟩ 54)
  have HC := Lib.hid (fun o => cStore_any _ (h.alloc o) ⟨5, kd, ar, pl, n⟩ hr (by dsimp only; omega) ht)
  generalize doI p ⟨5, kd, ar, pl, n⟩ s = s' at *
  unfold insV at HC
  clear h hr ht
  unfold insV
  go_enter Try.func27, Try.ntmps27
  go_wp2_with fail
  with_reducible refine (HC.out _).mono ?_
  rintro e w1 ⟨rfl, hn1⟩
  have HN := Lib.hid (HR.out.now.trans hn1)
  clear hn1 HR
  go_wp2
  go_end0
  exact ⟨rfl, HN.out⟩
set_option maxRecDepth 100000 in
set_option maxHeartbeats 4000000 in
theorem do_6 (w : World) (h : RunAt w N g p s ov) (kd ar pl n : Int) (hr : rightI ⟨6, kd, ar, pl, n⟩ = true) (ht : Ty ⟨6, kd, ar, pl, n⟩ s) :
    Calls Try.prog 27 #[.pointer (some ⟨g, 0, none⟩), insV ⟨6, kd, ar, pl, n⟩] w fun e w' => e = .returned (.tuple #[]) ∧ Now N g p (doI p ⟨6, kd, ar, pl, n⟩ s) ov w w' ov := by
  have HR := Lib.hid (Nb.new h ⟨6, kd, ar, pl, n⟩ 54)
  have HC := Lib.hid (fun o => cStore_any _ (h.alloc o) ⟨6, kd, ar, pl, n⟩ hr (by dsimp only; omega) ht)
  generalize doI p ⟨6, kd, ar, pl, n⟩ s = s' at *
  unfold insV at HC
  clear h hr ht
  unfold insV
  go_enter Try.func27, Try.ntmps27
  go_wp2_with fail
  with_reducible refine (HC.out _).mono ?_
  rintro e w1 ⟨rfl, hn1⟩
  have HN := Lib.hid (HR.out.now.trans hn1)
  clear hn1 HR
  go_wp2
  go_end0
  exact ⟨rfl, HN.out⟩
set_option maxRecDepth 100000 in
set_option maxHeartbeats 4000000 in
theorem do_34 (w : World) (h : RunAt w N g p s ov) (kd ar pl n : Int) (hr : rightI ⟨34, kd, ar, pl, n⟩ = true) (ht : Ty ⟨34, kd, ar, pl, n⟩ s) (hp0 : 0 ≤ p) (hp1 : p ≤ 10000) :
    Calls Try.prog 27 #[.pointer (some ⟨g, 0, none⟩), insV ⟨34, kd, ar, pl, n⟩] w fun e w' => e = .returned (.tuple #[]) ∧ Now N g p (doI p ⟨34, kd, ar, pl, n⟩ s) ov w w' ov := by
  rw [show doI p ⟨34, kd, ar, pl, n⟩ s = tonI p ⟨34, kd, ar, pl, n⟩ s from rfl]
  have HR := Lib.hid (Nb.new h ⟨34, kd, ar, pl, n⟩ 54)
  have HC := Lib.hid (fun o => cTime_any _ (h.alloc o) ⟨34, kd, ar, pl, n⟩ rfl hr ht hp0 hp1)
  generalize tonI p ⟨34, kd, ar, pl, n⟩ s = s' at *
  unfold insV at HC
  clear h hr ht hp0 hp1
  unfold insV
  go_enter Try.func27, Try.ntmps27
  go_wp2_with fail
  with_reducible refine (HC.out _).mono ?_
  rintro e w1 ⟨rfl, hn1⟩
  have HN := Lib.hid (HR.out.now.trans hn1)
  clear hn1 HR
  go_wp2
  go_end0
  exact ⟨rfl, HN.out⟩
set_option maxRecDepth 100000 in
set_option maxHeartbeats 4000000 in
theorem do_35 (w : World) (h : RunAt w N g p s ov) (kd ar pl n : Int) (hr : rightI ⟨35, kd, ar, pl, n⟩ = true) (ht : Ty ⟨35, kd, ar, pl, n⟩ s) :
    Calls Try.prog 27 #[.pointer (some ⟨g, 0, none⟩), insV ⟨35, kd, ar, pl, n⟩] w fun e w' => e = .returned (.tuple #[]) ∧ Now N g p (doI p ⟨35, kd, ar, pl, n⟩ s) ov w w' ov := by
  rw [show doI p ⟨35, kd, ar, pl, n⟩ s = ctuI ⟨35, kd, ar, pl, n⟩ s from rfl]
  have HR := Lib.hid (Nb.new h ⟨35, kd, ar, pl, n⟩ 54)
  have HC := Lib.hid (fun o => cCount_any _ (h.alloc o) ⟨35, kd, ar, pl, n⟩ rfl hr ht)
  generalize ctuI ⟨35, kd, ar, pl, n⟩ s = s' at *
  unfold insV at HC
  clear h hr ht
  unfold insV
  go_enter Try.func27, Try.ntmps27
  go_wp2_with fail
  with_reducible refine (HC.out _).mono ?_
  rintro e w1 ⟨rfl, hn1⟩
  have HN := Lib.hid (HR.out.now.trans hn1)
  clear hn1 HR
  go_wp2
  go_end0
  exact ⟨rfl, HN.out⟩
set_option maxRecDepth 100000 in
set_option maxHeartbeats 4000000 in
theorem do_1 (w : World) (h : RunAt w N g p s ov) (kd ar pl n : Int) (hi : AskOk ⟨1, kd, ar, pl, n⟩) :
    Calls Try.prog 27 #[.pointer (some ⟨g, 0, none⟩), insV ⟨1, kd, ar, pl, n⟩] w fun e w' => e = .returned (.tuple #[]) ∧ Now N g p (⟨s.A, kd, askI ⟨1, kd, ar, pl, n⟩ s, s.op, s.z⟩) ov w w' ov := by
  have HR := Lib.hid (Nb.new h ⟨1, kd, ar, pl, n⟩ 54)
  have hlt := Lib.hid h.lt
  have hov := Lib.hid (own_new h)
  have HC := Lib.hid (fun W (h : RunAt W N g p s ov) => cAsked_any W h ⟨1, kd, ar, pl, n⟩ hi)
  generalize askI ⟨1, kd, ar, pl, n⟩ s = V at *
  unfold insV at HC
  clear h hi
  unfold insV
  go_enter Try.func27, Try.ntmps27
  go_wp2_with fail
  refine world_cutR (G := fun W => Code.wp _ _ _ _ W) (fun W => Nb N g p s ov w w.heap.size ⟨1, kd, ar, pl, n⟩ W ov) HR.out ?_
  rintro W hW
  have hne := Lib.hid (show g ≠ w.heap.size by have := hlt.out; omega)
  have hP1 := hW.drew
  have hS := nb5 hP1
  obtain ⟨c0, c1, c2, c3, c4⟩ := hS
  dsimp only at c0 c1 c2 c3 c4
  have f0 := hW.now.at_.free 257
  have f1 := hW.now.at_.free 258
  have d0 := hW.now.at_.val
  have d1 := hW.now.at_.kd
  clear HR hW
  have hgw := Lib.hid hlt.out
  generalize hbb : w.heap.size = b at *
  replace hbb := Lib.hid hbb
  go_region_held3 (fun W' => W'.cell? ⟨b, 0, none⟩ = some (.int .i64 1) ∧ W'.cell? ⟨b, 1, none⟩ = some (.int .i64 kd) ∧ W'.cell? ⟨b, 2, none⟩ = some (.int .i64 ar) ∧ W'.cell? ⟨b, 3, none⟩ = some (.int .i64 pl) ∧ W'.cell? ⟨b, 4, none⟩ = some (.int .i64 n)) (first | exact nb5 hP1 | exact nb5s hP1 hne.out _ _ | exact nb5ss hP1 hne.out _ _ _ _)
      ((first | (go_at_call 40; (with_reducible refine (HC.out _ hP1.now.at_).mono ?_); rintro e w1 ⟨rfl, hb1⟩; have hP2 := hP1.next hb1; clear hb1 hP1; have hP1 := hP2; clear hP2; have f0 := hP1.now.at_.free 257; have f1 := hP1.now.at_.free 258; have d0 := hP1.now.at_.val; have d1 := hP1.now.at_.kd)))
  all_goals
    have HN := Lib.hid ((hP1.now.kind kd).value V)
    go_wp2
    go_end0
    exact ⟨rfl, HN.out⟩
set_option maxRecDepth 100000 in
set_option maxHeartbeats 4000000 in
theorem do_2 (w : World) (h : RunAt w N g p s ov) (kd ar pl n : Int) (hi : AskOk ⟨2, kd, ar, pl, n⟩) (hv : isI kd (askI ⟨2, kd, ar, pl, n⟩ s) = true) :
    Calls Try.prog 27 #[.pointer (some ⟨g, 0, none⟩), insV ⟨2, kd, ar, pl, n⟩] w fun e w' => e = .returned (.tuple #[]) ∧ Now N g p (⟨s.A, kd, notI kd (askI ⟨2, kd, ar, pl, n⟩ s), s.op, s.z⟩) ov w w' ov := by
  have HR := Lib.hid (Nb.new h ⟨2, kd, ar, pl, n⟩ 54)
  have hlt := Lib.hid h.lt
  have hov := Lib.hid (own_new h)
  have HC := Lib.hid (fun W (h : RunAt W N g p s ov) => cAsked_any W h ⟨2, kd, ar, pl, n⟩ hi)
  have HK := Lib.hid (fun W => cNot_any kd (askI ⟨2, kd, ar, pl, n⟩ s) W (is_i64 hv).1 (is_i64 hv).2)
  clear hv
  generalize notI kd (askI ⟨2, kd, ar, pl, n⟩ s) = V at *
  generalize askI ⟨2, kd, ar, pl, n⟩ s = V0 at *
  unfold insV at HC
  clear h hi
  unfold insV
  go_enter Try.func27, Try.ntmps27
  go_wp2_with fail
  refine world_cutR (G := fun W => Code.wp _ _ _ _ W) (fun W => Nb N g p s ov w w.heap.size ⟨2, kd, ar, pl, n⟩ W ov) HR.out ?_
  rintro W hW
  have hne := Lib.hid (show g ≠ w.heap.size by have := hlt.out; omega)
  have hP1 := hW.drew
  have hS := nb5 hP1
  obtain ⟨c0, c1, c2, c3, c4⟩ := hS
  dsimp only at c0 c1 c2 c3 c4
  have f0 := hW.now.at_.free 257
  have f1 := hW.now.at_.free 258
  have d0 := hW.now.at_.val
  have d1 := hW.now.at_.kd
  clear HR hW
  have hgw := Lib.hid hlt.out
  generalize hbb : w.heap.size = b at *
  replace hbb := Lib.hid hbb
  go_region_held3 (fun W' => W'.cell? ⟨b, 0, none⟩ = some (.int .i64 2) ∧ W'.cell? ⟨b, 1, none⟩ = some (.int .i64 kd) ∧ W'.cell? ⟨b, 2, none⟩ = some (.int .i64 ar) ∧ W'.cell? ⟨b, 3, none⟩ = some (.int .i64 pl) ∧ W'.cell? ⟨b, 4, none⟩ = some (.int .i64 n)) (first | exact nb5 hP1 | exact nb5s hP1 hne.out _ _ | exact nb5ss hP1 hne.out _ _ _ _)
      ((first | (go_at_call 40; (with_reducible refine (HC.out _ hP1.now.at_).mono ?_); rintro e w1 ⟨rfl, hb1⟩; have hP2 := hP1.next hb1; clear hb1 hP1; have hP1 := hP2; clear hP2; have f0 := hP1.now.at_.free 257; have f1 := hP1.now.at_.free 258; have d0 := hP1.now.at_.val; have d1 := hP1.now.at_.kd) | (go_at_call 41; (with_reducible refine (HK.out _).mono ?_); rintro e w1 ⟨rfl, hb1⟩; have hP2 := hP1.next hb1; clear hb1 hP1; have hP1 := hP2; clear hP2; have f0 := hP1.now.at_.free 257; have f1 := hP1.now.at_.free 258; have d0 := hP1.now.at_.val; have d1 := hP1.now.at_.kd)))
  all_goals
    have HN := Lib.hid ((hP1.now.kind kd).value V)
    go_wp2
    go_end0
    exact ⟨rfl, HN.out⟩
set_option maxRecDepth 100000 in
set_option maxHeartbeats 4000000 in
theorem do_36 (w : World) (h : RunAt w N g p s ov) (kd ar pl n : Int) (h1 : 1 ≤ ar) (h4 : ar ≤ 4) (h0 : 0 ≤ pl) (hk : pl + 1 ≤ 64) (hv : isI 1 s.v = true) :
    Calls Try.prog 27 #[.pointer (some ⟨g, 0, none⟩), insV ⟨36, kd, ar, pl, n⟩] w fun e w' => e = .returned (.tuple #[]) ∧ Now N g p (trigI ⟨36, kd, ar, pl, n⟩ s) ov w w' ov := by
  have HS : trigI ⟨36, kd, ar, pl, n⟩ s = ⟨(ptV s ar pl 1 s.v).A, (ptV s ar pl 1 s.v).kd, yesI (decide (s.v = 1 ∧ gtV s ar pl 1 = 0)), (ptV s ar pl 1 s.v).op, (ptV s ar pl 1 s.v).z⟩ := rfl
  rw [HS]
  clear HS
  have HC := Lib.hid (fun W (h : RunAt W N g p s ov) => cRise_any W h ar pl h1 h4 h0 hk hv)
  generalize ptV s ar pl 1 s.v = s1 at *
  generalize yesI (decide (s.v = 1 ∧ gtV s ar pl 1 = 0)) = V at *
  have HR := Lib.hid (Nb.new h ⟨36, kd, ar, pl, n⟩ 54)
  have hlt := Lib.hid h.lt
  have hov := Lib.hid (own_new h)
  clear h h1 h4 h0 hk hv
  unfold insV
  go_enter Try.func27, Try.ntmps27
  go_wp2_with fail
  with_reducible refine (HC.out _ HR.out.now.at_).mono ?_
  rintro e w1 ⟨rfl, hb1⟩
  have hP1 := Lib.hid (HR.out.step hb1 hlt.out hov.out)
  have f1 := hP1.out.now.at_.free 258
  have d0 := hP1.out.now.at_.val
  have l0 := hP1.out.now.at_.lt
  have HN := Lib.hid (hP1.out.now.value V)
  clear hb1 HR hP1
  go_wp2
  go_end0
  exact ⟨rfl, HN.out⟩
set_option maxRecDepth 100000 in
set_option maxHeartbeats 4000000 in
theorem do_31 (w : World) (h : RunAt w N g p s ov) (kd ar pl n : Int) (hv : isI s.kd s.v = true) :
    Calls Try.prog 27 #[.pointer (some ⟨g, 0, none⟩), insV ⟨31, kd, ar, pl, n⟩] w fun e w' => e = .returned (.tuple #[]) ∧ Now N g p (⟨s.A, kd, wrapI kd s.v, s.op, s.z⟩) ov w w' ov := by
  have HR := Lib.hid (Nb.new h ⟨31, kd, ar, pl, n⟩ 54)
  have hlt := Lib.hid h.lt
  have hov := Lib.hid (own_new h)
  have HK := Lib.hid (fun W => cWrap_any kd s.v W (is_i64 hv).1 (is_i64 hv).2)
  generalize wrapI kd s.v = V at *
  clear h hv
  unfold insV
  go_enter Try.func27, Try.ntmps27
  go_wp2_with fail
  refine world_cutR (G := fun W => Code.wp _ _ _ _ W) (fun W => Nb N g p s ov w w.heap.size ⟨31, kd, ar, pl, n⟩ W ov) HR.out ?_
  rintro W hW
  have hne := Lib.hid (show g ≠ w.heap.size by have := hlt.out; omega)
  have hP1 := hW.drew
  have hS := nb5 hP1
  obtain ⟨c0, c1, c2, c3, c4⟩ := hS
  dsimp only at c0 c1 c2 c3 c4
  have f0 := hW.now.at_.free 257
  have f1 := hW.now.at_.free 258
  have d0 := hW.now.at_.val
  have d1 := hW.now.at_.kd
  clear HR hW
  have hgw := Lib.hid hlt.out
  generalize hbb : w.heap.size = b at *
  replace hbb := Lib.hid hbb
  go_region_with ((first | (go_at_call 43; (with_reducible refine (HK.out _).mono ?_); rintro e w1 ⟨rfl, hb1⟩; have hP2 := hP1.next hb1; clear hb1 hP1; have hP1 := hP2; clear hP2; have f0 := hP1.now.at_.free 257; have f1 := hP1.now.at_.free 258; have d0 := hP1.now.at_.val; have d1 := hP1.now.at_.kd; have y1 := hP1.bi.2.1)))
  all_goals
    have HN := Lib.hid ((hP1.now.kind kd).value V)
    go_wp2
    go_end0
    exact ⟨rfl, HN.out⟩
set_option maxRecDepth 100000 in
set_option maxHeartbeats 4000000 in
theorem do_13 (w : World) (h : RunAt w N g p s ov) (kd ar pl n : Int) (hv : isI s.kd s.v = true) :
    Calls Try.prog 27 #[.pointer (some ⟨g, 0, none⟩), insV ⟨13, kd, ar, pl, n⟩] w fun e w' => e = .returned (.tuple #[]) ∧ Now N g p (⟨s.A, s.kd, notI s.kd s.v, s.op, s.z⟩) ov w w' ov := by
  have HR := Lib.hid (Nb.new h ⟨13, kd, ar, pl, n⟩ 54)
  have hlt := Lib.hid h.lt
  have hov := Lib.hid (own_new h)
  have HK := Lib.hid (fun W => cNot_any s.kd s.v W (is_i64 hv).1 (is_i64 hv).2)
  generalize notI s.kd s.v = V at *
  clear h hv
  unfold insV
  go_enter Try.func27, Try.ntmps27
  go_wp2_with fail
  refine world_cutR (G := fun W => Code.wp _ _ _ _ W) (fun W => Nb N g p s ov w w.heap.size ⟨13, kd, ar, pl, n⟩ W ov) HR.out ?_
  rintro W hW
  have hne := Lib.hid (show g ≠ w.heap.size by have := hlt.out; omega)
  have hP1 := hW.drew
  have hS := nb5 hP1
  obtain ⟨c0, c1, c2, c3, c4⟩ := hS
  dsimp only at c0 c1 c2 c3 c4
  have f0 := hW.now.at_.free 257
  have f1 := hW.now.at_.free 258
  have d0 := hW.now.at_.val
  have d1 := hW.now.at_.kd
  clear HR hW
  have hgw := Lib.hid hlt.out
  generalize hbb : w.heap.size = b at *
  replace hbb := Lib.hid hbb
  go_region_with ((first | (go_at_call 41; (with_reducible refine (HK.out _).mono ?_); rintro e w1 ⟨rfl, hb1⟩; have hP2 := hP1.next hb1; clear hb1 hP1; have hP1 := hP2; clear hP2; have f0 := hP1.now.at_.free 257; have f1 := hP1.now.at_.free 258; have d0 := hP1.now.at_.val; have d1 := hP1.now.at_.kd)))
  all_goals
    have HN := Lib.hid (hP1.now.value V)
    go_wp2
    go_end0
    exact ⟨rfl, HN.out⟩

end
end Go.Proofs.Ytbjmdehfdnpljaa.Vm
