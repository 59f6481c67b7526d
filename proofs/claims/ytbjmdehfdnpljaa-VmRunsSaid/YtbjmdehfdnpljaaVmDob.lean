/-
  The landed code's do, walked: brackets; operations of two values. Conditions: as each states.
-/
import Derived.Test.YtbjmdehfdnpljaaVmDoa
import Derived.Deep.AppendLies
namespace Go.Proofs.Ytbjmdehfdnpljaa.Vm
open Go.RowKit
open Go.Proofs.Ytbjmdehfdnpljaa.Il hiding Next S S_size S_app S_inj S_list
open Go.Proofs.Ytbjmdehfdnpljaa.Ic Go.Proofs.Ytbjmdehfdnpljaa.Ve
open Oct

section
variable {N g : Nat} {p : Int} {s : St} {ov : Value}
set_option maxRecDepth 100000 in
set_option maxHeartbeats 4000000 in
theorem do_jump (w : World) (h : RunAt w N g p s ov) (kd ar pl n : Int) (op : Int) (h1 : (op == 1) = false) (h2 : (op == 2) = false) (h3 : (op == 3) = false) (h4 : (op == 4) = false) (h5 : (op == 5) = false) (h6 : (op == 6) = false) (h13 : (op == 13) = false) (h31 : (op == 31) = false) (h32 : (op == 32) = false) (h33 : (op == 33) = false) (h34 : (op == 34) = false) (h35 : (op == 35) = false) (h36 : (op == 36) = false) (hm : mayI op kd = false) :
    Calls Try.prog 27 #[.pointer (some ⟨g, 0, none⟩), insV ⟨op, kd, ar, pl, n⟩] w fun e w' => e = .returned (.tuple #[]) ∧ Now N g p (s) ov w w' ov := by
  have HR := Lib.hid (Nb.new h ⟨op, kd, ar, pl, n⟩ 54)
  have HM := Lib.hid (fun W => cMay_any op kd W)
  rw [hm] at HM
  clear h hm
  unfold insV
  go_enter Try.func27, Try.ntmps27
  go_wp2_with fail
  with_reducible refine (HM.out _).mono ?_
  rintro e w1 ⟨rfl, hb1⟩
  have HN := Lib.hid (HR.out.now.next hb1)
  clear hb1 HR
  go_wp2
  go_end0
  exact ⟨rfl, HN.out⟩
set_option maxRecDepth 100000 in
set_option maxHeartbeats 4000000 in
theorem do_join (w : World) (h : RunAt w N g p s ov) (kd ar pl n : Int) (op : Int) (h1 : (op == 1) = false) (h2 : (op == 2) = false) (h3 : (op == 3) = false) (h4 : (op == 4) = false) (h5 : (op == 5) = false) (h6 : (op == 6) = false) (h13 : (op == 13) = false) (h31 : (op == 31) = false) (h32 : (op == 32) = false) (h33 : (op == 33) = false) (h34 : (op == 34) = false) (h35 : (op == 35) = false) (h36 : (op == 36) = false) (hm : mayI op kd = true) (hi : AskOk ⟨op, kd, ar, pl, n⟩) (hz : s.z < 1000) (hv : isI s.kd s.v = true) (hq : isI kd (askI ⟨op, kd, ar, pl, n⟩ s) = true) :
    Calls Try.prog 27 #[.pointer (some ⟨g, 0, none⟩), insV ⟨op, kd, ar, pl, n⟩] w fun e w' => e = .returned (.tuple #[]) ∧ Now N g p (joinI op s.kd s.v (askI ⟨op, kd, ar, pl, n⟩ s) s) ov w w' ov := by
  have HR := Lib.hid (Nb.new h ⟨op, kd, ar, pl, n⟩ 54)
  have HM := Lib.hid (fun W => cMay_any op kd W)
  rw [hm] at HM
  have HC := Lib.hid (fun W (h : RunAt W N g p s ov) => cAsked_any W h ⟨op, kd, ar, pl, n⟩ hi)
  have HJ := Lib.hid (fun W (h : RunAt W N g p s ov) => cJoin_any W h op s.v (askI ⟨op, kd, ar, pl, n⟩ s) hz (is_i64 hv).1 (is_i64 hv).2 (is_i64 hq).1 (is_i64 hq).2)
  generalize joinI op s.kd s.v (askI ⟨op, kd, ar, pl, n⟩ s) s = s1 at *
  generalize askI ⟨op, kd, ar, pl, n⟩ s = V at *
  unfold insV at HC
  have hlt := Lib.hid h.lt
  have hov := Lib.hid (own_new h)
  clear h hm hi hz hv hq
  unfold insV
  go_enter Try.func27, Try.ntmps27
  go_wp2_with fail
  with_reducible refine (HM.out _).mono ?_
  rintro e w1 ⟨rfl, hb1⟩
  have HR1 := Lib.hid (HR.out.next hb1)
  clear hb1 HR HM
  go_wp2_with fail
  refine world_cutR (G := fun W => Code.wp _ _ _ _ W) (fun W => Nb N g p s ov w w.heap.size ⟨op, kd, ar, pl, n⟩ W ov) HR1.out ?_
  rintro W hW
  have hne := Lib.hid (show g ≠ w.heap.size by have := hlt.out; omega)
  have hP1 := hW.drew
  have hS := nb5 hP1
  obtain ⟨c0, c1, c2, c3, c4⟩ := hS
  dsimp only at c0 c1 c2 c3 c4
  have f0 := hW.now.at_.free 257
  have f1 := hW.now.at_.free 258
  have d0 := hW.now.at_.val
  have d1 := hW.now.at_.kd
  clear HR1 hW
  have hgw := Lib.hid hlt.out
  generalize hbb : w.heap.size = b at *
  replace hbb := Lib.hid hbb
  go_region_with ((first | (go_at_call 40; (with_reducible refine (HC.out _ hP1.now.at_).mono ?_); rintro e w1 ⟨rfl, hb1⟩; have hP2 := hP1.next hb1; clear hb1 hP1; have hP1 := hP2; clear hP2; have f0 := hP1.now.at_.free 257; have f1 := hP1.now.at_.free 258; have d0 := hP1.now.at_.val; have d1 := hP1.now.at_.kd; have y0 := hP1.bi.1; have y1 := hP1.bi.2.1; have y2 := hP1.bi.2.2.1; have y3 := hP1.bi.2.2.2.1; have y4 := hP1.bi.2.2.2.2) | (go_at_call 44; (with_reducible refine (HJ.out _ hP1.now.at_).mono ?_); rintro e w1 ⟨rfl, hb1⟩; have hP2 := hP1.step hb1 (by rw [hbb.out]; exact hgw.out) hov.out; clear hb1 hP1; have hP1 := hP2; clear hP2; have f0 := hP1.now.at_.free 257; have f1 := hP1.now.at_.free 258; have d0 := hP1.now.at_.val; have d1 := hP1.now.at_.kd)))
  all_goals
    have HN := Lib.hid hP1.now
    go_wp2
    go_end0
    exact ⟨rfl, HN.out⟩

end
end Go.Proofs.Ytbjmdehfdnpljaa.Vm
