/-
  The laws first look; a run of no program; the law VmLoads walked; bytes of areas; the law VmFrames walked; areas as arguments. Conditions: none.
-/
import Derived.Test.YtbjmdehfdnpljaaVmGo
import Derived.Test.YtbjmdehfdnpljaaVwAwake
import Derived.DeepKeys
import Derived.Test.YtbjmdehfdnpljaaVrAll
import Derived.Test.YtbjmdehfdnpljaaVmMath
import Derived.Test.YtbjmdehfdnpljaaVeD
import Derived.Test.YtbjmdehfdnpljaaVrBytes
import Derived.Test.YtbjmdehfdnpljaaVwOc
namespace Go.Proofs.Ytbjmdehfdnpljaa.Vm
open Go.RowKit
open Go.Proofs.Ytbjmdehfdnpljaa.Il hiding Next S S_size S_app S_inj S_list
open Go.Proofs.Ytbjmdehfdnpljaa.Ic Go.Proofs.Ytbjmdehfdnpljaa.Ve
open Oct

set_option maxRecDepth 100000 in
set_option maxHeartbeats 4000000 in
theorem cRun_nil (I Q M R : Bs) (x : Int) (w : World) :
    Calls Try.prog 11 #[.pointer none, imgV I Q M R, .int .i64 x] w (Tells (.tuple #[imgV (fitL I) (fitL Q) (fitL M) (fitL R), .agg #[.int .i64 0, .int .i64 0, .int .i64 0, .int .i64 0]]) w) := by
  have HF := Lib.hid (fun W => cFit_any I Q M R W)
  have hz1 := Rz.new (w.alloc (.cells #[.string (S I), .string (S Q), .string (S M), .string (S R)] 32))
  rw [show (w.alloc (.cells #[.string (S I), .string (S Q), .string (S M), .string (S R)] 32)).heap.size = w.heap.size + 1 by simp] at hz1
  have hz2 := hz1.kept (one_S _ #[.int .i64 0, .int .i64 0, .int .i64 0, .int .i64 0] 34)
  have hs2 := heap_alloc_new ((w.alloc (.cells #[.string (S I), .string (S Q), .string (S M), .string (S R)] 32)).alloc (.cells #[.string ⟨#[]⟩, .string ⟨#[]⟩, .string ⟨#[]⟩, .string ⟨#[]⟩] 32)) (.cells #[.int .i64 0, .int .i64 0, .int .i64 0, .int .i64 0] 34)
  rw [show ((w.alloc (.cells #[.string (S I), .string (S Q), .string (S M), .string (S R)] 32)).alloc (.cells #[.string ⟨#[]⟩, .string ⟨#[]⟩, .string ⟨#[]⟩, .string ⟨#[]⟩] 32)).heap.size = w.heap.size + 1 + 1 by simp] at hs2
  have hb0 := (box_two w #[.string (S I), .string (S Q), .string (S M), .string (S R)] #[.string ⟨#[]⟩, .string ⟨#[]⟩, .string ⟨#[]⟩, .string ⟨#[]⟩] 32 32).trans ((one_S ((w.alloc (.cells #[.string (S I), .string (S Q), .string (S M), .string (S R)] 32)).alloc (.cells #[.string ⟨#[]⟩, .string ⟨#[]⟩, .string ⟨#[]⟩, .string ⟨#[]⟩] 32)) #[.int .i64 0, .int .i64 0, .int .i64 0, .int .i64 0] 34).mono (by simp; omega))
  have H0 := Lib.hid (⟨hz2, hs2, hb0⟩ : _ ∧ _ ∧ _)
  clear hz1 hz2 hs2 hb0
  unfold imgV at *
  go_enter Try.func11, Try.ntmps11
  go_wp2_with fail
  with_reducible refine (HF.out _).mono ?_
  rintro e w1 ⟨rfl, hb1⟩
  have H1 := Lib.hid (show Rz w1 (w.heap.size + 1) ∧ w1.heap[w.heap.size + 1 + 1]? = some (.cells #[.int .i64 0, .int .i64 0, .int .i64 0, .int .i64 0] 34 (0, 0)) ∧ Below w.heap.size w w1 from ⟨H0.out.1.kept hb1, (hb1.block _ (Array.getElem?_eq_some_iff.1 H0.out.2.1).1).trans H0.out.2.1, H0.out.2.2.trans (hb1.mono H0.out.2.2.size)⟩)
  clear hb1 H0
  have qi := H1.out.1
  have z0 := free_heap qi 0
  have z1 := free_heap qi 1
  have z2 := free_heap qi 2
  have z3 := free_heap qi 3
  have q0 : w1.cell? ⟨w.heap.size + 1, 0, none⟩ = some (.string ⟨#[]⟩) := by rw [cell_of_row _ _ _ _ _ (0, 0) qi]; rfl
  have q1 : w1.cell? ⟨w.heap.size + 1, 1, none⟩ = some (.string ⟨#[]⟩) := by rw [cell_of_row _ _ _ _ _ (0, 0) qi]; rfl
  have q2 : w1.cell? ⟨w.heap.size + 1, 2, none⟩ = some (.string ⟨#[]⟩) := by rw [cell_of_row _ _ _ _ _ (0, 0) qi]; rfl
  have q3 : w1.cell? ⟨w.heap.size + 1, 3, none⟩ = some (.string ⟨#[]⟩) := by rw [cell_of_row _ _ _ _ _ (0, 0) qi]; rfl
  clear qi
  have qs := H1.out.2.1
  have v0 := free_heap qs 0
  have v1 := free_heap qs 1
  have v2 := free_heap qs 2
  have v3 := free_heap qs 3
  have x0 : w1.cell? ⟨w.heap.size + 1 + 1, 0, none⟩ = some (.int .i64 0) := by rw [cell_of_row _ _ _ _ _ (0, 0) qs]; rfl
  have x1 : w1.cell? ⟨w.heap.size + 1 + 1, 1, none⟩ = some (.int .i64 0) := by rw [cell_of_row _ _ _ _ _ (0, 0) qs]; rfl
  have x2 : w1.cell? ⟨w.heap.size + 1 + 1, 2, none⟩ = some (.int .i64 0) := by rw [cell_of_row _ _ _ _ _ (0, 0) qs]; rfl
  have x3 : w1.cell? ⟨w.heap.size + 1 + 1, 3, none⟩ = some (.int .i64 0) := by rw [cell_of_row _ _ _ _ _ (0, 0) qs]; rfl
  clear qs
  go_wp2
  (try simp only [Exit.inBlock, Exit.then])
  have HC := ran_cells H1.out.1 rfl H1.out.2.1 rfl (by omega) (.string (S (fitL I))) (.string (S (fitL Q))) (.string (S (fitL M))) (.string (S (fitL R))) (.int .i64 0) (.int .i64 0) (.int .i64 0) (.int .i64 0)
  exact bodyPost_ret (results_ran rfl _ _ (w.heap.size + 1) (w.heap.size + 1 + 1) (S (fitL I)) (S (fitL Q)) (S (fitL M)) (S (fitL R)) 0 0 0 0 rfl rfl HC.1 HC.2) rfl ⟨rfl, four_below (four_below H1.out.2.2 (by omega) _ _ _ _) (by omega) _ _ _ _⟩

end Go.Proofs.Ytbjmdehfdnpljaa.Vm

namespace Go.Proofs.Ytbjmdehfdnpljaa.Vm
open Go.RowKit
open Go.Proofs.Ytbjmdehfdnpljaa.Il hiding Next S S_size S_app S_inj S_list
open Go.Proofs.Ytbjmdehfdnpljaa.Ic Go.Proofs.Ytbjmdehfdnpljaa.Ve
open Oct

theorem key_scan (d : Nat) (a b c e : Int) (ha : (Lit.int .i64 a).wf = true) (hb : (Lit.int .i64 b).wf = true) (hc : (Lit.int .i64 c).wf = true) (he : (Lit.int .i64 e).wf = true) :
    Try.prog.keyLits (d + 2) 34 [.int .i64 a, .int .i64 b, .int .i64 c, .int .i64 e] = some [.int .i64 a, .int .i64 b, .int .i64 c, .int .i64 e] := by
  have k : ∀ z : Int, (Lit.int .i64 z).wf = true → Try.prog.keyLits (d + 1) 3 [.int .i64 z] = some [.int .i64 z] := fun z hz => by
    unfold Program.keyLits
    rw [Try.underlying3]
    simp [hz]
  have k2 : ∀ z : Int, (Lit.int .i64 z).wf = true → Try.prog.keyLits (d + 1) 2 [.int .i64 z] = some [.int .i64 z] := fun z hz => by
    unfold Program.keyLits
    rw [Try.underlying2]
    simp [hz]
  unfold Program.keyLits
  rw [Try.underlying34]
  dsimp only
  have c1 : Try.prog.cellsOf 3 = 1 := by kernel_rfl
  have c2 : Try.prog.cellsOf 2 = 1 := by kernel_rfl
  rw [if_pos (by refine ⟨?_, ?_⟩ <;> kernel_rfl)]
  simp only [List.mapM_cons, List.mapM_nil, c1, c2, List.drop, List.take, k a ha, k b hb, k c hc, k2 e he]
  rfl
theorem key_img (d : Nat) (a b c e : ByteArray) (ha : a.size ≤ maxLen) (hb : b.size ≤ maxLen) (hc : c.size ≤ maxLen) (he : e.size ≤ maxLen) :
    Try.prog.keyLits (d + 2) 32 [.string a, .string b, .string c, .string e] = some [.string a.data.toList, .string b.data.toList, .string c.data.toList, .string e.data.toList] := by
  have k : ∀ z : ByteArray, z.size ≤ maxLen → Try.prog.keyLits (d + 1) 9 [.string z] = some [.string z.data.toList] := fun z hz => by
    unfold Program.keyLits
    rw [Try.underlying9]
    simp [hz]
  unfold Program.keyLits
  rw [Try.underlying32]
  dsimp only
  have c1 : Try.prog.cellsOf 9 = 1 := by kernel_rfl
  rw [if_pos (by refine ⟨?_, ?_⟩ <;> kernel_rfl)]
  simp only [List.mapM_cons, List.mapM_nil, c1, List.drop, List.take, k a ha, k b hb, k c hc, k e he]
  rfl
theorem scan_same (a b c e : Int) (ha : (Lit.int .i64 a).wf = true) (hb : (Lit.int .i64 b).wf = true) (hc : (Lit.int .i64 c).wf = true) (he : (Lit.int .i64 e).wf = true) (W : World) :
    (Op.equalIn 10000 34 (.agg #[.int .i64 a, .int .i64 b, .int .i64 c, .int .i64 e]) (.agg #[.int .i64 a, .int .i64 b, .int .i64 c, .int .i64 e])).run Try.prog W = .ok true W := by
  have hk := key_scan 3 a b c e ha hb hc he
  have hf : (Value.agg #[.int .i64 a, .int .i64 b, .int .i64 c, .int .i64 e]).formed Try.prog 34 = true := by
    unfold Value.formed
    rw [Try.underlying34, show Try.prog.cellsOf 34 = 4 from by kernel_rfl]
    rfl
  obtain ⟨r, hr, hiff⟩ := run_equalIn_deep (P := Try.prog) 9990 10 34 (by kernel_rfl) W _ _ _ _ _ _ hf hf hk hk
  rw [hiff.2 rfl] at hr
  exact hr
theorem img_same (a b c e : ByteArray) (ha : a.size ≤ maxLen) (hb : b.size ≤ maxLen) (hc : c.size ≤ maxLen) (he : e.size ≤ maxLen) (W : World) :
    (Op.equalIn 10000 32 (.agg #[.string a, .string b, .string c, .string e]) (.agg #[.string a, .string b, .string c, .string e])).run Try.prog W = .ok true W := by
  have hk := key_img 3 a b c e ha hb hc he
  have hf : (Value.agg #[.string a, .string b, .string c, .string e]).formed Try.prog 32 = true := by
    unfold Value.formed
    rw [Try.underlying32, show Try.prog.cellsOf 32 = 4 from by kernel_rfl]
    rfl
  obtain ⟨r, hr, hiff⟩ := run_equalIn_deep (P := Try.prog) 9990 10 32 (by kernel_rfl) W _ _ _ _ _ _ hf hf hk hk
  rw [hiff.2 rfl] at hr
  exact hr
theorem Try.guardScan : Try.prog.eqGuardType Try.prog.depth 34 = false := by kernel_rfl
theorem Try.guardImg : Try.prog.eqGuardType Try.prog.depth 32 = false := by kernel_rfl
theorem fit_small (l : Bs) : (S (fitL l)).size ≤ maxLen := by rw [S_size, fit_len]; unfold maxLen; omega

end Go.Proofs.Ytbjmdehfdnpljaa.Vm

namespace Go.Proofs.Ytbjmdehfdnpljaa.Vm
open Go.RowKit
open Go.Proofs.Ytbjmdehfdnpljaa.Il hiding Next S S_size S_app S_inj S_list
open Go.Proofs.Ytbjmdehfdnpljaa.Ic Go.Proofs.Ytbjmdehfdnpljaa.Ve
open Oct

def x0 : In := ⟨1, 3, 0, 0, 2⟩
def x1 : In := ⟨32, 0, 0, 16, 0⟩
def x2 : In := ⟨1, 3, 0, 0, 3⟩
def x3 : In := ⟨33, 0, 0, 0, 0⟩
def x4 : In := ⟨3, 3, 2, 0, 0⟩
def l5 : List In := [x0, x1, x2, x3, x4]
def c5 : Array Value := #[.int .i64 1, .int .i64 3, .int .i64 0, .int .i64 0, .int .i64 2, .int .i64 32, .int .i64 0, .int .i64 0, .int .i64 16, .int .i64 0, .int .i64 1, .int .i64 3, .int .i64 0, .int .i64 0, .int .i64 3, .int .i64 33, .int .i64 0, .int .i64 0, .int .i64 0, .int .i64 0, .int .i64 3, .int .i64 3, .int .i64 2, .int .i64 0, .int .i64 0]
theorem lies_five (W : World) : Lies (W.alloc (.cells c5 54)) (W.alloc (.cells c5 54)).heap.size (some ⟨W.heap.size, 0, none⟩) l5 := fun _ => by
  refine ⟨W.heap.size, 0, rfl, by simp, fun i z hz => ?_⟩
  have hc : ∀ j v, c5[j]? = some v → (W.alloc (.cells c5 54)).cell? ⟨W.heap.size, j, none⟩ = some v := fun j v hv => by rw [World.cell?_alloc_new]; exact hv
  match i with
  | 0 => injection hz with hz; subst hz; exact ⟨hc 0 _ rfl, hc 1 _ rfl, hc 2 _ rfl, hc 3 _ rfl, hc 4 _ rfl⟩
  | 1 => injection hz with hz; subst hz; exact ⟨hc 5 _ rfl, hc 6 _ rfl, hc 7 _ rfl, hc 8 _ rfl, hc 9 _ rfl⟩
  | 2 => injection hz with hz; subst hz; exact ⟨hc 10 _ rfl, hc 11 _ rfl, hc 12 _ rfl, hc 13 _ rfl, hc 14 _ rfl⟩
  | 3 => injection hz with hz; subst hz; exact ⟨hc 15 _ rfl, hc 16 _ rfl, hc 17 _ rfl, hc 18 _ rfl, hc 19 _ rfl⟩
  | 4 => injection hz with hz; subst hz; exact ⟨hc 20 _ rfl, hc 21 _ rfl, hc 22 _ rfl, hc 23 _ rfl, hc 24 _ rfl⟩
  | i + 5 => simp [l5] at hz
theorem chk5 : (chkB l5).1 = 0 := by decide +kernel
theorem all5 : ∃ l, allB l5 = .ok l := by
  rcases all_cases l5 with ⟨r, k, h, hr, hr2, hk2⟩ | ⟨s, h, _⟩
  · have := chk5
    rw [chk_err h] at this
    have h2 : r = 0 := this
    omega
  · exact ⟨_, h⟩
def q5 : Bs := 0 :: 6 :: List.replicate 62 0
def m5 : Mc := finM l5 0 [fitL z64, fitL z64, fitL z64, fitL z64]
theorem ran5 : ranV m5 = .tuple #[.agg #[.string (S z64), .string (S q5), .string (S z64), .string (S z64)], .agg #[.int .i64 5, .int .i64 0, .int .i64 3, .int .i64 6]] := by
  have hA : m5.s.A = [z64, q5, z64, z64] := by decide +kernel
  have ht : m5.t = 5 := by decide +kernel
  have hz : m5.s.z = 0 := by decide +kernel
  have hk : m5.s.kd = 3 := by decide +kernel
  have hv : m5.s.v = 6 := by decide +kernel
  unfold ranV imgA scanV
  rw [hA, ht, hz, hk, hv]
  rfl
set_option maxRecDepth 100000 in
set_option maxHeartbeats 4000000 in
theorem wake_any (w : World) : Calls Try.prog 8 #[] w (Tells (.bool true) w) := by
  have HC := fun W => load_ok l5 (some ⟨W.heap.size, 0, none⟩) 5 (W.alloc (.cells c5 54)) (lies_five W) (Go.Proofs.Ytbjmdehfdnpljaa.Ve.fit_of (by decide +kernel)) (fun e => by cases e) (by decide) chk5
  rw [show l5.length = 5 from rfl] at HC
  obtain ⟨l, hl⟩ := all5
  have HG := Lib.hid (fun (W : World) N pb v (h : PAt W N pb v l5) => by
    obtain ⟨ao, cap, e, -, -⟩ := own_slice h.own
    rw [e] at h
    have hg := run_go l5 l hl pb ao cap z64 z64 z64 z64 0 0 W ⟨h.blk, World.ownsRow.mono h.own (Nat.zero_le _), Nat.zero_le _⟩ (.inl ⟨rfl, by omega⟩)
    rw [show finM l5 0 [fitL z64, fitL z64, fitL z64, fitL z64] = m5 from rfl, ran5] at hg
    exact hg)
  have HB := Lib.hid (fun W => cBlank_any W)
  have hsc := scan_same 5 0 3 6 (by decide) (by decide) (by decide) (by decide)
  have hgs := Try.guardScan
  have hq1 : (S q5).size = 64 := by decide +kernel
  have hq2 : ((S q5).extract 0 2).toList = [0, 6] := by decide +kernel
  replace HC := Lib.hid HC
  unfold imgV at *
  unfold c5 at HC
  go_enter Try.func8, Try.ntmps8
  go_wp2_with fail
  with_reducible refine (HC.out _).mono ?_
  rintro e w1 ⟨pb, v, rfl, hp, hb1⟩
  have B1 := Lib.hid (((Below.refl w.heap.size w).alloc (Nat.le_refl _) (.cells c5 54)).trans (hb1.mono (by simp)))
  have HP := Lib.hid hp
  clear hb1 hp HC
  go_wp2_with fail
  with_reducible refine (HB.out _).mono ?_
  rintro e w2 ⟨rfl, hb2⟩
  have B2 := Lib.hid (B1.out.trans (hb2.mono B1.out.size))
  have HP2 := Lib.hid (HP.out.kept hb2)
  clear hb2 HP B1
  go_wp2_with fail
  with_reducible refine (HG.out _ _ _ _ HP2.out).mono ?_
  rintro e w3 ⟨rfl, hb3⟩
  have B3 := Lib.hid (B2.out.trans (hb3.mono B2.out.size))
  clear hb3 HP2 B2
  go_wp2
  go_ret
  exact ⟨rfl, (B3.out.alloc B3.out.size _).alloc (by have := B3.out.size; simp; omega) _⟩

end Go.Proofs.Ytbjmdehfdnpljaa.Vm

namespace Go.Proofs.Ytbjmdehfdnpljaa.Vm
open Go.RowKit
open Go.Proofs.Ytbjmdehfdnpljaa.Il hiding Next S S_size S_app S_inj S_list
open Go.Proofs.Ytbjmdehfdnpljaa.Ic Go.Proofs.Ytbjmdehfdnpljaa.Ve
open Oct

theorem same_img (I Q M R : Bs) (W : World) : (Op.equalIn 10000 32 (.agg #[.string (S (fitL I)), .string (S (fitL Q)), .string (S (fitL M)), .string (S (fitL R))]) (.agg #[.string (S (fitL I)), .string (S (fitL Q)), .string (S (fitL M)), .string (S (fitL R))])).run Try.prog W = .ok true W :=
  img_same _ _ _ _ (fit_small I) (fit_small Q) (fit_small M) (fit_small R) W
theorem below_drewN (N : Nat) (W : World) (k : Nat) : Below N W (W.drewN k) := ⟨rfl, rfl, rfl, Nat.le_refl _, fun _ _ => rfl⟩
/-- Areas, and how a run ran, in two blocks behind a world. -/
structure Tw (w W : World) (a b : Nat) (s0 s1 s2 s3 : ByteArray) (i0 i1 i2 i3 : Int) : Prop where
  c0 : W.cell? ⟨a, 0, none⟩ = some (.string s0)
  c1 : W.cell? ⟨a, 1, none⟩ = some (.string s1)
  c2 : W.cell? ⟨a, 2, none⟩ = some (.string s2)
  c3 : W.cell? ⟨a, 3, none⟩ = some (.string s3)
  d0 : W.cell? ⟨b, 0, none⟩ = some (.int .i64 i0)
  d1 : W.cell? ⟨b, 1, none⟩ = some (.int .i64 i1)
  d2 : W.cell? ⟨b, 2, none⟩ = some (.int .i64 i2)
  d3 : W.cell? ⟨b, 3, none⟩ = some (.int .i64 i3)
  below : Below w.heap.size w W
section
variable {w W W' : World} {a b : Nat} {s0 s1 s2 s3 : ByteArray} {i0 i1 i2 i3 : Int}
theorem Tw.kept (h : Tw w W a b s0 s1 s2 s3 i0 i1 i2 i3) (hb : Below W.heap.size W W') : Tw w W' a b s0 s1 s2 s3 i0 i1 i2 i3 :=
  ⟨kept_cell hb h.c0, kept_cell hb h.c1, kept_cell hb h.c2, kept_cell hb h.c3, kept_cell hb h.d0, kept_cell hb h.d1, kept_cell hb h.d2, kept_cell hb h.d3, h.below.trans (hb.mono h.below.size)⟩
theorem Tw.drew (h : Tw w W a b s0 s1 s2 s3 i0 i1 i2 i3) : Tw w W.drew a b s0 s1 s2 s3 i0 i1 i2 i3 := ⟨h.c0, h.c1, h.c2, h.c3, h.d0, h.d1, h.d2, h.d3, h.below.drew⟩
theorem Tw.new (hb : Below w.heap.size w W) : Tw w ((W.alloc (.cells #[.string s0, .string s1, .string s2, .string s3] 32)).alloc (.cells #[.int .i64 i0, .int .i64 i1, .int .i64 i2, .int .i64 i3] 34)) W.heap.size (W.heap.size + 1) s0 s1 s2 s3 i0 i1 i2 i3 := by
  have h1 := heap_alloc_new W (.cells #[.string s0, .string s1, .string s2, .string s3] 32)
  have h2 := heap_alloc_new (W.alloc (.cells #[.string s0, .string s1, .string s2, .string s3] 32)) (.cells #[.int .i64 i0, .int .i64 i1, .int .i64 i2, .int .i64 i3] 34)
  rw [show (W.alloc (.cells #[.string s0, .string s1, .string s2, .string s3] 32)).heap.size = W.heap.size + 1 by simp] at h2
  have h3 := (heap_alloc_old (W.alloc (.cells #[.string s0, .string s1, .string s2, .string s3] 32)) (.cells #[.int .i64 i0, .int .i64 i1, .int .i64 i2, .int .i64 i3] 34) (r := W.heap.size) (by simp)).trans h1
  refine ⟨?_, ?_, ?_, ?_, ?_, ?_, ?_, ?_, (hb.alloc hb.size _).alloc (by have := hb.size; simp; omega) _⟩
  · rw [cell_of_row _ _ _ _ _ (0, 0) h3]; rfl
  · rw [cell_of_row _ _ _ _ _ (0, 0) h3]; rfl
  · rw [cell_of_row _ _ _ _ _ (0, 0) h3]; rfl
  · rw [cell_of_row _ _ _ _ _ (0, 0) h3]; rfl
  · rw [cell_of_row _ _ _ _ _ (0, 0) h2]; rfl
  · rw [cell_of_row _ _ _ _ _ (0, 0) h2]; rfl
  · rw [cell_of_row _ _ _ _ _ (0, 0) h2]; rfl
  · rw [cell_of_row _ _ _ _ _ (0, 0) h2]; rfl
end
set_option maxRecDepth 100000 in
set_option maxHeartbeats 8000000 in
theorem loads_walk (l : List In) (ao : Option Addr) (cap : Nat) (w : World) (hI : Lies w w.heap.size ao l) (hF : FitL l) (hm : l.length ≤ maxLen) (hcap : ao = none → cap = 0) :
    Calls Try.prog 3 #[.slice ao l.length cap] w (Tells (.bool true) w) := by
  have HF := Lib.hid hF
  have HM := Lib.hid hm
  have HA := Lib.hid (At.first hI)
  have hmi : (l.length : Int) ≤ 9223372036854775807 := by unfold maxLen at hm; omega
  clear hI hF hm
  by_cases h210 : (210 : Int) < l.length
  · clear hcap
    go_enter Try.func3, Try.ntmps3
    go_wp2_with fail
    with_reducible refine (wake_any _).mono ?_
    rintro e w1 ⟨rfl, hb1⟩
    have HA1 := Lib.hid (HA.out.next hb1)
    clear hb1 HA
    go_wp2
    go_ret
    exact ⟨rfl, HA1.out.below⟩
  · have HR : Hid (∀ W, At w W ao l → Calls Try.prog 10 #[.slice ao l.length cap] W (Alls W l)) := fun W h => rAll_any l ao cap W h.lies HF.out HM.out
    unfold Alls at HR
    rcases all_cases l with ⟨r, k, h, hr, hr2, hk2⟩ | ⟨s, h, hw, hl, h200⟩
    · have hck := chk_err h
      have HL := Lib.hid (fun W (h : At w W ao l) => load_no l ao cap W h.lies HF.out (by omega) (by rw [hck]; dsimp only; omega))
      rw [hck] at HL
      rw [h] at HR
      dsimp only at HL HR
      have hrb : ((r : Int) == 0) = false := by rw [beq_eq_false_iff_ne]; omega
      have hrw : IntKind.i64.wrap ((r : Nat) : Int) = (r : Nat) := by rw [IntKind.wrap_i64]; omega
      have hrr : ((r : Int) != (r : Int)) = false := by simp
      have hkk : ((k : Int) != (k : Int)) = false := by simp
      have HN : Hid (∀ W, Calls Try.prog 11 #[.pointer none, .agg #[.string ⟨#[97, 98]⟩, .string ⟨#[]⟩, .string ⟨#[]⟩, .string ⟨#[]⟩], .int .i64 5] W (Tells (.tuple #[imgV (fitL [97, 98]) (fitL []) (fitL []) (fitL []), .agg #[.int .i64 0, .int .i64 0, .int .i64 0, .int .i64 0]]) W)) := fun W => cRun_nil [97, 98] [] [] [] 5 W
      have HT : Hid (∀ W, Calls Try.prog 13 #[.agg #[.string ⟨#[97, 98]⟩, .string ⟨#[]⟩, .string ⟨#[]⟩, .string ⟨#[]⟩]] W (Tells (imgV (fitL [97, 98]) (fitL []) (fitL []) (fitL [])) W)) := fun W => cFit_any [97, 98] [] [] [] W
      have HO := Lib.hid (fun W => cCode_nil W)
      have hsc := scan_same 0 0 0 0 (by decide) (by decide) (by decide) (by decide)
      have hgs := Try.guardScan
      have him := same_img [97, 98] [] [] []
      have hgi := Try.guardImg
      unfold imgV at HN HT
      generalize fitL [97, 98] = fI at *
      generalize fitL [] = fN at *
      clear h hr hck
      go_enter Try.func3, Try.ntmps3
      go_wp2_with fail
      with_reducible refine (wake_any _).mono ?_
      rintro e w1 ⟨rfl, hb1⟩
      have HA1 := Lib.hid (HA.out.next hb1)
      clear hb1 HA
      go_wp2_with fail
      with_reducible refine (HL.out _ HA1.out).mono ?_
      rintro e w2 ⟨rfl, hb1⟩
      have HA2 := Lib.hid (HA1.out.next hb1)
      clear hb1 HA1
      go_wp2_with fail
      with_reducible refine (HR.out _ HA2.out).mono ?_
      rintro e w3 ⟨rfl, hb1⟩
      have HA3 := Lib.hid (HA2.out.next hb1)
      clear hb1 HA2
      go_wp2_with fail
      with_reducible refine (HN.out _).mono ?_
      rintro e w4 ⟨rfl, hb1⟩
      have HT0 := Lib.hid (Tw.new (W := w4) (s0 := S fI) (s1 := S fN) (s2 := S fN) (s3 := S fN) (i0 := 0) (i1 := 0) (i2 := 0) (i3 := 0) (HA3.out.next hb1).below)
      clear hb1 HA3
      go_wp2_with fail
      refine world_cutR (G := fun W => Code.wp _ _ _ _ W) (fun W => Tw w W w4.heap.size (w4.heap.size + 1) (S fI) (S fN) (S fN) (S fN) 0 0 0 0) HT0.out ?_
      rintro W hW
      have hP1 := Lib.hid hW.drew
      clear hW HT0
      generalize w4.heap.size = a at *
      go_region_held3 (fun W' => W'.cell? ⟨a, 0, none⟩ = some (.string (S fI)) ∧ W'.cell? ⟨a, 1, none⟩ = some (.string (S fN)) ∧ W'.cell? ⟨a, 2, none⟩ = some (.string (S fN)) ∧ W'.cell? ⟨a, 3, none⟩ = some (.string (S fN)) ∧ W'.cell? ⟨a + 1, 0, none⟩ = some (.int .i64 0) ∧ W'.cell? ⟨a + 1, 1, none⟩ = some (.int .i64 0) ∧ W'.cell? ⟨a + 1, 2, none⟩ = some (.int .i64 0) ∧ W'.cell? ⟨a + 1, 3, none⟩ = some (.int .i64 0))
        (exact ⟨hP1.out.c0, hP1.out.c1, hP1.out.c2, hP1.out.c3, hP1.out.d0, hP1.out.d1, hP1.out.d2, hP1.out.d3⟩)
        ((first | (go_at_call 12; (with_reducible refine (HO.out _).mono ?_); rintro e w5 ⟨rfl, hb5⟩; have hP2 := Lib.hid (hP1.out.kept hb5); clear hb5 hP1; have hP1 := hP2; clear hP2) | (go_at_call 13; (with_reducible refine (HT.out _).mono ?_); rintro e w6 ⟨rfl, hb6⟩; have hP2 := Lib.hid (hP1.out.kept hb6); clear hb6 hP1; have hP1 := hP2; clear hP2)))
      all_goals
        go_wp2
        go_ret
        exact ⟨rfl, hP1.out.below⟩
    · have hz : (chkB l).1 = 0 := by rw [chk_ok h]
      have HL := Lib.hid (fun W (h : At w W ao l) => load_ok l ao cap W h.lies HF.out hcap (by omega) hz)
      have HO := Lib.hid (fun W N pb v (h : PAt W N pb v l) => cCode_any W h (by omega))
      have HS := Lib.hid (fun (a1 : Option Addr) c1 W (h1 : Lies W W.heap.size a1 l) (h2 : At w W ao l) => rSame_any l a1 ao c1 cap W h1 h2.lies (by omega))
      rw [h] at HR
      dsimp only at HR
      obtain ⟨n, hn⟩ : ∃ n, n = l.length := ⟨_, rfl⟩
      rw [← hn] at HL HR HS ⊢
      have hn2 : (n : Int) ≤ 210 := by omega
      have HNL := Lib.hid hn
      clear h hw hl h200 h210 hn hmi hz
      go_enter Try.func3, Try.ntmps3
      go_wp2_with fail
      with_reducible refine (wake_any _).mono ?_
      rintro e w1 ⟨rfl, hb1⟩
      have HA1 := Lib.hid (HA.out.next hb1)
      clear hb1 HA
      go_wp2_with fail
      with_reducible refine (HL.out _ HA1.out).mono ?_
      rintro e w2 ⟨pb, v, rfl, hp, hb1⟩
      have HA2 := Lib.hid (HA1.out.next hb1)
      have HP2 := Lib.hid hp
      clear hb1 HA1 hp
      go_wp2_with fail
      with_reducible refine (HR.out _ HA2.out).mono ?_
      rintro e w3 ⟨g, rfl, hR, hb1⟩
      have HA3 := Lib.hid (HA2.out.next hb1)
      have HP3 := Lib.hid (HP2.out.kept hb1)
      clear hb1 HA2 hR HP2
      go_wp2_with fail
      with_reducible refine (HO.out _ _ _ _ HP3.out).mono ?_
      rintro e w4 ⟨v, rfl, ho, hb1⟩
      have HA4 := Lib.hid (HA3.out.next hb1)
      obtain ⟨a1, c1, hv, hL1, -⟩ := own_slice ho
      rw [← HNL.out] at hv
      subst hv
      have HL1 := Lib.hid hL1
      clear hb1 HA3 hL1 ho HP3
      go_wp2_with fail
      with_reducible refine (HS.out _ _ _ HL1.out HA4.out).mono ?_
      rintro e w5 ⟨rfl, k, rfl⟩
      go_wp2
      go_ret
      exact ⟨rfl, HA4.out.below.trans (below_drewN _ _ _)⟩

end Go.Proofs.Ytbjmdehfdnpljaa.Vm

namespace Go.Proofs.Ytbjmdehfdnpljaa.Vm
open Go.Proofs.Ytbjmdehfdnpljaa.Il Go.Proofs.Ytbjmdehfdnpljaa.Ic Go.Proofs.Ytbjmdehfdnpljaa.Ve
open Oct

theorem get_byte {l : Bs} {pl b : Nat} {k v : Int} (h : pl + szI k ≤ l.length) : (putL l pl k v).getD b 0 = if pl ≤ b ∧ b < pl + szI k then (be (nvI k v) (szI k)).getD (b - pl) 0 else l.getD b 0 := by
  have hl : (l.take pl).length = pl := by rw [List.length_take]; omega
  have hb : (be (nvI k v) (szI k)).length = szI k := be_length _ _
  unfold putL
  simp only [List.getD_eq_getElem?_getD]
  by_cases h1 : b < pl
  · rw [if_neg (by omega), List.append_assoc, List.getElem?_append_left (by omega), List.getElem?_take, if_pos h1]
  · by_cases h2 : b < pl + szI k
    · rw [if_pos (by omega), List.getElem?_append_left (by rw [List.length_append]; omega), List.getElem?_append_right (by omega), hl]
    · rw [if_neg (by omega), List.getElem?_append_right (by rw [List.length_append]; omega), List.length_append, hl, hb, List.getElem?_drop]
      congr 2
      omega
theorem get_same {l m : Bs} {pl : Nat} {k : Int} (hl : l.length = 64) (hm : m.length = 64) (h : ∀ b, pl ≤ b → b < pl + szI k → l.getD b 0 = m.getD b 0) : getL l pl k = getL m pl k := by
  unfold getL
  have e : cutL l pl (szI k) = cutL m pl (szI k) := by
    apply List.ext_getElem?
    intro t
    unfold cutL
    rw [List.getElem?_take, List.getElem?_take]
    split
    · next ht =>
      rw [List.getElem?_drop, List.getElem?_drop]
      by_cases hb : pl + t < 64
      · have := h (pl + t) (by omega) (by omega)
        simp only [List.getD_eq_getElem?_getD] at this
        rw [List.getElem?_eq_getElem (by omega), List.getElem?_eq_getElem (by omega)] at this ⊢
        exact congrArg some this
      · rw [List.getElem?_eq_none (by omega), List.getElem?_eq_none (by omega)]
    · rfl
  rw [e]
/-- Byte b of area j. -/
def byA (A : List Bs) (j b : Nat) : UInt8 := (A.getD j []).getD b 0
theorem by_pt {A : List Bs} (h : AOk A) {a pl k v : Int} (h1 : 1 ≤ a) (h4 : a ≤ 4) (hp : pl.toNat + szI k ≤ 64) (j b : Nat) :
    byA (ptA A a pl k v) j b = if j = (a - 1).toNat ∧ pl.toNat ≤ b ∧ b < pl.toNat + szI k then (be (nvI k v) (szI k)).getD (b - pl.toNat) 0 else byA A j b := by
  unfold byA ptA
  rw [List.getD_eq_getElem?_getD (l := A.set _ _), List.getElem?_set]
  by_cases e : (a - 1).toNat = j
  · subst e
    have hlen := ok_at h h1 h4
    rw [if_pos rfl, if_pos (by rw [h.four]; omega), Option.getD_some, get_byte (by rw [hlen]; exact hp)]
    simp only [true_and]
    rfl
  · rw [if_neg e, if_neg (by omega), ← List.getD_eq_getElem?_getD]

end Go.Proofs.Ytbjmdehfdnpljaa.Vm

namespace Go.Proofs.Ytbjmdehfdnpljaa.Vm
open Go.Proofs.Ytbjmdehfdnpljaa.Il Go.Proofs.Ytbjmdehfdnpljaa.Ic Go.Proofs.Ytbjmdehfdnpljaa.Ve
open Oct

/-- A run turns a byte only where an instruction writes. -/
def PlaceB (i : In) (j b : Nat) : Prop := i.ar = j + 1 ∧ i.pl.toNat ≤ b ∧ b < i.pl.toNat + sizeI i
theorem mask_bit (i : In) (b : Nat) (h1 : i.pl.toNat ≤ b) (h2 : b < i.pl.toNat + sizeI i) : (maskI i).testBit b = true := by
  unfold maskI
  rw [Nat.testBit_mul_two_pow, Nat.testBit_two_pow_sub_one]
  simp [h1]
  omega
theorem acc_bit {wr : Bool} {c : List In} {l : List Ah} {k : Nat} {i : In} (hi : c[k]? = some i) (ho : (gt l k).on = true) (hu : usesB wr i.op = true) {j b : Nat} (hp : PlaceB i j b) :
    ∀ m, k < m → (accB wr c l m j).testBit b = true
  | 0, h => absurd h (by omega)
  | m + 1, h => by
    by_cases e : m = k
    · subst e
      rw [acc_next hi, if_pos (by unfold countB; rw [ho, hu, decide_eq_true hp.1]; rfl), Nat.testBit_or, mask_bit i b hp.2.1 hp.2.2, Bool.or_true]
    · have ih := acc_bit hi ho hu hp m (by omega)
      show (match c[m]? with | none => accB wr c l m j | some x => if countB wr (gt l m) x j then accB wr c l m j ||| maskI x else accB wr c l m j).testBit b = true
      split
      · exact ih
      · split
        · rw [Nat.testBit_or, ih, Bool.true_or]
        · exact ih
theorem use_bit {wr : Bool} {c : List In} {l : List Ah} (h : allB c = .ok l) {k : Nat} {i : In} (hi : c[k]? = some i) (ho : (gt l k).on = true) (hu : usesB wr i.op = true) {j b : Nat} (hp : PlaceB i j b) :
    (useB wr c j).testBit b = true := by
  unfold useB
  rw [h]
  exact acc_bit hi ho hu hp _ (List.getElem?_eq_some_iff.1 hi).1

theorem sz_op {i : In} (h : i.op < 34) : sizeI i = szI i.kd := by unfold sizeI; rw [if_neg (by omega), if_neg (by omega)]
theorem uses_st {i : In} (h : 3 ≤ i.op ∧ i.op ≤ 6) : usesB true i.op = true := by unfold usesB storeB; rw [if_pos rfl, decide_eq_true (by omega)]; rfl
theorem uses_bl {i : In} (b : Bool) (h : 34 ≤ i.op) (h2 : i.op ≤ 36) : usesB b i.op = true := by
  cases b
  · unfold usesB storeB
    rw [if_neg (by decide), decide_eq_false (by omega)]
    rfl
  · unfold usesB storeB blockB
    rw [if_pos rfl, decide_eq_false (show ¬ (3 ≤ i.op ∧ i.op ≤ 6) by omega), Bool.false_or, decide_eq_true_iff]
    omega
theorem uses_rd {i : In} (h : i.op < 3 ∨ 6 < i.op) : usesB false i.op = true := by
  unfold usesB storeB
  rw [if_neg (by decide), decide_eq_false (by omega)]
  rfl
/-- What an instruction leaves alone. -/
theorem do_by {p : Int} {i : In} {s : St} (hr : rightI i = true) (hA : AOk s.A) (j b : Nat) (hn : ¬ (usesB true i.op = true ∧ PlaceB i j b)) : byA (doI p i s).A j b = byA s.A j b := by
  have hop := right_op hr
  have key : ∀ k v, 3 ≤ i.op ∧ i.op ≤ 6 → k = i.kd → byA (ptA s.A i.ar i.pl k v) j b = byA s.A j b := fun k v h e => by
    subst e
    obtain ⟨q1, q2, q3, q4, _⟩ := put_at hr h
    rw [by_pt hA (by omega) q2 q4, if_neg]
    rintro ⟨e1, e2, e3⟩
    exact hn ⟨uses_st h, by omega, e2, by rw [sz_op (by omega)]; exact e3⟩
  unfold doI
  by_cases h1 : i.op = 1
  · rw [if_pos h1]
  rw [if_neg h1]
  by_cases h2 : i.op = 2
  · rw [if_pos h2]
  rw [if_neg h2]
  by_cases h3 : i.op = 3
  · rw [if_pos h3]
    exact key _ _ (by omega) rfl
  rw [if_neg h3]
  by_cases h4 : i.op = 4
  · rw [if_pos h4]
    exact key _ _ (by omega) rfl
  rw [if_neg h4]
  by_cases h5 : i.op = 5 ∨ i.op = 6
  · rw [if_pos h5]
    split
    · exact key _ _ (by omega) rfl
    · rfl
  rw [if_neg h5]
  by_cases h13 : i.op = 13
  · rw [if_pos h13]
  rw [if_neg h13]
  by_cases hj : 25 ≤ i.op ∧ i.op ≤ 30
  · rw [if_pos hj]
  rw [if_neg hj]
  by_cases h31 : i.op = 31
  · rw [if_pos h31]
  rw [if_neg h31]
  by_cases h32 : i.op = 32
  · rw [if_pos h32]
  rw [if_neg h32]
  by_cases h33 : i.op = 33
  · rw [if_pos h33]; rfl
  rw [if_neg h33]
  by_cases h34 : i.op = 34
  · rw [if_pos h34]
    obtain ⟨b1, b2, b3, b4, b5⟩ := blk_at hr (by omega)
    have b4 := b4 (by omega)
    show byA (ptA s.A i.ar i.pl 7 (tonN p i s)) j b = _
    rw [by_pt hA (by omega) b2 (by rw [show szI 7 = 4 from rfl]; omega), if_neg]
    rw [show szI 7 = 4 from rfl]
    rintro ⟨e1, e2, e3⟩
    exact hn ⟨uses_bl true (by omega) (by omega), by omega, e2, by unfold sizeI; rw [if_pos (by omega)]; omega⟩
  rw [if_neg h34]
  by_cases h35 : i.op = 35
  · rw [if_pos h35]
    obtain ⟨b1, b2, b3, b4, b5⟩ := blk_at hr (by omega)
    have b4 := b4 (by omega)
    have k1 : ∀ {A : List Bs} (v : Int), AOk A → byA (ptA A i.ar (i.pl + 4) 1 v) j b = byA A j b := fun v hA => by
      rw [by_pt hA (by omega) b2 (by rw [show szI 1 = 1 from rfl]; omega), if_neg]
      rw [show szI 1 = 1 from rfl]
      rintro ⟨e1, e2, e3⟩
      exact hn ⟨uses_bl true (by omega) (by omega), by omega, by omega, by unfold sizeI; rw [if_pos (by omega)]; omega⟩
    have k2 : ∀ {A : List Bs} (v : Int), AOk A → byA (ptA A i.ar i.pl 7 v) j b = byA A j b := fun v hA => by
      rw [by_pt hA (by omega) b2 (by rw [show szI 7 = 4 from rfl]; omega), if_neg]
      rw [show szI 7 = 4 from rfl]
      rintro ⟨e1, e2, e3⟩
      exact hn ⟨uses_bl true (by omega) (by omega), by omega, e2, by unfold sizeI; rw [if_pos (by omega)]; omega⟩
    show byA (ctuA i s) j b = _
    unfold ctuA
    split
    · rw [k2 _ (ok_put hA (by omega) b2 (by rw [show szI 1 = 1 from rfl]; omega)), k1 _ hA]
    · exact k1 _ hA
  rw [if_neg h35]
  by_cases h36 : i.op = 36
  · rw [if_pos h36]
    obtain ⟨b1, b2, b3, b4, b5⟩ := blk_at hr (by omega)
    show byA (ptA s.A i.ar i.pl 1 s.v) j b = _
    rw [by_pt hA (by omega) b2 (by rw [show szI 1 = 1 from rfl]; omega), if_neg]
    rw [show szI 1 = 1 from rfl]
    rintro ⟨e1, e2, e3⟩
    exact hn ⟨uses_bl true (by omega) (by omega), by omega, e2, by unfold sizeI; rw [if_neg (by omega), if_pos (by omega)]; omega⟩
  rw [if_neg h36]
  rfl
section
variable {c : List In} {l : List Ah} {p : Int}
/-- A run turns no byte that the program does not write. -/
theorem fin_frame (h : allB c = .ok l) {A : List Bs} (hA : AOk A) (j b : Nat) (hb : (useB true c j).testBit b = false) : byA (finM c p A).s.A j b = byA A j b := by
  refine (it_all h (p := p) (fun m => byA m.s.A j b = byA A j b) (fun m i hg hk hh hp => ?_) _ (good_first h hA) rfl).2
  rw [step_at hh.at_]
  rw [do_by hh.right hg.ok.ar j b, hp]
  rintro ⟨h1, h2⟩
  have := use_bit h hh.at_ (hg.conf hk).on h1 h2
  rw [hb] at this
  cases this

def wA (s : St) (A : List Bs) : St := ⟨A, s.kd, s.v, s.op, s.z⟩
def Agree (U : Nat → Nat → Bool) (A B : List Bs) : Prop := ∀ j b, U j b = true → byA A j b = byA B j b
theorem gtv_same {s : St} {B : List Bs} (hA : AOk s.A) (hB : AOk B) {a pl k : Int} (h1 : 1 ≤ a) (h4 : a ≤ 4) (h : ∀ b, pl.toNat ≤ b → b < pl.toNat + szI k → byA s.A (a - 1).toNat b = byA B (a - 1).toNat b) : gtV (wA s B) a pl k = gtV s a pl k :=
  get_same (ok_at hB h1 h4) (ok_at hA h1 h4) (fun b hb1 hb2 => (h b hb1 hb2).symm)
theorem pt_agree {U : Nat → Nat → Bool} {A B : List Bs} (hA : AOk A) (hB : AOk B) (h : Agree U A B) {a pl k v : Int} (h1 : 1 ≤ a) (h4 : a ≤ 4) (hp : pl.toNat + szI k ≤ 64) : Agree U (ptA A a pl k v) (ptA B a pl k v) := fun j b hu => by
  rw [by_pt hA h1 h4 hp, by_pt hB h1 h4 hp]
  split
  · rfl
  · exact h j b hu
theorem do_agree {U : Nat → Nat → Bool} {i : In} {s : St} {B : List Bs} (hr : rightI i = true) (hA : AOk s.A) (hB : AOk B) (h : Agree U s.A B)
    (hu : ∀ j b, PlaceB i j b → U j b = true) : ∃ B', doI p i (wA s B) = wA (doI p i s) B' ∧ Agree U (doI p i s).A B' := by
  have hop := right_op hr
  have hask : readsB i.op = true → askI i (wA s B) = askI i s := fun ho => by
    unfold askI
    split
    · rfl
    · next hne =>
      obtain ⟨q1, q2, q3, q4⟩ := right_area hr hne
      have ho' := ho
      unfold readsB at ho'
      rw [decide_eq_true_iff] at ho'
      exact gtv_same hA hB q1 q2 (fun b b1 b2 => h _ b (hu _ b ⟨by omega, b1, by rw [sz_op (by omega)]; exact b2⟩))
  have hput : ∀ v, 3 ≤ i.op ∧ i.op ≤ 6 → Agree U (ptA s.A i.ar i.pl i.kd v) (ptA B i.ar i.pl i.kd v) := fun v ho => by
    obtain ⟨q1, q2, q3, q4, _⟩ := put_at hr ho
    exact pt_agree hA hB h (by omega) q2 q4
  have hrd : ∀ {o : Int}, i.op = o → readsB o = true → readsB i.op = true := fun e h => by rw [e]; exact h
  unfold doI
  by_cases h1 : i.op = 1
  · rw [if_pos h1, if_pos h1]
    rw [hask (hrd h1 rfl)]; exact ⟨B, rfl, h⟩
  rw [if_neg h1, if_neg h1]
  by_cases h2 : i.op = 2
  · rw [if_pos h2, if_pos h2]
    rw [hask (hrd h2 rfl)]; exact ⟨B, rfl, h⟩
  rw [if_neg h2, if_neg h2]
  by_cases h3 : i.op = 3
  · rw [if_pos h3, if_pos h3]
    exact ⟨_, rfl, hput _ (by omega)⟩
  rw [if_neg h3, if_neg h3]
  by_cases h4 : i.op = 4
  · rw [if_pos h4, if_pos h4]
    exact ⟨_, rfl, hput _ (by omega)⟩
  rw [if_neg h4, if_neg h4]
  by_cases h5 : i.op = 5 ∨ i.op = 6
  · rw [if_pos h5, if_pos h5]
    show ∃ B', (if s.v = 1 then _ else _) = wA (if s.v = 1 then _ else _) B' ∧ Agree U (if s.v = 1 then _ else _ : St).A B'
    split
    · exact ⟨_, rfl, hput _ (by omega)⟩
    · exact ⟨B, rfl, h⟩
  rw [if_neg h5, if_neg h5]
  by_cases h13 : i.op = 13
  · rw [if_pos h13, if_pos h13]
    exact ⟨B, rfl, h⟩
  rw [if_neg h13, if_neg h13]
  by_cases hj : 25 ≤ i.op ∧ i.op ≤ 30
  · rw [if_pos hj, if_pos hj]
    exact ⟨B, rfl, h⟩
  rw [if_neg hj, if_neg hj]
  by_cases h31 : i.op = 31
  · rw [if_pos h31, if_pos h31]
    exact ⟨B, rfl, h⟩
  rw [if_neg h31, if_neg h31]
  by_cases h32 : i.op = 32
  · rw [if_pos h32, if_pos h32]
    exact ⟨B, rfl, h⟩
  rw [if_neg h32, if_neg h32]
  by_cases h33 : i.op = 33
  · rw [if_pos h33, if_pos h33]
    exact ⟨B, rfl, h⟩
  rw [if_neg h33, if_neg h33]
  by_cases h34 : i.op = 34
  · rw [if_pos h34, if_pos h34]
    obtain ⟨b1, b2, b3, b4, b5⟩ := blk_at hr (by omega)
    have b4 := b4 (by omega)
    have e : tonN p i (wA s B) = tonN p i s := by
      unfold tonN
      rw [gtv_same hA hB (by omega) b2 (fun b e1 e2 => h _ b (hu _ b ⟨by omega, e1, by rw [show szI 7 = 4 from rfl] at e2; unfold sizeI; rw [if_pos (by omega)]; omega⟩))]
      rfl
    unfold tonI
    rw [e]
    exact ⟨_, rfl, pt_agree hA hB h (by omega) b2 (by rw [show szI 7 = 4 from rfl]; omega)⟩
  rw [if_neg h34, if_neg h34]
  by_cases h35 : i.op = 35
  · rw [if_pos h35, if_pos h35]
    obtain ⟨b1, b2, b3, b4, b5⟩ := blk_at hr (by omega)
    have b4 := b4 (by omega)
    have e0 : upI i (wA s B) (i.pl + 4) = upI i s (i.pl + 4) := by
      unfold upI
      rw [gtv_same hA hB (by omega) b2 (fun b e1 e2 => h _ b (hu _ b ⟨by omega, by omega, by rw [show szI 1 = 1 from rfl] at e2; unfold sizeI; rw [if_pos (by omega)]; omega⟩))]
      rfl
    have e : ctuN i (wA s B) = ctuN i s := by
      unfold ctuN
      rw [e0, gtv_same hA hB (by omega) b2 (fun b e1 e2 => h _ b (hu _ b ⟨by omega, e1, by rw [show szI 7 = 4 from rfl] at e2; unfold sizeI; rw [if_pos (by omega)]; omega⟩))]
    have hp1 := pt_agree (v := s.v) (k := 1) hA hB h (show 1 ≤ i.ar by omega) b2 (pl := i.pl + 4) (by rw [show szI 1 = 1 from rfl]; omega)
    have o1 := ok_put (v := s.v) (k := 1) hA (show 1 ≤ i.ar by omega) b2 (pl := i.pl + 4) (by rw [show szI 1 = 1 from rfl]; omega)
    have o2 := ok_put (v := s.v) (k := 1) hB (show 1 ≤ i.ar by omega) b2 (pl := i.pl + 4) (by rw [show szI 1 = 1 from rfl]; omega)
    unfold ctuI
    rw [e]
    refine ⟨_, rfl, ?_⟩
    show Agree U (ctuA i s) (ctuA i (wA s B))
    unfold ctuA
    rw [e0, e]
    split
    · exact pt_agree o1 o2 hp1 (by omega) b2 (by rw [show szI 7 = 4 from rfl]; omega)
    · exact hp1
  rw [if_neg h35, if_neg h35]
  by_cases h36 : i.op = 36
  · rw [if_pos h36, if_pos h36]
    obtain ⟨b1, b2, b3, b4, b5⟩ := blk_at hr (by omega)
    have e0 : upI i (wA s B) i.pl = upI i s i.pl := by
      unfold upI
      rw [gtv_same hA hB (by omega) b2 (fun b e1 e2 => h _ b (hu _ b ⟨by omega, by omega, by rw [show szI 1 = 1 from rfl] at e2; unfold sizeI; rw [if_neg (by omega), if_pos (by omega)]; omega⟩))]
      rfl
    unfold trigI
    rw [e0]
    exact ⟨_, rfl, pt_agree hA hB h (by omega) b2 (by rw [show szI 1 = 1 from rfl]; omega)⟩
  rw [if_neg h36, if_neg h36]
  rw [hask (by unfold readsB; rw [decide_eq_true_iff]; omega)]
  exact ⟨B, rfl, h⟩
def unB (c : List In) (j b : Nat) : Bool := (useB false c j).testBit b || (useB true c j).testBit b
def mcA (m : Mc) (B : List Bs) : Mc := ⟨m.k, m.t, wA m.s B⟩
theorem it_agree (h : allB c = .ok l) : ∀ (j : Nat) {m : Mc} {B : List Bs}, Good c l m → Good c l (mcA m B) → Agree (unB c) m.s.A B → ∃ B', itM c p j (mcA m B) = mcA (itM c p j m) B' ∧ Agree (unB c) (itM c p j m).s.A B'
  | 0, m, B, _, _, ha => ⟨B, rfl, ha⟩
  | j + 1, m, B, hg, hg2, ha => by
    by_cases hk : m.k < c.length
    · obtain ⟨i, hh⟩ := good_here h hg hk
      have hu : ∀ j b, PlaceB i j b → unB c j b = true := fun q b hq => by
        unfold unB
        by_cases hs : 3 ≤ i.op ∧ i.op ≤ 6
        · rw [use_bit h hh.at_ (hg.conf hk).on (uses_st hs) hq, Bool.or_true]
        · rw [use_bit h hh.at_ (hg.conf hk).on (uses_rd (by omega)) hq, Bool.true_or]
      obtain ⟨B', e1, e2⟩ := do_agree (p := p) hh.right hg.ok.ar hg2.ok.ar ha hu
      have es : stepM c p (mcA m B) = mcA (stepM c p m) B' := by
        rw [step_at (m := mcA m B) (i := i) hh.at_, step_at hh.at_]
        show (⟨nxI i m.k c.length (wA m.s B), m.t + 1, doI p i (wA m.s B)⟩ : Mc) = ⟨_, _, wA (doI p i m.s) B'⟩
        rw [show doI p i (wA m.s B) = _ from e1]
        rfl
      have g1 := (step_good (p := p) h hg hk).1
      have g2 := (step_good (p := p) h hg2 (m := mcA m B) hk).1
      show ∃ B', itM c p j (stepM c p (mcA m B)) = mcA (itM c p j (stepM c p m)) B' ∧ Agree (unB c) (itM c p j (stepM c p m)).s.A B'
      rw [es] at g2 ⊢
      refine it_agree h j g1 g2 ?_
      rw [step_at hh.at_]
      exact e2
    · rw [it_end hk, it_end (m := mcA m B) hk]
      exact ⟨B, rfl, ha⟩
/-- What a run writes, and how it ran, hangs on no byte that the program does not touch. -/
theorem fin_agree (h : allB c = .ok l) {A B : List Bs} (hA : AOk A) (hB : AOk B) (ha : Agree (unB c) A B) : ∃ B', finM c p B = mcA (finM c p A) B' ∧ Agree (unB c) (finM c p A).s.A B' :=
  it_agree h c.length (m := mc0 A) (B := B) (good_first h hA) (good_first h hB) ha
end

end Go.Proofs.Ytbjmdehfdnpljaa.Vm

namespace Go.Proofs.Ytbjmdehfdnpljaa.Vm
open Go.RowKit
open Go.Proofs.Ytbjmdehfdnpljaa.Il hiding Next S S_size S_app S_inj S_list
open Go.Proofs.Ytbjmdehfdnpljaa.Ic Go.Proofs.Ytbjmdehfdnpljaa.Ve
open Oct

def smallB (I Q M R : Bs) : Bool := decide (I.length ≤ 100) && decide (Q.length ≤ 100) && decide (M.length ≤ 100) && decide (R.length ≤ 100)
set_option maxRecDepth 100000 in
set_option maxHeartbeats 4000000 in
theorem cSmall_any (I Q M R : Bs) (w : World) : Calls Try.prog 15 #[imgV I Q M R] w (Tells (.bool (smallB I Q M R)) w) := by
  have s0 : ((S I).size : Int) = (I.length : Int) := by rw [S_size]
  have s1 : ((S Q).size : Int) = (Q.length : Int) := by rw [S_size]
  have s2 : ((S M).size : Int) = (M.length : Int) := by rw [S_size]
  have s3 : ((S R).size : Int) = (R.length : Int) := by rw [S_size]
  unfold imgV smallB
  by_cases h0 : I.length ≤ 100 <;> by_cases h1 : Q.length ≤ 100 <;> by_cases h2 : M.length ≤ 100 <;> by_cases h3 : R.length ≤ 100
  all_goals
    simp only [h0, h1, h2, h3, decide_true, decide_false, Bool.and_true, Bool.and_false, Bool.and_self]
    have t0 := Int.ofNat_le (m := I.length) (n := 100)
    have t1 := Int.ofNat_le (m := Q.length) (n := 100)
    have t2 := Int.ofNat_le (m := M.length) (n := 100)
    have t3 := Int.ofNat_le (m := R.length) (n := 100)
    simp only [h0, h1, h2, h3, iff_true, iff_false] at t0 t1 t2 t3
    go_enter Try.func15, Try.ntmps15
    go_wp2
    go_ret
    first | exact ⟨rfl, one_S _ _ _⟩ | exact ⟨congrArg (fun b => Ending.returned (Value.bool b)) (by simp; omega), one_S _ _ _⟩
theorem Try.sizeT4 : (Try.prog.info? 44).map (·.size) = some 4 := by kernel_rfl
theorem results_t4 {fn : Func} {q : Tmp} (h : fn.results = #[.cell q 44]) (tmps : Array Value) (W : World) (b : Nat) (x0 x1 x2 x3 : ByteArray)
    (hp : tmps.getD q undef = .pointer (some ⟨b, 0, none⟩)) (h0 : W.cell? ⟨b, 0, none⟩ = some (.string x0) ∧ W.cell? ⟨b, 1, none⟩ = some (.string x1) ∧ W.cell? ⟨b, 2, none⟩ = some (.string x2) ∧ W.cell? ⟨b, 3, none⟩ = some (.string x3)) :
    (results fn tmps).run Try.prog W = .ok (.agg #[.string x0, .string x1, .string x2, .string x3]) W := by
  have hp' : tmps[q]?.getD undef = .pointer (some ⟨b, 0, none⟩) := by simpa using hp
  have hl := run_loadVar_mid (P := Try.prog) W b 0 44 [.string x0, .string x1, .string x2, .string x3] _ (four_range h0) Try.underlying44 rfl Try.sizeT4
  simp [results, h, hp', asAddr, hl]
theorem four_new (W : World) (a b c d : Value) (t : TypeId) : (W.alloc (.cells #[a, b, c, d] t)).cell? ⟨W.heap.size, 0, none⟩ = some a ∧ (W.alloc (.cells #[a, b, c, d] t)).cell? ⟨W.heap.size, 1, none⟩ = some b ∧ (W.alloc (.cells #[a, b, c, d] t)).cell? ⟨W.heap.size, 2, none⟩ = some c ∧ (W.alloc (.cells #[a, b, c, d] t)).cell? ⟨W.heap.size, 3, none⟩ = some d := by
  have h := heap_alloc_new W (.cells #[a, b, c, d] t)
  refine ⟨?_, ?_, ?_, ?_⟩ <;> (rw [cell_of_row _ _ _ _ _ (0, 0) h]; rfl)
set_option maxRecDepth 100000 in
set_option maxHeartbeats 4000000 in
theorem lall_any (I Q M R : Bs) (w : World) : Calls Try.prog 17 #[imgV I Q M R] w (Tells (imgV I Q M R) w) := by
  unfold imgV
  have hn := four_new (w.alloc (.cells #[.string (S I), .string (S Q), .string (S M), .string (S R)] 32)) (.string (S I)) (.string (S Q)) (.string (S M)) (.string (S R)) 44
  rw [show (w.alloc (.cells #[.string (S I), .string (S Q), .string (S M), .string (S R)] 32)).heap.size = w.heap.size + 1 by simp] at hn
  replace hn := Lib.hid hn
  go_enter Try.func17, Try.ntmps17
  go_wp2
  exact bodyPost_ret (results_t4 rfl _ _ (w.heap.size + 1) (S I) (S Q) (S M) (S R) rfl hn.out) rfl ⟨rfl, box_two w _ _ _ _⟩
theorem bit_u64 (on k : Nat) (h : on < 18446744073709551616) : (bits .and .u64 ((on : Int) / 2 ^ k) 1 == 1) = on.testBit k := by
  have hl : on >>> k < 18446744073709551616 := by rw [Nat.shiftRight_eq_div_pow]; exact Nat.lt_of_le_of_lt (Nat.div_le_self _ _) h
  have e : ((on : Int) / 2 ^ k) = ((on >>> k : Nat) : Int) := by
    rw [Nat.shiftRight_eq_div_pow]
    simp
  have h2 := bits_and_u64_nat (on >>> k) 1 hl (by omega)
  rw [show ((1 : Nat) : Int) = 1 from rfl, ← e] at h2
  rw [h2, Nat.and_one_is_mod]
  unfold Nat.testBit
  rw [Nat.one_and_eq_mod_two]
  rcases Nat.mod_two_eq_zero_or_one (on >>> k) with h0 | h0 <;> rw [h0] <;> rfl
set_option maxRecDepth 100000 in
set_option maxHeartbeats 4000000 in
theorem lsame_any (a b : Bs) (on : Nat) (w : World) (ha : a.length = 64) (hb : b.length = 64) (hon : on < 18446744073709551616) (h : ∀ i, i < 64 → on.testBit i = true → a.getD i 0 = b.getD i 0) :
    Calls Try.prog 19 #[.string (S a), .string (S b), .int .u64 (on : Nat)] w (Tells (.bool true) w) := by
  have H := Lib.hid h
  have s0 : (S a).size = 64 := by rw [S_size]; exact ha
  have s1 : (S b).size = 64 := by rw [S_size]; exact hb
  clear h
  go_enter Try.func19, Try.ntmps19
  go_wp2
  go_loopw [8] (fun i W => ∃ (k m : Nat), (k : Int) ≤ 64 ∧ i = .int .i64 k ∧ W = w.drewN m) (fun i _ => 64 - (intOf i).toNat)
  case atStart => exact ⟨0, 0, by omega, rfl, rfl⟩
  case round =>
    obtain ⟨k, m, hk, rfl, rfl⟩ := hrel
    by_cases hlt : (k : Int) < 64
    · have hbk := bit_u64 on k hon
      have hkl : k < 64 := by omega
      cases hbt : on.testBit k
      · rw [hbt] at hbk
        go_wp2_with fail
        go_quiet (fail)
        go_wp2
        exact ⟨⟨k + 1, m + nq, by omega, by go_num, rfl⟩, by simp [intOf]; omega⟩
      · rw [hbt] at hbk
        have hab := H.out k hkl hbt
        have e1 : (S a)[k]'(by rw [s0]; exact hkl) = a.getD k 0 := by rw [List.getD_eq_getElem?_getD, List.getElem?_eq_getElem (by omega)]; rfl
        have e2 : (S b)[k]'(by rw [s1]; exact hkl) = b.getD k 0 := by rw [List.getD_eq_getElem?_getD, List.getElem?_eq_getElem (by omega)]; rfl
        have hne : (((S a)[k]'(by rw [s0]; exact hkl)).toNat : Int) = (((S b)[k]'(by rw [s1]; exact hkl)).toNat : Int) := by rw [e1, e2, hab]
        have hnn : ((((S a)[k]'(by rw [s0]; exact hkl)).toNat : Int) != (((S b)[k]'(by rw [s1]; exact hkl)).toNat : Int)) = false := by rw [hne]; simp
        clear e1 e2 hne hab
        go_wp2_with fail
        go_quiet (fail)
        go_wp2
        exact ⟨⟨k + 1, m + nq, by omega, by go_num, rfl⟩, by simp [intOf]; omega⟩
    · go_wp2
      go_ret
      exact ⟨rfl, below_drewN _ _ _⟩

end Go.Proofs.Ytbjmdehfdnpljaa.Vm

namespace Go.Proofs.Ytbjmdehfdnpljaa.Vm
open Go.RowKit
open Go.Proofs.Ytbjmdehfdnpljaa.Il hiding Next S S_size S_app S_inj S_list
open Go.Proofs.Ytbjmdehfdnpljaa.Ic Go.Proofs.Ytbjmdehfdnpljaa.Ve
open Oct

/-- Run of any time. -/
theorem run_any (c : List In) (l : List Ah) (h : allB c = .ok l) (x : Int) : ∃ p : Int, ∀ (I Q M R : Bs) (W : World) (N pb : Nat) (v : Value), PAt W N pb v c →
    Calls Try.prog 11 #[.pointer (some ⟨pb, 0, none⟩), imgV I Q M R, .int .i64 x] W (Tells (ranV (finM c p [fitL I, fitL Q, fitL M, fitL R])) W) := by
  have hp : ∃ p : Int, (p = 0 ∧ x ≤ 0) ∨ (p = x ∧ 0 < x ∧ x ≤ 10000) ∨ (p = 10000 ∧ 10000 < x) := by
    by_cases h0 : x ≤ 0
    · exact ⟨0, .inl ⟨rfl, h0⟩⟩
    · by_cases h1 : x ≤ 10000
      · exact ⟨x, .inr (.inl ⟨rfl, by omega, h1⟩)⟩
      · exact ⟨10000, .inr (.inr ⟨rfl, by omega⟩)⟩
  obtain ⟨p, hp⟩ := hp
  refine ⟨p, fun I Q M R W N pb v hP => ?_⟩
  obtain ⟨ao, cap, e, -, -⟩ := own_slice hP.own
  rw [e] at hP
  exact run_go c l h pb ao cap I Q M R x p W ⟨hP.blk, World.ownsRow.mono hP.own (Nat.zero_le _), Nat.zero_le _⟩ hp
theorem right_no {i : In} (h : rightI i = true) (hu : usesB true i.op = true) : i.ar ≠ 1 := by
  unfold rightI at h
  intro e
  rw [e] at h
  have hw : (3 ≤ i.op ∧ i.op ≤ 6) ∨ (34 ≤ i.op ∧ i.op ≤ 36) := by
    unfold usesB storeB blockB at hu
    simpa using hu
  unfold readsB writesB jumpB bareB at h
  simp at h
  grind
theorem acc_none {c : List In} {l : List Ah} (hr : ∀ (j : Nat) (x : In), c[j]? = some x → rightI x = true) : ∀ k, accB true c l k 0 = 0
  | 0 => rfl
  | k + 1 => by
    cases hx : c[k]? with
    | none => show (match c[k]? with | none => accB true c l k 0 | some x => _) = 0; rw [hx]; exact acc_none hr k
    | some x =>
      rw [acc_next hx]
      have hc : countB true (gt l k) x 0 = false := by
        unfold countB
        cases hu : usesB true x.op
        · simp
        · have := right_no (hr k x hx) hu
          simp [this]
      rw [hc, if_neg (by simp)]
      exact acc_none hr k
theorem use_none {c : List In} {l : List Ah} (h : allB c = .ok l) : useB true c 0 = 0 := by
  unfold useB
  rw [h]
  exact acc_none (right_all h) _
theorem list_byte {a b : Bs} (ha : a.length = 64) (hb : b.length = 64) (h : ∀ i, i < 64 → a.getD i 0 = b.getD i 0) : a = b := by
  apply List.ext_getElem (by omega)
  intro i h1 h2
  have := h i (by omega)
  rw [List.getD_eq_getElem?_getD, List.getD_eq_getElem?_getD, List.getElem?_eq_getElem h1, List.getElem?_eq_getElem h2] at this
  exact this
/-- What the law's first calls leave as it is: the program's instructions, and the areas given. -/
structure Fr (w W : World) (ao : Option Addr) (c : List In) (I Q M R : Bs) : Prop where
  at_ : At w W ao c
  i0 : W.cell? ⟨w.heap.size, 0, none⟩ = some (.string (S I))
  i1 : W.cell? ⟨w.heap.size, 1, none⟩ = some (.string (S Q))
  i2 : W.cell? ⟨w.heap.size, 2, none⟩ = some (.string (S M))
  i3 : W.cell? ⟨w.heap.size, 3, none⟩ = some (.string (S R))
/-- All other bits of 64. -/
@[irreducible] def CompU (n o : Nat) : Prop := n < 18446744073709551616 ∧ o = 18446744073709551615 - n
theorem CompU.mk {n o : Nat} (h1 : (n : Int) < 18446744073709551616) (h2 : o = 18446744073709551615 - n) : CompU n o := by unfold CompU; exact ⟨by omega, h2⟩
theorem comp_u {n o : Nat} (h : CompU n o) : bits .xor .u64 (if IntKind.u64.signed = true then -1 else IntKind.u64.max) (n : Int) = (o : Int) := by
  unfold CompU at h
  obtain ⟨h1, rfl⟩ := h
  have h2 := bits_xor_u64_nat 18446744073709551615 n (by decide) h1
  rw [show (if IntKind.u64.signed = true then -1 else IntKind.u64.max) = ((18446744073709551615 : Nat) : Int) from rfl, h2]
  congr 1
  apply Nat.eq_of_testBit_eq
  intro i
  rw [Nat.testBit_xor, show 18446744073709551615 - n = 2 ^ 64 - (n + 1) by omega, Nat.testBit_two_pow_sub_succ (by omega), show 18446744073709551615 = 2 ^ 64 - 1 from rfl, Nat.testBit_two_pow_sub_one]
  by_cases hi : i < 64
  · simp [hi]
  · have : n.testBit i = false := Nat.testBit_lt_two_pow (Nat.lt_of_lt_of_le (show n < 2 ^ 64 by omega) (Nat.pow_le_pow_right (by decide) (by omega)))
    simp [hi, this]
/-- Four cells of a block. -/
def B4 (W : World) (b : Nat) (v0 v1 v2 v3 : Value) : Prop := W.cell? ⟨b, 0, none⟩ = some v0 ∧ W.cell? ⟨b, 1, none⟩ = some v1 ∧ W.cell? ⟨b, 2, none⟩ = some v2 ∧ W.cell? ⟨b, 3, none⟩ = some v3
theorem B4.kept {W W' : World} {b : Nat} {v0 v1 v2 v3 : Value} (h : B4 W b v0 v1 v2 v3) (hb : Below W.heap.size W W') : B4 W' b v0 v1 v2 v3 := ⟨kept_cell hb h.1, kept_cell hb h.2.1, kept_cell hb h.2.2.1, kept_cell hb h.2.2.2⟩
section
variable {w W W' : World} {ao : Option Addr} {c : List In} {I Q M R : Bs}
theorem Fr.next (h : Fr w W ao c I Q M R) (hb : Below W.heap.size W W') : Fr w W' ao c I Q M R := ⟨h.at_.next hb, kept_cell hb h.i0, kept_cell hb h.i1, kept_cell hb h.i2, kept_cell hb h.i3⟩
theorem Fr.first (hI : Lies w w.heap.size ao c) : Fr w (w.alloc (.cells #[.string (S I), .string (S Q), .string (S M), .string (S R)] 32)) ao c I Q M R := by
  obtain ⟨h0, h1, h2, h3⟩ := four_new w (.string (S I)) (.string (S Q)) (.string (S M)) (.string (S R)) 32
  exact ⟨(At.first hI).next (one_S _ _ _), h0, h1, h2, h3⟩
end
set_option maxRecDepth 100000 in
set_option maxHeartbeats 8000000 in
theorem frames_walk (c : List In) (ao : Option Addr) (cap : Nat) (I Q M R : Bs) (x : Int) (w : World) (hI : Lies w w.heap.size ao c) (hF : FitL c) (hm : c.length ≤ maxLen) (hcap : ao = none → cap = 0) :
    Calls Try.prog 5 #[.slice ao c.length cap, imgV I Q M R, .int .i64 x] w (Tells (.bool true) w) := by
  have HA := Lib.hid (Fr.first (I := I) (Q := Q) (M := M) (R := R) hI)
  have hmi : (c.length : Int) ≤ 9223372036854775807 := by unfold maxLen at hm; omega
  have HSm := Lib.hid (fun W => cSmall_any I Q M R W)
  unfold imgV at *
  by_cases h120 : (120 : Int) < c.length
  · clear hcap hI hF hm
    go_enter Try.func5, Try.ntmps5
    go_wp2_with fail
    with_reducible refine (wake_any _).mono ?_
    rintro e w1 ⟨rfl, hb1⟩
    have HA1 := Lib.hid (HA.out.next hb1)
    clear hb1 HA
    go_wp2
    go_ret
    exact ⟨rfl, HA1.out.at_.below⟩
  · cases hsm : smallB I Q M R
    · rw [hsm] at HSm
      clear hcap hI hF hm
      go_enter Try.func5, Try.ntmps5
      go_wp2_with fail
      with_reducible refine (wake_any _).mono ?_
      rintro e w1 ⟨rfl, hb1⟩
      have HA1 := Lib.hid (HA.out.next hb1)
      obtain ⟨-, i0, i1, i2, i3⟩ := HA1.out
      clear hb1 HA
      go_wp2_with fail
      with_reducible refine (HSm.out _).mono ?_
      rintro e w2 ⟨rfl, hb1⟩
      have HA2 := Lib.hid (HA1.out.next hb1)
      clear hb1 HA1
      go_wp2
      go_ret
      exact ⟨rfl, HA2.out.at_.below⟩
    · rw [hsm] at HSm
      rcases all_cases c with ⟨r, k, h, hr, hr2, hk2⟩ | ⟨l, h, hw, hl, h200⟩
      · have hck := chk_err h
        have HL := Lib.hid (fun W (h : At w W ao c) => load_no c ao cap W h.lies hF (by omega) (by rw [hck]; dsimp only; omega))
        rw [hck] at HL
        dsimp only at HL
        have hrb : ((r : Int) != 0) = true := by simp; omega
        clear h hr hck hcap hI hF hm
        go_enter Try.func5, Try.ntmps5
        go_wp2_with fail
        with_reducible refine (wake_any _).mono ?_
        rintro e w1 ⟨rfl, hb1⟩
        have HA1 := Lib.hid (HA.out.next hb1)
        obtain ⟨-, i0, i1, i2, i3⟩ := HA1.out
        clear hb1 HA
        go_wp2_with fail
        with_reducible refine (HSm.out _).mono ?_
        rintro e w2 ⟨rfl, hb1⟩
        have HA2 := Lib.hid (HA1.out.next hb1)
        clear hb1 HA1 i0 i1 i2 i3
        go_wp2_with fail
        with_reducible refine (HL.out _ HA2.out.at_).mono ?_
        rintro e w3 ⟨rfl, hb1⟩
        have HA3 := Lib.hid (HA2.out.next hb1)
        clear hb1 HA2
        go_wp2
        go_ret
        exact ⟨rfl, HA3.out.at_.below⟩
      · have hz : (chkB c).1 = 0 := by rw [chk_ok h]
        have HL := Lib.hid (fun W (h : At w W ao c) => load_ok c ao cap W h.lies hF hcap (by omega) hz)
        obtain ⟨p, hp⟩ := run_any c l h x
        have hA4 := aok4 (fit_len I) (fit_len Q) (fit_len M) (fit_len R)
        have HFr := Lib.hid (fun j b hb => fin_frame (p := p) h hA4 j b hb)
        obtain ⟨hg, hk⟩ := fin_good (p := p) h hA4
        generalize hmm : finM c p [fitL I, fitL Q, fitL M, fitL R] = m at *
        have hok := hg.ok.ar
        obtain ⟨A0, A1, A2, A3, hAe⟩ := four_is hok.four
        have HLn := Lib.hid (show A0.length = 64 ∧ A1.length = 64 ∧ A2.length = 64 ∧ A3.length = 64 from ⟨by have := hok.len 0 (by omega); rwa [hAe] at this, by have := hok.len 1 (by omega); rwa [hAe] at this, by have := hok.len 2 (by omega); rwa [hAe] at this, by have := hok.len 3 (by omega); rwa [hAe] at this⟩)
        have hran : ranV m = .tuple #[.agg #[.string (S A0), .string (S A1), .string (S A2), .string (S A3)], .agg #[.int .i64 (m.t : Nat), .int .i64 (m.s.z : Nat), .int .i64 m.s.kd, .int .i64 m.s.v]] := by
          unfold ranV imgA scanV
          rw [hAe]
          rfl
        have HR := Lib.hid (fun W N pb v hP => by have := hp I Q M R W N pb v hP; rw [hmm, hran] at this; exact this)
        have HAl := Lib.hid (fun W => lall_any (fitL I) (fitL Q) (fitL M) (fitL R) W)
        have HAl2 := Lib.hid (fun W => lall_any A0 A1 A2 A3 W)
        have hT : (m.t : Int) ≤ (c.length : Int) := by have := hg.t1; omega
        have hZ : (m.s.z : Int) ≤ (m.t : Int) := by have := hg.z; omega
        have hT1 : c.length = 0 ∨ 1 ≤ m.t := by have := hg.t2; omega
        have hu0 := use_none h
        rw [hAe] at HFr
        have hl0 := HLn.out.1
        have hA0 : A0 = fitL I := list_byte HLn.out.1 (fit_len I) (fun i hi => HFr.out 0 i (by rw [hu0]; exact Nat.zero_testBit i))
        subst hA0
        have hsa : ∀ (j : Nat) (a b : Bs), a.length = 64 → b.length = 64 → (∀ i, (useB true c j).testBit i = false → b.getD i 0 = a.getD i 0) → ∀ W, Calls Try.prog 19 #[.string (S a), .string (S b), .int .u64 ((18446744073709551615 - useB true c j : Nat) : Nat)] W (Tells (.bool true) W) := fun j a b ha hb e W =>
          lsame_any a b _ W ha hb (by omega) (fun i hi ht => (e i (by
            have hlt : useB true c j < 18446744073709551616 := by have := (use_lt true c j).2; omega
            rw [show 18446744073709551615 - useB true c j = 2 ^ 64 - (useB true c j + 1) by omega, Nat.testBit_two_pow_sub_succ (by omega)] at ht
            simpa [hi] using ht)).symm)
        have HX0 := Lib.hid (hsa 0 (fitL I) (fitL I) (fit_len I) (fit_len I) (fun _ _ => rfl))
        have HX1 := Lib.hid (hsa 1 (fitL Q) A1 (fit_len Q) HLn.out.2.1 (fun i hi => HFr.out 1 i hi))
        have HX2 := Lib.hid (hsa 2 (fitL M) A2 (fit_len M) HLn.out.2.2.1 (fun i hi => HFr.out 2 i hi))
        have HX3 := Lib.hid (hsa 3 (fitL R) A3 (fit_len R) HLn.out.2.2.2 (fun i hi => HFr.out 3 i hi))
        have z0 : (S (fitL I)).size = 64 := by rw [S_size, fit_len]
        have z1 : (S A1).size = 64 := by rw [S_size]; exact HLn.out.2.1
        have z2 : (S A2).size = 64 := by rw [S_size]; exact HLn.out.2.2.1
        have z3 : (S A3).size = 64 := by rw [S_size]; exact HLn.out.2.2.2
        rw [hu0] at HX0
        have HBy := fun W (h : At w W ao c) => rBytes_any true c ao cap W h.lies hF hm
        unfold u4V at HBy
        rw [hu0] at HBy
        replace HBy := Lib.hid HBy
        have hc1 := (use_lt true c 1).2
        have hc2 := (use_lt true c 2).2
        have hc3 := (use_lt true c 3).2
        clear hsa HFr HLn hl0 hp hran hg hk hok hmm hw hl h200 h hz hA4 hAe hu0
        generalize useB true c 1 = u1 at HBy HX1 hc1
        generalize useB true c 2 = u2 at HBy HX2 hc2
        generalize useB true c 3 = u3 at HBy HX3 hc3
        obtain ⟨o0, ho0⟩ : ∃ o, o = 18446744073709551615 - 0 := ⟨_, rfl⟩
        obtain ⟨o1, ho1⟩ : ∃ o, o = 18446744073709551615 - u1 := ⟨_, rfl⟩
        obtain ⟨o2, ho2⟩ : ∃ o, o = 18446744073709551615 - u2 := ⟨_, rfl⟩
        obtain ⟨o3, ho3⟩ : ∃ o, o = 18446744073709551615 - u3 := ⟨_, rfl⟩
        rw [← ho0] at HX0
        rw [← ho1] at HX1
        rw [← ho2] at HX2
        rw [← ho3] at HX3
        have HO := Lib.hid (⟨CompU.mk (by decide) ho0, CompU.mk hc1 ho1, CompU.mk hc2 ho2, CompU.mk hc3 ho3⟩ : CompU 0 o0 ∧ CompU u1 o1 ∧ CompU u2 o2 ∧ CompU u3 o3)
        clear ho0 ho1 ho2 ho3 hc1 hc2 hc3
        have hzz := Lib.hid (⟨z0, z1, z2, z3⟩ : _ ∧ _ ∧ _ ∧ _)
        clear z0 z1 z2 z3
        generalize m.t = T at *
        generalize m.s.z = Z at *
        generalize m.s.kd = KD at *
        generalize m.s.v = VA at *
        have HT := Lib.hid (fun W => cFit_any I Q M R W)
        unfold imgV at *
        go_enter Try.func5, Try.ntmps5
        go_wp2_with fail
        with_reducible refine (wake_any _).mono ?_
        rintro e w1 ⟨rfl, hb1⟩
        have HA1 := Lib.hid (HA.out.next hb1)
        obtain ⟨-, i0, i1, i2, i3⟩ := HA1.out
        clear hb1 HA
        go_wp2_with fail
        with_reducible refine (HSm.out _).mono ?_
        rintro e w2 ⟨rfl, hb1⟩
        have HA2 := Lib.hid (HA1.out.next hb1)
        clear hb1 HA1 i0 i1 i2 i3
        go_wp2_with fail
        with_reducible refine (HL.out _ HA2.out.at_).mono ?_
        rintro e w3 ⟨pb, v, rfl, hP, hb1⟩
        have HA3 := Lib.hid (HA2.out.next hb1)
        have HP3 := Lib.hid hP
        clear hb1 HA2 hP
        obtain ⟨-, i0, i1, i2, i3⟩ := HA3.out
        go_wp2_with fail
        with_reducible refine (HT.out _).mono ?_
        rintro e w4 ⟨rfl, hb1⟩
        have HA4 := Lib.hid (HA3.out.next hb1)
        have HP4 := Lib.hid (HP3.out.kept hb1)
        clear hb1 HA3 HP3 i0 i1 i2 i3
        go_wp2_with fail
        with_reducible refine (HAl.out _).mono ?_
        rintro e w5 ⟨rfl, hb1⟩
        have HA5 := Lib.hid (HA4.out.next hb1)
        have HP5 := Lib.hid (HP4.out.kept hb1)
        clear hb1 HA4 HP4
        have one5 := one_S w5 #[.string (S (fitL I)), .string (S (fitL Q)), .string (S (fitL M)), .string (S (fitL R))] 44
        have HA6 := Lib.hid (HA5.out.next one5)
        have HP6 := Lib.hid (HP5.out.kept one5)
        have HW6 := Lib.hid (show B4 _ w5.heap.size _ _ _ _ from four_new w5 (.string (S (fitL I))) (.string (S (fitL Q))) (.string (S (fitL M))) (.string (S (fitL R))) 44)
        obtain ⟨-, i0, i1, i2, i3⟩ := HA6.out
        clear HA5 HP5 one5
        generalize hwb : w5.heap.size = wb at *
        go_wp2_with fail
        with_reducible refine (HR.out _ _ _ _ HP6.out).mono ?_
        rintro e w7 ⟨rfl, hb1⟩
        have HA7 := Lib.hid (HA6.out.next hb1)
        have HW7 := Lib.hid (HW6.out.kept hb1)
        clear hb1 HA6 HP6 HW6 i0 i1 i2 i3
        have two7 : Below w7.heap.size w7 ((w7.alloc (.cells #[.string (S (fitL I)), .string (S A1), .string (S A2), .string (S A3)] 32)).alloc (.cells #[.int .i64 (T : Nat), .int .i64 (Z : Nat), .int .i64 KD, .int .i64 VA] 34)) := box_two w7 _ _ _ _
        have tw7 := Tw.new (w := w7) (W := w7) (s0 := S (fitL I)) (s1 := S A1) (s2 := S A2) (s3 := S A3) (i0 := (T : Nat)) (i1 := (Z : Nat)) (i2 := KD) (i3 := VA) (Below.refl _ _)
        have HS8 := Lib.hid (show B4 _ (w7.heap.size + 1) _ _ _ _ from ⟨tw7.d0, tw7.d1, tw7.d2, tw7.d3⟩)
        have HA8 := Lib.hid (HA7.out.next two7)
        have HW8 := Lib.hid (HW7.out.kept two7)
        clear tw7 two7 HA7 HW7
        generalize hsb : w7.heap.size = sb at *
        go_wp2_with fail
        with_reducible refine (HAl2.out _).mono ?_
        rintro e w9 ⟨rfl, hb1⟩
        have HS9 := Lib.hid (HS8.out.kept hb1)
        have HA9 := Lib.hid (HA8.out.next hb1)
        have HW9 := Lib.hid (HW8.out.kept hb1)
        clear hb1 HA8 HW8 HS8
        have one9 := one_S w9 #[.string (S (fitL I)), .string (S A1), .string (S A2), .string (S A3)] 44
        have HN10 := Lib.hid (show B4 _ w9.heap.size _ _ _ _ from four_new w9 (.string (S (fitL I))) (.string (S A1)) (.string (S A2)) (.string (S A3)) 44)
        have HS10 := Lib.hid (HS9.out.kept one9)
        have HA10 := Lib.hid (HA9.out.next one9)
        have HW10 := Lib.hid (HW9.out.kept one9)
        clear one9 HA9 HW9 HS9
        obtain ⟨j0, j1, j2, j3⟩ := HS10.out
        generalize hnb : w9.heap.size = nb at *
        go_wp2_with fail
        all_goals
          with_reducible refine (HBy.out _ HA10.out.at_).mono ?_
          rintro e w11 ⟨rfl, hb1⟩
          have HA11 := Lib.hid (HA10.out.next hb1)
          have HW11 := Lib.hid (HW10.out.kept hb1)
          have HN11 := Lib.hid (HN10.out.kept hb1)
          clear hb1 HA10 HW10 HN10 HS10 j0 j1 j2 j3
          have one11 := one_S w11 #[.int .u64 ((0 : Nat) : Nat), .int .u64 (u1 : Nat), .int .u64 (u2 : Nat), .int .u64 (u3 : Nat)] 47
          have HX := Lib.hid (show B4 _ w11.heap.size _ _ _ _ from four_new w11 (.int .u64 ((0 : Nat) : Nat)) (.int .u64 (u1 : Nat)) (.int .u64 (u2 : Nat)) (.int .u64 (u3 : Nat)) 47)
          have HB := Lib.hid (HA11.out.next one11).at_.below
          have HW := Lib.hid (HW11.out.kept one11)
          have HN := Lib.hid (HN11.out.kept one11)
          clear one11 HA11 HW11 HN11
          generalize hxb : w11.heap.size = xb at *
          go_wp2_with fail
          go_loopw [70] (fun i W => ∃ k : Nat, k ≤ 4 ∧ i = .int .i64 k ∧ Hid (Below w.heap.size w W ∧ B4 W wb (.string (S (fitL I))) (.string (S (fitL Q))) (.string (S (fitL M))) (.string (S (fitL R))) ∧ B4 W nb (.string (S (fitL I))) (.string (S A1)) (.string (S A2)) (.string (S A3)) ∧ B4 W xb (.int .u64 ((0 : Nat) : Nat)) (.int .u64 (u1 : Nat)) (.int .u64 (u2 : Nat)) (.int .u64 (u3 : Nat)))) (fun i _ => 4 - (intOf i).toNat)
          case atStart => exact ⟨0, by omega, rfl, Lib.hid ⟨HB.out, HW.out, HN.out, HX.out⟩⟩
          case round =>
            obtain ⟨k, hk, rfl, hP1⟩ := hrel
            obtain ⟨-, ⟨a0, a1, a2, a3⟩, ⟨b0, b1, b2, b3⟩, ⟨d0, d1, d2, d3⟩⟩ := hP1.out
            clear HB HW HN HX
            obtain rfl | rfl | rfl | rfl | rfl : k = 0 ∨ k = 1 ∨ k = 2 ∨ k = 3 ∨ k = 4 := by omega
            · simp only [show ((0 : Nat) : Int) = 0 from rfl]
              have zz := hzz.out.1
              have hco := comp_u HO.out.1
              simp only [show ((0 : Nat) : Int) = 0 from rfl] at hco
              go_wp2_with fail
              have hP2 := Lib.hid (show Below w.heap.size w wr.drew ∧ B4 wr.drew wb _ _ _ _ ∧ B4 wr.drew nb _ _ _ _ ∧ B4 wr.drew xb _ _ _ _ from ⟨hP1.out.1.drew, hP1.out.2.1, hP1.out.2.2.1, hP1.out.2.2.2⟩)
              clear hP1 a0 a1 a2 a3 b0 b1 b2 b3 d0 d1 d2 d3
              have hP1 := hP2
              clear hP2
              go_region_held3 (fun W' => W'.cell? ⟨wb, 0, none⟩ = some (.string (S (fitL I))) ∧ W'.cell? ⟨nb, 0, none⟩ = some (.string (S (fitL I))) ∧ W'.cell? ⟨xb, 0, none⟩ = some (.int .u64 ((0 : Nat) : Nat)))
                (exact ⟨hP1.out.2.1.1, hP1.out.2.2.1.1, hP1.out.2.2.2.1⟩)
                ((first | (go_at_call 19; (try rw [hco]); (with_reducible refine (HX0.out _).mono ?_); rintro e w20 ⟨rfl, hb20⟩; have hP2 := Lib.hid (show Below w.heap.size w w20 ∧ B4 w20 wb _ _ _ _ ∧ B4 w20 nb _ _ _ _ ∧ B4 w20 xb _ _ _ _ from ⟨hP1.out.1.trans (hb20.mono hP1.out.1.size), hP1.out.2.1.kept hb20, hP1.out.2.2.1.kept hb20, hP1.out.2.2.2.kept hb20⟩); clear hb20 hP1; have hP1 := hP2; clear hP2)))
              all_goals
                go_wp2
                go_roundw
                case rel => exact ⟨1, by omega, rfl, hP1⟩
                case measure => decide
            · simp only [show ((1 : Nat) : Int) = 1 from rfl]
              have zz := hzz.out.2.1
              have hco := comp_u HO.out.2.1
              go_wp2_with fail
              have hP2 := Lib.hid (show Below w.heap.size w wr.drew ∧ B4 wr.drew wb _ _ _ _ ∧ B4 wr.drew nb _ _ _ _ ∧ B4 wr.drew xb _ _ _ _ from ⟨hP1.out.1.drew, hP1.out.2.1, hP1.out.2.2.1, hP1.out.2.2.2⟩)
              clear hP1 a0 a1 a2 a3 b0 b1 b2 b3 d0 d1 d2 d3
              have hP1 := hP2
              clear hP2
              go_region_held3 (fun W' => W'.cell? ⟨wb, 1, none⟩ = some (.string (S (fitL Q))) ∧ W'.cell? ⟨nb, 1, none⟩ = some (.string (S A1)) ∧ W'.cell? ⟨xb, 1, none⟩ = some (.int .u64 (u1 : Nat)))
                (exact ⟨hP1.out.2.1.2.1, hP1.out.2.2.1.2.1, hP1.out.2.2.2.2.1⟩)
                ((first | (go_at_call 19; (try rw [hco]); (with_reducible refine (HX1.out _).mono ?_); rintro e w20 ⟨rfl, hb20⟩; have hP2 := Lib.hid (show Below w.heap.size w w20 ∧ B4 w20 wb _ _ _ _ ∧ B4 w20 nb _ _ _ _ ∧ B4 w20 xb _ _ _ _ from ⟨hP1.out.1.trans (hb20.mono hP1.out.1.size), hP1.out.2.1.kept hb20, hP1.out.2.2.1.kept hb20, hP1.out.2.2.2.kept hb20⟩); clear hb20 hP1; have hP1 := hP2; clear hP2)))
              all_goals
                go_wp2
                go_roundw
                case rel => exact ⟨2, by omega, rfl, hP1⟩
                case measure => decide
            · simp only [show ((2 : Nat) : Int) = 2 from rfl]
              have zz := hzz.out.2.2.1
              have hco := comp_u HO.out.2.2.1
              go_wp2_with fail
              have hP2 := Lib.hid (show Below w.heap.size w wr.drew ∧ B4 wr.drew wb _ _ _ _ ∧ B4 wr.drew nb _ _ _ _ ∧ B4 wr.drew xb _ _ _ _ from ⟨hP1.out.1.drew, hP1.out.2.1, hP1.out.2.2.1, hP1.out.2.2.2⟩)
              clear hP1 a0 a1 a2 a3 b0 b1 b2 b3 d0 d1 d2 d3
              have hP1 := hP2
              clear hP2
              go_region_held3 (fun W' => W'.cell? ⟨wb, 2, none⟩ = some (.string (S (fitL M))) ∧ W'.cell? ⟨nb, 2, none⟩ = some (.string (S A2)) ∧ W'.cell? ⟨xb, 2, none⟩ = some (.int .u64 (u2 : Nat)))
                (exact ⟨hP1.out.2.1.2.2.1, hP1.out.2.2.1.2.2.1, hP1.out.2.2.2.2.2.1⟩)
                ((first | (go_at_call 19; (try rw [hco]); (with_reducible refine (HX2.out _).mono ?_); rintro e w20 ⟨rfl, hb20⟩; have hP2 := Lib.hid (show Below w.heap.size w w20 ∧ B4 w20 wb _ _ _ _ ∧ B4 w20 nb _ _ _ _ ∧ B4 w20 xb _ _ _ _ from ⟨hP1.out.1.trans (hb20.mono hP1.out.1.size), hP1.out.2.1.kept hb20, hP1.out.2.2.1.kept hb20, hP1.out.2.2.2.kept hb20⟩); clear hb20 hP1; have hP1 := hP2; clear hP2)))
              all_goals
                go_wp2
                go_roundw
                case rel => exact ⟨3, by omega, rfl, hP1⟩
                case measure => decide
            · simp only [show ((3 : Nat) : Int) = 3 from rfl]
              have zz := hzz.out.2.2.2
              have hco := comp_u HO.out.2.2.2
              go_wp2_with fail
              have hP2 := Lib.hid (show Below w.heap.size w wr.drew ∧ B4 wr.drew wb _ _ _ _ ∧ B4 wr.drew nb _ _ _ _ ∧ B4 wr.drew xb _ _ _ _ from ⟨hP1.out.1.drew, hP1.out.2.1, hP1.out.2.2.1, hP1.out.2.2.2⟩)
              clear hP1 a0 a1 a2 a3 b0 b1 b2 b3 d0 d1 d2 d3
              have hP1 := hP2
              clear hP2
              go_region_held3 (fun W' => W'.cell? ⟨wb, 3, none⟩ = some (.string (S (fitL R))) ∧ W'.cell? ⟨nb, 3, none⟩ = some (.string (S A3)) ∧ W'.cell? ⟨xb, 3, none⟩ = some (.int .u64 (u3 : Nat)))
                (exact ⟨hP1.out.2.1.2.2.2, hP1.out.2.2.1.2.2.2, hP1.out.2.2.2.2.2.2⟩)
                ((first | (go_at_call 19; (try rw [hco]); (with_reducible refine (HX3.out _).mono ?_); rintro e w20 ⟨rfl, hb20⟩; have hP2 := Lib.hid (show Below w.heap.size w w20 ∧ B4 w20 wb _ _ _ _ ∧ B4 w20 nb _ _ _ _ ∧ B4 w20 xb _ _ _ _ from ⟨hP1.out.1.trans (hb20.mono hP1.out.1.size), hP1.out.2.1.kept hb20, hP1.out.2.2.1.kept hb20, hP1.out.2.2.2.kept hb20⟩); clear hb20 hP1; have hP1 := hP2; clear hP2)))
              all_goals
                go_wp2
                go_roundw
                case rel => exact ⟨4, by omega, rfl, hP1⟩
                case measure => decide
            · simp only [show ((4 : Nat) : Int) = 4 from rfl]
              go_wp2_with fail
              go_ret
              exact ⟨rfl, hP1.out.1⟩

end Go.Proofs.Ytbjmdehfdnpljaa.Vm

namespace Go.Proofs.Ytbjmdehfdnpljaa.Vm
open Go.RowKit Go.ChangeShapes Go.WideShapes Go.Deep
open Go.Proofs.Ytbjmdehfdnpljaa.Il hiding Next S S_size S_app S_inj S_list
open Go.Proofs.Ytbjmdehfdnpljaa.Ic Go.Proofs.Ytbjmdehfdnpljaa.Ve
open Oct

theorem cells_img : Try.prog.cellsOf 32 = 4 := by kernel_rfl
section
variable {H : Type} {enc : TypeId × Value → H} {w : World} {base : Nat} {spare : Nat → Bool} {held : Bool}
set_option maxRecDepth 100000 in
theorem cells_of_img {fuel : Nat} {cs : List Value} {x : DataW H × List MemPlace} (h : DataW.trod enc Try.prog w base spare held fuel 32 cs = some x) :
    ∃ a b c d : Bs, cs = [.string (S a), .string (S b), .string (S c), .string (S d)] := by
  obtain ⟨ys, n, rfl, hx, hlen, hyl, hf⟩ := DataW.trod_struct Try.underlying32 h
  rw [cells_img] at hlen
  obtain ⟨y0, e0⟩ := some_of_lt (l := ys) (i := 0) (by rw [hyl]; decide)
  obtain ⟨y1, e1⟩ := some_of_lt (l := ys) (i := 1) (by rw [hyl]; decide)
  obtain ⟨y2, e2⟩ := some_of_lt (l := ys) (i := 2) (by rw [hyl]; decide)
  obtain ⟨y3, e3⟩ := some_of_lt (l := ys) (i := 3) (by rw [hyl]; decide)
  obtain ⟨z0, h0, -⟩ := DataW.trod_string Try.underlying9 ((hf 0 _ rfl).trans e0)
  have k0 : (cs.drop 0).take 1 = _ := h0
  obtain ⟨z1, h1, -⟩ := DataW.trod_string Try.underlying9 ((hf 1 _ rfl).trans e1)
  have k1 : (cs.drop 1).take 1 = _ := h1
  obtain ⟨z2, h2, -⟩ := DataW.trod_string Try.underlying9 ((hf 2 _ rfl).trans e2)
  have k2 : (cs.drop 2).take 1 = _ := h2
  obtain ⟨z3, h3, -⟩ := DataW.trod_string Try.underlying9 ((hf 3 _ rfl).trans e3)
  have k3 : (cs.drop 3).take 1 = _ := h3
  refine ⟨z0.data.toList, z1.data.toList, z2.data.toList, z3.data.toList, ?_⟩
  simp only [S_of]
  match cs, hlen with
  | [v0, v1, v2, v3], _ =>
    simp at k0 k1 k2 k3
    simp [*]
set_option maxRecDepth 100000 in
theorem open_img {v : Value} {d : DataW H} {p : List MemPlace} {b : Nat} (hv : Value.okWide Try.prog w .any b 32 v) (h : DataW.Trod enc Try.prog w base spare held 32 v d p) :
    ∃ I Q M R : Bs, v = imgV I Q M R := by
  unfold Value.okWide at hv
  rw [Try.underlying32] at hv
  obtain ⟨cs, rfl, -, -⟩ := hv
  obtain ⟨n, h⟩ := h
  obtain ⟨a, b', c, d', hc⟩ := cells_of_img h
  exact ⟨a, b', c, d', agg_of hc⟩
end

end Go.Proofs.Ytbjmdehfdnpljaa.Vm
