/-
  The laws first look; a run of no program; what is equal to itself; the law VmLoads walked. Conditions: none.
-/
import Derived.Test.YtbjmdehfdnpljaaVmGo
import Derived.Test.YtbjmdehfdnpljaaVwAwake
import Derived.DeepKeys
import Derived.Test.YtbjmdehfdnpljaaVrAll
namespace Go.Proofs.Ytbjmdehfdnpljaa.Vm
open Go.RowKit
open Go.Proofs.Ytbjmdehfdnpljaa.Il hiding Next S S_size S_app S_inj S_list
open Go.Proofs.Ytbjmdehfdnpljaa.Ic Go.Proofs.Ytbjmdehfdnpljaa.Ve
open Oct

set_option maxRecDepth 100000 in
set_option maxHeartbeats 4000000 in
theorem cRun_nil (I Q M R : Bs) (x : Int) (w : World) :
    Calls Try.prog 11 #[.pointer none, imgV I Q M R, .int .i64 x] w (Tells (.tuple #[imgV (fitL I) (fitL Q) (fitL M) (fitL R), .agg #[.int .i64 0, .int .i64 0, .int .i64 0, .int .i64 0]]) w) := by
  have HF := Lib.hid (fun W => cFit_any I Q M R W)
  have hz1 := Rz.new (w.alloc (.cells #[.string (S I), .string (S Q), .string (S M), .string (S R)] 32))
  rw [show (w.alloc (.cells #[.string (S I), .string (S Q), .string (S M), .string (S R)] 32)).heap.size = w.heap.size + 1 by simp] at hz1
  have hz2 := hz1.kept (one_S _ #[.int .i64 0, .int .i64 0, .int .i64 0, .int .i64 0] 34)
  have hs2 := heap_alloc_new ((w.alloc (.cells #[.string (S I), .string (S Q), .string (S M), .string (S R)] 32)).alloc (.cells #[.string ⟨#[]⟩, .string ⟨#[]⟩, .string ⟨#[]⟩, .string ⟨#[]⟩] 32)) (.cells #[.int .i64 0, .int .i64 0, .int .i64 0, .int .i64 0] 34)
  rw [show ((w.alloc (.cells #[.string (S I), .string (S Q), .string (S M), .string (S R)] 32)).alloc (.cells #[.string ⟨#[]⟩, .string ⟨#[]⟩, .string ⟨#[]⟩, .string ⟨#[]⟩] 32)).heap.size = w.heap.size + 1 + 1 by simp] at hs2
  have hb0 := (box_two w #[.string (S I), .string (S Q), .string (S M), .string (S R)] #[.string ⟨#[]⟩, .string ⟨#[]⟩, .string ⟨#[]⟩, .string ⟨#[]⟩] 32 32).trans ((one_S ((w.alloc (.cells #[.string (S I), .string (S Q), .string (S M), .string (S R)] 32)).alloc (.cells #[.string ⟨#[]⟩, .string ⟨#[]⟩, .string ⟨#[]⟩, .string ⟨#[]⟩] 32)) #[.int .i64 0, .int .i64 0, .int .i64 0, .int .i64 0] 34).mono (by simp; omega))
  have H0 := Lib.hid (⟨hz2, hs2, hb0⟩ : _ ∧ _ ∧ _)
  clear hz1 hz2 hs2 hb0
  unfold imgV at *
  go_enter Try.func11, Try.ntmps11
  go_wp2_with fail
  with_reducible refine (HF.out _).mono ?_
  rintro e w1 ⟨rfl, hb1⟩
  have H1 := Lib.hid (show Rz w1 (w.heap.size + 1) ∧ w1.heap[w.heap.size + 1 + 1]? = some (.cells #[.int .i64 0, .int .i64 0, .int .i64 0, .int .i64 0] 34 (0, 0)) ∧ Below w.heap.size w w1 from ⟨H0.out.1.kept hb1, (hb1.block _ (Array.getElem?_eq_some_iff.1 H0.out.2.1).1).trans H0.out.2.1, H0.out.2.2.trans (hb1.mono H0.out.2.2.size)⟩)
  clear hb1 H0
  have qi := H1.out.1
  have z0 := free_heap qi 0
  have z1 := free_heap qi 1
  have z2 := free_heap qi 2
  have z3 := free_heap qi 3
  have q0 : w1.cell? ⟨w.heap.size + 1, 0, none⟩ = some (.string ⟨#[]⟩) := by rw [cell_of_row _ _ _ _ _ (0, 0) qi]; rfl
  have q1 : w1.cell? ⟨w.heap.size + 1, 1, none⟩ = some (.string ⟨#[]⟩) := by rw [cell_of_row _ _ _ _ _ (0, 0) qi]; rfl
  have q2 : w1.cell? ⟨w.heap.size + 1, 2, none⟩ = some (.string ⟨#[]⟩) := by rw [cell_of_row _ _ _ _ _ (0, 0) qi]; rfl
  have q3 : w1.cell? ⟨w.heap.size + 1, 3, none⟩ = some (.string ⟨#[]⟩) := by rw [cell_of_row _ _ _ _ _ (0, 0) qi]; rfl
  clear qi
  have qs := H1.out.2.1
  have v0 := free_heap qs 0
  have v1 := free_heap qs 1
  have v2 := free_heap qs 2
  have v3 := free_heap qs 3
  have x0 : w1.cell? ⟨w.heap.size + 1 + 1, 0, none⟩ = some (.int .i64 0) := by rw [cell_of_row _ _ _ _ _ (0, 0) qs]; rfl
  have x1 : w1.cell? ⟨w.heap.size + 1 + 1, 1, none⟩ = some (.int .i64 0) := by rw [cell_of_row _ _ _ _ _ (0, 0) qs]; rfl
  have x2 : w1.cell? ⟨w.heap.size + 1 + 1, 2, none⟩ = some (.int .i64 0) := by rw [cell_of_row _ _ _ _ _ (0, 0) qs]; rfl
  have x3 : w1.cell? ⟨w.heap.size + 1 + 1, 3, none⟩ = some (.int .i64 0) := by rw [cell_of_row _ _ _ _ _ (0, 0) qs]; rfl
  clear qs
  go_wp2
  (try simp only [Exit.inBlock, Exit.then])
  have HC := ran_cells H1.out.1 rfl H1.out.2.1 rfl (by omega) (.string (S (fitL I))) (.string (S (fitL Q))) (.string (S (fitL M))) (.string (S (fitL R))) (.int .i64 0) (.int .i64 0) (.int .i64 0) (.int .i64 0)
  exact bodyPost_ret (results_ran rfl _ _ (w.heap.size + 1) (w.heap.size + 1 + 1) (S (fitL I)) (S (fitL Q)) (S (fitL M)) (S (fitL R)) 0 0 0 0 rfl rfl HC.1 HC.2) rfl ⟨rfl, four_below (four_below H1.out.2.2 (by omega) _ _ _ _) (by omega) _ _ _ _⟩

end Go.Proofs.Ytbjmdehfdnpljaa.Vm

namespace Go.Proofs.Ytbjmdehfdnpljaa.Vm
open Go.RowKit
open Go.Proofs.Ytbjmdehfdnpljaa.Il hiding Next S S_size S_app S_inj S_list
open Go.Proofs.Ytbjmdehfdnpljaa.Ic Go.Proofs.Ytbjmdehfdnpljaa.Ve
open Oct

theorem key_scan (d : Nat) (a b c e : Int) (ha : (Lit.int .i64 a).wf = true) (hb : (Lit.int .i64 b).wf = true) (hc : (Lit.int .i64 c).wf = true) (he : (Lit.int .i64 e).wf = true) :
    Try.prog.keyLits (d + 2) 34 [.int .i64 a, .int .i64 b, .int .i64 c, .int .i64 e] = some [.int .i64 a, .int .i64 b, .int .i64 c, .int .i64 e] := by
  have k : ∀ z : Int, (Lit.int .i64 z).wf = true → Try.prog.keyLits (d + 1) 3 [.int .i64 z] = some [.int .i64 z] := fun z hz => by
    unfold Program.keyLits
    rw [Try.underlying3]
    simp [hz]
  have k2 : ∀ z : Int, (Lit.int .i64 z).wf = true → Try.prog.keyLits (d + 1) 2 [.int .i64 z] = some [.int .i64 z] := fun z hz => by
    unfold Program.keyLits
    rw [Try.underlying2]
    simp [hz]
  unfold Program.keyLits
  rw [Try.underlying34]
  dsimp only
  have c1 : Try.prog.cellsOf 3 = 1 := by kernel_rfl
  have c2 : Try.prog.cellsOf 2 = 1 := by kernel_rfl
  rw [if_pos (by refine ⟨?_, ?_⟩ <;> kernel_rfl)]
  simp only [List.mapM_cons, List.mapM_nil, c1, c2, List.drop, List.take, k a ha, k b hb, k c hc, k2 e he]
  rfl
theorem key_img (d : Nat) (a b c e : ByteArray) (ha : a.size ≤ maxLen) (hb : b.size ≤ maxLen) (hc : c.size ≤ maxLen) (he : e.size ≤ maxLen) :
    Try.prog.keyLits (d + 2) 32 [.string a, .string b, .string c, .string e] = some [.string a.data.toList, .string b.data.toList, .string c.data.toList, .string e.data.toList] := by
  have k : ∀ z : ByteArray, z.size ≤ maxLen → Try.prog.keyLits (d + 1) 9 [.string z] = some [.string z.data.toList] := fun z hz => by
    unfold Program.keyLits
    rw [Try.underlying9]
    simp [hz]
  unfold Program.keyLits
  rw [Try.underlying32]
  dsimp only
  have c1 : Try.prog.cellsOf 9 = 1 := by kernel_rfl
  rw [if_pos (by refine ⟨?_, ?_⟩ <;> kernel_rfl)]
  simp only [List.mapM_cons, List.mapM_nil, c1, List.drop, List.take, k a ha, k b hb, k c hc, k e he]
  rfl
theorem scan_same (a b c e : Int) (ha : (Lit.int .i64 a).wf = true) (hb : (Lit.int .i64 b).wf = true) (hc : (Lit.int .i64 c).wf = true) (he : (Lit.int .i64 e).wf = true) (W : World) :
    (Op.equalIn 10000 34 (.agg #[.int .i64 a, .int .i64 b, .int .i64 c, .int .i64 e]) (.agg #[.int .i64 a, .int .i64 b, .int .i64 c, .int .i64 e])).run Try.prog W = .ok true W := by
  have hk := key_scan 3 a b c e ha hb hc he
  have hf : (Value.agg #[.int .i64 a, .int .i64 b, .int .i64 c, .int .i64 e]).formed Try.prog 34 = true := by
    unfold Value.formed
    rw [Try.underlying34, show Try.prog.cellsOf 34 = 4 from by kernel_rfl]
    rfl
  obtain ⟨r, hr, hiff⟩ := run_equalIn_deep (P := Try.prog) 9990 10 34 (by kernel_rfl) W _ _ _ _ _ _ hf hf hk hk
  rw [hiff.2 rfl] at hr
  exact hr
theorem img_same (a b c e : ByteArray) (ha : a.size ≤ maxLen) (hb : b.size ≤ maxLen) (hc : c.size ≤ maxLen) (he : e.size ≤ maxLen) (W : World) :
    (Op.equalIn 10000 32 (.agg #[.string a, .string b, .string c, .string e]) (.agg #[.string a, .string b, .string c, .string e])).run Try.prog W = .ok true W := by
  have hk := key_img 3 a b c e ha hb hc he
  have hf : (Value.agg #[.string a, .string b, .string c, .string e]).formed Try.prog 32 = true := by
    unfold Value.formed
    rw [Try.underlying32, show Try.prog.cellsOf 32 = 4 from by kernel_rfl]
    rfl
  obtain ⟨r, hr, hiff⟩ := run_equalIn_deep (P := Try.prog) 9990 10 32 (by kernel_rfl) W _ _ _ _ _ _ hf hf hk hk
  rw [hiff.2 rfl] at hr
  exact hr
theorem Try.guardScan : Try.prog.eqGuardType Try.prog.depth 34 = false := by kernel_rfl
theorem Try.guardImg : Try.prog.eqGuardType Try.prog.depth 32 = false := by kernel_rfl
theorem fit_small (l : Bs) : (S (fitL l)).size ≤ maxLen := by rw [S_size, fit_len]; unfold maxLen; omega

end Go.Proofs.Ytbjmdehfdnpljaa.Vm

namespace Go.Proofs.Ytbjmdehfdnpljaa.Vm
open Go.RowKit
open Go.Proofs.Ytbjmdehfdnpljaa.Il hiding Next S S_size S_app S_inj S_list
open Go.Proofs.Ytbjmdehfdnpljaa.Ic Go.Proofs.Ytbjmdehfdnpljaa.Ve
open Oct

def x0 : In := ⟨1, 3, 0, 0, 2⟩
def x1 : In := ⟨32, 0, 0, 16, 0⟩
def x2 : In := ⟨1, 3, 0, 0, 3⟩
def x3 : In := ⟨33, 0, 0, 0, 0⟩
def x4 : In := ⟨3, 3, 2, 0, 0⟩
def l5 : List In := [x0, x1, x2, x3, x4]
def c5 : Array Value := #[.int .i64 1, .int .i64 3, .int .i64 0, .int .i64 0, .int .i64 2, .int .i64 32, .int .i64 0, .int .i64 0, .int .i64 16, .int .i64 0, .int .i64 1, .int .i64 3, .int .i64 0, .int .i64 0, .int .i64 3, .int .i64 33, .int .i64 0, .int .i64 0, .int .i64 0, .int .i64 0, .int .i64 3, .int .i64 3, .int .i64 2, .int .i64 0, .int .i64 0]
theorem lies_five (W : World) : Lies (W.alloc (.cells c5 54)) (W.alloc (.cells c5 54)).heap.size (some ⟨W.heap.size, 0, none⟩) l5 := fun _ => by
  refine ⟨W.heap.size, 0, rfl, by simp, fun i z hz => ?_⟩
  have hc : ∀ j v, c5[j]? = some v → (W.alloc (.cells c5 54)).cell? ⟨W.heap.size, j, none⟩ = some v := fun j v hv => by rw [World.cell?_alloc_new]; exact hv
  match i with
  | 0 => injection hz with hz; subst hz; exact ⟨hc 0 _ rfl, hc 1 _ rfl, hc 2 _ rfl, hc 3 _ rfl, hc 4 _ rfl⟩
  | 1 => injection hz with hz; subst hz; exact ⟨hc 5 _ rfl, hc 6 _ rfl, hc 7 _ rfl, hc 8 _ rfl, hc 9 _ rfl⟩
  | 2 => injection hz with hz; subst hz; exact ⟨hc 10 _ rfl, hc 11 _ rfl, hc 12 _ rfl, hc 13 _ rfl, hc 14 _ rfl⟩
  | 3 => injection hz with hz; subst hz; exact ⟨hc 15 _ rfl, hc 16 _ rfl, hc 17 _ rfl, hc 18 _ rfl, hc 19 _ rfl⟩
  | 4 => injection hz with hz; subst hz; exact ⟨hc 20 _ rfl, hc 21 _ rfl, hc 22 _ rfl, hc 23 _ rfl, hc 24 _ rfl⟩
  | i + 5 => simp [l5] at hz
theorem chk5 : (chkB l5).1 = 0 := by decide +kernel
theorem all5 : ∃ l, allB l5 = .ok l := by
  rcases all_cases l5 with ⟨r, k, h, hr, hr2, hk2⟩ | ⟨s, h, _⟩
  · have := chk5
    rw [chk_err h] at this
    have h2 : r = 0 := this
    omega
  · exact ⟨_, h⟩
def q5 : Bs := 0 :: 6 :: List.replicate 62 0
def m5 : Mc := finM l5 0 [fitL z64, fitL z64, fitL z64, fitL z64]
theorem ran5 : ranV m5 = .tuple #[.agg #[.string (S z64), .string (S q5), .string (S z64), .string (S z64)], .agg #[.int .i64 5, .int .i64 0, .int .i64 3, .int .i64 6]] := by
  have hA : m5.s.A = [z64, q5, z64, z64] := by decide +kernel
  have ht : m5.t = 5 := by decide +kernel
  have hz : m5.s.z = 0 := by decide +kernel
  have hk : m5.s.kd = 3 := by decide +kernel
  have hv : m5.s.v = 6 := by decide +kernel
  unfold ranV imgA scanV
  rw [hA, ht, hz, hk, hv]
  rfl
set_option maxRecDepth 100000 in
set_option maxHeartbeats 4000000 in
theorem wake_any (w : World) : Calls Try.prog 8 #[] w (Tells (.bool true) w) := by
  have HC := fun W => load_ok l5 (some ⟨W.heap.size, 0, none⟩) 5 (W.alloc (.cells c5 54)) (lies_five W) (Go.Proofs.Ytbjmdehfdnpljaa.Ve.fit_of (by decide +kernel)) (fun e => by cases e) (by decide) chk5
  rw [show l5.length = 5 from rfl] at HC
  obtain ⟨l, hl⟩ := all5
  have HG := Lib.hid (fun (W : World) N pb v (h : PAt W N pb v l5) => by
    obtain ⟨ao, cap, e, -, -⟩ := own_slice h.own
    rw [e] at h
    have hg := run_go l5 l hl pb ao cap z64 z64 z64 z64 0 0 W ⟨h.blk, World.ownsRow.mono h.own (Nat.zero_le _), Nat.zero_le _⟩ (.inl ⟨rfl, by omega⟩)
    rw [show finM l5 0 [fitL z64, fitL z64, fitL z64, fitL z64] = m5 from rfl, ran5] at hg
    exact hg)
  have HB := Lib.hid (fun W => cBlank_any W)
  have hsc := scan_same 5 0 3 6 (by decide) (by decide) (by decide) (by decide)
  have hgs := Try.guardScan
  have hq1 : (S q5).size = 64 := by decide +kernel
  have hq2 : ((S q5).extract 0 2).toList = [0, 6] := by decide +kernel
  replace HC := Lib.hid HC
  unfold imgV at *
  unfold c5 at HC
  go_enter Try.func8, Try.ntmps8
  go_wp2_with fail
  with_reducible refine (HC.out _).mono ?_
  rintro e w1 ⟨pb, v, rfl, hp, hb1⟩
  have B1 := Lib.hid (((Below.refl w.heap.size w).alloc (Nat.le_refl _) (.cells c5 54)).trans (hb1.mono (by simp)))
  have HP := Lib.hid hp
  clear hb1 hp HC
  go_wp2_with fail
  with_reducible refine (HB.out _).mono ?_
  rintro e w2 ⟨rfl, hb2⟩
  have B2 := Lib.hid (B1.out.trans (hb2.mono B1.out.size))
  have HP2 := Lib.hid (HP.out.kept hb2)
  clear hb2 HP B1
  go_wp2_with fail
  with_reducible refine (HG.out _ _ _ _ HP2.out).mono ?_
  rintro e w3 ⟨rfl, hb3⟩
  have B3 := Lib.hid (B2.out.trans (hb3.mono B2.out.size))
  clear hb3 HP2 B2
  go_wp2
  go_ret
  exact ⟨rfl, (B3.out.alloc B3.out.size _).alloc (by have := B3.out.size; simp; omega) _⟩

end Go.Proofs.Ytbjmdehfdnpljaa.Vm

namespace Go.Proofs.Ytbjmdehfdnpljaa.Vm
open Go.RowKit
open Go.Proofs.Ytbjmdehfdnpljaa.Il hiding Next S S_size S_app S_inj S_list
open Go.Proofs.Ytbjmdehfdnpljaa.Ic Go.Proofs.Ytbjmdehfdnpljaa.Ve
open Oct

theorem same_img (I Q M R : Bs) (W : World) : (Op.equalIn 10000 32 (.agg #[.string (S (fitL I)), .string (S (fitL Q)), .string (S (fitL M)), .string (S (fitL R))]) (.agg #[.string (S (fitL I)), .string (S (fitL Q)), .string (S (fitL M)), .string (S (fitL R))])).run Try.prog W = .ok true W :=
  img_same _ _ _ _ (fit_small I) (fit_small Q) (fit_small M) (fit_small R) W
theorem below_drewN (N : Nat) (W : World) (k : Nat) : Below N W (W.drewN k) := ⟨rfl, rfl, rfl, Nat.le_refl _, fun _ _ => rfl⟩
/-- Areas, and how a run ran, in two blocks behind a world. -/
structure Tw (w W : World) (a b : Nat) (s0 s1 s2 s3 : ByteArray) (i0 i1 i2 i3 : Int) : Prop where
  c0 : W.cell? ⟨a, 0, none⟩ = some (.string s0)
  c1 : W.cell? ⟨a, 1, none⟩ = some (.string s1)
  c2 : W.cell? ⟨a, 2, none⟩ = some (.string s2)
  c3 : W.cell? ⟨a, 3, none⟩ = some (.string s3)
  d0 : W.cell? ⟨b, 0, none⟩ = some (.int .i64 i0)
  d1 : W.cell? ⟨b, 1, none⟩ = some (.int .i64 i1)
  d2 : W.cell? ⟨b, 2, none⟩ = some (.int .i64 i2)
  d3 : W.cell? ⟨b, 3, none⟩ = some (.int .i64 i3)
  below : Below w.heap.size w W
section
variable {w W W' : World} {a b : Nat} {s0 s1 s2 s3 : ByteArray} {i0 i1 i2 i3 : Int}
theorem Tw.kept (h : Tw w W a b s0 s1 s2 s3 i0 i1 i2 i3) (hb : Below W.heap.size W W') : Tw w W' a b s0 s1 s2 s3 i0 i1 i2 i3 :=
  ⟨kept_cell hb h.c0, kept_cell hb h.c1, kept_cell hb h.c2, kept_cell hb h.c3, kept_cell hb h.d0, kept_cell hb h.d1, kept_cell hb h.d2, kept_cell hb h.d3, h.below.trans (hb.mono h.below.size)⟩
theorem Tw.drew (h : Tw w W a b s0 s1 s2 s3 i0 i1 i2 i3) : Tw w W.drew a b s0 s1 s2 s3 i0 i1 i2 i3 := ⟨h.c0, h.c1, h.c2, h.c3, h.d0, h.d1, h.d2, h.d3, h.below.drew⟩
theorem Tw.new (hb : Below w.heap.size w W) : Tw w ((W.alloc (.cells #[.string s0, .string s1, .string s2, .string s3] 32)).alloc (.cells #[.int .i64 i0, .int .i64 i1, .int .i64 i2, .int .i64 i3] 34)) W.heap.size (W.heap.size + 1) s0 s1 s2 s3 i0 i1 i2 i3 := by
  have h1 := heap_alloc_new W (.cells #[.string s0, .string s1, .string s2, .string s3] 32)
  have h2 := heap_alloc_new (W.alloc (.cells #[.string s0, .string s1, .string s2, .string s3] 32)) (.cells #[.int .i64 i0, .int .i64 i1, .int .i64 i2, .int .i64 i3] 34)
  rw [show (W.alloc (.cells #[.string s0, .string s1, .string s2, .string s3] 32)).heap.size = W.heap.size + 1 by simp] at h2
  have h3 := (heap_alloc_old (W.alloc (.cells #[.string s0, .string s1, .string s2, .string s3] 32)) (.cells #[.int .i64 i0, .int .i64 i1, .int .i64 i2, .int .i64 i3] 34) (r := W.heap.size) (by simp)).trans h1
  refine ⟨?_, ?_, ?_, ?_, ?_, ?_, ?_, ?_, (hb.alloc hb.size _).alloc (by have := hb.size; simp; omega) _⟩
  · rw [cell_of_row _ _ _ _ _ (0, 0) h3]; rfl
  · rw [cell_of_row _ _ _ _ _ (0, 0) h3]; rfl
  · rw [cell_of_row _ _ _ _ _ (0, 0) h3]; rfl
  · rw [cell_of_row _ _ _ _ _ (0, 0) h3]; rfl
  · rw [cell_of_row _ _ _ _ _ (0, 0) h2]; rfl
  · rw [cell_of_row _ _ _ _ _ (0, 0) h2]; rfl
  · rw [cell_of_row _ _ _ _ _ (0, 0) h2]; rfl
  · rw [cell_of_row _ _ _ _ _ (0, 0) h2]; rfl
end
set_option maxRecDepth 100000 in
set_option maxHeartbeats 8000000 in
theorem loads_walk (l : List In) (ao : Option Addr) (cap : Nat) (w : World) (hI : Lies w w.heap.size ao l) (hF : FitL l) (hm : l.length ≤ maxLen) (hcap : ao = none → cap = 0) :
    Calls Try.prog 3 #[.slice ao l.length cap] w (Tells (.bool true) w) := by
  have HF := Lib.hid hF
  have HM := Lib.hid hm
  have HA := Lib.hid (At.first hI)
  have hmi : (l.length : Int) ≤ 9223372036854775807 := by unfold maxLen at hm; omega
  clear hI hF hm
  by_cases h210 : (210 : Int) < l.length
  · clear hcap
    go_enter Try.func3, Try.ntmps3
    go_wp2_with fail
    with_reducible refine (wake_any _).mono ?_
    rintro e w1 ⟨rfl, hb1⟩
    have HA1 := Lib.hid (HA.out.next hb1)
    clear hb1 HA
    go_wp2
    go_ret
    exact ⟨rfl, HA1.out.below⟩
  · have HR : Hid (∀ W, At w W ao l → Calls Try.prog 10 #[.slice ao l.length cap] W (Alls W l)) := fun W h => rAll_any l ao cap W h.lies HF.out HM.out
    unfold Alls at HR
    rcases all_cases l with ⟨r, k, h, hr, hr2, hk2⟩ | ⟨s, h, hw, hl, h200⟩
    · have hck := chk_err h
      have HL := Lib.hid (fun W (h : At w W ao l) => load_no l ao cap W h.lies HF.out (by omega) (by rw [hck]; dsimp only; omega))
      rw [hck] at HL
      rw [h] at HR
      dsimp only at HL HR
      have hrb : ((r : Int) == 0) = false := by rw [beq_eq_false_iff_ne]; omega
      have hrw : IntKind.i64.wrap ((r : Nat) : Int) = (r : Nat) := by rw [IntKind.wrap_i64]; omega
      have hrr : ((r : Int) != (r : Int)) = false := by simp
      have hkk : ((k : Int) != (k : Int)) = false := by simp
      have HN : Hid (∀ W, Calls Try.prog 11 #[.pointer none, .agg #[.string ⟨#[97, 98]⟩, .string ⟨#[]⟩, .string ⟨#[]⟩, .string ⟨#[]⟩], .int .i64 5] W (Tells (.tuple #[imgV (fitL [97, 98]) (fitL []) (fitL []) (fitL []), .agg #[.int .i64 0, .int .i64 0, .int .i64 0, .int .i64 0]]) W)) := fun W => cRun_nil [97, 98] [] [] [] 5 W
      have HT : Hid (∀ W, Calls Try.prog 13 #[.agg #[.string ⟨#[97, 98]⟩, .string ⟨#[]⟩, .string ⟨#[]⟩, .string ⟨#[]⟩]] W (Tells (imgV (fitL [97, 98]) (fitL []) (fitL []) (fitL [])) W)) := fun W => cFit_any [97, 98] [] [] [] W
      have HO := Lib.hid (fun W => cCode_nil W)
      have hsc := scan_same 0 0 0 0 (by decide) (by decide) (by decide) (by decide)
      have hgs := Try.guardScan
      have him := same_img [97, 98] [] [] []
      have hgi := Try.guardImg
      unfold imgV at HN HT
      generalize fitL [97, 98] = fI at *
      generalize fitL [] = fN at *
      clear h hr hck
      go_enter Try.func3, Try.ntmps3
      go_wp2_with fail
      with_reducible refine (wake_any _).mono ?_
      rintro e w1 ⟨rfl, hb1⟩
      have HA1 := Lib.hid (HA.out.next hb1)
      clear hb1 HA
      go_wp2_with fail
      with_reducible refine (HL.out _ HA1.out).mono ?_
      rintro e w2 ⟨rfl, hb1⟩
      have HA2 := Lib.hid (HA1.out.next hb1)
      clear hb1 HA1
      go_wp2_with fail
      with_reducible refine (HR.out _ HA2.out).mono ?_
      rintro e w3 ⟨rfl, hb1⟩
      have HA3 := Lib.hid (HA2.out.next hb1)
      clear hb1 HA2
      go_wp2_with fail
      with_reducible refine (HN.out _).mono ?_
      rintro e w4 ⟨rfl, hb1⟩
      have HT0 := Lib.hid (Tw.new (W := w4) (s0 := S fI) (s1 := S fN) (s2 := S fN) (s3 := S fN) (i0 := 0) (i1 := 0) (i2 := 0) (i3 := 0) (HA3.out.next hb1).below)
      clear hb1 HA3
      go_wp2_with fail
      refine world_cutR (G := fun W => Code.wp _ _ _ _ W) (fun W => Tw w W w4.heap.size (w4.heap.size + 1) (S fI) (S fN) (S fN) (S fN) 0 0 0 0) HT0.out ?_
      rintro W hW
      have hP1 := Lib.hid hW.drew
      clear hW HT0
      generalize w4.heap.size = a at *
      go_region_held3 (fun W' => W'.cell? ⟨a, 0, none⟩ = some (.string (S fI)) ∧ W'.cell? ⟨a, 1, none⟩ = some (.string (S fN)) ∧ W'.cell? ⟨a, 2, none⟩ = some (.string (S fN)) ∧ W'.cell? ⟨a, 3, none⟩ = some (.string (S fN)) ∧ W'.cell? ⟨a + 1, 0, none⟩ = some (.int .i64 0) ∧ W'.cell? ⟨a + 1, 1, none⟩ = some (.int .i64 0) ∧ W'.cell? ⟨a + 1, 2, none⟩ = some (.int .i64 0) ∧ W'.cell? ⟨a + 1, 3, none⟩ = some (.int .i64 0))
        (exact ⟨hP1.out.c0, hP1.out.c1, hP1.out.c2, hP1.out.c3, hP1.out.d0, hP1.out.d1, hP1.out.d2, hP1.out.d3⟩)
        ((first | (go_at_call 12; (with_reducible refine (HO.out _).mono ?_); rintro e w5 ⟨rfl, hb5⟩; have hP2 := Lib.hid (hP1.out.kept hb5); clear hb5 hP1; have hP1 := hP2; clear hP2) | (go_at_call 13; (with_reducible refine (HT.out _).mono ?_); rintro e w6 ⟨rfl, hb6⟩; have hP2 := Lib.hid (hP1.out.kept hb6); clear hb6 hP1; have hP1 := hP2; clear hP2)))
      all_goals
        go_wp2
        go_ret
        exact ⟨rfl, hP1.out.below⟩
    · have hz : (chkB l).1 = 0 := by rw [chk_ok h]
      have HL := Lib.hid (fun W (h : At w W ao l) => load_ok l ao cap W h.lies HF.out hcap (by omega) hz)
      have HO := Lib.hid (fun W N pb v (h : PAt W N pb v l) => cCode_any W h (by omega))
      have HS := Lib.hid (fun (a1 : Option Addr) c1 W (h1 : Lies W W.heap.size a1 l) (h2 : At w W ao l) => rSame_any l a1 ao c1 cap W h1 h2.lies (by omega))
      rw [h] at HR
      dsimp only at HR
      obtain ⟨n, hn⟩ : ∃ n, n = l.length := ⟨_, rfl⟩
      rw [← hn] at HL HR HS ⊢
      have hn2 : (n : Int) ≤ 210 := by omega
      have HNL := Lib.hid hn
      clear h hw hl h200 h210 hn hmi hz
      go_enter Try.func3, Try.ntmps3
      go_wp2_with fail
      with_reducible refine (wake_any _).mono ?_
      rintro e w1 ⟨rfl, hb1⟩
      have HA1 := Lib.hid (HA.out.next hb1)
      clear hb1 HA
      go_wp2_with fail
      with_reducible refine (HL.out _ HA1.out).mono ?_
      rintro e w2 ⟨pb, v, rfl, hp, hb1⟩
      have HA2 := Lib.hid (HA1.out.next hb1)
      have HP2 := Lib.hid hp
      clear hb1 HA1 hp
      go_wp2_with fail
      with_reducible refine (HR.out _ HA2.out).mono ?_
      rintro e w3 ⟨g, rfl, hR, hb1⟩
      have HA3 := Lib.hid (HA2.out.next hb1)
      have HP3 := Lib.hid (HP2.out.kept hb1)
      clear hb1 HA2 hR HP2
      go_wp2_with fail
      with_reducible refine (HO.out _ _ _ _ HP3.out).mono ?_
      rintro e w4 ⟨v, rfl, ho, hb1⟩
      have HA4 := Lib.hid (HA3.out.next hb1)
      obtain ⟨a1, c1, hv, hL1, -⟩ := own_slice ho
      rw [← HNL.out] at hv
      subst hv
      have HL1 := Lib.hid hL1
      clear hb1 HA3 hL1 ho HP3
      go_wp2_with fail
      with_reducible refine (HS.out _ _ _ HL1.out HA4.out).mono ?_
      rintro e w5 ⟨rfl, k, rfl⟩
      go_wp2
      go_ret
      exact ⟨rfl, HA4.out.below.trans (below_drewN _ _ _)⟩

end Go.Proofs.Ytbjmdehfdnpljaa.Vm
