/-
  The run of the reference in memory; get, put, do, block, walked. Conditions: as each states.
-/
import Derived.Test.YtbjmdehfdnpljaaVmStore
import Derived.Test.YtbjmdehfdnpljaaIcG
import Derived.Test.YtbjmdehfdnpljaaVmFry
namespace Go.Proofs.Ytbjmdehfdnpljaa.Vm
open Go.RowKit
open Go.Proofs.Ytbjmdehfdnpljaa.Il hiding Next S S_size S_app S_inj S_list
open Go.Proofs.Ytbjmdehfdnpljaa.Ic Go.Proofs.Ytbjmdehfdnpljaa.Ve
open Oct

def strC (A : List Bs) : List Value := A.map fun l => .string (S l)
def refC (p : Int) (t : Nat) (s : St) (ov : Value) : List Value := .string (S []) :: strC s.A ++ [.int .i64 s.kd, .int .i64 s.v, ov, .int .i64 (t : Nat), .int .i64 (s.z : Nat), .int .i64 0, .int .i64 0, .int .i64 p]
structure RfAt (W : World) (N g : Nat) (p : Int) (t : Nat) (s : St) (ov : Value) : Prop where
  lo : N ≤ g
  blk : W.heap[g]? = some (.cells (refC p t s ov).toArray 83 (0, 0))
  own : W.ownsRow N 104 3 ov s.op.length (flatK s.op)
  ok : AOk s.A
theorem strC_len {A : List Bs} (h : AOk A) : (strC A).length = 4 := by unfold strC; rw [List.length_map, h.four]
section
variable {W W' : World} {N g : Nat} {p : Int} {t : Nat} {s : St} {ov : Value}
theorem RfAt.lt (h : RfAt W N g p t s ov) : g < W.heap.size := (Array.getElem?_eq_some_iff.1 h.blk).1
theorem RfAt.free (h : RfAt W N g p t s ov) (j : Nat) : W.frozen? ⟨g, j, none⟩ = false := by
  unfold World.frozen?
  rw [h.blk]
  simp
theorem RfAt.tail (h : RfAt W N g p t s ov) {j : Nat} {v : Value} (hv : [Value.int .i64 s.kd, .int .i64 s.v, ov, .int .i64 (t : Nat), .int .i64 (s.z : Nat), .int .i64 0, .int .i64 0, .int .i64 p][j]? = some v) : W.cell? ⟨g, 5 + j, none⟩ = some v := by
  rw [cell_of_row _ _ _ _ _ (0, 0) h.blk, List.getElem?_toArray]
  unfold refC
  rw [List.getElem?_append_right (by rw [List.length_cons, strC_len h.ok]; omega), List.length_cons, strC_len h.ok, Nat.add_sub_cancel_left]
  exact hv
theorem RfAt.str (h : RfAt W N g p t s ov) {q : Nat} (hq : q < 4) : W.cell? ⟨g, q + 1, none⟩ = some (.string (S (s.A.getD q []))) := by
  rw [cell_of_row _ _ _ _ _ (0, 0) h.blk, List.getElem?_toArray]
  unfold refC
  rw [List.getElem?_append_left (by rw [List.length_cons, strC_len h.ok]; omega), List.getElem?_cons_succ]
  unfold strC
  rw [List.getElem?_map, List.getD_eq_getElem?_getD, List.getElem?_eq_getElem (by rw [h.ok.four]; exact hq)]
  rfl
theorem RfAt.kd (h : RfAt W N g p t s ov) : W.cell? ⟨g, 5, none⟩ = some (.int .i64 s.kd) := h.tail (j := 0) rfl
theorem RfAt.val (h : RfAt W N g p t s ov) : W.cell? ⟨g, 6, none⟩ = some (.int .i64 s.v) := h.tail (j := 1) rfl
theorem RfAt.opn (h : RfAt W N g p t s ov) : W.cell? ⟨g, 7, none⟩ = some ov := h.tail (j := 2) rfl
theorem RfAt.stp (h : RfAt W N g p t s ov) : W.cell? ⟨g, 8, none⟩ = some (.int .i64 (t : Nat)) := h.tail (j := 3) rfl
theorem RfAt.zer (h : RfAt W N g p t s ov) : W.cell? ⟨g, 9, none⟩ = some (.int .i64 (s.z : Nat)) := h.tail (j := 4) rfl
theorem RfAt.psd (h : RfAt W N g p t s ov) : W.cell? ⟨g, 12, none⟩ = some (.int .i64 p) := h.tail (j := 7) rfl
theorem own_far {W : World} {N g : Nat} {ov : Value} {n : Nat} {xs : List Value} {c : Array Value} (hb : W.heap[g]? = some (.cells c 83 (0, 0))) (ho : W.ownsRow N 104 3 ov n xs) : ∀ k, ov.ownBlock = some k → k ≠ g := fun k hk e => by
  subst e
  rcases ho.2 with ⟨rfl, _⟩ | ⟨g', cap, cur, rfl, _, hg, _⟩
  · simp [Value.ownBlock] at hk
  · simp [Value.ownBlock] at hk
    subst hk
    rw [hb] at hg
    injection hg with hg
    injection hg with _ hg
    exact absurd hg (by decide)
theorem RfAt.far (h : RfAt W N g p t s ov) : ∀ k, ov.ownBlock = some k → k ≠ g := own_far h.blk h.own
theorem RfAt.kept (h : RfAt W N g p t s ov) (hb : Below W.heap.size W W') : RfAt W' N g p t s ov :=
  ⟨h.lo, (hb.block g h.lt).trans h.blk, World.ownsRow.kept h.own (only_bel hb none) (by cases ov.ownBlock <;> simp), h.ok⟩
theorem RfAt.drew (h : RfAt W N g p t s ov) : RfAt W.drew N g p t s ov := ⟨h.lo, h.blk, h.own.drew, h.ok⟩
theorem RfAt.alloc (h : RfAt W N g p t s ov) (o : Obj) : RfAt (W.alloc o) N g p t s ov := h.kept ((Below.refl _ _).alloc (Nat.le_refl _) o)
theorem RfAt.setc (h : RfAt W N g p t s ov) {j : Nat} {v : Value} {p' : Int} {t' : Nat} {s' : St} {ov' : Value} (hv : (refC p t s ov).set j v = refC p' t' s' ov') (ho : W.ownsRow N 104 3 ov' s'.op.length (flatK s'.op)) (hA : AOk s'.A) :
    RfAt (W.setCell ⟨g, j, none⟩ v) N g p' t' s' ov' := by
  refine ⟨h.lo, ?_, ?_, hA⟩
  · rw [heap_set h.blk]
    congr 2
    apply Array.toList_inj.1
    rw [Array.toList_setIfInBounds, ← hv]
  · refine World.ownsRow.kept ho (only_setv W g j v) ?_
    cases ho2 : ov'.ownBlock with
    | none => exact .inl rfl
    | some k => exact .inr (fun e => own_far h.blk ho k ho2 (Option.some.inj e))
/-- One of the cells behind the areas is stored. -/
theorem RfAt.store (h : RfAt W N g p t s ov) {j : Nat} {v : Value} {k' v' : Int} {ov' : Value} {t' z' : Nat} {op' : List Bk} (hj : j < 8)
    (hv : [Value.int .i64 s.kd, .int .i64 s.v, ov, .int .i64 (t : Nat), .int .i64 (s.z : Nat), .int .i64 0, .int .i64 0, .int .i64 p].set j v = [Value.int .i64 k', .int .i64 v', ov', .int .i64 (t' : Nat), .int .i64 (z' : Nat), .int .i64 0, .int .i64 0, .int .i64 p])
    (ho : W.ownsRow N 104 3 ov' op'.length (flatK op')) : RfAt (W.setCell ⟨g, 5 + j, none⟩ v) N g p t' ⟨s.A, k', v', op', z'⟩ ov' := by
  refine h.setc (s' := ⟨s.A, k', v', op', z'⟩) ?_ ho h.ok
  unfold refC
  dsimp only
  rw [List.set_append_right _ _ (by rw [List.length_cons, strC_len h.ok]; omega), List.length_cons, strC_len h.ok, Nat.add_sub_cancel_left, hv]
theorem RfAt.area (h : RfAt W N g p t s ov) {q : Nat} (hq : q < 4) {l : Bs} (hl : l.length = 64) : RfAt (W.setCell ⟨g, q + 1, none⟩ (.string (S l))) N g p t ⟨s.A.set q l, s.kd, s.v, s.op, s.z⟩ ov := by
  refine h.setc (s' := ⟨s.A.set q l, s.kd, s.v, s.op, s.z⟩) ?_ h.own ⟨by rw [List.length_set]; exact h.ok.four, fun j hj => ?_⟩
  · unfold refC
    dsimp only
    rw [List.set_append_left _ _ (by rw [List.length_cons, strC_len h.ok]; omega), List.set_cons_succ]
    unfold strC
    rw [List.map_set]
  · rw [List.getD_eq_getElem?_getD, List.getElem?_set]
    split
    · rw [if_pos (by rw [h.ok.four]; exact hq)]; exact hl
    · rw [← List.getD_eq_getElem?_getD]; exact h.ok.len j hj
end
/-- The reference's run is now here. -/
structure RNow (N g : Nat) (p : Int) (t : Nat) (s' : St) (ov : Value) (w w' : World) (ov' : Value) : Prop where
  at_ : RfAt w' N g p t s' ov'
  kp : Kp g ov w w'
  row : ov'.ownBlock = ov.ownBlock ∨ ∀ k, ov'.ownBlock = some k → w.heap.size ≤ k
section
variable {N g : Nat} {p : Int} {t t1 t2 : Nat} {s s1 s2 : St} {ov ov1 ov2 : Value} {w w' w1 w2 W : World}
theorem RNow.trans (h : RNow N g p t1 s1 ov w w1 ov1) (h2 : RNow N g p t2 s2 ov1 w1 w2 ov2) : RNow N g p t2 s2 ov w w2 ov2 :=
  ⟨h2.at_, h.kp.trans h2.kp h.row, by
    have hs := h.kp.size
    rcases h2.row with e2 | e2
    · rw [e2]; exact h.row
    · exact .inr (fun k hk => by have := e2 k hk; omega)⟩
theorem RNow.same (h : RfAt w N g p t s ov) (hb : Below w.heap.size w w') : RNow N g p t s ov w w' ov := ⟨h.kept hb, Kp.of hb, .inl rfl⟩
theorem RNow.one (h : RfAt w' N g p t s ov) (hb : Only1 g w w') : RNow N g p t s ov w w' ov := ⟨h, Kp.one hb, .inl rfl⟩
theorem RNow.next (h : RNow N g p t s ov w w1 ov1) (hb : Below w1.heap.size w1 w2) : RNow N g p t s ov w w2 ov1 := h.trans (RNow.same h.at_ hb)
theorem RNow.first (h : RfAt w N g p t s ov) : RNow N g p t s ov w w ov := ⟨h, Kp.refl _ _ _, .inl rfl⟩
theorem RNow.drew (h : RNow N g p t s ov w w' ov1) : RNow N g p t s ov w w'.drew ov1 := ⟨h.at_.drew, ⟨h.kp.os, h.kp.tape, h.kp.output, h.kp.size, h.kp.block⟩, h.row⟩
theorem RNow.value (h : RNow N g p t s ov w W ov1) (v : Int) : RNow N g p t ⟨s.A, s.kd, v, s.op, s.z⟩ ov w (W.setCell ⟨g, 6, none⟩ (.int .i64 v)) ov1 :=
  h.trans (RNow.one (h.at_.store (j := 1) (v := .int .i64 v) (by omega) rfl h.at_.own) (only1_set _ _ _ _))
theorem RNow.kind (h : RNow N g p t s ov w W ov1) (k : Int) : RNow N g p t ⟨s.A, k, s.v, s.op, s.z⟩ ov w (W.setCell ⟨g, 5, none⟩ (.int .i64 k)) ov1 :=
  h.trans (RNow.one (h.at_.store (j := 0) (v := .int .i64 k) (by omega) rfl h.at_.own) (only1_set _ _ _ _))
theorem RNow.steps (h : RNow N g p t s ov w W ov1) (t' : Nat) : RNow N g p t' s ov w (W.setCell ⟨g, 8, none⟩ (.int .i64 (t' : Nat))) ov1 :=
  h.trans (RNow.one (h.at_.store (j := 3) (v := .int .i64 (t' : Nat)) (by omega) rfl h.at_.own) (only1_set _ _ _ _))
theorem RNow.zero (h : RNow N g p t s ov w W ov1) (z : Nat) : RNow N g p t ⟨s.A, s.kd, s.v, s.op, z⟩ ov w (W.setCell ⟨g, 9, none⟩ (.int .i64 (z : Nat))) ov1 :=
  h.trans (RNow.one (h.at_.store (j := 4) (v := .int .i64 (z : Nat)) (by omega) rfl h.at_.own) (only1_set _ _ _ _))
end

end Go.Proofs.Ytbjmdehfdnpljaa.Vm

namespace Go.Proofs.Ytbjmdehfdnpljaa.Vm
open Go.RowKit
open Go.Proofs.Ytbjmdehfdnpljaa.Il hiding Next S S_size S_app S_inj S_list
open Go.Proofs.Ytbjmdehfdnpljaa.Ic Go.Proofs.Ytbjmdehfdnpljaa.Ve
open Oct

/-- The reference's run, and an instruction in a block of its own. -/
structure Rn (N g : Nat) (p : Int) (t : Nat) (s : St) (ov : Value) (w : World) (b : Nat) (i : In) (W : World) (ov' : Value) : Prop where
  now : RNow N g p t s ov w W ov'
  bi : Bi W b i
  lt : b < W.heap.size
  far : w.heap.size ≤ b
section
variable {N g b : Nat} {p : Int} {t t' : Nat} {s s' : St} {ov ov1 ov2 : Value} {w W W' : World} {i : In}
theorem Rn.new (h : RfAt w N g p t s ov) (i : In) (ty : TypeId) : Rn N g p t s ov w w.heap.size i (w.alloc (.cells #[.int .i64 i.op, .int .i64 i.kd, .int .i64 i.ar, .int .i64 i.pl, .int .i64 i.n] ty)) ov := ⟨RNow.same h (one_S _ _ _), Bi.new w i ty, by simp, Nat.le_refl _⟩
theorem Rn.drew (h : Rn N g p t s ov w b i W ov1) : Rn N g p t s ov w b i W.drew ov1 := ⟨h.now.drew, h.bi, h.lt, h.far⟩
theorem Rn.next (h : Rn N g p t s ov w b i W ov1) (hb : Below W.heap.size W W') : Rn N g p t s ov w b i W' ov1 := ⟨h.now.next hb, h.bi.next hb, Nat.lt_of_lt_of_le h.lt hb.size, h.far⟩
theorem Rn.step (h : Rn N g p t s ov w b i W ov1) (hb : RNow N g p t' s' ov1 W W' ov2) (h0 : g ≠ b) (ho : ∀ k, ov1.ownBlock = some k → k ≠ b) : Rn N g p t' s' ov w b i W' ov2 := by
  have e := hb.kp.block b h.lt (fun e => h0 e.symm) (fun e => ho b e rfl)
  refine ⟨h.now.trans hb, ?_, Nat.lt_of_lt_of_le h.lt hb.kp.size, h.far⟩
  obtain ⟨b0, b1, b2, b3, b4⟩ := h.bi
  have hc : ∀ j, W'.cell? ⟨b, j, none⟩ = W.cell? ⟨b, j, none⟩ := fun j => World.cell?_of_block (a := ⟨b, j, none⟩) e
  exact ⟨(hc 0).trans b0, (hc 1).trans b1, (hc 2).trans b2, (hc 3).trans b3, (hc 4).trans b4⟩
theorem rn5 (h : Rn N g p t s ov w b i W ov1) : W.cell? ⟨b, 0, none⟩ = some (.int .i64 i.op) ∧ W.cell? ⟨b, 1, none⟩ = some (.int .i64 i.kd) ∧ W.cell? ⟨b, 2, none⟩ = some (.int .i64 i.ar) ∧ W.cell? ⟨b, 3, none⟩ = some (.int .i64 i.pl) ∧ W.cell? ⟨b, 4, none⟩ = some (.int .i64 i.n) := h.bi
theorem own_newR (h : RfAt w N g p t s ov) : g ≠ w.heap.size ∧ ∀ k, ov.ownBlock = some k → k ≠ w.heap.size := ⟨by have := h.lt; omega, fun k hk => by have := (World.ownsRow.lt h.own k hk).2; omega⟩
end
section
variable {N g : Nat} {p : Int} {t : Nat} {s : St} {ov : Value}
/-- get, at a place that lies within. -/
theorem rGetA (w : World) (h : RfAt w N g p t s ov) (a pl k : Int) (h1 : 1 ≤ a) (h4 : a ≤ 4) (hp : 0 ≤ pl) (hk : pl + szI k ≤ 64) :
    ∀ W, Calls Try.prog 70 #[.string (S (arL s.A a)), .int .i64 pl, .int .i64 k] W (Tells (.int .i64 (gtV s a pl k)) W) := fun W => by
  have hl := ok_at h.ok h1 h4
  have := rGet_any (S (arL s.A a)) pl.toNat k W (by rw [S_size, hl]; omega) (by rw [S_size, hl]; omega)
  rw [Int.toNat_of_nonneg hp] at this
  exact this
theorem rPutA (w : World) (h : RfAt w N g p t s ov) (a pl k v : Int) (h1 : 1 ≤ a) (h4 : a ≤ 4) (hp : 0 ≤ pl) (hk : pl + szI k ≤ 64) (hs : szI k ≠ 0) (hv1 : -9223372036854775808 ≤ v) (hv2 : v ≤ 9223372036854775807) :
    ∀ W, Calls Try.prog 71 #[.string (S (arL s.A a)), .int .i64 pl, .int .i64 k, .int .i64 v] W (Tells (.string (S (putL (arL s.A a) pl.toNat k v))) W) := fun W => by
  have hl := ok_at h.ok h1 h4
  have := rPut_any (S (arL s.A a)) pl.toNat k v W (by rw [S_size, hl]; omega) hs (by rw [S_size, hl]; omega) hv1 hv2
  rw [Int.toNat_of_nonneg hp] at this
  exact this
set_option maxRecDepth 100000 in
set_option maxHeartbeats 4000000 in
theorem rGetR_any (w : World) (h : RfAt w N g p t s ov) (i : In) (hi : AskOk i) :
    Calls Try.prog 50 #[.pointer (some ⟨g, 0, none⟩), insV i] w (Tells (.int .i64 (askI i s)) w) := by
  have H0 := Lib.hid (one_S w #[.int .i64 i.op, .int .i64 i.kd, .int .i64 i.ar, .int .i64 i.pl, .int .i64 i.n] 54)
  have HR := Lib.hid (Rn.new h i 54)
  unfold askI insV
  obtain ⟨op, kd, ar, pl, n⟩ := i
  unfold AskOk at hi
  dsimp only at *
  rcases hi with h0 | ⟨h1, h4, h0, hk, hs⟩
  · subst h0
    rw [if_pos rfl]
    clear HR h
    go_enter Try.func50, Try.ntmps50
    go_wp2
    go_ret
    exact ⟨rfl, H0.out⟩
  · rw [if_neg (by omega)]
    have hne : (ar == 0) = false := by simp; omega
    have HG := Lib.hid (rGetA w h ar pl kd h1 h4 h0 hk)
    obtain ⟨q, rfl⟩ : ∃ q : Nat, ar = (q : Int) := ⟨ar.toNat, by omega⟩
    have hq : (q : Int) < 5 := by omega
    have HST := Lib.hid (fun W (h : RfAt W N g p t s ov) => show W.cell? ⟨g, q, none⟩ = some (.string (S (arL s.A q))) from by
      have hs := h.str (q := q - 1) (by omega)
      rw [show q - 1 + 1 = q by omega, show s.A.getD (q - 1) [] = arL s.A q from by unfold arL; congr 1; omega] at hs
      exact hs)
    generalize gtV s q pl kd = V at *
    generalize S (arL s.A q) = T at *
    clear h h1 h4 hk H0
    go_enter Try.func50, Try.ntmps50
    go_wp2_with fail
    refine world_cutR (G := fun W => Code.wp _ _ _ _ W) (fun W => Rn N g p t s ov w w.heap.size ⟨op, kd, q, pl, n⟩ W ov ∧ Below w.heap.size w W) ⟨HR.out, one_S _ _ _⟩ ?_
    rintro W ⟨hW, hbl⟩
    have hP1 := hW.drew
    have HB := Lib.hid hbl.drew
    obtain ⟨c0, c1, c2, c3, c4⟩ := rn5 hW
    have cs := HST.out _ hW.now.at_
    dsimp only at c0 c1 c2 c3 c4
    clear HR hW hbl
    go_region_held3 (fun W' => W'.cell? ⟨w.heap.size, 1, none⟩ = some (.int .i64 kd) ∧ W'.cell? ⟨w.heap.size, 2, none⟩ = some (.int .i64 q) ∧ W'.cell? ⟨w.heap.size, 3, none⟩ = some (.int .i64 pl) ∧ W'.cell? ⟨g, q, none⟩ = some (.string T)) (exact ⟨hP1.bi.2.1, hP1.bi.2.2.1, hP1.bi.2.2.2.1, HST.out _ hP1.now.at_⟩)
      ((first | (go_at_call 70; (with_reducible refine (HG.out _).mono ?_); rintro e w1 ⟨rfl, hb1⟩; have hP2 := hP1.next hb1; have HB2 := Lib.hid (HB.out.trans (hb1.mono HB.out.size)); clear hb1 hP1; have hP1 := hP2; clear hP2)))
    all_goals
      go_wp2
      go_ret
      exact ⟨rfl, HB2.out⟩

set_option maxRecDepth 100000 in
set_option maxHeartbeats 4000000 in
theorem rPutR_any (w : World) (h : RfAt w N g p t s ov) (a pl k v : Int) (h1 : 1 ≤ a) (h4 : a ≤ 4) (hp : 0 ≤ pl) (hk : pl + szI k ≤ 64) (hs : szI k ≠ 0) (hv1 : -9223372036854775808 ≤ v) (hv2 : v ≤ 9223372036854775807) :
    Calls Try.prog 52 #[.pointer (some ⟨g, 0, none⟩), .int .i64 a, .int .i64 pl, .int .i64 k, .int .i64 v] w fun e w' => e = .returned (.tuple #[]) ∧ RNow N g p t (ptV s a pl k v) ov w w' ov := by
  have HG := Lib.hid (rPutA w h a pl k v h1 h4 hp hk hs hv1 hv2)
  obtain ⟨q, rfl⟩ : ∃ q : Nat, a = (q : Int) := ⟨a.toNat, by omega⟩
  have hq : (q : Int) < 5 := by omega
  have hl := ok_at h.ok h1 h4
  have HST := Lib.hid (fun W (h : RfAt W N g p t s ov) => show W.cell? ⟨g, q, none⟩ = some (.string (S (arL s.A q))) from by
    have hs := h.str (q := q - 1) (by omega)
    rw [show q - 1 + 1 = q by omega, show s.A.getD (q - 1) [] = arL s.A q from by unfold arL; congr 1; omega] at hs
    exact hs)
  have HB := Lib.hid (fun W (h : RfAt W N g p t s ov) => show RfAt (W.setCell ⟨g, q, none⟩ (.string (S (putL (arL s.A q) pl.toNat k v)))) N g p t (ptV s q pl k v) ov from by
    have := h.area (q := q - 1) (by omega) (l := putL (arL s.A q) pl.toNat k v) (by rw [put_length _ _ _ _ (by rw [hl]; omega), hl])
    rw [show q - 1 + 1 = q by omega] at this
    unfold ptV ptA
    rw [show ((q : Int) - 1).toNat = q - 1 by omega]
    exact this)
  have H0 := Lib.hid h
  have cs := HST.out _ h
  have fz := h.free q
  have hlt := h.lt
  generalize ptV s q pl k v = s' at *
  generalize S (putL (arL s.A q) pl.toNat k v) = T2 at *
  generalize S (arL s.A q) = T at *
  clear h h1 h4 hk hs hl hp hv1 hv2
  go_enter Try.func52, Try.ntmps52
  go_wp2_with fail
  go_region_with (first | (go_at_call 71; (with_reducible refine (HG.out _).mono ?_); rintro e w1 ⟨rfl, hb1⟩; have N1 := Lib.hid ((RNow.first H0.out).drew.next hb1); have cs1 := HST.out _ N1.out.at_; have fz1 := N1.out.at_.free q; have l1 := N1.out.at_.lt; have HN := Lib.hid (N1.out.trans (RNow.one (HB.out _ N1.out.at_) (only1_set _ _ _ _)))))
  all_goals
    go_wp2
    go_end0
    exact ⟨rfl, HN.out⟩

set_option maxRecDepth 100000 in
set_option maxHeartbeats 4000000 in
theorem rDoR_any (w : World) (h : RfAt w N g p t s ov) (op k a b : Int) (hz : s.z < 1000) (h24 : op ≤ 24) :
    Calls Try.prog 53 #[.pointer (some ⟨g, 0, none⟩), .int .i64 op, .int .i64 k, .int .i64 a, .int .i64 b] w fun e w' => e = .returned (.tuple #[]) ∧ RNow N g p t (joinI op k a b s) ov w w' ov := by
  have HD := Lib.hid (fun W => rDo_any op k a b W)
  have H0 := Lib.hid h
  have hz2 : (s.z : Int) < 1000 := by omega
  have hmd : madeI op k = if 19 ≤ op then 1 else k := by unfold madeI ordB; by_cases e : 19 ≤ op <;> simp [e, h24]
  unfold joinI
  rw [hmd]
  clear h hmd h24
  have hord : decide ((19 : Int) ≤ op) = true ∨ decide ((19 : Int) ≤ op) = false := by cases decide ((19 : Int) ≤ op) <;> simp
  generalize doR op k a b = V at *
  generalize doE op k a b = E at *
  by_cases hB : b = 0 ∧ (op = 17 ∨ op = 18)
  · rw [if_pos hB, if_neg (by omega)]
    have hb0 : (b == 0) = true := by simpa using hB.1
    have hop := hB.2
    clear hB hord
    rcases hop with rfl | rfl
    all_goals
      go_enter Try.func53, Try.ntmps53
      go_wp2_with fail
      with_reducible refine (HD.out _).mono ?_
      rintro e w1 ⟨rfl, hb1⟩
      have N1 := Lib.hid ((RNow.first H0.out).next hb1)
      have c9 := N1.out.at_.zer
      have c5 := N1.out.at_.kd
      have c6 := N1.out.at_.val
      have f9 := N1.out.at_.free 9
      have f5 := N1.out.at_.free 5
      have f6 := N1.out.at_.free 6
      have l1 := N1.out.at_.lt
      have HN := ((N1.out.zero (s.z + 1)).kind k).value V
      rw [show ((s.z + 1 : Nat) : Int) = (s.z : Int) + 1 by simp] at HN
      replace HN := Lib.hid HN
      clear hb1 N1 H0
      go_wp2
      go_end0
      exact ⟨rfl, HN.out⟩
  · rw [if_neg hB]
    have hcs : ((op == 17) = false ∧ (op == 18) = false) ∨ ((op = 17 ∨ op = 18) ∧ (b == 0) = false) := by
      by_cases e : op = 17 ∨ op = 18
      · exact .inr ⟨e, by simp; intro h; exact hB ⟨h, e⟩⟩
      · exact .inl ⟨by simp; intro h; exact e (.inl h), by simp; intro h; exact e (.inr h)⟩
    clear hB
    rcases hord with ho | ho
    · rw [if_pos (of_decide_eq_true ho)]
      rcases hcs with ⟨h17, h18⟩ | ⟨e | e, hb⟩
      rotate_left
      · subst e; exact absurd ho (by decide)
      · subst e; exact absurd ho (by decide)
      all_goals
        go_enter Try.func53, Try.ntmps53
        go_wp2_with fail
        with_reducible refine (HD.out _).mono ?_
        rintro e w1 ⟨rfl, hb1⟩
        have N1 := Lib.hid ((RNow.first H0.out).next hb1)
        have c5 := N1.out.at_.kd
        have c6 := N1.out.at_.val
        have f5 := N1.out.at_.free 5
        have f6 := N1.out.at_.free 6
        have l1 := N1.out.at_.lt
        have HN := Lib.hid (((N1.out.kind k).kind 1).value V)
        clear hb1 N1 H0
        go_wp2
        go_end0
        exact ⟨rfl, HN.out⟩
    · rw [if_neg (of_decide_eq_false ho)]
      rcases hcs with ⟨h17, h18⟩ | ⟨rfl | rfl, hb⟩
      all_goals
        go_enter Try.func53, Try.ntmps53
        go_wp2_with fail
        with_reducible refine (HD.out _).mono ?_
        rintro e w1 ⟨rfl, hb1⟩
        have N1 := Lib.hid ((RNow.first H0.out).next hb1)
        have c5 := N1.out.at_.kd
        have c6 := N1.out.at_.val
        have f5 := N1.out.at_.free 5
        have f6 := N1.out.at_.free 6
        have l1 := N1.out.at_.lt
        have HN := Lib.hid ((N1.out.kind k).value V)
        clear hb1 N1 H0
        go_wp2
        go_end0
        exact ⟨rfl, HN.out⟩

end
end Go.Proofs.Ytbjmdehfdnpljaa.Vm

namespace Go.Proofs.Ytbjmdehfdnpljaa.Vm
open Go.RowKit
open Go.Proofs.Ytbjmdehfdnpljaa.Il hiding Next S S_size S_app S_inj S_list
open Go.Proofs.Ytbjmdehfdnpljaa.Ic Go.Proofs.Ytbjmdehfdnpljaa.Ve
open Oct

section
variable {N g : Nat} {p : Int} {t : Nat} {s : St} {ov : Value}
theorem Rn.value {b : Nat} {w W : World} {i : In} (h : Rn N g p t s ov w b i W ov) (hg : g ≠ b) (ho : ∀ k, ov.ownBlock = some k → k ≠ b) (v : Int) : Rn N g p t ⟨s.A, s.kd, v, s.op, s.z⟩ ov w b i (W.setCell ⟨g, 6, none⟩ (.int .i64 v)) ov :=
  h.step ((RNow.first h.now.at_).value v) hg ho
theorem Rn.new2 {w : World} (h : RfAt w N g p t s ov) (i : In) (ty : TypeId) (v : Int) : Rn N g p t ⟨s.A, s.kd, v, s.op, s.z⟩ ov w w.heap.size i ((w.setCell ⟨g, 6, none⟩ (.int .i64 v)).alloc (.cells #[.int .i64 i.op, .int .i64 i.kd, .int .i64 i.ar, .int .i64 i.pl, .int .i64 i.n] ty)) ov := by
  have e : (w.setCell ⟨g, 6, none⟩ (.int .i64 v)).heap.size = w.heap.size := by simp
  refine ⟨((RNow.first h).value v).next (one_S _ _ _), ?_, by simp, Nat.le_refl _⟩
  have := Bi.new (w.setCell ⟨g, 6, none⟩ (.int .i64 v)) i ty
  rw [e] at this
  exact this
theorem dw_bdR (l : Bs) (pl : Nat) : 0 ≤ getL l pl 7 ∧ getL l pl 7 ≤ 4294967295 := logic_bd (.inr (.inr rfl)) (get_is l pl (by decide))
def v0 (s : St) (v : Int) : St := ⟨s.A, s.kd, v, s.op, s.z⟩
theorem strA {W : World} {s' : St} (h : RfAt W N g p t s' ov) {q : Nat} (h1 : 1 ≤ q) (h4 : q ≤ 4) : W.cell? ⟨g, q, none⟩ = some (.string (S (arL s'.A q))) := by
  have hs := h.str (q := q - 1) (by omega)
  rw [show q - 1 + 1 = q by omega, show s'.A.getD (q - 1) [] = arL s'.A q from by unfold arL; congr 1; omega] at hs
  exact hs
set_option maxRecDepth 100000 in
set_option maxHeartbeats 4000000 in
theorem blk36_0 (w : World) (h : RfAt w N g p t s ov) (kd pl n : Int) (q : Nat) (h1 : 3 ≤ q) (h4 : q ≤ 4) (h0 : 0 ≤ pl) (hk : pl + 1 ≤ 64) (hv : s.v = 0)  :
    Calls Try.prog 55 #[.pointer (some ⟨g, 0, none⟩), insV ⟨36, kd, q, pl, n⟩] w fun e w' => e = .returned (.tuple #[]) ∧ RNow N g p t (ptV ⟨s.A, s.kd, 0, s.op, s.z⟩ q pl 1 0) ov w w' ov := by
  have HG := Lib.hid (rGetA w h q pl 1 (by omega) (by omega) h0 (by rw [show szI 1 = 1 from rfl]; omega))
  generalize gtV s q pl 1 = G at *
  have HP := Lib.hid (fun W (h : RfAt W N g p t ⟨s.A, s.kd, 0, s.op, s.z⟩ ov) => rPutR_any W h q pl 1 0 (by omega) (by omega) h0 (by rw [show szI 1 = 1 from rfl]; omega) (by decide) (by omega) (by omega))
  generalize ptV ⟨s.A, s.kd, 0, s.op, s.z⟩ q pl 1 0 = s' at *
  obtain ⟨hne, hov⟩ := own_newR h
  have HR := Lib.hid (Rn.new2 h ⟨36, kd, q, pl, n⟩ 54 0)
  have HST := Lib.hid (fun W (h : RfAt W N g p t ⟨s.A, s.kd, 0, s.op, s.z⟩ ov) => strA h (q := q) (by omega) h4)
  replace hne := Lib.hid hne
  replace hov := Lib.hid hov
  have cv := h.val
  have fv := h.free 6
  have hlt := h.lt
  have hq : (q : Int) < 5 := by omega
  rw [hv] at cv
  dsimp only at HST
  generalize hT : S (arL s.A q) = T at *
  clear h h1 h4 h0 hk hv
  unfold insV
  go_enter Try.func55, Try.ntmps55
  go_wp2_with fail
  refine world_cutR (G := fun W => Code.wp _ _ _ _ W) (fun W => Rn N g p t ⟨s.A, s.kd, 0, s.op, s.z⟩ ov w w.heap.size ⟨36, kd, q, pl, n⟩ W ov) HR.out ?_
  rintro W hP1
  clear HR cv fv hlt
  generalize hbb : w.heap.size = b at *
  replace hbb := Lib.hid hbb
  obtain ⟨c0, c1, c2, c3, c4⟩ := rn5 hP1
  have d6 := hP1.now.at_.val
  have d12 := hP1.now.at_.psd
  have f6 := hP1.now.at_.free 6
  have l6 := hP1.now.at_.lt
  dsimp only at c0 c1 c2 c3 c4 d6
  have ds := HST.out _ hP1.now.at_
  have hP2 := hP1.drew
  clear hP1
  have hP1 := hP2
  clear hP2
  go_wp2_with fail
  go_region_held3 (fun W' => W'.cell? ⟨b, 1, none⟩ = some (.int .i64 kd) ∧ W'.cell? ⟨b, 2, none⟩ = some (.int .i64 q) ∧ W'.cell? ⟨b, 3, none⟩ = some (.int .i64 pl) ∧ W'.cell? ⟨b, 4, none⟩ = some (.int .i64 n) ∧ W'.cell? ⟨g, q, none⟩ = some (.string T)) (exact ⟨hP1.bi.2.1, hP1.bi.2.2.1, hP1.bi.2.2.2.1, hP1.bi.2.2.2.2, HST.out _ hP1.now.at_⟩)
      ((first | (go_at_call 70; (with_reducible refine (HG.out _).mono ?_); rintro e w1 ⟨rfl, hb1⟩; have hP2 := hP1.next hb1; clear hb1 hP1; have hP1 := hP2; clear hP2)))
  clear c0 c1 c2 c3 c4 d6 d12 f6 l6
  clear ds
  obtain ⟨c0, c1, c2, c3, c4⟩ := rn5 hP1
  have d6 := hP1.now.at_.val
  have d12 := hP1.now.at_.psd
  have f6 := hP1.now.at_.free 6
  have l6 := hP1.now.at_.lt
  dsimp only at c0 c1 c2 c3 c4 d6
  replace hP1 := Lib.hid hP1
  go_wp2_with fail
  replace hP1 := hP1.out
  with_reducible refine (HP.out _ hP1.now.at_).mono ?_
  rintro e w1 ⟨rfl, hb1⟩
  have hP2 := hP1.step hb1 hne.out hov.out
  clear hb1 hP1
  have hP1 := hP2
  clear hP2
  go_wp2
  (try simp only [Exit.inBlock, Exit.then])
  refine bodyPost_ret (results_none rfl _ _ _) rfl ?_
  exact ⟨rfl, hP1.now⟩
set_option maxRecDepth 100000 in
set_option maxHeartbeats 4000000 in
theorem blk36_1 (w : World) (h : RfAt w N g p t s ov) (kd pl n : Int) (q : Nat) (h1 : 3 ≤ q) (h4 : q ≤ 4) (h0 : 0 ≤ pl) (hk : pl + 1 ≤ 64) (hv : s.v = 1) (hg : gtV s q pl 1 = 0) :
    Calls Try.prog 55 #[.pointer (some ⟨g, 0, none⟩), insV ⟨36, kd, q, pl, n⟩] w fun e w' => e = .returned (.tuple #[]) ∧ RNow N g p t (ptV ⟨s.A, s.kd, 1, s.op, s.z⟩ q pl 1 1) ov w w' ov := by
  have HG := Lib.hid (rGetA w h q pl 1 (by omega) (by omega) h0 (by rw [show szI 1 = 1 from rfl]; omega))
  rw [hg] at HG
  have HP := Lib.hid (fun W (h : RfAt W N g p t ⟨s.A, s.kd, 1, s.op, s.z⟩ ov) => rPutR_any W h q pl 1 1 (by omega) (by omega) h0 (by rw [show szI 1 = 1 from rfl]; omega) (by decide) (by omega) (by omega))
  generalize ptV ⟨s.A, s.kd, 1, s.op, s.z⟩ q pl 1 1 = s' at *
  obtain ⟨hne, hov⟩ := own_newR h
  have HR := Lib.hid (Rn.new2 h ⟨36, kd, q, pl, n⟩ 54 0)
  have HST := Lib.hid (fun W (h : RfAt W N g p t ⟨s.A, s.kd, 0, s.op, s.z⟩ ov) => strA h (q := q) (by omega) h4)
  replace hne := Lib.hid hne
  replace hov := Lib.hid hov
  have cv := h.val
  have fv := h.free 6
  have hlt := h.lt
  have hq : (q : Int) < 5 := by omega
  rw [hv] at cv
  dsimp only at HST
  generalize hT : S (arL s.A q) = T at *
  clear h h1 h4 h0 hk hv hg
  unfold insV
  go_enter Try.func55, Try.ntmps55
  go_wp2_with fail
  refine world_cutR (G := fun W => Code.wp _ _ _ _ W) (fun W => Rn N g p t ⟨s.A, s.kd, 0, s.op, s.z⟩ ov w w.heap.size ⟨36, kd, q, pl, n⟩ W ov) HR.out ?_
  rintro W hP1
  clear HR cv fv hlt
  generalize hbb : w.heap.size = b at *
  replace hbb := Lib.hid hbb
  obtain ⟨c0, c1, c2, c3, c4⟩ := rn5 hP1
  have d6 := hP1.now.at_.val
  have d12 := hP1.now.at_.psd
  have f6 := hP1.now.at_.free 6
  have l6 := hP1.now.at_.lt
  dsimp only at c0 c1 c2 c3 c4 d6
  have ds := HST.out _ hP1.now.at_
  have hP2 := hP1.drew
  clear hP1
  have hP1 := hP2
  clear hP2
  go_wp2_with fail
  go_region_held3 (fun W' => W'.cell? ⟨b, 1, none⟩ = some (.int .i64 kd) ∧ W'.cell? ⟨b, 2, none⟩ = some (.int .i64 q) ∧ W'.cell? ⟨b, 3, none⟩ = some (.int .i64 pl) ∧ W'.cell? ⟨b, 4, none⟩ = some (.int .i64 n) ∧ W'.cell? ⟨g, q, none⟩ = some (.string T)) (exact ⟨hP1.bi.2.1, hP1.bi.2.2.1, hP1.bi.2.2.2.1, hP1.bi.2.2.2.2, HST.out _ hP1.now.at_⟩)
      ((first | (go_at_call 70; (with_reducible refine (HG.out _).mono ?_); rintro e w1 ⟨rfl, hb1⟩; have hP2 := hP1.next hb1; clear hb1 hP1; have hP1 := hP2; clear hP2)))
  clear c0 c1 c2 c3 c4 d6 d12 f6 l6
  clear ds
  obtain ⟨c0, c1, c2, c3, c4⟩ := rn5 hP1
  have d6 := hP1.now.at_.val
  have d12 := hP1.now.at_.psd
  have f6 := hP1.now.at_.free 6
  have l6 := hP1.now.at_.lt
  dsimp only at c0 c1 c2 c3 c4 d6
  replace hP1 := Lib.hid hP1
  go_wp2_with fail
  replace hP1 := hP1.out
  have hP2 := hP1.value hne.out hov.out 1
  clear hP1
  have hP1 := hP2
  clear hP2
  with_reducible refine (HP.out _ hP1.now.at_).mono ?_
  rintro e w1 ⟨rfl, hb1⟩
  have hP2 := hP1.step hb1 hne.out hov.out
  clear hb1 hP1
  have hP1 := hP2
  clear hP2
  go_wp2
  (try simp only [Exit.inBlock, Exit.then])
  refine bodyPost_ret (results_none rfl _ _ _) rfl ?_
  exact ⟨rfl, hP1.now⟩
set_option maxRecDepth 100000 in
set_option maxHeartbeats 4000000 in
theorem blk36_2 (w : World) (h : RfAt w N g p t s ov) (kd pl n : Int) (q : Nat) (h1 : 3 ≤ q) (h4 : q ≤ 4) (h0 : 0 ≤ pl) (hk : pl + 1 ≤ 64) (hv : s.v = 1) (hg : (gtV s q pl 1 == 0) = false) :
    Calls Try.prog 55 #[.pointer (some ⟨g, 0, none⟩), insV ⟨36, kd, q, pl, n⟩] w fun e w' => e = .returned (.tuple #[]) ∧ RNow N g p t (ptV ⟨s.A, s.kd, 0, s.op, s.z⟩ q pl 1 1) ov w w' ov := by
  have HG := Lib.hid (rGetA w h q pl 1 (by omega) (by omega) h0 (by rw [show szI 1 = 1 from rfl]; omega))
  generalize gtV s q pl 1 = G at *
  have HP := Lib.hid (fun W (h : RfAt W N g p t ⟨s.A, s.kd, 0, s.op, s.z⟩ ov) => rPutR_any W h q pl 1 1 (by omega) (by omega) h0 (by rw [show szI 1 = 1 from rfl]; omega) (by decide) (by omega) (by omega))
  generalize ptV ⟨s.A, s.kd, 0, s.op, s.z⟩ q pl 1 1 = s' at *
  obtain ⟨hne, hov⟩ := own_newR h
  have HR := Lib.hid (Rn.new2 h ⟨36, kd, q, pl, n⟩ 54 0)
  have HST := Lib.hid (fun W (h : RfAt W N g p t ⟨s.A, s.kd, 0, s.op, s.z⟩ ov) => strA h (q := q) (by omega) h4)
  replace hne := Lib.hid hne
  replace hov := Lib.hid hov
  have cv := h.val
  have fv := h.free 6
  have hlt := h.lt
  have hq : (q : Int) < 5 := by omega
  rw [hv] at cv
  dsimp only at HST
  generalize hT : S (arL s.A q) = T at *
  clear h h1 h4 h0 hk hv
  unfold insV
  go_enter Try.func55, Try.ntmps55
  go_wp2_with fail
  refine world_cutR (G := fun W => Code.wp _ _ _ _ W) (fun W => Rn N g p t ⟨s.A, s.kd, 0, s.op, s.z⟩ ov w w.heap.size ⟨36, kd, q, pl, n⟩ W ov) HR.out ?_
  rintro W hP1
  clear HR cv fv hlt
  generalize hbb : w.heap.size = b at *
  replace hbb := Lib.hid hbb
  obtain ⟨c0, c1, c2, c3, c4⟩ := rn5 hP1
  have d6 := hP1.now.at_.val
  have d12 := hP1.now.at_.psd
  have f6 := hP1.now.at_.free 6
  have l6 := hP1.now.at_.lt
  dsimp only at c0 c1 c2 c3 c4 d6
  have ds := HST.out _ hP1.now.at_
  have hP2 := hP1.drew
  clear hP1
  have hP1 := hP2
  clear hP2
  go_wp2_with fail
  go_region_held3 (fun W' => W'.cell? ⟨b, 1, none⟩ = some (.int .i64 kd) ∧ W'.cell? ⟨b, 2, none⟩ = some (.int .i64 q) ∧ W'.cell? ⟨b, 3, none⟩ = some (.int .i64 pl) ∧ W'.cell? ⟨b, 4, none⟩ = some (.int .i64 n) ∧ W'.cell? ⟨g, q, none⟩ = some (.string T)) (exact ⟨hP1.bi.2.1, hP1.bi.2.2.1, hP1.bi.2.2.2.1, hP1.bi.2.2.2.2, HST.out _ hP1.now.at_⟩)
      ((first | (go_at_call 70; (with_reducible refine (HG.out _).mono ?_); rintro e w1 ⟨rfl, hb1⟩; have hP2 := hP1.next hb1; clear hb1 hP1; have hP1 := hP2; clear hP2)))
  clear c0 c1 c2 c3 c4 d6 d12 f6 l6
  clear ds
  obtain ⟨c0, c1, c2, c3, c4⟩ := rn5 hP1
  have d6 := hP1.now.at_.val
  have d12 := hP1.now.at_.psd
  have f6 := hP1.now.at_.free 6
  have l6 := hP1.now.at_.lt
  dsimp only at c0 c1 c2 c3 c4 d6
  replace hP1 := Lib.hid hP1
  go_wp2_with fail
  replace hP1 := hP1.out
  with_reducible refine (HP.out _ hP1.now.at_).mono ?_
  rintro e w1 ⟨rfl, hb1⟩
  have hP2 := hP1.step hb1 hne.out hov.out
  clear hb1 hP1
  have hP1 := hP2
  clear hP2
  go_wp2
  (try simp only [Exit.inBlock, Exit.then])
  refine bodyPost_ret (results_none rfl _ _ _) rfl ?_
  exact ⟨rfl, hP1.now⟩
set_option maxRecDepth 100000 in
set_option maxHeartbeats 4000000 in
theorem blk34_0 (w : World) (h : RfAt w N g p t s ov) (kd pl n : Int) (q : Nat) (h1 : 3 ≤ q) (h4 : q ≤ 4) (h0 : 0 ≤ pl) (hk : pl ≤ 59) (hn1 : 1 ≤ n) (hv : s.v = 0) :
    Calls Try.prog 55 #[.pointer (some ⟨g, 0, none⟩), insV ⟨34, kd, q, pl, n⟩] w fun e w' => e = .returned (.tuple #[]) ∧ RNow N g p t (ptV ⟨s.A, s.kd, 0, s.op, s.z⟩ q pl 7 0) ov w w' ov := by
  have hd := dw_bdR (arL s.A q) pl.toNat
  have hgd : gtV s q pl 7 = getL (arL s.A q) pl.toNat 7 := rfl
  rw [← hgd] at hd
  have HG := Lib.hid (rGetA w h q pl 7 (by omega) (by omega) h0 (by rw [show szI 7 = 4 from rfl]; omega))
  generalize gtV s q pl 7 = G at *
  have HP := Lib.hid (fun W (h : RfAt W N g p t (⟨s.A, s.kd, 0, s.op, s.z⟩) ov) => rPutR_any W h q pl 7 (0) (by omega) (by omega) (by omega) (by rw [show szI 7 = 4 from rfl]; omega) (by decide) (by omega) (by omega))
  generalize ptV ⟨s.A, s.kd, 0, s.op, s.z⟩ q pl 7 0 = s' at *
  obtain ⟨hne, hov⟩ := own_newR h
  have HR := Lib.hid (Rn.new2 h ⟨34, kd, q, pl, n⟩ 54 0)
  have HST := Lib.hid (fun W (h : RfAt W N g p t ⟨s.A, s.kd, 0, s.op, s.z⟩ ov) => strA h (q := q) (by omega) h4)
  replace hne := Lib.hid hne
  replace hov := Lib.hid hov
  have cv := h.val
  have fv := h.free 6
  have hlt := h.lt
  have hq : (q : Int) < 5 := by omega
  rw [hv] at cv
  dsimp only at HST
  generalize hT : S (arL s.A q) = T at *
  clear h h1 h4 h0 hk hv hd hgd
  unfold insV
  go_enter Try.func55, Try.ntmps55
  go_wp2_with fail
  refine world_cutR (G := fun W => Code.wp _ _ _ _ W) (fun W => Rn N g p t ⟨s.A, s.kd, 0, s.op, s.z⟩ ov w w.heap.size ⟨34, kd, q, pl, n⟩ W ov) HR.out ?_
  rintro W hP1
  clear HR cv fv hlt
  generalize hbb : w.heap.size = b at *
  replace hbb := Lib.hid hbb
  obtain ⟨c0, c1, c2, c3, c4⟩ := rn5 hP1
  have d6 := hP1.now.at_.val
  have d12 := hP1.now.at_.psd
  have f6 := hP1.now.at_.free 6
  have l6 := hP1.now.at_.lt
  dsimp only at c0 c1 c2 c3 c4 d6
  have ds := HST.out _ hP1.now.at_
  have hP2 := hP1.drew
  clear hP1
  have hP1 := hP2
  clear hP2
  go_wp2_with fail
  go_region_held3 (fun W' => W'.cell? ⟨b, 1, none⟩ = some (.int .i64 kd) ∧ W'.cell? ⟨b, 2, none⟩ = some (.int .i64 q) ∧ W'.cell? ⟨b, 3, none⟩ = some (.int .i64 pl) ∧ W'.cell? ⟨b, 4, none⟩ = some (.int .i64 n) ∧ W'.cell? ⟨g, q, none⟩ = some (.string T)) (exact ⟨hP1.bi.2.1, hP1.bi.2.2.1, hP1.bi.2.2.2.1, hP1.bi.2.2.2.2, HST.out _ hP1.now.at_⟩)
      ((first | (go_at_call 70; (with_reducible refine (HG.out _).mono ?_); rintro e w1 ⟨rfl, hb1⟩; have hP2 := hP1.next hb1; clear hb1 hP1; have hP1 := hP2; clear hP2)))
  clear c0 c1 c2 c3 c4 d6 d12 f6 l6
  clear ds
  obtain ⟨c0, c1, c2, c3, c4⟩ := rn5 hP1
  have d6 := hP1.now.at_.val
  have d12 := hP1.now.at_.psd
  have f6 := hP1.now.at_.free 6
  have l6 := hP1.now.at_.lt
  dsimp only at c0 c1 c2 c3 c4 d6
  replace hP1 := Lib.hid hP1
  go_wp2_with fail
  replace hP1 := hP1.out
  with_reducible refine (HP.out _ hP1.now.at_).mono ?_
  rintro e w1 ⟨rfl, hb1⟩
  have hP2 := hP1.step hb1 hne.out hov.out
  clear hb1 hP1
  have hP1 := hP2
  clear hP2
  obtain ⟨c0, c1, c2, c3, c4⟩ := rn5 hP1
  have d6 := hP1.now.at_.val
  have d12 := hP1.now.at_.psd
  have f6 := hP1.now.at_.free 6
  have l6 := hP1.now.at_.lt
  dsimp only at c0 c1 c2 c3 c4 d6
  go_wp2
  go_end0
  exact ⟨rfl, hP1.now⟩
set_option maxRecDepth 100000 in
set_option maxHeartbeats 4000000 in
theorem blk34_1 (w : World) (h : RfAt w N g p t s ov) (kd pl n : Int) (q : Nat) (h1 : 3 ≤ q) (h4 : q ≤ 4) (h0 : 0 ≤ pl) (hk : pl ≤ 59) (hn1 : 1 ≤ n) (hn2 : n ≤ 9999) (hp0 : 0 ≤ p) (hp1 : p ≤ 10000) (hv : s.v = 1) (hm : n < gtV s q pl 7 + p) :
    Calls Try.prog 55 #[.pointer (some ⟨g, 0, none⟩), insV ⟨34, kd, q, pl, n⟩] w fun e w' => e = .returned (.tuple #[]) ∧ RNow N g p t (⟨(ptV ⟨s.A, s.kd, 0, s.op, s.z⟩ q pl 7 (n)).A, (ptV ⟨s.A, s.kd, 0, s.op, s.z⟩ q pl 7 (n)).kd, 1, (ptV ⟨s.A, s.kd, 0, s.op, s.z⟩ q pl 7 (n)).op, (ptV ⟨s.A, s.kd, 0, s.op, s.z⟩ q pl 7 (n)).z⟩) ov w w' ov := by
  have _u := And.intro hp0 (And.intro hp1 hm)
  clear _u
  have hd := dw_bdR (arL s.A q) pl.toNat
  have hgd : gtV s q pl 7 = getL (arL s.A q) pl.toNat 7 := rfl
  rw [← hgd] at hd
  have HG := Lib.hid (rGetA w h q pl 7 (by omega) (by omega) h0 (by rw [show szI 7 = 4 from rfl]; omega))
  have hsum : IntKind.i64.wrap (gtV s q pl 7 + p) = gtV s q pl 7 + p := by rw [IntKind.wrap_i64]; omega
  have HP := Lib.hid (fun W (h : RfAt W N g p t (⟨s.A, s.kd, 0, s.op, s.z⟩) ov) => rPutR_any W h q pl 7 (n) (by omega) (by omega) (by omega) (by rw [show szI 7 = 4 from rfl]; omega) (by decide) (by omega) (by omega))
  generalize ptV ⟨s.A, s.kd, 0, s.op, s.z⟩ q pl 7 (n) = s' at *
  generalize gtV s q pl 7 = G at *
  obtain ⟨hne, hov⟩ := own_newR h
  have HR := Lib.hid (Rn.new2 h ⟨34, kd, q, pl, n⟩ 54 0)
  have HST := Lib.hid (fun W (h : RfAt W N g p t ⟨s.A, s.kd, 0, s.op, s.z⟩ ov) => strA h (q := q) (by omega) h4)
  replace hne := Lib.hid hne
  replace hov := Lib.hid hov
  have cv := h.val
  have fv := h.free 6
  have hlt := h.lt
  have hq : (q : Int) < 5 := by omega
  rw [hv] at cv
  dsimp only at HST
  generalize hT : S (arL s.A q) = T at *
  clear h h1 h4 h0 hk hv hd hgd hn1 hn2 hp0 hp1
  unfold insV
  go_enter Try.func55, Try.ntmps55
  go_wp2_with fail
  refine world_cutR (G := fun W => Code.wp _ _ _ _ W) (fun W => Rn N g p t ⟨s.A, s.kd, 0, s.op, s.z⟩ ov w w.heap.size ⟨34, kd, q, pl, n⟩ W ov) HR.out ?_
  rintro W hP1
  clear HR cv fv hlt
  generalize hbb : w.heap.size = b at *
  replace hbb := Lib.hid hbb
  obtain ⟨c0, c1, c2, c3, c4⟩ := rn5 hP1
  have d6 := hP1.now.at_.val
  have d12 := hP1.now.at_.psd
  have f6 := hP1.now.at_.free 6
  have l6 := hP1.now.at_.lt
  dsimp only at c0 c1 c2 c3 c4 d6
  have ds := HST.out _ hP1.now.at_
  have hP2 := hP1.drew
  clear hP1
  have hP1 := hP2
  clear hP2
  go_wp2_with fail
  go_region_held3 (fun W' => W'.cell? ⟨b, 1, none⟩ = some (.int .i64 kd) ∧ W'.cell? ⟨b, 2, none⟩ = some (.int .i64 q) ∧ W'.cell? ⟨b, 3, none⟩ = some (.int .i64 pl) ∧ W'.cell? ⟨b, 4, none⟩ = some (.int .i64 n) ∧ W'.cell? ⟨g, q, none⟩ = some (.string T)) (exact ⟨hP1.bi.2.1, hP1.bi.2.2.1, hP1.bi.2.2.2.1, hP1.bi.2.2.2.2, HST.out _ hP1.now.at_⟩)
      ((first | (go_at_call 70; (with_reducible refine (HG.out _).mono ?_); rintro e w1 ⟨rfl, hb1⟩; have hP2 := hP1.next hb1; clear hb1 hP1; have hP1 := hP2; clear hP2)))
  clear c0 c1 c2 c3 c4 d6 d12 f6 l6
  clear ds
  obtain ⟨c0, c1, c2, c3, c4⟩ := rn5 hP1
  have d6 := hP1.now.at_.val
  have d12 := hP1.now.at_.psd
  have f6 := hP1.now.at_.free 6
  have l6 := hP1.now.at_.lt
  dsimp only at c0 c1 c2 c3 c4 d6
  go_wp2_with fail
  have hP2 := hP1.drew
  clear hP1
  have hP1 := hP2
  clear hP2
  go_region_held3 (fun W' => W'.cell? ⟨b, 4, none⟩ = some (.int .i64 n) ∧ W'.cell? ⟨g, 12, none⟩ = some (.int .i64 p)) (exact ⟨hP1.bi.2.2.2.2, hP1.now.at_.psd⟩)
      ((first | fail))
  clear c0 c1 c2 c3 c4 d6 d12 f6 l6
  obtain ⟨c0, c1, c2, c3, c4⟩ := rn5 hP1
  have d6 := hP1.now.at_.val
  have d12 := hP1.now.at_.psd
  have f6 := hP1.now.at_.free 6
  have l6 := hP1.now.at_.lt
  dsimp only at c0 c1 c2 c3 c4 d6
  replace hP1 := Lib.hid hP1
  go_wp2_with fail
  replace hP1 := hP1.out
  with_reducible refine (HP.out _ hP1.now.at_).mono ?_
  rintro e w1 ⟨rfl, hb1⟩
  have hP2 := hP1.step hb1 hne.out hov.out
  clear hb1 hP1
  have hP1 := hP2
  clear hP2
  obtain ⟨c0, c1, c2, c3, c4⟩ := rn5 hP1
  have d6 := hP1.now.at_.val
  have d12 := hP1.now.at_.psd
  have f6 := hP1.now.at_.free 6
  have l6 := hP1.now.at_.lt
  dsimp only at c0 c1 c2 c3 c4 d6
  have hP2 := hP1.value hne.out hov.out 1
  clear hP1
  have hP1 := hP2
  clear hP2
  go_wp2
  go_end0
  exact ⟨rfl, hP1.now⟩
set_option maxRecDepth 100000 in
set_option maxHeartbeats 4000000 in
theorem blk34_2 (w : World) (h : RfAt w N g p t s ov) (kd pl n : Int) (q : Nat) (h1 : 3 ≤ q) (h4 : q ≤ 4) (h0 : 0 ≤ pl) (hk : pl ≤ 59) (hn1 : 1 ≤ n) (hn2 : n ≤ 9999) (hp0 : 0 ≤ p) (hp1 : p ≤ 10000) (hv : s.v = 1) (hm : ¬ n < gtV s q pl 7 + p) (hm2 : n ≤ gtV s q pl 7 + p) :
    Calls Try.prog 55 #[.pointer (some ⟨g, 0, none⟩), insV ⟨34, kd, q, pl, n⟩] w fun e w' => e = .returned (.tuple #[]) ∧ RNow N g p t (⟨(ptV ⟨s.A, s.kd, 0, s.op, s.z⟩ q pl 7 (gtV s q pl 7 + p)).A, (ptV ⟨s.A, s.kd, 0, s.op, s.z⟩ q pl 7 (gtV s q pl 7 + p)).kd, 1, (ptV ⟨s.A, s.kd, 0, s.op, s.z⟩ q pl 7 (gtV s q pl 7 + p)).op, (ptV ⟨s.A, s.kd, 0, s.op, s.z⟩ q pl 7 (gtV s q pl 7 + p)).z⟩) ov w w' ov := by
  have _u := And.intro hp0 (And.intro hp1 hm)
  clear _u
  have hd := dw_bdR (arL s.A q) pl.toNat
  have hgd : gtV s q pl 7 = getL (arL s.A q) pl.toNat 7 := rfl
  rw [← hgd] at hd
  have HG := Lib.hid (rGetA w h q pl 7 (by omega) (by omega) h0 (by rw [show szI 7 = 4 from rfl]; omega))
  have hsum : IntKind.i64.wrap (gtV s q pl 7 + p) = gtV s q pl 7 + p := by rw [IntKind.wrap_i64]; omega
  have HP := Lib.hid (fun W (h : RfAt W N g p t (⟨s.A, s.kd, 0, s.op, s.z⟩) ov) => rPutR_any W h q pl 7 (gtV s q pl 7 + p) (by omega) (by omega) (by omega) (by rw [show szI 7 = 4 from rfl]; omega) (by decide) (by omega) (by omega))
  generalize ptV ⟨s.A, s.kd, 0, s.op, s.z⟩ q pl 7 (gtV s q pl 7 + p) = s' at *
  generalize gtV s q pl 7 = G at *
  have hm' : (n < G + p) = False := by simp; omega
  obtain ⟨hne, hov⟩ := own_newR h
  have HR := Lib.hid (Rn.new2 h ⟨34, kd, q, pl, n⟩ 54 0)
  have HST := Lib.hid (fun W (h : RfAt W N g p t ⟨s.A, s.kd, 0, s.op, s.z⟩ ov) => strA h (q := q) (by omega) h4)
  replace hne := Lib.hid hne
  replace hov := Lib.hid hov
  have cv := h.val
  have fv := h.free 6
  have hlt := h.lt
  have hq : (q : Int) < 5 := by omega
  rw [hv] at cv
  dsimp only at HST
  generalize hT : S (arL s.A q) = T at *
  clear h h1 h4 h0 hk hv hd hgd hn1 hn2 hp0 hp1
  unfold insV
  go_enter Try.func55, Try.ntmps55
  go_wp2_with fail
  refine world_cutR (G := fun W => Code.wp _ _ _ _ W) (fun W => Rn N g p t ⟨s.A, s.kd, 0, s.op, s.z⟩ ov w w.heap.size ⟨34, kd, q, pl, n⟩ W ov) HR.out ?_
  rintro W hP1
  clear HR cv fv hlt
  generalize hbb : w.heap.size = b at *
  replace hbb := Lib.hid hbb
  obtain ⟨c0, c1, c2, c3, c4⟩ := rn5 hP1
  have d6 := hP1.now.at_.val
  have d12 := hP1.now.at_.psd
  have f6 := hP1.now.at_.free 6
  have l6 := hP1.now.at_.lt
  dsimp only at c0 c1 c2 c3 c4 d6
  have ds := HST.out _ hP1.now.at_
  have hP2 := hP1.drew
  clear hP1
  have hP1 := hP2
  clear hP2
  go_wp2_with fail
  go_region_held3 (fun W' => W'.cell? ⟨b, 1, none⟩ = some (.int .i64 kd) ∧ W'.cell? ⟨b, 2, none⟩ = some (.int .i64 q) ∧ W'.cell? ⟨b, 3, none⟩ = some (.int .i64 pl) ∧ W'.cell? ⟨b, 4, none⟩ = some (.int .i64 n) ∧ W'.cell? ⟨g, q, none⟩ = some (.string T)) (exact ⟨hP1.bi.2.1, hP1.bi.2.2.1, hP1.bi.2.2.2.1, hP1.bi.2.2.2.2, HST.out _ hP1.now.at_⟩)
      ((first | (go_at_call 70; (with_reducible refine (HG.out _).mono ?_); rintro e w1 ⟨rfl, hb1⟩; have hP2 := hP1.next hb1; clear hb1 hP1; have hP1 := hP2; clear hP2)))
  clear c0 c1 c2 c3 c4 d6 d12 f6 l6
  clear ds
  obtain ⟨c0, c1, c2, c3, c4⟩ := rn5 hP1
  have d6 := hP1.now.at_.val
  have d12 := hP1.now.at_.psd
  have f6 := hP1.now.at_.free 6
  have l6 := hP1.now.at_.lt
  dsimp only at c0 c1 c2 c3 c4 d6
  go_wp2_with fail
  have hP2 := hP1.drew
  clear hP1
  have hP1 := hP2
  clear hP2
  go_region_held3 (fun W' => W'.cell? ⟨b, 4, none⟩ = some (.int .i64 n) ∧ W'.cell? ⟨g, 12, none⟩ = some (.int .i64 p)) (exact ⟨hP1.bi.2.2.2.2, hP1.now.at_.psd⟩)
      ((first | fail))
  clear c0 c1 c2 c3 c4 d6 d12 f6 l6
  obtain ⟨c0, c1, c2, c3, c4⟩ := rn5 hP1
  have d6 := hP1.now.at_.val
  have d12 := hP1.now.at_.psd
  have f6 := hP1.now.at_.free 6
  have l6 := hP1.now.at_.lt
  dsimp only at c0 c1 c2 c3 c4 d6
  replace hP1 := Lib.hid hP1
  go_wp2_with fail
  replace hP1 := hP1.out
  with_reducible refine (HP.out _ hP1.now.at_).mono ?_
  rintro e w1 ⟨rfl, hb1⟩
  have hP2 := hP1.step hb1 hne.out hov.out
  clear hb1 hP1
  have hP1 := hP2
  clear hP2
  obtain ⟨c0, c1, c2, c3, c4⟩ := rn5 hP1
  have d6 := hP1.now.at_.val
  have d12 := hP1.now.at_.psd
  have f6 := hP1.now.at_.free 6
  have l6 := hP1.now.at_.lt
  dsimp only at c0 c1 c2 c3 c4 d6
  have hP2 := hP1.value hne.out hov.out 1
  clear hP1
  have hP1 := hP2
  clear hP2
  go_wp2
  go_end0
  exact ⟨rfl, hP1.now⟩
set_option maxRecDepth 100000 in
set_option maxHeartbeats 4000000 in
theorem blk34_3 (w : World) (h : RfAt w N g p t s ov) (kd pl n : Int) (q : Nat) (h1 : 3 ≤ q) (h4 : q ≤ 4) (h0 : 0 ≤ pl) (hk : pl ≤ 59) (hn1 : 1 ≤ n) (hn2 : n ≤ 9999) (hp0 : 0 ≤ p) (hp1 : p ≤ 10000) (hv : s.v = 1) (hm : ¬ n < gtV s q pl 7 + p) (hm2 : ¬ n ≤ gtV s q pl 7 + p) :
    Calls Try.prog 55 #[.pointer (some ⟨g, 0, none⟩), insV ⟨34, kd, q, pl, n⟩] w fun e w' => e = .returned (.tuple #[]) ∧ RNow N g p t (ptV ⟨s.A, s.kd, 0, s.op, s.z⟩ q pl 7 (gtV s q pl 7 + p)) ov w w' ov := by
  have _u := And.intro hp0 (And.intro hp1 hm)
  clear _u
  have hd := dw_bdR (arL s.A q) pl.toNat
  have hgd : gtV s q pl 7 = getL (arL s.A q) pl.toNat 7 := rfl
  rw [← hgd] at hd
  have HG := Lib.hid (rGetA w h q pl 7 (by omega) (by omega) h0 (by rw [show szI 7 = 4 from rfl]; omega))
  have hsum : IntKind.i64.wrap (gtV s q pl 7 + p) = gtV s q pl 7 + p := by rw [IntKind.wrap_i64]; omega
  have HP := Lib.hid (fun W (h : RfAt W N g p t (⟨s.A, s.kd, 0, s.op, s.z⟩) ov) => rPutR_any W h q pl 7 (gtV s q pl 7 + p) (by omega) (by omega) (by omega) (by rw [show szI 7 = 4 from rfl]; omega) (by decide) (by omega) (by omega))
  generalize ptV ⟨s.A, s.kd, 0, s.op, s.z⟩ q pl 7 (gtV s q pl 7 + p) = s' at *
  generalize gtV s q pl 7 = G at *
  have hm' : (n < G + p) = False := by simp; omega
  have hm3 : (n ≤ G + p) = False := by simp; omega
  clear hm2
  obtain ⟨hne, hov⟩ := own_newR h
  have HR := Lib.hid (Rn.new2 h ⟨34, kd, q, pl, n⟩ 54 0)
  have HST := Lib.hid (fun W (h : RfAt W N g p t ⟨s.A, s.kd, 0, s.op, s.z⟩ ov) => strA h (q := q) (by omega) h4)
  replace hne := Lib.hid hne
  replace hov := Lib.hid hov
  have cv := h.val
  have fv := h.free 6
  have hlt := h.lt
  have hq : (q : Int) < 5 := by omega
  rw [hv] at cv
  dsimp only at HST
  generalize hT : S (arL s.A q) = T at *
  clear h h1 h4 h0 hk hv hd hgd hn1 hn2 hp0 hp1
  unfold insV
  go_enter Try.func55, Try.ntmps55
  go_wp2_with fail
  refine world_cutR (G := fun W => Code.wp _ _ _ _ W) (fun W => Rn N g p t ⟨s.A, s.kd, 0, s.op, s.z⟩ ov w w.heap.size ⟨34, kd, q, pl, n⟩ W ov) HR.out ?_
  rintro W hP1
  clear HR cv fv hlt
  generalize hbb : w.heap.size = b at *
  replace hbb := Lib.hid hbb
  obtain ⟨c0, c1, c2, c3, c4⟩ := rn5 hP1
  have d6 := hP1.now.at_.val
  have d12 := hP1.now.at_.psd
  have f6 := hP1.now.at_.free 6
  have l6 := hP1.now.at_.lt
  dsimp only at c0 c1 c2 c3 c4 d6
  have ds := HST.out _ hP1.now.at_
  have hP2 := hP1.drew
  clear hP1
  have hP1 := hP2
  clear hP2
  go_wp2_with fail
  go_region_held3 (fun W' => W'.cell? ⟨b, 1, none⟩ = some (.int .i64 kd) ∧ W'.cell? ⟨b, 2, none⟩ = some (.int .i64 q) ∧ W'.cell? ⟨b, 3, none⟩ = some (.int .i64 pl) ∧ W'.cell? ⟨b, 4, none⟩ = some (.int .i64 n) ∧ W'.cell? ⟨g, q, none⟩ = some (.string T)) (exact ⟨hP1.bi.2.1, hP1.bi.2.2.1, hP1.bi.2.2.2.1, hP1.bi.2.2.2.2, HST.out _ hP1.now.at_⟩)
      ((first | (go_at_call 70; (with_reducible refine (HG.out _).mono ?_); rintro e w1 ⟨rfl, hb1⟩; have hP2 := hP1.next hb1; clear hb1 hP1; have hP1 := hP2; clear hP2)))
  clear c0 c1 c2 c3 c4 d6 d12 f6 l6
  clear ds
  obtain ⟨c0, c1, c2, c3, c4⟩ := rn5 hP1
  have d6 := hP1.now.at_.val
  have d12 := hP1.now.at_.psd
  have f6 := hP1.now.at_.free 6
  have l6 := hP1.now.at_.lt
  dsimp only at c0 c1 c2 c3 c4 d6
  go_wp2_with fail
  have hP2 := hP1.drew
  clear hP1
  have hP1 := hP2
  clear hP2
  go_region_held3 (fun W' => W'.cell? ⟨b, 4, none⟩ = some (.int .i64 n) ∧ W'.cell? ⟨g, 12, none⟩ = some (.int .i64 p)) (exact ⟨hP1.bi.2.2.2.2, hP1.now.at_.psd⟩)
      ((first | fail))
  clear c0 c1 c2 c3 c4 d6 d12 f6 l6
  obtain ⟨c0, c1, c2, c3, c4⟩ := rn5 hP1
  have d6 := hP1.now.at_.val
  have d12 := hP1.now.at_.psd
  have f6 := hP1.now.at_.free 6
  have l6 := hP1.now.at_.lt
  dsimp only at c0 c1 c2 c3 c4 d6
  replace hP1 := Lib.hid hP1
  go_wp2_with fail
  replace hP1 := hP1.out
  with_reducible refine (HP.out _ hP1.now.at_).mono ?_
  rintro e w1 ⟨rfl, hb1⟩
  have hP2 := hP1.step hb1 hne.out hov.out
  clear hb1 hP1
  have hP1 := hP2
  clear hP2
  obtain ⟨c0, c1, c2, c3, c4⟩ := rn5 hP1
  have d6 := hP1.now.at_.val
  have d12 := hP1.now.at_.psd
  have f6 := hP1.now.at_.free 6
  have l6 := hP1.now.at_.lt
  dsimp only at c0 c1 c2 c3 c4 d6
  go_wp2
  go_end0
  exact ⟨rfl, hP1.now⟩
set_option maxRecDepth 100000 in
set_option maxHeartbeats 4000000 in
theorem blk35_a1 (w : World) (h : RfAt w N g p t s ov) (kd pl n : Int) (q : Nat) (h1 : 3 ≤ q) (h4 : q ≤ 4) (h0 : 0 ≤ pl) (hk : pl ≤ 59) (hn1 : 1 ≤ n) (hn2 : n ≤ 9999) (hv : s.v = 1) (hg : gtV s q (pl + 4) 1 = 0) (hm : n < gtV s q pl 7 + 1) :
    Calls Try.prog 55 #[.pointer (some ⟨g, 0, none⟩), insV ⟨35, kd, q, pl, n⟩] w fun e w' => e = .returned (.tuple #[]) ∧ RNow N g p t (⟨(ptV (ptV ⟨s.A, s.kd, 0, s.op, s.z⟩ q (pl + 4) 1 1) q pl 7 (n)).A, (ptV (ptV ⟨s.A, s.kd, 0, s.op, s.z⟩ q (pl + 4) 1 1) q pl 7 (n)).kd, 1, (ptV (ptV ⟨s.A, s.kd, 0, s.op, s.z⟩ q (pl + 4) 1 1) q pl 7 (n)).op, (ptV (ptV ⟨s.A, s.kd, 0, s.op, s.z⟩ q (pl + 4) 1 1) q pl 7 (n)).z⟩) ov w w' ov := by
  have _u := And.intro hn1 (And.intro hn2 hm)
  clear _u
  have hd := dw_bdR (arL s.A q) pl.toNat
  have hgd : gtV s q pl 7 = getL (arL s.A q) pl.toNat 7 := rfl
  rw [← hgd] at hd
  have HG := Lib.hid (rGetA w h q pl 7 (by omega) (by omega) h0 (by rw [show szI 7 = 4 from rfl]; omega))
  have hpl : IntKind.i64.wrap (pl + 4) = pl + 4 := by rw [IntKind.wrap_i64]; omega
  have HG2 := Lib.hid (rGetA w h q (pl + 4) 1 (by omega) (by omega) (by omega) (by rw [show szI 1 = 1 from rfl]; omega))
  rw [hg] at HG2
  have HP1 := Lib.hid (fun W (h : RfAt W N g p t (⟨s.A, s.kd, 0, s.op, s.z⟩) ov) => rPutR_any W h q (pl + 4) 1 (1) (by omega) (by omega) (by omega) (by rw [show szI 1 = 1 from rfl]; omega) (by decide) (by omega) (by omega))
  generalize hs1 : ptV ⟨s.A, s.kd, 0, s.op, s.z⟩ q (pl + 4) 1 1 = s1 at *
  have HP2 := Lib.hid (fun W (h : RfAt W N g p t s1 ov) => rPutR_any W h q pl 7 (n) (by omega) (by omega) (by omega) (by rw [show szI 7 = 4 from rfl]; omega) (by decide) (by omega) (by omega))
  generalize ptV s1 q pl 7 (n) = s2 at *
  clear hs1
  have hsum : IntKind.i64.wrap (gtV s q pl 7 + 1) = gtV s q pl 7 + 1 := by rw [IntKind.wrap_i64]; omega
  generalize gtV s q pl 7 = G at *
  obtain ⟨hne, hov⟩ := own_newR h
  have HR := Lib.hid (Rn.new2 h ⟨35, kd, q, pl, n⟩ 54 0)
  have HST := Lib.hid (fun W (h : RfAt W N g p t ⟨s.A, s.kd, 0, s.op, s.z⟩ ov) => strA h (q := q) (by omega) h4)
  replace hne := Lib.hid hne
  replace hov := Lib.hid hov
  have cv := h.val
  have fv := h.free 6
  have hlt := h.lt
  have hq : (q : Int) < 5 := by omega
  rw [hv] at cv
  dsimp only at HST
  generalize hT : S (arL s.A q) = T at *
  clear h h1 h4 h0 hk hv hd hgd hn1 hn2 hg
  unfold insV
  go_enter Try.func55, Try.ntmps55
  go_wp2_with fail
  refine world_cutR (G := fun W => Code.wp _ _ _ _ W) (fun W => Rn N g p t ⟨s.A, s.kd, 0, s.op, s.z⟩ ov w w.heap.size ⟨35, kd, q, pl, n⟩ W ov) HR.out ?_
  rintro W hP1
  clear HR cv fv hlt
  generalize hbb : w.heap.size = b at *
  replace hbb := Lib.hid hbb
  obtain ⟨c0, c1, c2, c3, c4⟩ := rn5 hP1
  have d6 := hP1.now.at_.val
  have d12 := hP1.now.at_.psd
  have f6 := hP1.now.at_.free 6
  have l6 := hP1.now.at_.lt
  dsimp only at c0 c1 c2 c3 c4 d6
  have ds := HST.out _ hP1.now.at_
  have hP2 := hP1.drew
  clear hP1
  have hP1 := hP2
  clear hP2
  go_wp2_with fail
  go_region_held3 (fun W' => W'.cell? ⟨b, 1, none⟩ = some (.int .i64 kd) ∧ W'.cell? ⟨b, 2, none⟩ = some (.int .i64 q) ∧ W'.cell? ⟨b, 3, none⟩ = some (.int .i64 pl) ∧ W'.cell? ⟨b, 4, none⟩ = some (.int .i64 n) ∧ W'.cell? ⟨g, q, none⟩ = some (.string T)) (exact ⟨hP1.bi.2.1, hP1.bi.2.2.1, hP1.bi.2.2.2.1, hP1.bi.2.2.2.2, HST.out _ hP1.now.at_⟩)
      ((first | (go_at_call 70; (with_reducible refine (HG.out _).mono ?_); rintro e w1 ⟨rfl, hb1⟩; have hP2 := hP1.next hb1; clear hb1 hP1; have hP1 := hP2; clear hP2)))
  clear c0 c1 c2 c3 c4 d6 d12 f6 l6
  clear ds
  obtain ⟨c0, c1, c2, c3, c4⟩ := rn5 hP1
  have d6 := hP1.now.at_.val
  have d12 := hP1.now.at_.psd
  have f6 := hP1.now.at_.free 6
  have l6 := hP1.now.at_.lt
  dsimp only at c0 c1 c2 c3 c4 d6
  have ds := HST.out _ hP1.now.at_
  go_wp2_with fail
  have hP2 := hP1.drew
  clear hP1
  have hP1 := hP2
  clear hP2
  go_region_held3 (fun W' => W'.cell? ⟨b, 1, none⟩ = some (.int .i64 kd) ∧ W'.cell? ⟨b, 2, none⟩ = some (.int .i64 q) ∧ W'.cell? ⟨b, 3, none⟩ = some (.int .i64 pl) ∧ W'.cell? ⟨b, 4, none⟩ = some (.int .i64 n) ∧ W'.cell? ⟨g, q, none⟩ = some (.string T)) (exact ⟨hP1.bi.2.1, hP1.bi.2.2.1, hP1.bi.2.2.2.1, hP1.bi.2.2.2.2, HST.out _ hP1.now.at_⟩)
      ((first | (go_at_call 70; (with_reducible refine (HG2.out _).mono ?_); rintro e w1 ⟨rfl, hb1⟩; have hP2 := hP1.next hb1; clear hb1 hP1; have hP1 := hP2; clear hP2)))
  clear c0 c1 c2 c3 c4 d6 d12 f6 l6
  clear ds
  obtain ⟨c0, c1, c2, c3, c4⟩ := rn5 hP1
  have d6 := hP1.now.at_.val
  have d12 := hP1.now.at_.psd
  have f6 := hP1.now.at_.free 6
  have l6 := hP1.now.at_.lt
  dsimp only at c0 c1 c2 c3 c4 d6
  replace hP1 := Lib.hid hP1
  go_wp2_with fail
  replace hP1 := hP1.out
  with_reducible refine (HP1.out _ hP1.now.at_).mono ?_
  rintro e w1 ⟨rfl, hb1⟩
  have hP2 := hP1.step hb1 hne.out hov.out
  clear hb1 hP1
  have hP1 := hP2
  clear hP2
  clear c0 c1 c2 c3 c4 d6 d12 f6 l6
  obtain ⟨c0, c1, c2, c3, c4⟩ := rn5 hP1
  have d6 := hP1.now.at_.val
  have d12 := hP1.now.at_.psd
  have f6 := hP1.now.at_.free 6
  have l6 := hP1.now.at_.lt
  dsimp only at c0 c1 c2 c3 c4 d6
  replace hP1 := Lib.hid hP1
  go_wp2_with fail
  replace hP1 := hP1.out
  with_reducible refine (HP2.out _ hP1.now.at_).mono ?_
  rintro e w1 ⟨rfl, hb1⟩
  have hP2 := hP1.step hb1 hne.out hov.out
  clear hb1 hP1
  have hP1 := hP2
  clear hP2
  clear c0 c1 c2 c3 c4 d6 d12 f6 l6
  obtain ⟨c0, c1, c2, c3, c4⟩ := rn5 hP1
  have d6 := hP1.now.at_.val
  have d12 := hP1.now.at_.psd
  have f6 := hP1.now.at_.free 6
  have l6 := hP1.now.at_.lt
  dsimp only at c0 c1 c2 c3 c4 d6
  have hP2 := hP1.value hne.out hov.out 1
  clear hP1
  have hP1 := hP2
  clear hP2
  go_wp2
  go_end0
  exact ⟨rfl, hP1.now⟩
set_option maxRecDepth 100000 in
set_option maxHeartbeats 4000000 in
theorem blk35_a2 (w : World) (h : RfAt w N g p t s ov) (kd pl n : Int) (q : Nat) (h1 : 3 ≤ q) (h4 : q ≤ 4) (h0 : 0 ≤ pl) (hk : pl ≤ 59) (hn1 : 1 ≤ n) (hn2 : n ≤ 9999) (hv : s.v = 1) (hg : gtV s q (pl + 4) 1 = 0) (hm : ¬ n < gtV s q pl 7 + 1) (hm2 : n ≤ gtV s q pl 7 + 1) :
    Calls Try.prog 55 #[.pointer (some ⟨g, 0, none⟩), insV ⟨35, kd, q, pl, n⟩] w fun e w' => e = .returned (.tuple #[]) ∧ RNow N g p t (⟨(ptV (ptV ⟨s.A, s.kd, 0, s.op, s.z⟩ q (pl + 4) 1 1) q pl 7 (gtV s q pl 7 + 1)).A, (ptV (ptV ⟨s.A, s.kd, 0, s.op, s.z⟩ q (pl + 4) 1 1) q pl 7 (gtV s q pl 7 + 1)).kd, 1, (ptV (ptV ⟨s.A, s.kd, 0, s.op, s.z⟩ q (pl + 4) 1 1) q pl 7 (gtV s q pl 7 + 1)).op, (ptV (ptV ⟨s.A, s.kd, 0, s.op, s.z⟩ q (pl + 4) 1 1) q pl 7 (gtV s q pl 7 + 1)).z⟩) ov w w' ov := by
  have _u := And.intro hn1 (And.intro hn2 hm)
  clear _u
  have hd := dw_bdR (arL s.A q) pl.toNat
  have hgd : gtV s q pl 7 = getL (arL s.A q) pl.toNat 7 := rfl
  rw [← hgd] at hd
  have HG := Lib.hid (rGetA w h q pl 7 (by omega) (by omega) h0 (by rw [show szI 7 = 4 from rfl]; omega))
  have hpl : IntKind.i64.wrap (pl + 4) = pl + 4 := by rw [IntKind.wrap_i64]; omega
  have HG2 := Lib.hid (rGetA w h q (pl + 4) 1 (by omega) (by omega) (by omega) (by rw [show szI 1 = 1 from rfl]; omega))
  rw [hg] at HG2
  have HP1 := Lib.hid (fun W (h : RfAt W N g p t (⟨s.A, s.kd, 0, s.op, s.z⟩) ov) => rPutR_any W h q (pl + 4) 1 (1) (by omega) (by omega) (by omega) (by rw [show szI 1 = 1 from rfl]; omega) (by decide) (by omega) (by omega))
  generalize hs1 : ptV ⟨s.A, s.kd, 0, s.op, s.z⟩ q (pl + 4) 1 1 = s1 at *
  have HP2 := Lib.hid (fun W (h : RfAt W N g p t s1 ov) => rPutR_any W h q pl 7 (gtV s q pl 7 + 1) (by omega) (by omega) (by omega) (by rw [show szI 7 = 4 from rfl]; omega) (by decide) (by omega) (by omega))
  generalize ptV s1 q pl 7 (gtV s q pl 7 + 1) = s2 at *
  clear hs1
  have hsum : IntKind.i64.wrap (gtV s q pl 7 + 1) = gtV s q pl 7 + 1 := by rw [IntKind.wrap_i64]; omega
  generalize gtV s q pl 7 = G at *
  have hm' : (n < G + 1) = False := by simp; omega
  obtain ⟨hne, hov⟩ := own_newR h
  have HR := Lib.hid (Rn.new2 h ⟨35, kd, q, pl, n⟩ 54 0)
  have HST := Lib.hid (fun W (h : RfAt W N g p t ⟨s.A, s.kd, 0, s.op, s.z⟩ ov) => strA h (q := q) (by omega) h4)
  replace hne := Lib.hid hne
  replace hov := Lib.hid hov
  have cv := h.val
  have fv := h.free 6
  have hlt := h.lt
  have hq : (q : Int) < 5 := by omega
  rw [hv] at cv
  dsimp only at HST
  generalize hT : S (arL s.A q) = T at *
  clear h h1 h4 h0 hk hv hd hgd hn1 hn2 hg
  unfold insV
  go_enter Try.func55, Try.ntmps55
  go_wp2_with fail
  refine world_cutR (G := fun W => Code.wp _ _ _ _ W) (fun W => Rn N g p t ⟨s.A, s.kd, 0, s.op, s.z⟩ ov w w.heap.size ⟨35, kd, q, pl, n⟩ W ov) HR.out ?_
  rintro W hP1
  clear HR cv fv hlt
  generalize hbb : w.heap.size = b at *
  replace hbb := Lib.hid hbb
  obtain ⟨c0, c1, c2, c3, c4⟩ := rn5 hP1
  have d6 := hP1.now.at_.val
  have d12 := hP1.now.at_.psd
  have f6 := hP1.now.at_.free 6
  have l6 := hP1.now.at_.lt
  dsimp only at c0 c1 c2 c3 c4 d6
  have ds := HST.out _ hP1.now.at_
  have hP2 := hP1.drew
  clear hP1
  have hP1 := hP2
  clear hP2
  go_wp2_with fail
  go_region_held3 (fun W' => W'.cell? ⟨b, 1, none⟩ = some (.int .i64 kd) ∧ W'.cell? ⟨b, 2, none⟩ = some (.int .i64 q) ∧ W'.cell? ⟨b, 3, none⟩ = some (.int .i64 pl) ∧ W'.cell? ⟨b, 4, none⟩ = some (.int .i64 n) ∧ W'.cell? ⟨g, q, none⟩ = some (.string T)) (exact ⟨hP1.bi.2.1, hP1.bi.2.2.1, hP1.bi.2.2.2.1, hP1.bi.2.2.2.2, HST.out _ hP1.now.at_⟩)
      ((first | (go_at_call 70; (with_reducible refine (HG.out _).mono ?_); rintro e w1 ⟨rfl, hb1⟩; have hP2 := hP1.next hb1; clear hb1 hP1; have hP1 := hP2; clear hP2)))
  clear c0 c1 c2 c3 c4 d6 d12 f6 l6
  clear ds
  obtain ⟨c0, c1, c2, c3, c4⟩ := rn5 hP1
  have d6 := hP1.now.at_.val
  have d12 := hP1.now.at_.psd
  have f6 := hP1.now.at_.free 6
  have l6 := hP1.now.at_.lt
  dsimp only at c0 c1 c2 c3 c4 d6
  have ds := HST.out _ hP1.now.at_
  go_wp2_with fail
  have hP2 := hP1.drew
  clear hP1
  have hP1 := hP2
  clear hP2
  go_region_held3 (fun W' => W'.cell? ⟨b, 1, none⟩ = some (.int .i64 kd) ∧ W'.cell? ⟨b, 2, none⟩ = some (.int .i64 q) ∧ W'.cell? ⟨b, 3, none⟩ = some (.int .i64 pl) ∧ W'.cell? ⟨b, 4, none⟩ = some (.int .i64 n) ∧ W'.cell? ⟨g, q, none⟩ = some (.string T)) (exact ⟨hP1.bi.2.1, hP1.bi.2.2.1, hP1.bi.2.2.2.1, hP1.bi.2.2.2.2, HST.out _ hP1.now.at_⟩)
      ((first | (go_at_call 70; (with_reducible refine (HG2.out _).mono ?_); rintro e w1 ⟨rfl, hb1⟩; have hP2 := hP1.next hb1; clear hb1 hP1; have hP1 := hP2; clear hP2)))
  clear c0 c1 c2 c3 c4 d6 d12 f6 l6
  clear ds
  obtain ⟨c0, c1, c2, c3, c4⟩ := rn5 hP1
  have d6 := hP1.now.at_.val
  have d12 := hP1.now.at_.psd
  have f6 := hP1.now.at_.free 6
  have l6 := hP1.now.at_.lt
  dsimp only at c0 c1 c2 c3 c4 d6
  replace hP1 := Lib.hid hP1
  go_wp2_with fail
  replace hP1 := hP1.out
  with_reducible refine (HP1.out _ hP1.now.at_).mono ?_
  rintro e w1 ⟨rfl, hb1⟩
  have hP2 := hP1.step hb1 hne.out hov.out
  clear hb1 hP1
  have hP1 := hP2
  clear hP2
  clear c0 c1 c2 c3 c4 d6 d12 f6 l6
  obtain ⟨c0, c1, c2, c3, c4⟩ := rn5 hP1
  have d6 := hP1.now.at_.val
  have d12 := hP1.now.at_.psd
  have f6 := hP1.now.at_.free 6
  have l6 := hP1.now.at_.lt
  dsimp only at c0 c1 c2 c3 c4 d6
  replace hP1 := Lib.hid hP1
  go_wp2_with fail
  replace hP1 := hP1.out
  with_reducible refine (HP2.out _ hP1.now.at_).mono ?_
  rintro e w1 ⟨rfl, hb1⟩
  have hP2 := hP1.step hb1 hne.out hov.out
  clear hb1 hP1
  have hP1 := hP2
  clear hP2
  clear c0 c1 c2 c3 c4 d6 d12 f6 l6
  obtain ⟨c0, c1, c2, c3, c4⟩ := rn5 hP1
  have d6 := hP1.now.at_.val
  have d12 := hP1.now.at_.psd
  have f6 := hP1.now.at_.free 6
  have l6 := hP1.now.at_.lt
  dsimp only at c0 c1 c2 c3 c4 d6
  have hP2 := hP1.value hne.out hov.out 1
  clear hP1
  have hP1 := hP2
  clear hP2
  go_wp2
  go_end0
  exact ⟨rfl, hP1.now⟩
set_option maxRecDepth 100000 in
set_option maxHeartbeats 4000000 in
theorem blk35_a3 (w : World) (h : RfAt w N g p t s ov) (kd pl n : Int) (q : Nat) (h1 : 3 ≤ q) (h4 : q ≤ 4) (h0 : 0 ≤ pl) (hk : pl ≤ 59) (hn1 : 1 ≤ n) (hn2 : n ≤ 9999) (hv : s.v = 1) (hg : gtV s q (pl + 4) 1 = 0) (hm : ¬ n < gtV s q pl 7 + 1) (hm2 : ¬ n ≤ gtV s q pl 7 + 1) :
    Calls Try.prog 55 #[.pointer (some ⟨g, 0, none⟩), insV ⟨35, kd, q, pl, n⟩] w fun e w' => e = .returned (.tuple #[]) ∧ RNow N g p t (ptV (ptV ⟨s.A, s.kd, 0, s.op, s.z⟩ q (pl + 4) 1 1) q pl 7 (gtV s q pl 7 + 1)) ov w w' ov := by
  have _u := And.intro hn1 (And.intro hn2 hm)
  clear _u
  have hd := dw_bdR (arL s.A q) pl.toNat
  have hgd : gtV s q pl 7 = getL (arL s.A q) pl.toNat 7 := rfl
  rw [← hgd] at hd
  have HG := Lib.hid (rGetA w h q pl 7 (by omega) (by omega) h0 (by rw [show szI 7 = 4 from rfl]; omega))
  have hpl : IntKind.i64.wrap (pl + 4) = pl + 4 := by rw [IntKind.wrap_i64]; omega
  have HG2 := Lib.hid (rGetA w h q (pl + 4) 1 (by omega) (by omega) (by omega) (by rw [show szI 1 = 1 from rfl]; omega))
  rw [hg] at HG2
  have HP1 := Lib.hid (fun W (h : RfAt W N g p t (⟨s.A, s.kd, 0, s.op, s.z⟩) ov) => rPutR_any W h q (pl + 4) 1 (1) (by omega) (by omega) (by omega) (by rw [show szI 1 = 1 from rfl]; omega) (by decide) (by omega) (by omega))
  generalize hs1 : ptV ⟨s.A, s.kd, 0, s.op, s.z⟩ q (pl + 4) 1 1 = s1 at *
  have HP2 := Lib.hid (fun W (h : RfAt W N g p t s1 ov) => rPutR_any W h q pl 7 (gtV s q pl 7 + 1) (by omega) (by omega) (by omega) (by rw [show szI 7 = 4 from rfl]; omega) (by decide) (by omega) (by omega))
  generalize ptV s1 q pl 7 (gtV s q pl 7 + 1) = s2 at *
  clear hs1
  have hsum : IntKind.i64.wrap (gtV s q pl 7 + 1) = gtV s q pl 7 + 1 := by rw [IntKind.wrap_i64]; omega
  generalize gtV s q pl 7 = G at *
  have hm' : (n < G + 1) = False := by simp; omega
  have hm3 : (n ≤ G + 1) = False := by simp; omega
  clear hm2
  obtain ⟨hne, hov⟩ := own_newR h
  have HR := Lib.hid (Rn.new2 h ⟨35, kd, q, pl, n⟩ 54 0)
  have HST := Lib.hid (fun W (h : RfAt W N g p t ⟨s.A, s.kd, 0, s.op, s.z⟩ ov) => strA h (q := q) (by omega) h4)
  replace hne := Lib.hid hne
  replace hov := Lib.hid hov
  have cv := h.val
  have fv := h.free 6
  have hlt := h.lt
  have hq : (q : Int) < 5 := by omega
  rw [hv] at cv
  dsimp only at HST
  generalize hT : S (arL s.A q) = T at *
  clear h h1 h4 h0 hk hv hd hgd hn1 hn2 hg
  unfold insV
  go_enter Try.func55, Try.ntmps55
  go_wp2_with fail
  refine world_cutR (G := fun W => Code.wp _ _ _ _ W) (fun W => Rn N g p t ⟨s.A, s.kd, 0, s.op, s.z⟩ ov w w.heap.size ⟨35, kd, q, pl, n⟩ W ov) HR.out ?_
  rintro W hP1
  clear HR cv fv hlt
  generalize hbb : w.heap.size = b at *
  replace hbb := Lib.hid hbb
  obtain ⟨c0, c1, c2, c3, c4⟩ := rn5 hP1
  have d6 := hP1.now.at_.val
  have d12 := hP1.now.at_.psd
  have f6 := hP1.now.at_.free 6
  have l6 := hP1.now.at_.lt
  dsimp only at c0 c1 c2 c3 c4 d6
  have ds := HST.out _ hP1.now.at_
  have hP2 := hP1.drew
  clear hP1
  have hP1 := hP2
  clear hP2
  go_wp2_with fail
  go_region_held3 (fun W' => W'.cell? ⟨b, 1, none⟩ = some (.int .i64 kd) ∧ W'.cell? ⟨b, 2, none⟩ = some (.int .i64 q) ∧ W'.cell? ⟨b, 3, none⟩ = some (.int .i64 pl) ∧ W'.cell? ⟨b, 4, none⟩ = some (.int .i64 n) ∧ W'.cell? ⟨g, q, none⟩ = some (.string T)) (exact ⟨hP1.bi.2.1, hP1.bi.2.2.1, hP1.bi.2.2.2.1, hP1.bi.2.2.2.2, HST.out _ hP1.now.at_⟩)
      ((first | (go_at_call 70; (with_reducible refine (HG.out _).mono ?_); rintro e w1 ⟨rfl, hb1⟩; have hP2 := hP1.next hb1; clear hb1 hP1; have hP1 := hP2; clear hP2)))
  clear c0 c1 c2 c3 c4 d6 d12 f6 l6
  clear ds
  obtain ⟨c0, c1, c2, c3, c4⟩ := rn5 hP1
  have d6 := hP1.now.at_.val
  have d12 := hP1.now.at_.psd
  have f6 := hP1.now.at_.free 6
  have l6 := hP1.now.at_.lt
  dsimp only at c0 c1 c2 c3 c4 d6
  have ds := HST.out _ hP1.now.at_
  go_wp2_with fail
  have hP2 := hP1.drew
  clear hP1
  have hP1 := hP2
  clear hP2
  go_region_held3 (fun W' => W'.cell? ⟨b, 1, none⟩ = some (.int .i64 kd) ∧ W'.cell? ⟨b, 2, none⟩ = some (.int .i64 q) ∧ W'.cell? ⟨b, 3, none⟩ = some (.int .i64 pl) ∧ W'.cell? ⟨b, 4, none⟩ = some (.int .i64 n) ∧ W'.cell? ⟨g, q, none⟩ = some (.string T)) (exact ⟨hP1.bi.2.1, hP1.bi.2.2.1, hP1.bi.2.2.2.1, hP1.bi.2.2.2.2, HST.out _ hP1.now.at_⟩)
      ((first | (go_at_call 70; (with_reducible refine (HG2.out _).mono ?_); rintro e w1 ⟨rfl, hb1⟩; have hP2 := hP1.next hb1; clear hb1 hP1; have hP1 := hP2; clear hP2)))
  clear c0 c1 c2 c3 c4 d6 d12 f6 l6
  clear ds
  obtain ⟨c0, c1, c2, c3, c4⟩ := rn5 hP1
  have d6 := hP1.now.at_.val
  have d12 := hP1.now.at_.psd
  have f6 := hP1.now.at_.free 6
  have l6 := hP1.now.at_.lt
  dsimp only at c0 c1 c2 c3 c4 d6
  replace hP1 := Lib.hid hP1
  go_wp2_with fail
  replace hP1 := hP1.out
  with_reducible refine (HP1.out _ hP1.now.at_).mono ?_
  rintro e w1 ⟨rfl, hb1⟩
  have hP2 := hP1.step hb1 hne.out hov.out
  clear hb1 hP1
  have hP1 := hP2
  clear hP2
  clear c0 c1 c2 c3 c4 d6 d12 f6 l6
  obtain ⟨c0, c1, c2, c3, c4⟩ := rn5 hP1
  have d6 := hP1.now.at_.val
  have d12 := hP1.now.at_.psd
  have f6 := hP1.now.at_.free 6
  have l6 := hP1.now.at_.lt
  dsimp only at c0 c1 c2 c3 c4 d6
  replace hP1 := Lib.hid hP1
  go_wp2_with fail
  replace hP1 := hP1.out
  with_reducible refine (HP2.out _ hP1.now.at_).mono ?_
  rintro e w1 ⟨rfl, hb1⟩
  have hP2 := hP1.step hb1 hne.out hov.out
  clear hb1 hP1
  have hP1 := hP2
  clear hP2
  clear c0 c1 c2 c3 c4 d6 d12 f6 l6
  obtain ⟨c0, c1, c2, c3, c4⟩ := rn5 hP1
  have d6 := hP1.now.at_.val
  have d12 := hP1.now.at_.psd
  have f6 := hP1.now.at_.free 6
  have l6 := hP1.now.at_.lt
  dsimp only at c0 c1 c2 c3 c4 d6
  go_wp2
  go_end0
  exact ⟨rfl, hP1.now⟩
set_option maxRecDepth 100000 in
set_option maxHeartbeats 4000000 in
theorem blk35_c1 (w : World) (h : RfAt w N g p t s ov) (kd pl n : Int) (q : Nat) (h1 : 3 ≤ q) (h4 : q ≤ 4) (h0 : 0 ≤ pl) (hk : pl ≤ 59) (hn1 : 1 ≤ n) (hn2 : n ≤ 9999) (hv : s.v = 1) (hg : (gtV s q (pl + 4) 1 == 0) = false) (hm : n ≤ gtV s q pl 7) :
    Calls Try.prog 55 #[.pointer (some ⟨g, 0, none⟩), insV ⟨35, kd, q, pl, n⟩] w fun e w' => e = .returned (.tuple #[]) ∧ RNow N g p t (⟨(ptV (ptV ⟨s.A, s.kd, 0, s.op, s.z⟩ q (pl + 4) 1 1) q pl 7 (gtV s q pl 7)).A, (ptV (ptV ⟨s.A, s.kd, 0, s.op, s.z⟩ q (pl + 4) 1 1) q pl 7 (gtV s q pl 7)).kd, 1, (ptV (ptV ⟨s.A, s.kd, 0, s.op, s.z⟩ q (pl + 4) 1 1) q pl 7 (gtV s q pl 7)).op, (ptV (ptV ⟨s.A, s.kd, 0, s.op, s.z⟩ q (pl + 4) 1 1) q pl 7 (gtV s q pl 7)).z⟩) ov w w' ov := by
  have _u := And.intro hn1 (And.intro hn2 hm)
  clear _u
  have hd := dw_bdR (arL s.A q) pl.toNat
  have hgd : gtV s q pl 7 = getL (arL s.A q) pl.toNat 7 := rfl
  rw [← hgd] at hd
  have HG := Lib.hid (rGetA w h q pl 7 (by omega) (by omega) h0 (by rw [show szI 7 = 4 from rfl]; omega))
  have hpl : IntKind.i64.wrap (pl + 4) = pl + 4 := by rw [IntKind.wrap_i64]; omega
  have HG2 := Lib.hid (rGetA w h q (pl + 4) 1 (by omega) (by omega) (by omega) (by rw [show szI 1 = 1 from rfl]; omega))
  generalize gtV s q (pl + 4) 1 = G2 at *
  have HP1 := Lib.hid (fun W (h : RfAt W N g p t (⟨s.A, s.kd, 0, s.op, s.z⟩) ov) => rPutR_any W h q (pl + 4) 1 (1) (by omega) (by omega) (by omega) (by rw [show szI 1 = 1 from rfl]; omega) (by decide) (by omega) (by omega))
  generalize hs1 : ptV ⟨s.A, s.kd, 0, s.op, s.z⟩ q (pl + 4) 1 1 = s1 at *
  have HP2 := Lib.hid (fun W (h : RfAt W N g p t s1 ov) => rPutR_any W h q pl 7 (gtV s q pl 7) (by omega) (by omega) (by omega) (by rw [show szI 7 = 4 from rfl]; omega) (by decide) (by omega) (by omega))
  generalize ptV s1 q pl 7 (gtV s q pl 7) = s2 at *
  clear hs1
  generalize gtV s q pl 7 = G at *
  obtain ⟨hne, hov⟩ := own_newR h
  have HR := Lib.hid (Rn.new2 h ⟨35, kd, q, pl, n⟩ 54 0)
  have HST := Lib.hid (fun W (h : RfAt W N g p t ⟨s.A, s.kd, 0, s.op, s.z⟩ ov) => strA h (q := q) (by omega) h4)
  replace hne := Lib.hid hne
  replace hov := Lib.hid hov
  have cv := h.val
  have fv := h.free 6
  have hlt := h.lt
  have hq : (q : Int) < 5 := by omega
  rw [hv] at cv
  dsimp only at HST
  generalize hT : S (arL s.A q) = T at *
  clear h h1 h4 h0 hk hv hd hgd hn1 hn2
  unfold insV
  go_enter Try.func55, Try.ntmps55
  go_wp2_with fail
  refine world_cutR (G := fun W => Code.wp _ _ _ _ W) (fun W => Rn N g p t ⟨s.A, s.kd, 0, s.op, s.z⟩ ov w w.heap.size ⟨35, kd, q, pl, n⟩ W ov) HR.out ?_
  rintro W hP1
  clear HR cv fv hlt
  generalize hbb : w.heap.size = b at *
  replace hbb := Lib.hid hbb
  obtain ⟨c0, c1, c2, c3, c4⟩ := rn5 hP1
  have d6 := hP1.now.at_.val
  have d12 := hP1.now.at_.psd
  have f6 := hP1.now.at_.free 6
  have l6 := hP1.now.at_.lt
  dsimp only at c0 c1 c2 c3 c4 d6
  have ds := HST.out _ hP1.now.at_
  have hP2 := hP1.drew
  clear hP1
  have hP1 := hP2
  clear hP2
  go_wp2_with fail
  go_region_held3 (fun W' => W'.cell? ⟨b, 1, none⟩ = some (.int .i64 kd) ∧ W'.cell? ⟨b, 2, none⟩ = some (.int .i64 q) ∧ W'.cell? ⟨b, 3, none⟩ = some (.int .i64 pl) ∧ W'.cell? ⟨b, 4, none⟩ = some (.int .i64 n) ∧ W'.cell? ⟨g, q, none⟩ = some (.string T)) (exact ⟨hP1.bi.2.1, hP1.bi.2.2.1, hP1.bi.2.2.2.1, hP1.bi.2.2.2.2, HST.out _ hP1.now.at_⟩)
      ((first | (go_at_call 70; (with_reducible refine (HG.out _).mono ?_); rintro e w1 ⟨rfl, hb1⟩; have hP2 := hP1.next hb1; clear hb1 hP1; have hP1 := hP2; clear hP2)))
  clear c0 c1 c2 c3 c4 d6 d12 f6 l6
  clear ds
  obtain ⟨c0, c1, c2, c3, c4⟩ := rn5 hP1
  have d6 := hP1.now.at_.val
  have d12 := hP1.now.at_.psd
  have f6 := hP1.now.at_.free 6
  have l6 := hP1.now.at_.lt
  dsimp only at c0 c1 c2 c3 c4 d6
  have ds := HST.out _ hP1.now.at_
  go_wp2_with fail
  have hP2 := hP1.drew
  clear hP1
  have hP1 := hP2
  clear hP2
  go_region_held3 (fun W' => W'.cell? ⟨b, 1, none⟩ = some (.int .i64 kd) ∧ W'.cell? ⟨b, 2, none⟩ = some (.int .i64 q) ∧ W'.cell? ⟨b, 3, none⟩ = some (.int .i64 pl) ∧ W'.cell? ⟨b, 4, none⟩ = some (.int .i64 n) ∧ W'.cell? ⟨g, q, none⟩ = some (.string T)) (exact ⟨hP1.bi.2.1, hP1.bi.2.2.1, hP1.bi.2.2.2.1, hP1.bi.2.2.2.2, HST.out _ hP1.now.at_⟩)
      ((first | (go_at_call 70; (with_reducible refine (HG2.out _).mono ?_); rintro e w1 ⟨rfl, hb1⟩; have hP2 := hP1.next hb1; clear hb1 hP1; have hP1 := hP2; clear hP2)))
  clear c0 c1 c2 c3 c4 d6 d12 f6 l6
  clear ds
  obtain ⟨c0, c1, c2, c3, c4⟩ := rn5 hP1
  have d6 := hP1.now.at_.val
  have d12 := hP1.now.at_.psd
  have f6 := hP1.now.at_.free 6
  have l6 := hP1.now.at_.lt
  dsimp only at c0 c1 c2 c3 c4 d6
  replace hP1 := Lib.hid hP1
  go_wp2_with fail
  replace hP1 := hP1.out
  with_reducible refine (HP1.out _ hP1.now.at_).mono ?_
  rintro e w1 ⟨rfl, hb1⟩
  have hP2 := hP1.step hb1 hne.out hov.out
  clear hb1 hP1
  have hP1 := hP2
  clear hP2
  clear c0 c1 c2 c3 c4 d6 d12 f6 l6
  obtain ⟨c0, c1, c2, c3, c4⟩ := rn5 hP1
  have d6 := hP1.now.at_.val
  have d12 := hP1.now.at_.psd
  have f6 := hP1.now.at_.free 6
  have l6 := hP1.now.at_.lt
  dsimp only at c0 c1 c2 c3 c4 d6
  replace hP1 := Lib.hid hP1
  go_wp2_with fail
  replace hP1 := hP1.out
  with_reducible refine (HP2.out _ hP1.now.at_).mono ?_
  rintro e w1 ⟨rfl, hb1⟩
  have hP2 := hP1.step hb1 hne.out hov.out
  clear hb1 hP1
  have hP1 := hP2
  clear hP2
  clear c0 c1 c2 c3 c4 d6 d12 f6 l6
  obtain ⟨c0, c1, c2, c3, c4⟩ := rn5 hP1
  have d6 := hP1.now.at_.val
  have d12 := hP1.now.at_.psd
  have f6 := hP1.now.at_.free 6
  have l6 := hP1.now.at_.lt
  dsimp only at c0 c1 c2 c3 c4 d6
  have hP2 := hP1.value hne.out hov.out 1
  clear hP1
  have hP1 := hP2
  clear hP2
  go_wp2
  go_end0
  exact ⟨rfl, hP1.now⟩
set_option maxRecDepth 100000 in
set_option maxHeartbeats 4000000 in
theorem blk35_c2 (w : World) (h : RfAt w N g p t s ov) (kd pl n : Int) (q : Nat) (h1 : 3 ≤ q) (h4 : q ≤ 4) (h0 : 0 ≤ pl) (hk : pl ≤ 59) (hn1 : 1 ≤ n) (hn2 : n ≤ 9999) (hv : s.v = 1) (hg : (gtV s q (pl + 4) 1 == 0) = false) (hm : ¬ n ≤ gtV s q pl 7) :
    Calls Try.prog 55 #[.pointer (some ⟨g, 0, none⟩), insV ⟨35, kd, q, pl, n⟩] w fun e w' => e = .returned (.tuple #[]) ∧ RNow N g p t (ptV (ptV ⟨s.A, s.kd, 0, s.op, s.z⟩ q (pl + 4) 1 1) q pl 7 (gtV s q pl 7)) ov w w' ov := by
  have _u := And.intro hn1 (And.intro hn2 hm)
  clear _u
  have hd := dw_bdR (arL s.A q) pl.toNat
  have hgd : gtV s q pl 7 = getL (arL s.A q) pl.toNat 7 := rfl
  rw [← hgd] at hd
  have HG := Lib.hid (rGetA w h q pl 7 (by omega) (by omega) h0 (by rw [show szI 7 = 4 from rfl]; omega))
  have hpl : IntKind.i64.wrap (pl + 4) = pl + 4 := by rw [IntKind.wrap_i64]; omega
  have HG2 := Lib.hid (rGetA w h q (pl + 4) 1 (by omega) (by omega) (by omega) (by rw [show szI 1 = 1 from rfl]; omega))
  generalize gtV s q (pl + 4) 1 = G2 at *
  have HP1 := Lib.hid (fun W (h : RfAt W N g p t (⟨s.A, s.kd, 0, s.op, s.z⟩) ov) => rPutR_any W h q (pl + 4) 1 (1) (by omega) (by omega) (by omega) (by rw [show szI 1 = 1 from rfl]; omega) (by decide) (by omega) (by omega))
  generalize hs1 : ptV ⟨s.A, s.kd, 0, s.op, s.z⟩ q (pl + 4) 1 1 = s1 at *
  have HP2 := Lib.hid (fun W (h : RfAt W N g p t s1 ov) => rPutR_any W h q pl 7 (gtV s q pl 7) (by omega) (by omega) (by omega) (by rw [show szI 7 = 4 from rfl]; omega) (by decide) (by omega) (by omega))
  generalize ptV s1 q pl 7 (gtV s q pl 7) = s2 at *
  clear hs1
  generalize gtV s q pl 7 = G at *
  have hm3 : (n ≤ G) = False := by simp; omega
  clear hm
  obtain ⟨hne, hov⟩ := own_newR h
  have HR := Lib.hid (Rn.new2 h ⟨35, kd, q, pl, n⟩ 54 0)
  have HST := Lib.hid (fun W (h : RfAt W N g p t ⟨s.A, s.kd, 0, s.op, s.z⟩ ov) => strA h (q := q) (by omega) h4)
  replace hne := Lib.hid hne
  replace hov := Lib.hid hov
  have cv := h.val
  have fv := h.free 6
  have hlt := h.lt
  have hq : (q : Int) < 5 := by omega
  rw [hv] at cv
  dsimp only at HST
  generalize hT : S (arL s.A q) = T at *
  clear h h1 h4 h0 hk hv hd hgd hn1 hn2
  unfold insV
  go_enter Try.func55, Try.ntmps55
  go_wp2_with fail
  refine world_cutR (G := fun W => Code.wp _ _ _ _ W) (fun W => Rn N g p t ⟨s.A, s.kd, 0, s.op, s.z⟩ ov w w.heap.size ⟨35, kd, q, pl, n⟩ W ov) HR.out ?_
  rintro W hP1
  clear HR cv fv hlt
  generalize hbb : w.heap.size = b at *
  replace hbb := Lib.hid hbb
  obtain ⟨c0, c1, c2, c3, c4⟩ := rn5 hP1
  have d6 := hP1.now.at_.val
  have d12 := hP1.now.at_.psd
  have f6 := hP1.now.at_.free 6
  have l6 := hP1.now.at_.lt
  dsimp only at c0 c1 c2 c3 c4 d6
  have ds := HST.out _ hP1.now.at_
  have hP2 := hP1.drew
  clear hP1
  have hP1 := hP2
  clear hP2
  go_wp2_with fail
  go_region_held3 (fun W' => W'.cell? ⟨b, 1, none⟩ = some (.int .i64 kd) ∧ W'.cell? ⟨b, 2, none⟩ = some (.int .i64 q) ∧ W'.cell? ⟨b, 3, none⟩ = some (.int .i64 pl) ∧ W'.cell? ⟨b, 4, none⟩ = some (.int .i64 n) ∧ W'.cell? ⟨g, q, none⟩ = some (.string T)) (exact ⟨hP1.bi.2.1, hP1.bi.2.2.1, hP1.bi.2.2.2.1, hP1.bi.2.2.2.2, HST.out _ hP1.now.at_⟩)
      ((first | (go_at_call 70; (with_reducible refine (HG.out _).mono ?_); rintro e w1 ⟨rfl, hb1⟩; have hP2 := hP1.next hb1; clear hb1 hP1; have hP1 := hP2; clear hP2)))
  clear c0 c1 c2 c3 c4 d6 d12 f6 l6
  clear ds
  obtain ⟨c0, c1, c2, c3, c4⟩ := rn5 hP1
  have d6 := hP1.now.at_.val
  have d12 := hP1.now.at_.psd
  have f6 := hP1.now.at_.free 6
  have l6 := hP1.now.at_.lt
  dsimp only at c0 c1 c2 c3 c4 d6
  have ds := HST.out _ hP1.now.at_
  go_wp2_with fail
  have hP2 := hP1.drew
  clear hP1
  have hP1 := hP2
  clear hP2
  go_region_held3 (fun W' => W'.cell? ⟨b, 1, none⟩ = some (.int .i64 kd) ∧ W'.cell? ⟨b, 2, none⟩ = some (.int .i64 q) ∧ W'.cell? ⟨b, 3, none⟩ = some (.int .i64 pl) ∧ W'.cell? ⟨b, 4, none⟩ = some (.int .i64 n) ∧ W'.cell? ⟨g, q, none⟩ = some (.string T)) (exact ⟨hP1.bi.2.1, hP1.bi.2.2.1, hP1.bi.2.2.2.1, hP1.bi.2.2.2.2, HST.out _ hP1.now.at_⟩)
      ((first | (go_at_call 70; (with_reducible refine (HG2.out _).mono ?_); rintro e w1 ⟨rfl, hb1⟩; have hP2 := hP1.next hb1; clear hb1 hP1; have hP1 := hP2; clear hP2)))
  clear c0 c1 c2 c3 c4 d6 d12 f6 l6
  clear ds
  obtain ⟨c0, c1, c2, c3, c4⟩ := rn5 hP1
  have d6 := hP1.now.at_.val
  have d12 := hP1.now.at_.psd
  have f6 := hP1.now.at_.free 6
  have l6 := hP1.now.at_.lt
  dsimp only at c0 c1 c2 c3 c4 d6
  replace hP1 := Lib.hid hP1
  go_wp2_with fail
  replace hP1 := hP1.out
  with_reducible refine (HP1.out _ hP1.now.at_).mono ?_
  rintro e w1 ⟨rfl, hb1⟩
  have hP2 := hP1.step hb1 hne.out hov.out
  clear hb1 hP1
  have hP1 := hP2
  clear hP2
  clear c0 c1 c2 c3 c4 d6 d12 f6 l6
  obtain ⟨c0, c1, c2, c3, c4⟩ := rn5 hP1
  have d6 := hP1.now.at_.val
  have d12 := hP1.now.at_.psd
  have f6 := hP1.now.at_.free 6
  have l6 := hP1.now.at_.lt
  dsimp only at c0 c1 c2 c3 c4 d6
  replace hP1 := Lib.hid hP1
  go_wp2_with fail
  replace hP1 := hP1.out
  with_reducible refine (HP2.out _ hP1.now.at_).mono ?_
  rintro e w1 ⟨rfl, hb1⟩
  have hP2 := hP1.step hb1 hne.out hov.out
  clear hb1 hP1
  have hP1 := hP2
  clear hP2
  clear c0 c1 c2 c3 c4 d6 d12 f6 l6
  obtain ⟨c0, c1, c2, c3, c4⟩ := rn5 hP1
  have d6 := hP1.now.at_.val
  have d12 := hP1.now.at_.psd
  have f6 := hP1.now.at_.free 6
  have l6 := hP1.now.at_.lt
  dsimp only at c0 c1 c2 c3 c4 d6
  go_wp2
  go_end0
  exact ⟨rfl, hP1.now⟩
set_option maxRecDepth 100000 in
set_option maxHeartbeats 4000000 in
theorem blk35_d1 (w : World) (h : RfAt w N g p t s ov) (kd pl n : Int) (q : Nat) (h1 : 3 ≤ q) (h4 : q ≤ 4) (h0 : 0 ≤ pl) (hk : pl ≤ 59) (hn1 : 1 ≤ n) (hn2 : n ≤ 9999) (hv : s.v = 0) (hm : n ≤ gtV s q pl 7) :
    Calls Try.prog 55 #[.pointer (some ⟨g, 0, none⟩), insV ⟨35, kd, q, pl, n⟩] w fun e w' => e = .returned (.tuple #[]) ∧ RNow N g p t (⟨(ptV (ptV ⟨s.A, s.kd, 0, s.op, s.z⟩ q (pl + 4) 1 0) q pl 7 (gtV s q pl 7)).A, (ptV (ptV ⟨s.A, s.kd, 0, s.op, s.z⟩ q (pl + 4) 1 0) q pl 7 (gtV s q pl 7)).kd, 1, (ptV (ptV ⟨s.A, s.kd, 0, s.op, s.z⟩ q (pl + 4) 1 0) q pl 7 (gtV s q pl 7)).op, (ptV (ptV ⟨s.A, s.kd, 0, s.op, s.z⟩ q (pl + 4) 1 0) q pl 7 (gtV s q pl 7)).z⟩) ov w w' ov := by
  have _u := And.intro hn1 (And.intro hn2 hm)
  clear _u
  have hd := dw_bdR (arL s.A q) pl.toNat
  have hgd : gtV s q pl 7 = getL (arL s.A q) pl.toNat 7 := rfl
  rw [← hgd] at hd
  have HG := Lib.hid (rGetA w h q pl 7 (by omega) (by omega) h0 (by rw [show szI 7 = 4 from rfl]; omega))
  have hpl : IntKind.i64.wrap (pl + 4) = pl + 4 := by rw [IntKind.wrap_i64]; omega
  have HG2 := Lib.hid (rGetA w h q (pl + 4) 1 (by omega) (by omega) (by omega) (by rw [show szI 1 = 1 from rfl]; omega))
  generalize gtV s q (pl + 4) 1 = G2 at *
  have HP1 := Lib.hid (fun W (h : RfAt W N g p t (⟨s.A, s.kd, 0, s.op, s.z⟩) ov) => rPutR_any W h q (pl + 4) 1 (0) (by omega) (by omega) (by omega) (by rw [show szI 1 = 1 from rfl]; omega) (by decide) (by omega) (by omega))
  generalize hs1 : ptV ⟨s.A, s.kd, 0, s.op, s.z⟩ q (pl + 4) 1 0 = s1 at *
  have HP2 := Lib.hid (fun W (h : RfAt W N g p t s1 ov) => rPutR_any W h q pl 7 (gtV s q pl 7) (by omega) (by omega) (by omega) (by rw [show szI 7 = 4 from rfl]; omega) (by decide) (by omega) (by omega))
  generalize ptV s1 q pl 7 (gtV s q pl 7) = s2 at *
  clear hs1
  generalize gtV s q pl 7 = G at *
  obtain ⟨hne, hov⟩ := own_newR h
  have HR := Lib.hid (Rn.new2 h ⟨35, kd, q, pl, n⟩ 54 0)
  have HST := Lib.hid (fun W (h : RfAt W N g p t ⟨s.A, s.kd, 0, s.op, s.z⟩ ov) => strA h (q := q) (by omega) h4)
  replace hne := Lib.hid hne
  replace hov := Lib.hid hov
  have cv := h.val
  have fv := h.free 6
  have hlt := h.lt
  have hq : (q : Int) < 5 := by omega
  rw [hv] at cv
  dsimp only at HST
  generalize hT : S (arL s.A q) = T at *
  clear h h1 h4 h0 hk hv hd hgd hn1 hn2
  unfold insV
  go_enter Try.func55, Try.ntmps55
  go_wp2_with fail
  refine world_cutR (G := fun W => Code.wp _ _ _ _ W) (fun W => Rn N g p t ⟨s.A, s.kd, 0, s.op, s.z⟩ ov w w.heap.size ⟨35, kd, q, pl, n⟩ W ov) HR.out ?_
  rintro W hP1
  clear HR cv fv hlt
  generalize hbb : w.heap.size = b at *
  replace hbb := Lib.hid hbb
  obtain ⟨c0, c1, c2, c3, c4⟩ := rn5 hP1
  have d6 := hP1.now.at_.val
  have d12 := hP1.now.at_.psd
  have f6 := hP1.now.at_.free 6
  have l6 := hP1.now.at_.lt
  dsimp only at c0 c1 c2 c3 c4 d6
  have ds := HST.out _ hP1.now.at_
  have hP2 := hP1.drew
  clear hP1
  have hP1 := hP2
  clear hP2
  go_wp2_with fail
  go_region_held3 (fun W' => W'.cell? ⟨b, 1, none⟩ = some (.int .i64 kd) ∧ W'.cell? ⟨b, 2, none⟩ = some (.int .i64 q) ∧ W'.cell? ⟨b, 3, none⟩ = some (.int .i64 pl) ∧ W'.cell? ⟨b, 4, none⟩ = some (.int .i64 n) ∧ W'.cell? ⟨g, q, none⟩ = some (.string T)) (exact ⟨hP1.bi.2.1, hP1.bi.2.2.1, hP1.bi.2.2.2.1, hP1.bi.2.2.2.2, HST.out _ hP1.now.at_⟩)
      ((first | (go_at_call 70; (with_reducible refine (HG.out _).mono ?_); rintro e w1 ⟨rfl, hb1⟩; have hP2 := hP1.next hb1; clear hb1 hP1; have hP1 := hP2; clear hP2)))
  clear c0 c1 c2 c3 c4 d6 d12 f6 l6
  clear ds
  obtain ⟨c0, c1, c2, c3, c4⟩ := rn5 hP1
  have d6 := hP1.now.at_.val
  have d12 := hP1.now.at_.psd
  have f6 := hP1.now.at_.free 6
  have l6 := hP1.now.at_.lt
  dsimp only at c0 c1 c2 c3 c4 d6
  have ds := HST.out _ hP1.now.at_
  go_wp2_with fail
  have hP2 := hP1.drew
  clear hP1
  have hP1 := hP2
  clear hP2
  go_region_held3 (fun W' => W'.cell? ⟨b, 1, none⟩ = some (.int .i64 kd) ∧ W'.cell? ⟨b, 2, none⟩ = some (.int .i64 q) ∧ W'.cell? ⟨b, 3, none⟩ = some (.int .i64 pl) ∧ W'.cell? ⟨b, 4, none⟩ = some (.int .i64 n) ∧ W'.cell? ⟨g, q, none⟩ = some (.string T)) (exact ⟨hP1.bi.2.1, hP1.bi.2.2.1, hP1.bi.2.2.2.1, hP1.bi.2.2.2.2, HST.out _ hP1.now.at_⟩)
      ((first | (go_at_call 70; (with_reducible refine (HG2.out _).mono ?_); rintro e w1 ⟨rfl, hb1⟩; have hP2 := hP1.next hb1; clear hb1 hP1; have hP1 := hP2; clear hP2)))
  clear c0 c1 c2 c3 c4 d6 d12 f6 l6
  clear ds
  obtain ⟨c0, c1, c2, c3, c4⟩ := rn5 hP1
  have d6 := hP1.now.at_.val
  have d12 := hP1.now.at_.psd
  have f6 := hP1.now.at_.free 6
  have l6 := hP1.now.at_.lt
  dsimp only at c0 c1 c2 c3 c4 d6
  replace hP1 := Lib.hid hP1
  go_wp2_with fail
  replace hP1 := hP1.out
  with_reducible refine (HP1.out _ hP1.now.at_).mono ?_
  rintro e w1 ⟨rfl, hb1⟩
  have hP2 := hP1.step hb1 hne.out hov.out
  clear hb1 hP1
  have hP1 := hP2
  clear hP2
  clear c0 c1 c2 c3 c4 d6 d12 f6 l6
  obtain ⟨c0, c1, c2, c3, c4⟩ := rn5 hP1
  have d6 := hP1.now.at_.val
  have d12 := hP1.now.at_.psd
  have f6 := hP1.now.at_.free 6
  have l6 := hP1.now.at_.lt
  dsimp only at c0 c1 c2 c3 c4 d6
  replace hP1 := Lib.hid hP1
  go_wp2_with fail
  replace hP1 := hP1.out
  with_reducible refine (HP2.out _ hP1.now.at_).mono ?_
  rintro e w1 ⟨rfl, hb1⟩
  have hP2 := hP1.step hb1 hne.out hov.out
  clear hb1 hP1
  have hP1 := hP2
  clear hP2
  clear c0 c1 c2 c3 c4 d6 d12 f6 l6
  obtain ⟨c0, c1, c2, c3, c4⟩ := rn5 hP1
  have d6 := hP1.now.at_.val
  have d12 := hP1.now.at_.psd
  have f6 := hP1.now.at_.free 6
  have l6 := hP1.now.at_.lt
  dsimp only at c0 c1 c2 c3 c4 d6
  have hP2 := hP1.value hne.out hov.out 1
  clear hP1
  have hP1 := hP2
  clear hP2
  go_wp2
  go_end0
  exact ⟨rfl, hP1.now⟩
set_option maxRecDepth 100000 in
set_option maxHeartbeats 4000000 in
theorem blk35_d2 (w : World) (h : RfAt w N g p t s ov) (kd pl n : Int) (q : Nat) (h1 : 3 ≤ q) (h4 : q ≤ 4) (h0 : 0 ≤ pl) (hk : pl ≤ 59) (hn1 : 1 ≤ n) (hn2 : n ≤ 9999) (hv : s.v = 0) (hm : ¬ n ≤ gtV s q pl 7) :
    Calls Try.prog 55 #[.pointer (some ⟨g, 0, none⟩), insV ⟨35, kd, q, pl, n⟩] w fun e w' => e = .returned (.tuple #[]) ∧ RNow N g p t (ptV (ptV ⟨s.A, s.kd, 0, s.op, s.z⟩ q (pl + 4) 1 0) q pl 7 (gtV s q pl 7)) ov w w' ov := by
  have _u := And.intro hn1 (And.intro hn2 hm)
  clear _u
  have hd := dw_bdR (arL s.A q) pl.toNat
  have hgd : gtV s q pl 7 = getL (arL s.A q) pl.toNat 7 := rfl
  rw [← hgd] at hd
  have HG := Lib.hid (rGetA w h q pl 7 (by omega) (by omega) h0 (by rw [show szI 7 = 4 from rfl]; omega))
  have hpl : IntKind.i64.wrap (pl + 4) = pl + 4 := by rw [IntKind.wrap_i64]; omega
  have HG2 := Lib.hid (rGetA w h q (pl + 4) 1 (by omega) (by omega) (by omega) (by rw [show szI 1 = 1 from rfl]; omega))
  generalize gtV s q (pl + 4) 1 = G2 at *
  have HP1 := Lib.hid (fun W (h : RfAt W N g p t (⟨s.A, s.kd, 0, s.op, s.z⟩) ov) => rPutR_any W h q (pl + 4) 1 (0) (by omega) (by omega) (by omega) (by rw [show szI 1 = 1 from rfl]; omega) (by decide) (by omega) (by omega))
  generalize hs1 : ptV ⟨s.A, s.kd, 0, s.op, s.z⟩ q (pl + 4) 1 0 = s1 at *
  have HP2 := Lib.hid (fun W (h : RfAt W N g p t s1 ov) => rPutR_any W h q pl 7 (gtV s q pl 7) (by omega) (by omega) (by omega) (by rw [show szI 7 = 4 from rfl]; omega) (by decide) (by omega) (by omega))
  generalize ptV s1 q pl 7 (gtV s q pl 7) = s2 at *
  clear hs1
  generalize gtV s q pl 7 = G at *
  have hm3 : (n ≤ G) = False := by simp; omega
  clear hm
  obtain ⟨hne, hov⟩ := own_newR h
  have HR := Lib.hid (Rn.new2 h ⟨35, kd, q, pl, n⟩ 54 0)
  have HST := Lib.hid (fun W (h : RfAt W N g p t ⟨s.A, s.kd, 0, s.op, s.z⟩ ov) => strA h (q := q) (by omega) h4)
  replace hne := Lib.hid hne
  replace hov := Lib.hid hov
  have cv := h.val
  have fv := h.free 6
  have hlt := h.lt
  have hq : (q : Int) < 5 := by omega
  rw [hv] at cv
  dsimp only at HST
  generalize hT : S (arL s.A q) = T at *
  clear h h1 h4 h0 hk hv hd hgd hn1 hn2
  unfold insV
  go_enter Try.func55, Try.ntmps55
  go_wp2_with fail
  refine world_cutR (G := fun W => Code.wp _ _ _ _ W) (fun W => Rn N g p t ⟨s.A, s.kd, 0, s.op, s.z⟩ ov w w.heap.size ⟨35, kd, q, pl, n⟩ W ov) HR.out ?_
  rintro W hP1
  clear HR cv fv hlt
  generalize hbb : w.heap.size = b at *
  replace hbb := Lib.hid hbb
  obtain ⟨c0, c1, c2, c3, c4⟩ := rn5 hP1
  have d6 := hP1.now.at_.val
  have d12 := hP1.now.at_.psd
  have f6 := hP1.now.at_.free 6
  have l6 := hP1.now.at_.lt
  dsimp only at c0 c1 c2 c3 c4 d6
  have ds := HST.out _ hP1.now.at_
  have hP2 := hP1.drew
  clear hP1
  have hP1 := hP2
  clear hP2
  go_wp2_with fail
  go_region_held3 (fun W' => W'.cell? ⟨b, 1, none⟩ = some (.int .i64 kd) ∧ W'.cell? ⟨b, 2, none⟩ = some (.int .i64 q) ∧ W'.cell? ⟨b, 3, none⟩ = some (.int .i64 pl) ∧ W'.cell? ⟨b, 4, none⟩ = some (.int .i64 n) ∧ W'.cell? ⟨g, q, none⟩ = some (.string T)) (exact ⟨hP1.bi.2.1, hP1.bi.2.2.1, hP1.bi.2.2.2.1, hP1.bi.2.2.2.2, HST.out _ hP1.now.at_⟩)
      ((first | (go_at_call 70; (with_reducible refine (HG.out _).mono ?_); rintro e w1 ⟨rfl, hb1⟩; have hP2 := hP1.next hb1; clear hb1 hP1; have hP1 := hP2; clear hP2)))
  clear c0 c1 c2 c3 c4 d6 d12 f6 l6
  clear ds
  obtain ⟨c0, c1, c2, c3, c4⟩ := rn5 hP1
  have d6 := hP1.now.at_.val
  have d12 := hP1.now.at_.psd
  have f6 := hP1.now.at_.free 6
  have l6 := hP1.now.at_.lt
  dsimp only at c0 c1 c2 c3 c4 d6
  have ds := HST.out _ hP1.now.at_
  go_wp2_with fail
  have hP2 := hP1.drew
  clear hP1
  have hP1 := hP2
  clear hP2
  go_region_held3 (fun W' => W'.cell? ⟨b, 1, none⟩ = some (.int .i64 kd) ∧ W'.cell? ⟨b, 2, none⟩ = some (.int .i64 q) ∧ W'.cell? ⟨b, 3, none⟩ = some (.int .i64 pl) ∧ W'.cell? ⟨b, 4, none⟩ = some (.int .i64 n) ∧ W'.cell? ⟨g, q, none⟩ = some (.string T)) (exact ⟨hP1.bi.2.1, hP1.bi.2.2.1, hP1.bi.2.2.2.1, hP1.bi.2.2.2.2, HST.out _ hP1.now.at_⟩)
      ((first | (go_at_call 70; (with_reducible refine (HG2.out _).mono ?_); rintro e w1 ⟨rfl, hb1⟩; have hP2 := hP1.next hb1; clear hb1 hP1; have hP1 := hP2; clear hP2)))
  clear c0 c1 c2 c3 c4 d6 d12 f6 l6
  clear ds
  obtain ⟨c0, c1, c2, c3, c4⟩ := rn5 hP1
  have d6 := hP1.now.at_.val
  have d12 := hP1.now.at_.psd
  have f6 := hP1.now.at_.free 6
  have l6 := hP1.now.at_.lt
  dsimp only at c0 c1 c2 c3 c4 d6
  replace hP1 := Lib.hid hP1
  go_wp2_with fail
  replace hP1 := hP1.out
  with_reducible refine (HP1.out _ hP1.now.at_).mono ?_
  rintro e w1 ⟨rfl, hb1⟩
  have hP2 := hP1.step hb1 hne.out hov.out
  clear hb1 hP1
  have hP1 := hP2
  clear hP2
  clear c0 c1 c2 c3 c4 d6 d12 f6 l6
  obtain ⟨c0, c1, c2, c3, c4⟩ := rn5 hP1
  have d6 := hP1.now.at_.val
  have d12 := hP1.now.at_.psd
  have f6 := hP1.now.at_.free 6
  have l6 := hP1.now.at_.lt
  dsimp only at c0 c1 c2 c3 c4 d6
  replace hP1 := Lib.hid hP1
  go_wp2_with fail
  replace hP1 := hP1.out
  with_reducible refine (HP2.out _ hP1.now.at_).mono ?_
  rintro e w1 ⟨rfl, hb1⟩
  have hP2 := hP1.step hb1 hne.out hov.out
  clear hb1 hP1
  have hP1 := hP2
  clear hP2
  clear c0 c1 c2 c3 c4 d6 d12 f6 l6
  obtain ⟨c0, c1, c2, c3, c4⟩ := rn5 hP1
  have d6 := hP1.now.at_.val
  have d12 := hP1.now.at_.psd
  have f6 := hP1.now.at_.free 6
  have l6 := hP1.now.at_.lt
  dsimp only at c0 c1 c2 c3 c4 d6
  go_wp2
  go_end0
  exact ⟨rfl, hP1.now⟩

end
end Go.Proofs.Ytbjmdehfdnpljaa.Vm

namespace Go.Proofs.Ytbjmdehfdnpljaa.Vm
open Go.RowKit
open Go.Proofs.Ytbjmdehfdnpljaa.Il hiding Next S S_size S_app S_inj S_list
open Go.Proofs.Ytbjmdehfdnpljaa.Ic Go.Proofs.Ytbjmdehfdnpljaa.Ve
open Oct

theorem be_four (a b c d : UInt8) : be (num [a, b, c, d]) 4 = [a, b, c, d] := by
  have ha := a.toNat_lt
  have hb := b.toNat_lt
  have hc := c.toNat_lt
  have hd := d.toNat_lt
  have e : num [a, b, c, d] = ((a.toNat * 256 + b.toNat) * 256 + c.toNat) * 256 + d.toNat := by simp [num, numOf]
  rw [e]
  show [UInt8.ofNat (_ / 256 ^ 3), UInt8.ofNat (_ / 256 ^ 2), UInt8.ofNat (_ / 256 ^ 1), UInt8.ofNat (_ / 256 ^ 0)] = _
  congr 1
  · apply UInt8.toNat_inj.1; rw [UInt8.toNat_ofNat']; omega
  congr 1
  · apply UInt8.toNat_inj.1; rw [UInt8.toNat_ofNat']; omega
  congr 1
  · apply UInt8.toNat_inj.1; rw [UInt8.toNat_ofNat']; omega
  congr 1
  · apply UInt8.toNat_inj.1; rw [UInt8.toNat_ofNat']; omega
/-- What is got and put back leaves the bytes as they are. -/
theorem put_back (l : Bs) (pl : Nat) (h : pl + 4 ≤ l.length) : putL l pl 7 (getL l pl 7) = l := by
  have hlen : (cutL l pl 4).length = 4 := cut_length _ _ _ h
  have hnum := cut_num l pl 4 h (by omega)
  have hw : wrapI 7 ((num (cutL l pl 4) : Nat) : Int) = (num (cutL l pl 4) : Nat) := wrap_same 7 _ (by unfold isI; rw [decide_eq_true_iff]; exact ⟨by decide, by rw [show leastI 7 = 0 from rfl]; omega, by rw [show leastI 7 = 0 from rfl, show manyI 7 = 4294967296 from rfl]; omega⟩)
  have hg : getL l pl 7 = ((num (cutL l pl 4) : Nat) : Int) := hw
  have hn : nvI 7 (getL l pl 7) = num (cutL l pl 4) := by
    unfold nvI
    rw [hg, hw, if_neg (by omega)]
    omega
  unfold putL
  rw [hn, show szI 7 = 4 from rfl]
  have hb : be (num (cutL l pl 4)) 4 = cutL l pl 4 := by
    match hc : cutL l pl 4, hlen with
    | [a, b, c, d], _ => exact be_four a b c d
  rw [hb]
  unfold cutL
  rw [List.append_assoc, ← List.drop_drop, List.take_append_drop, List.take_append_drop]
theorem pta_back {A : List Bs} (hA : AOk A) {a pl : Int} (h1 : 1 ≤ a) (h4 : a ≤ 4) (hp : pl.toNat + 4 ≤ 64) : ptA A a pl 7 (getL (arL A a) pl.toNat 7) = A := by
  unfold ptA
  rw [put_back _ _ (by rw [ok_at hA h1 h4]; exact hp)]
  unfold arL
  apply List.ext_getElem?
  intro j
  rw [List.getElem?_set]
  have : (a - 1).toNat < A.length := by rw [hA.four]; omega
  split
  · next e =>
    subst e
    rw [List.getD_eq_getElem?_getD, List.getElem?_eq_getElem this]
    rfl
  · rfl
theorem get_far {A : List Bs} (hA : AOk A) {a pl v : Int} (h1 : 1 ≤ a) (h4 : a ≤ 4) (h0 : 0 ≤ pl) (hp : pl ≤ 59) : getL (arL (ptA A a (pl + 4) 1 v) a) pl.toNat 7 = getL (arL A a) pl.toNat 7 := by
  have hA2 := ok_put (v := v) (k := 1) hA h1 h4 (pl := pl + 4) (by rw [show szI 1 = 1 from rfl]; omega)
  refine get_same (ok_at hA2 h1 h4) (ok_at hA h1 h4) (fun b hb1 hb2 => ?_)
  rw [show szI 7 = 4 from rfl] at hb2
  have := by_pt (v := v) hA h1 h4 (k := 1) (pl := pl + 4) (by rw [show szI 1 = 1 from rfl]; omega) (a - 1).toNat b
  rw [if_neg (by rw [show szI 1 = 1 from rfl]; omega)] at this
  exact this
section
variable {N g : Nat} {p : Int} {t : Nat} {s : St} {ov : Value}
theorem rBlock_any (w : World) (h : RfAt w N g p t s ov) (i : In) (ho : 34 ≤ i.op) (hr : rightI i = true) (ht : Ty i s) (hp0 : 0 ≤ p) (hp1 : p ≤ 10000) :
    Calls Try.prog 55 #[.pointer (some ⟨g, 0, none⟩), insV i] w fun e w' => e = .returned (.tuple #[]) ∧ RNow N g p t (doI p i s) ov w w' ov := by
  have hop := right_op hr
  obtain ⟨b1, b2, b3, b4, b5⟩ := blk_at hr ho
  have hv := is_bool (ht.t1 (by omega)).2
  obtain ⟨op, kd, ar, pl, n⟩ := i
  dsimp only at *
  obtain ⟨q, rfl⟩ : ∃ q : Nat, ar = (q : Int) := ⟨ar.toNat, by omega⟩
  rcases (by omega : op = 34 ∨ op = 35 ∨ op = 36) with rfl | rfl | rfl
  · obtain ⟨k1, k2, k3⟩ := b4 (by omega)
    show Calls _ _ _ _ fun e w' => _ ∧ RNow N g p t (tonI p ⟨34, kd, q, pl, n⟩ s) ov w w' ov
    have hgd : gtV s q pl 7 = getL (arL s.A q) pl.toNat 7 := rfl
    have hd := dw_bdR (arL s.A q) pl.toNat
    rw [← hgd] at hd
    rcases hv with hv | hv
    · have e : tonI p ⟨34, kd, q, pl, n⟩ s = ptV ⟨s.A, s.kd, 0, s.op, s.z⟩ q pl 7 0 := by
        have e1 : tonN p ⟨34, kd, q, pl, n⟩ s = 0 := by unfold tonN; rw [if_neg (by omega)]
        unfold tonI
        dsimp only
        rw [e1, decide_eq_false (by omega)]
        rfl
      rw [e]
      exact blk34_0 w h kd pl n q (by omega) (by omega) b3 k1 k2 hv
    · have e1 : tonN p ⟨34, kd, q, pl, n⟩ s = min (gtV s q pl 7 + p) n := by unfold tonN; rw [if_pos hv]
      unfold tonI
      dsimp only
      rw [e1]
      by_cases hm : n < gtV s q pl 7 + p
      · rw [show min (gtV s q pl 7 + p) n = n by omega, decide_eq_true rfl]
        exact blk34_1 w h kd pl n q (by omega) (by omega) b3 k1 k2 k3 hp0 hp1 hv hm
      · rw [show min (gtV s q pl 7 + p) n = gtV s q pl 7 + p by omega]
        by_cases hm2 : n ≤ gtV s q pl 7 + p
        · rw [decide_eq_true (show gtV s q pl 7 + p = n by omega)]
          exact blk34_2 w h kd pl n q (by omega) (by omega) b3 k1 k2 k3 hp0 hp1 hv hm hm2
        · rw [decide_eq_false (show ¬ gtV s q pl 7 + p = n by omega)]
          exact blk34_3 w h kd pl n q (by omega) (by omega) b3 k1 k2 k3 hp0 hp1 hv hm hm2
  · obtain ⟨k1, k2, k3⟩ := b4 (by omega)
    show Calls _ _ _ _ fun e w' => _ ∧ RNow N g p t (ctuI ⟨35, kd, q, pl, n⟩ s) ov w w' ov
    have back : ∀ v, ptA (ptA s.A q (pl + 4) 1 v) q pl 7 (gtV s q pl 7) = ptA s.A q (pl + 4) 1 v := fun v => by
      have hA2 := ok_put (v := v) (k := 1) h.ok (show (1 : Int) ≤ q by omega) b2 (pl := pl + 4) (by rw [show szI 1 = 1 from rfl]; omega)
      have := pta_back hA2 (a := q) (pl := pl) (by omega) b2 (by omega)
      rw [get_far h.ok (by omega) b2 b3 k1] at this
      exact this
    by_cases hu : s.v = 1 ∧ gtV s q (pl + 4) 1 = 0
    · have hup : upI ⟨35, kd, q, pl, n⟩ s (pl + 4) = true := decide_eq_true hu
      have e1 : ctuN ⟨35, kd, q, pl, n⟩ s = min (gtV s q pl 7 + 1) n := by unfold ctuN; rw [hup]; rfl
      have e2 : ctuA ⟨35, kd, q, pl, n⟩ s = ptA (ptA s.A q (pl + 4) 1 s.v) q pl 7 (min (gtV s q pl 7 + 1) n) := by unfold ctuA; rw [hup, e1]; rfl
      unfold ctuI
      dsimp only
      rw [e1, e2, hu.1]
      by_cases hm : n < gtV s q pl 7 + 1
      · rw [show min (gtV s q pl 7 + 1) n = n by omega, decide_eq_true (show n ≤ n by omega)]
        exact blk35_a1 w h kd pl n q (by omega) (by omega) b3 k1 k2 k3 hu.1 hu.2 hm
      · rw [show min (gtV s q pl 7 + 1) n = gtV s q pl 7 + 1 by omega]
        by_cases hm2 : n ≤ gtV s q pl 7 + 1
        · rw [decide_eq_true hm2]
          exact blk35_a2 w h kd pl n q (by omega) (by omega) b3 k1 k2 k3 hu.1 hu.2 hm hm2
        · rw [decide_eq_false hm2]
          exact blk35_a3 w h kd pl n q (by omega) (by omega) b3 k1 k2 k3 hu.1 hu.2 hm hm2
    · have hup : upI ⟨35, kd, q, pl, n⟩ s (pl + 4) = false := decide_eq_false hu
      have e1 : ctuN ⟨35, kd, q, pl, n⟩ s = gtV s q pl 7 := by unfold ctuN; rw [hup]; rfl
      have e2 : ctuA ⟨35, kd, q, pl, n⟩ s = ptA (ptA s.A q (pl + 4) 1 s.v) q pl 7 (gtV s q pl 7) := by unfold ctuA; rw [hup, back]; rfl
      unfold ctuI
      dsimp only
      rw [e1, e2]
      rcases hv with hv | hv
      · rw [hv]
        by_cases hm : n ≤ gtV s q pl 7
        · rw [decide_eq_true hm]
          exact blk35_d1 w h kd pl n q (by omega) (by omega) b3 k1 k2 k3 hv hm
        · rw [decide_eq_false hm]
          exact blk35_d2 w h kd pl n q (by omega) (by omega) b3 k1 k2 k3 hv hm
      · have hg : (gtV s q (pl + 4) 1 == 0) = false := by simpa using fun e => hu ⟨hv, e⟩
        rw [hv]
        by_cases hm : n ≤ gtV s q pl 7
        · rw [decide_eq_true hm]
          exact blk35_c1 w h kd pl n q (by omega) (by omega) b3 k1 k2 k3 hv hg hm
        · rw [decide_eq_false hm]
          exact blk35_c2 w h kd pl n q (by omega) (by omega) b3 k1 k2 k3 hv hg hm
  · show Calls _ _ _ _ fun e w' => _ ∧ RNow N g p t (trigI ⟨36, kd, q, pl, n⟩ s) ov w w' ov
    unfold trigI upI
    dsimp only
    rcases hv with hv | hv
    · rw [decide_eq_false (by omega), hv]
      exact blk36_0 w h kd pl n q (by omega) (by omega) b3 (by omega) hv
    · by_cases hg : gtV s q pl 1 = 0
      · rw [decide_eq_true ⟨hv, hg⟩, hv]
        exact blk36_1 w h kd pl n q (by omega) (by omega) b3 (by omega) hv hg
      · rw [decide_eq_false (fun e => hg e.2), hv]
        exact blk36_2 w h kd pl n q (by omega) (by omega) b3 (by omega) hv (by simpa using hg)

end
end Go.Proofs.Ytbjmdehfdnpljaa.Vm
