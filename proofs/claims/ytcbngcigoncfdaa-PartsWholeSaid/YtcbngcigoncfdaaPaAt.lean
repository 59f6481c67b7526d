/-
  At: walked. Conditions: as it states.
-/
import Derived.Test.YtcbngcigoncfdaaPaGlue
namespace Go.Proofs.Ytcbngcigoncfdaa.Pa
open Go.RowKit

structure Ap (w W : World) (B b n : Nat) (g : Gl) : Prop where
  gl : GAt W b n g
  bel : Below w.heap.size w W
  own : B = w.heap.size
  lt : b < B
  two : (∃ x y, W.heap[B]? = some (.cells #[x, y] 35 (0, 0)))
section
variable {w W : World} {B b n : Nat} {g : Gl}
theorem Ap.drew (h : Ap w W B b n g) : Ap w W.drew B b n g := ⟨h.gl, h.bel.drew, h.own, h.lt, h.two⟩
theorem Ap.set (h : Ap w W B b n g) (k : Nat) (v : Value) : Ap w (W.setCell ⟨B, k, none⟩ v) B b n g := by
  refine ⟨h.gl.only (ms := [B]) (OnlyL.set (by simp) k v) (by have := h.lt; simp; omega), h.bel.setCell (p := ⟨B, k, none⟩) (by have := h.own; simp; omega) v, h.own, h.lt, ?_⟩
  obtain ⟨x, y, hc⟩ := h.two
  have := heap_setCell_same W B k _ _ v hc
  match k with
  | 0 => exact ⟨v, y, by simpa using this⟩
  | 1 => exact ⟨x, v, by simpa using this⟩
  | k + 2 => exact ⟨x, y, by simpa [Array.setIfInBounds] using this⟩
theorem Ap.new (hg : GAt w b n g) (x y : Value) : Ap w (w.alloc (.cells #[x, y] 35)) w.heap.size b n g :=
  ⟨hg.below (one_S _ _ _), one_S _ _ _, rfl, hg.lt, _, _, heap_alloc_new _ _⟩
theorem Ap.frees (h : Ap w W B b n g) (k : Nat) : W.frozen? ⟨B, k, none⟩ = false := by
  obtain ⟨x, y, hc⟩ := h.two
  exact frozen_of _ _ _ _ _ hc
theorem Ap.some (h : Ap w W B b n g) : (∃ v, W.cell? ⟨B, 0, none⟩ = .some v) ∧ ∃ v, W.cell? ⟨B, 1, none⟩ = .some v := by
  obtain ⟨x, y, hc⟩ := h.two
  exact ⟨⟨x, by rw [cell_of_row _ _ _ _ _ _ hc]; rfl⟩, ⟨y, by rw [cell_of_row _ _ _ _ _ _ hc]; rfl⟩⟩
end

set_option maxRecDepth 100000 in
set_option maxHeartbeats 4000000 in
theorem cAt (b n : Nat) (g : Gl) (w : World) (hg : GAt w b n g) (hw : WG n g) (hn : 1 ≤ n ∧ n ≤ 64) :
    Calls Try.prog 11 #[.pointer (some ⟨b, 0, none⟩)] w (Tells (.tuple #[.agg #[.int .u16 g.inc, .int .u32 g.seq], .int .i64 (cntB g.came : Nat), .bool g.is]) w) := by
  have HP := Lib.hid (Ap.new hg (.int .u16 0) (.int .u32 0))
  have c3 := HP.out.gl.c3
  have hlt := hg.lt
  cases hi : g.is
  · have hg0 := hw.none hi
    subst hg0
    have c3' : (w.alloc (.cells #[.int .u16 0, .int .u32 0] 35)).cell? ⟨b, 3, none⟩ = some (.int .u8 0) := c3
    clear c3 hg hw hi
    go_enter Try.func11, Try.ntmps11
    go_wp2
    refine bodyPost_ret (v := .tuple #[.agg #[.int .u16 0, .int .u32 0], .int .i64 0, .bool false]) (by simp [results, Try.results11, go_sem]) rfl ⟨rfl, ?_⟩
    exact HP.out.bel
  · have hl : g.came.length ≤ 8 := by rw [hw.len hi]; have := (pN_bd hn.1 hn.2).2; omega
    have hm : ((maskB g.came : Nat) : Int) ≠ 0 := by
      have h1 := hw.some hi
      have h2 := @mask_zero g.came
      intro h
      have := h2.1 (by omega)
      omega
    have e1 : (((maskB g.came : Nat) : Int) == 0) = false := by simp only [beq_eq_false_iff_ne]; exact hm
    have HC := Lib.hid (fun W (h : GAt W b n g) => cCount b n g W h hl)
    clear hg hw hi hm hl
    generalize maskB g.came = M at *
    go_enter Try.func11, Try.ntmps11
    go_wp2
    refine world_cut (G := fun W => Code.wp _ _ _ _ W) (fun W => Ap w W w.heap.size b n g) (by exact HP.out) ?_
    rintro W hP
    have HQ := Lib.hid hP
    have hP1 := hP.drew
    have c1 := hP1.gl.c1
    have c2 := hP1.gl.c2
    obtain ⟨⟨v0, o0⟩, v1, o1⟩ := hP.some
    have f0 := hP.frees 0
    have f1 := hP.frees 1
    clear HP hP c3
    generalize w.heap.size = B at *
    go_region_held3 (fun W' => W'.cell? ⟨b, 1, none⟩ = some (.int .u16 g.inc) ∧ W'.cell? ⟨b, 2, none⟩ = some (.int .u32 g.seq)) (first | exact ⟨c1, c2⟩ | exact ⟨((HQ.out.set 0 _).set 1 _).drew.gl.c1, ((HQ.out.set 0 _).set 1 _).drew.gl.c2⟩)
      ((go_at_call 20; (first | (with_reducible refine (HC.out _ hP1.gl).mono ?_) | (refine (HC.out _ ((HQ.out.set 0 _).set 1 _).drew.gl).mono ?_)); rintro e w2 ⟨rfl, rfl⟩))
    all_goals
      go_wp2
      have hb : B ≠ b := by omega
      refine bodyPost_ret (v := .tuple #[.agg #[.int .u16 g.inc, .int .u32 g.seq], .int .i64 (cntB g.came : Nat), .bool true]) (by simp [results, Try.results11, go_sem, o0, o1]) rfl ⟨rfl, ?_⟩
      first
        | exact ((HQ.out.set 0 _).set 1 _).drew.bel
        | exact ((HQ.out.drew.set 0 _).set 1 _).bel
end Go.Proofs.Ytcbngcigoncfdaa.Pa
