/-
  A subscriber in memory; its calls walked. Conditions: as each states.
-/
import Derived.Test.YtbfjimbffpkkhaaGdPub
import Derived.Test.YtbfjimbffpkkhaaPaPut
namespace Go.Proofs.Ytbfjimbffpkkhaa.Pa
open Go.RowKit

structure SubV (W : World) (b q n : Nat) (s : Sb) (xb : Bs) (xi xs : Nat) : Prop where
  head : W.heap[b]? = some (.cells #[.pointer (some ⟨q, 0, none⟩), .string (S s.front), .int .u16 s.fi, .int .u32 s.fs, .string (S xb), .int .u16 xi, .int .u32 xs, .bool s.waits, .bool s.fault] 86 (0, 0))
  gl : GAt W q n s.gl
  ne : q ≠ b
  beh : s.waits = true → xb = s.beh ∧ xi = s.bi ∧ xs = s.bs
def SubAt (W : World) (b q n : Nat) (s : Sb) : Prop := ∃ xb xi xs, SubV W b q n s xb xi xs
section
variable {W W' : World} {b q n xi xs : Nat} {s : Sb} {xb : Bs}
theorem SubV.lt (h : SubV W b q n s xb xi xs) : b < W.heap.size := lt_of_heap h.head
theorem SubV.c0 (h : SubV W b q n s xb xi xs) : W.cell? ⟨b, 0, none⟩ = some (.pointer (some ⟨q, 0, none⟩)) := by rw [cell_of_row _ _ _ _ _ _ h.head]; rfl
theorem SubV.c1 (h : SubV W b q n s xb xi xs) : W.cell? ⟨b, 1, none⟩ = some (.string (S s.front)) := by rw [cell_of_row _ _ _ _ _ _ h.head]; rfl
theorem SubV.c2 (h : SubV W b q n s xb xi xs) : W.cell? ⟨b, 2, none⟩ = some (.int .u16 s.fi) := by rw [cell_of_row _ _ _ _ _ _ h.head]; rfl
theorem SubV.c3 (h : SubV W b q n s xb xi xs) : W.cell? ⟨b, 3, none⟩ = some (.int .u32 s.fs) := by rw [cell_of_row _ _ _ _ _ _ h.head]; rfl
theorem SubV.c4 (h : SubV W b q n s xb xi xs) : W.cell? ⟨b, 4, none⟩ = some (.string (S xb)) := by rw [cell_of_row _ _ _ _ _ _ h.head]; rfl
theorem SubV.c5 (h : SubV W b q n s xb xi xs) : W.cell? ⟨b, 5, none⟩ = some (.int .u16 xi) := by rw [cell_of_row _ _ _ _ _ _ h.head]; rfl
theorem SubV.c6 (h : SubV W b q n s xb xi xs) : W.cell? ⟨b, 6, none⟩ = some (.int .u32 xs) := by rw [cell_of_row _ _ _ _ _ _ h.head]; rfl
theorem SubV.c7 (h : SubV W b q n s xb xi xs) : W.cell? ⟨b, 7, none⟩ = some (.bool s.waits) := by rw [cell_of_row _ _ _ _ _ _ h.head]; rfl
theorem SubV.c8 (h : SubV W b q n s xb xi xs) : W.cell? ⟨b, 8, none⟩ = some (.bool s.fault) := by rw [cell_of_row _ _ _ _ _ _ h.head]; rfl
theorem SubV.free (h : SubV W b q n s xb xi xs) (j : Nat) : W.frozen? ⟨b, j, none⟩ = false := frozen_of _ _ _ _ _ h.head
theorem SubV.only {ms : List Nat} (h : SubV W b q n s xb xi xs) (hb : OnlyL ms W W') (h1 : b ∉ ms) (h2 : q ∉ ms) : SubV W' b q n s xb xi xs :=
  ⟨(hb.block b h.lt h1).trans h.head, h.gl.only hb h2, h.ne, h.beh⟩
theorem SubV.below (h : SubV W b q n s xb xi xs) (hb : Below W.heap.size W W') : SubV W' b q n s xb xi xs := h.only (OnlyL.of_below hb) (List.not_mem_nil) (List.not_mem_nil)
theorem SubV.drew (h : SubV W b q n s xb xi xs) : SubV W.drew b q n s xb xi xs := ⟨h.head, h.gl.drew, h.ne, h.beh⟩
theorem SubV.glue {g' : Gl} (h : SubV W b q n s xb xi xs) (ho : OnlyL [q] W W') (hg : GAt W' q n g') : SubV W' b q n { s with gl := g' } xb xi xs :=
  ⟨(ho.block b h.lt (by have := h.ne; simp; omega)).trans h.head, hg, h.ne, h.beh⟩
theorem SubV.flt (h : SubV W b q n s xb xi xs) (x : Bool) : SubV (W.setCell ⟨b, 8, none⟩ (.bool x)) b q n { s with fault := x } xb xi xs :=
  ⟨heap_setCell_same _ b 8 _ _ (.bool x) h.head, h.gl.only (ms := [b]) (OnlyL.set (by simp) _ _) (by simpa using h.ne), h.ne, h.beh⟩
theorem SubV.hold (h : SubV W b q n s xb xi xs) (l : Bs) (i k : Nat) : SubV ((((W.setCell ⟨b, 4, none⟩ (.string (S l))).setCell ⟨b, 5, none⟩ (.int .u16 i)).setCell ⟨b, 6, none⟩ (.int .u32 k)).setCell ⟨b, 7, none⟩ (.bool true)) b q n
    { s with beh := l, bi := i, bs := k, waits := true } l i k :=
  ⟨heap_setCell_same _ b 7 _ _ _ (heap_setCell_same _ b 6 _ _ _ (heap_setCell_same _ b 5 _ _ _ (heap_setCell_same _ b 4 _ _ _ h.head))),
    h.gl.only (ms := [b]) ((((OnlyL.set (by simp) _ _).tr (OnlyL.set (by simp) _ _)).tr (OnlyL.set (by simp) _ _)).tr (OnlyL.set (by simp) _ _)) (by simpa using h.ne), h.ne, fun _ => ⟨rfl, rfl, rfl⟩⟩
theorem SubV.lat (h : SubV W b q n s xb xi xs) (hw : s.waits = true) : SubV ((((W.setCell ⟨b, 1, none⟩ (.string (S xb))).setCell ⟨b, 2, none⟩ (.int .u16 xi)).setCell ⟨b, 3, none⟩ (.int .u32 xs)).setCell ⟨b, 7, none⟩ (.bool false)) b q n (latS s) xb xi xs := by
  obtain ⟨e1, e2, e3⟩ := h.beh hw
  refine ⟨?_, ?_, h.ne, ?_⟩
  · have := heap_setCell_same _ b 7 _ _ (.bool false) (heap_setCell_same _ b 3 _ _ (.int .u32 xs) (heap_setCell_same _ b 2 _ _ (.int .u16 xi) (heap_setCell_same _ b 1 _ _ (.string (S xb)) h.head)))
    rw [this]
    unfold latS
    rw [if_pos hw, e1, e2, e3]
    rfl
  · have : (latS s).gl = s.gl := by unfold latS; rw [if_pos hw]
    rw [this]
    exact h.gl.only (ms := [b]) ((((OnlyL.set (by simp) _ _).tr (OnlyL.set (by simp) _ _)).tr (OnlyL.set (by simp) _ _)).tr (OnlyL.set (by simp) _ _)) (by simpa using h.ne)
  · intro e
    unfold latS at e
    rw [if_pos hw] at e
    cases e
theorem SubAt.only {ms : List Nat} (h : SubAt W b q n s) (hb : OnlyL ms W W') (h1 : b ∉ ms) (h2 : q ∉ ms) : SubAt W' b q n s := by obtain ⟨x, i, k, h⟩ := h; exact ⟨x, i, k, h.only hb h1 h2⟩
theorem SubAt.below (h : SubAt W b q n s) (hb : Below W.heap.size W W') : SubAt W' b q n s := by obtain ⟨x, i, k, h⟩ := h; exact ⟨x, i, k, h.below hb⟩
theorem SubAt.lt (h : SubAt W b q n s) : b < W.heap.size := by obtain ⟨x, i, k, h⟩ := h; exact h.lt
theorem SubAt.drew (h : SubAt W b q n s) : SubAt W.drew b q n s := by obtain ⟨x, i, k, h⟩ := h; exact ⟨x, i, k, h.drew⟩
theorem SubAt.qlt (h : SubAt W b q n s) : q < W.heap.size := by obtain ⟨x, i, k, h⟩ := h; exact h.gl.lt
theorem SubAt.ne (h : SubAt W b q n s) : q ≠ b := by obtain ⟨x, i, k, h⟩ := h; exact h.ne
end

/-! ### Front, Waits, Fault -/
def frontV (s : Sb) : Value := .tuple #[.string (S s.front), .agg #[.int .u16 s.fi, .int .u32 s.fs]]
def waitsV (s : Sb) : Value := .tuple #[.string (S s.beh), .agg #[.int .u16 s.bi, .int .u32 s.bs], .bool s.waits]
set_option maxRecDepth 100000 in
set_option maxHeartbeats 2000000 in
theorem cFront_nil (w : World) : Calls Try.prog 17 #[.pointer none] w (Tells (.tuple #[.string ⟨#[]⟩, .agg #[.int .u16 0, .int .u32 0]]) w) := by
  have hb := Lib.hid (one_S w #[.int .u16 0, .int .u32 0] 31)
  have HL := Lib.hid (laid_ver w (.int .u16 0) (.int .u32 0))
  go_enter Try.func17, Try.ntmps17
  go_wp2
  refine bodyPost_ret (results_V2 Try.results17 _ _ w.heap.size (.int .u16 0) (.int .u32 0) (.string ⟨#[]⟩) rfl rfl HL.out.1 HL.out.2) rfl ⟨rfl, hb.out⟩
set_option maxRecDepth 100000 in
set_option maxHeartbeats 2000000 in
theorem cFront (b q n : Nat) (s : Sb) (w : World) (h : SubAt w b q n s) : Calls Try.prog 17 #[.pointer (some ⟨b, 0, none⟩)] w (Tells (frontV s) w) := by
  obtain ⟨xb, xi, xs, h⟩ := h
  have hlt := h.lt
  have c1 := h.c1
  have c2 := h.c2
  have c3 := h.c3
  have HL := Lib.hid (laid_ver w (.int .u16 s.fi) (.int .u32 s.fs))
  have hb2 := Lib.hid (one_S w #[.int .u16 s.fi, .int .u32 s.fs] 31)
  clear h
  unfold frontV
  go_enter Try.func17, Try.ntmps17
  go_wp2
  go_region
  go_wp2
  refine bodyPost_ret (results_V2 Try.results17 _ _ w.heap.size (.int .u16 s.fi) (.int .u32 s.fs) (.string (S s.front)) rfl rfl HL.out.1 HL.out.2) rfl ⟨rfl, hb2.out.drew⟩
set_option maxRecDepth 100000 in
set_option maxHeartbeats 2000000 in
theorem cWaits (b q n : Nat) (s : Sb) (w : World) (h : SubAt w b q n s) (hw : WS n s) : Calls Try.prog 23 #[.pointer (some ⟨b, 0, none⟩)] w (Tells (waitsV s) w) := by
  obtain ⟨xb, xi, xs, h⟩ := h
  have hlt := h.lt
  have c7 := h.c7
  cases hi : s.waits
  · have HV := Lib.hid (show waitsV s = .tuple #[.string ⟨#[]⟩, .agg #[.int .u16 0, .int .u32 0], .bool false] by
      obtain ⟨e1, e2, e3⟩ := hw.none hi
      unfold waitsV
      rw [hi, e1, e2, e3]; rfl)
    rw [hi] at c7
    have HL := Lib.hid (laid_ver w (.int .u16 0) (.int .u32 0))
    have hb := Lib.hid (one_S w #[.int .u16 0, .int .u32 0] 31)
    rw [HV.out]
    clear h hw hi HV
    go_enter Try.func23, Try.ntmps23
    go_wp2
    refine bodyPost_ret (results_V3 Try.results23 _ _ w.heap.size (.int .u16 0) (.int .u32 0) (.string ⟨#[]⟩) (.bool false) rfl rfl rfl HL.out.1 HL.out.2) rfl ⟨rfl, hb.out⟩
  · obtain ⟨rfl, rfl, rfl⟩ := h.beh hi
    have HV := Lib.hid (show waitsV s = .tuple #[.string (S s.beh), .agg #[.int .u16 s.bi, .int .u32 s.bs], .bool true] by unfold waitsV; rw [hi])
    have c4 := h.c4
    have c5 := h.c5
    have c6 := h.c6
    rw [hi] at c7
    have HL := Lib.hid (laid_ver w (.int .u16 s.bi) (.int .u32 s.bs))
    have hb := Lib.hid (one_S w #[.int .u16 s.bi, .int .u32 s.bs] 31)
    rw [HV.out]
    clear h hw hi HV
    go_enter Try.func23, Try.ntmps23
    go_wp2
    go_region
    go_wp2
    refine bodyPost_ret (results_V3 Try.results23 _ _ w.heap.size (.int .u16 s.bi) (.int .u32 s.bs) (.string (S s.beh)) (.bool true) rfl rfl rfl HL.out.1 HL.out.2) rfl ⟨rfl, hb.out.drew⟩
set_option maxRecDepth 100000 in
set_option maxHeartbeats 2000000 in
theorem cFault_nil (w : World) : Calls Try.prog 19 #[.pointer none] w (fun e w' => e = .returned (.bool false) ∧ w = w') := by
  go_enter Try.func19, Try.ntmps19
  go_wp2
  go_ret
  exact ⟨rfl, rfl⟩
set_option maxRecDepth 100000 in
set_option maxHeartbeats 2000000 in
theorem cFault (b q n : Nat) (s : Sb) (w : World) (h : SubAt w b q n s) : Calls Try.prog 19 #[.pointer (some ⟨b, 0, none⟩)] w (fun e w' => e = .returned (.bool s.fault) ∧ w = w') := by
  obtain ⟨xb, xi, xs, h⟩ := h
  have c8 := h.c8
  clear h
  go_enter Try.func19, Try.ntmps19
  go_wp2
  go_ret
  exact ⟨rfl, rfl⟩

/-! ### Latch -/
set_option maxRecDepth 100000 in
set_option maxHeartbeats 2000000 in
theorem cLatch_nil (w : World) : Calls Try.prog 18 #[.pointer none] w (fun e w' => e = .returned (.bool false) ∧ w = w') := by
  go_enter Try.func18, Try.ntmps18
  go_wp2
  go_ret
  exact ⟨rfl, rfl⟩
set_option maxRecDepth 100000 in
set_option maxHeartbeats 2000000 in
theorem cLatch (b q n : Nat) (s : Sb) (w : World) (h : SubAt w b q n s) : Calls Try.prog 18 #[.pointer (some ⟨b, 0, none⟩)] w (fun e w' => e = .returned (.bool s.waits) ∧ SubAt w' b q n (latS s) ∧ OnlyL [b] w w') := by
  obtain ⟨xb, xi, xs, h⟩ := h
  have c7 := h.c7
  cases hi : s.waits
  · have HE := Lib.hid (show SubAt w b q n (latS s) by unfold latS; rw [if_neg (by rw [hi]; decide)]; exact ⟨_, _, _, h⟩)
    rw [hi] at c7
    clear h hi
    go_enter Try.func18, Try.ntmps18
    go_wp2
    go_ret
    exact ⟨rfl, HE.out, OnlyL.refl _ _⟩
  · have HE := Lib.hid (h.lat hi)
    have c1 := h.c1
    have c2 := h.c2
    have c3 := h.c3
    have c4 := h.c4
    have c5 := h.c5
    have c6 := h.c6
    have f1 := h.free 1
    have f2 := h.free 2
    have f3 := h.free 3
    have f7 := h.free 7
    rw [hi] at c7
    clear h hi
    go_enter Try.func18, Try.ntmps18
    go_wp2
    go_ret
    exact ⟨rfl, ⟨_, _, _, HE.out⟩, (((OnlyL.set (by simp) _ _).tr (OnlyL.set (by simp) _ _)).tr (OnlyL.set (by simp) _ _)).tr (OnlyL.set (by simp) _ _)⟩
end Go.Proofs.Ytbfjimbffpkkhaa.Pa
