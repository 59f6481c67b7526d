/-
  What becomes of a glue in memory by Put. Conditions: as each states.
-/
import Derived.Test.YtbfjimbffpkkhaaPaAt
import Derived.Lib.LazyBuf
namespace Go.Proofs.Ytbfjimbffpkkhaa.Pa
open Go.RowKit

theorem sizeU8 : ∀ w : World, (Go.sizeOf 5).run Try.prog w = .ok 1 w := by
  intro w
  go_simp
set_option maxRecDepth 100000 in
set_option maxHeartbeats 1000000 in
theorem slice_64 (g o m n : Nat) (hn : m + n ≤ 64) (hm : m < 64) (W : World) :
    (Instr.sliceAt 93 (.pointer (some ⟨g, o, none⟩)) (some (.int .i64 (m : Int))) (some (.int .i64 ((m : Int) + (n : Int)))) none).run Try.prog W = .ok (.slice (some ⟨g, o + m, none⟩) n (64 - m)) W := by
  have h := run_sliceAt_array_lh (P := Try.prog) W 93 ⟨g, o, none⟩ Try.underlying93 .i64 .i64 (m : Int) ((m : Int) + (n : Int)) (by omega) (by omega) (show (m : Int) + (n : Int) ≤ 64 by omega)
  rw [h]
  have hs : (sizeOf (Try.prog.elem 93)).run Try.prog W = .ok 1 W := by go_simp
  rw [hs]
  show Result.ok (slicedAt _ _ _ 64 1) W = _
  unfold slicedAt
  rw [if_neg (by omega), Int.toNat_natCast, show ((m : Int) + (n : Int)).toNat - m = n by omega]
  congr 3
  unfold Addr.add
  split
  · next e => rw [show m = 0 by omega]; rfl
  · simp
set_option maxRecDepth 100000 in
set_option maxHeartbeats 1000000 in
theorem slice_to (g o n : Nat) (hn : n ≤ 64) (W : World) :
    (Instr.sliceAt 93 (.pointer (some ⟨g, o, none⟩)) none (some (.int .i64 (n : Int))) none).run Try.prog W = .ok (.slice (some ⟨g, o, none⟩) n 64) W := by
  have h := run_sliceAt_array_h (P := Try.prog) W 93 ⟨g, o, none⟩ Try.underlying93 .i64 (n : Int) (by omega) (show (n : Int) ≤ 64 by omega)
  rw [h]
  have hs : (sizeOf (Try.prog.elem 93)).run Try.prog W = .ok 1 W := by go_simp
  rw [hs]
  show Result.ok (slicedAt _ _ _ 64 1) W = _
  unfold slicedAt
  rw [Int.toNat_natCast]
  simp [Addr.add]

/-- The world at Put: the frame's block, the glue, and what has turned. -/
structure Bo (w W : World) (B b n : Nat) (h : Gl) (f : Fr) : Prop where
  box : FrAt W B 0 f
  gl : GAt W b n h
  only : OnlyL [b] w W
  ne : B ≠ b
section
variable {w W W' : World} {B b n : Nat} {g h : Gl} {f : Fr}
theorem Bo.of (h : Bx w W B b n g f) (hne : B ≠ b) : Bo w W B b n g f := ⟨h.box, h.gl, OnlyL.of_below h.bel, hne⟩
theorem Bo.drew (h : Bo w W B b n g f) : Bo w W.drew B b n g f := ⟨h.box, h.gl, h.only.drew, h.ne⟩
theorem Bo.next (h : Bo w W B b n g f) (hb : Below W.heap.size W W') : Bo w W' B b n g f := ⟨h.box.below hb, h.gl.below hb, h.only.tr (OnlyL.of_below hb), h.ne⟩
theorem Bo.turn (h : Bo w W B b n g f) {g' : Gl} (ho : OnlyL [b] W W') (hg : GAt W' b n g') : Bo w W' B b n g' f := ⟨h.box.only ho (by simpa using h.ne), hg, h.only.tr ho, h.ne⟩

theorem GAt.ver (h : GAt W b n g0) (i s k : Nat) : GAt ((W.setCell ⟨b, 1, none⟩ (.int .u16 i)).setCell ⟨b, 2, none⟩ (.int .u32 s)) b n ⟨true, i, s, List.replicate k []⟩ := by
  obtain ⟨A, h, h0, h1, h2, h3, h4, h5, h6⟩ := h
  refine ⟨_, heap_setCell_same _ _ _ _ _ _ (heap_setCell_same _ _ _ _ _ _ h), by simp [h0], ?_, ?_, ?_, ?_, fun j hj => ?_, fun p j c hc => ?_⟩
  · simpa [Array.getElem?_setIfInBounds, h0] using h1
  · simp [h0]
  · simp [h0]
  · have h4' : A[3]? = some (.int .u8 0) := h4
    rw [mask_rep]; simpa [Array.getElem?_setIfInBounds, h0] using h4'
  · obtain ⟨x, hx⟩ := h5 j hj
    refine ⟨x, ?_⟩
    rw [Array.getElem?_setIfInBounds, if_neg (by omega), Array.getElem?_setIfInBounds, if_neg (by omega)]
    exact hx
  · have : (List.replicate k ([] : Bs)).getD p [] = [] := getD_rep k p
    dsimp only at hc
    rw [this] at hc
    simp at hc
theorem fresh_new (hg : WG n g) (hf : FitF f) (hv : 0 < cmpV f.vinc f.vseq g.inc g.seq) : freshG n g f = ⟨true, f.vinc, f.vseq, List.replicate (pN n) []⟩ := by
  have : newerB g f = true := by
    cases hi : g.is
    · unfold newerB; rw [hi]; rfl
    · rw [← newer_iff hg hf hi, decide_eq_true hv]
  unfold freshG
  rw [if_pos this]
theorem numV_zero {i s : Nat} (e : numV 0 0 = numV i s) : i = 0 ∧ s = 0 := by
  unfold numV at e
  omega
theorem GAt.fresh (h : GAt W b n g) (hg : WG n g) (hf : FitF f) (hv : cmpV f.vinc f.vseq g.inc g.seq = 0) : GAt W b n (freshG n g f) := by
  cases hi : g.is
  · have h0 := hg.none hi
    subst h0
    have e : numV 0 0 = numV f.vinc f.vseq := by
      have h := cmpV_eq (i := f.vinc) (s := f.vseq) (j := 0) (t := 0) hf.vs (by omega)
      exact h.mp hv
    obtain ⟨z1, z2⟩ := numV_zero e
    have : freshG n g0 f = ⟨true, f.vinc, f.vseq, List.replicate (pN n) []⟩ := rfl
    rw [this, z1, z2]
    obtain ⟨A, h, h0, h1, h2, h3, h4, h5, h6⟩ := h
    refine ⟨A, h, h0, h1, ?_, ?_, ?_, h5, fun p j c hc => ?_⟩
    · exact h2
    · exact h3
    · rw [mask_rep]; exact h4
    · have : (List.replicate (pN n) ([] : Bs)).getD p [] = [] := getD_rep _ p
      dsimp only at hc
      rw [this] at hc
      simp at hc
  · have : newerB g f = false := by rw [← newer_iff hg hf hi, hv]; rfl
    unfold freshG
    rw [this]
    exact h

/-- The part's bytes are there, its bit isn't yet. -/
structure GMd (W : World) (b n : Nat) (h : Gl) (f : Fr) (m : Nat) : Prop where
  c3 : W.cell? ⟨b, 3, none⟩ = some (.int .u8 (maskB h.came : Nat))
  fz : ∀ j, W.frozen? ⟨b, j, none⟩ = false
  lt : b < W.heap.size
  put : ∀ W' : World, W'.heap[b]? = W.heap[b]? → GAt (W'.setCell ⟨b, 3, none⟩ (.int .u8 m)) b n (withB h f)
theorem GMd.below {m : Nat} (k : GMd W b n h f m) (hb : Below W.heap.size W W') : GMd W' b n h f m :=
  ⟨kept_own hb k.c3, fun j => by rw [hb.frozen (p := ⟨b, j, none⟩) k.lt]; exact k.fz j, by have := k.lt; have := hb.size; omega, fun W'' e => k.put W'' (e.trans (hb.block b k.lt))⟩
theorem GMd.drew {m : Nat} (k : GMd W b n h f m) : GMd W.drew b n h f m := ⟨k.c3, k.fz, k.lt, k.put⟩
theorem GAt.copy (k : GAt W b n h) (hl : h.came.length ≤ 4) (h16 : ∀ q, (h.came.getD q []).length ≤ 16) (hp : f.part < h.came.length) (hb : 1 ≤ f.bytes.length ∧ f.bytes.length ≤ 16) :
    GMd (W.setCells b (4 + 16 * f.part) ((S f.bytes).data.toList.map fun x => Value.int .u8 (x.toNat : Int))) b n h f (maskB h.came ||| 2 ^ f.part) := by
  have hlt := k.lt
  obtain ⟨A, k, k0, k1, k2, k3, k4, k5, k6⟩ := k
  have hh := heap_sets b 95 ((S f.bytes).data.toList.map fun x => Value.int .u8 (x.toNat : Int)) (4 + 16 * f.part) A W k
  have hlen : ((S f.bytes).data.toList.map fun x => Value.int .u8 (x.toNat : Int)).length = f.bytes.length := by simp [S]
  have hat : ∀ j : Nat, ((S f.bytes).data.toList.map fun x => Value.int .u8 (x.toNat : Int))[j]? = (f.bytes[j]?).map (fun x : UInt8 => Value.int .u8 (x.toNat : Int)) := fun j => by simp [S]
  generalize ((S f.bytes).data.toList.map fun x => Value.int .u8 (x.toNat : Int)) = vs at *
  have hsz : (setL A (4 + 16 * f.part) vs).size = 68 := by rw [setL_size, k0]
  have hA : ∀ j, (setL A (4 + 16 * f.part) vs)[j]? = if 4 + 16 * f.part ≤ j ∧ j < 4 + 16 * f.part + vs.length then vs[j - (4 + 16 * f.part)]? else A[j]? := fun j => setL_at vs A _ j (by rw [hlen, k0]; omega)
  refine ⟨?_, fun j => frozen_of _ _ _ _ _ hh, ?_, fun W' e => ?_⟩
  · rw [cell_of_row _ _ _ _ _ _ hh, hA, if_neg (by omega)]
    exact k4
  · rw [setCells_size]; exact hlt
  · refine ⟨_, heap_setCell_same _ _ _ _ _ _ (e.trans hh), by simp [hsz], ?_, ?_, ?_, ?_, fun j hj => ?_, fun q j c hc => ?_⟩
    · rw [Array.getElem?_setIfInBounds, if_neg (by omega), hA, if_neg (by omega)]; exact k1
    · rw [Array.getElem?_setIfInBounds, if_neg (by omega), hA, if_neg (by omega)]; exact k2
    · rw [Array.getElem?_setIfInBounds, if_neg (by omega), hA, if_neg (by omega)]; exact k3
    · rw [Array.getElem?_setIfInBounds, if_pos rfl, if_pos (by omega)]
      show _ = some (Value.int .u8 ((maskB (h.came.set f.part f.bytes) : Nat) : Int))
      rw [mask_set _ _ _ hp (ne_of_len hb.1)]
    · rw [Array.getElem?_setIfInBounds, if_neg (by omega), hA]
      split
      · rename_i hin
        rw [hat, List.getElem?_eq_getElem (by omega)]
        exact ⟨_, rfl⟩
      · exact k5 j hj
    · have hc' : ((h.came.set f.part f.bytes).getD q [])[j]? = some c := hc
      rw [getD_set _ _ _ _ hp] at hc'
      rw [Array.getElem?_setIfInBounds, if_neg (by omega), hA]
      have hjl := (List.getElem?_eq_some_iff.1 hc').1
      by_cases e : q = f.part
      · rw [if_pos e] at hc' hjl
        subst e
        rw [if_pos (by omega), hat, show 4 + 16 * f.part + j - (4 + 16 * f.part) = j by omega, hc']
        rfl
      · rw [if_neg e] at hc' hjl
        have := h16 q
        rw [if_neg (by omega)]
        exact k6 q j c hc'
end
/-- The world behind the copy. -/
structure Bm (w W : World) (B b n : Nat) (h : Gl) (f : Fr) (m : Nat) : Prop where
  box : FrAt W B 0 f
  md : GMd W b n h f m
  only : OnlyL [b] w W
  ne : B ≠ b
section
variable {w W W' : World} {B b n m : Nat} {h : Gl} {f : Fr}
theorem Bm.of (k : Bo w W B b n h f) (o : Nat) (vs : List Value) (hm : GMd (W.setCells b o vs) b n h f m) : Bm w (W.setCells b o vs) B b n h f m :=
  ⟨k.box.only (OnlyL.sets (ms := [b]) (by simp) _ _ _) (by simpa using k.ne), hm, k.only.tr (OnlyL.sets (by simp) _ _ _), k.ne⟩
theorem Bm.drew (k : Bm w W B b n h f m) : Bm w W.drew B b n h f m := ⟨k.box, k.md.drew, k.only.drew, k.ne⟩
theorem Bm.next (k : Bm w W B b n h f m) (hb : Below W.heap.size W W') : Bm w W' B b n h f m := ⟨k.box.below hb, k.md.below hb, k.only.tr (OnlyL.of_below hb), k.ne⟩
theorem Bm.ld (k : Bm w W B b n h f m) {v : Value} : ldF (.pointer (some ⟨B, 0, none⟩)) (W.setCell ⟨b, 3, none⟩ v) = .ok (.value (.agg (frA f))) (W.setCell ⟨b, 3, none⟩ v) :=
  (k.box.only (OnlyL.set (ms := [b]) (by simp) 3 _) (by simpa using k.ne)).ld
theorem Bm.done (k : Bm w W B b n h f m) : GAt (W.setCell ⟨b, 3, none⟩ (.int .u8 m)) b n (withB h f) ∧ OnlyL [b] w (W.setCell ⟨b, 3, none⟩ (.int .u8 m)) :=
  ⟨k.md.put W rfl, k.only.tr (OnlyL.set (by simp) 3 _)⟩
end
/-- The bytes of a value that is whole, as a text. -/
theorem conv_full {W : World} {b n : Nat} {g : Gl} (h : GAt W b n g) (hl : g.came.length = pN n) (hp : ∀ p, p < pN n → (g.came.getD p []).length = pL n p) :
    (convert 69 9 (.slice (some ⟨b, 4, none⟩) n 64)).run Try.prog W = .ok (.string (S (joinB g.came))) W := by
  have hj := join_len _ n g.came hl rfl hp
  have := run_convert_bytes_back (P := Try.prog) W 69 9 5 ⟨b, 4, none⟩ 64 (joinB g.came) Try.underlying69 Try.underlying5 Try.underlying9 (fun j hjl => by
    obtain ⟨A, k, k0, k1, k2, k3, k4, k5, k6⟩ := h
    have e : (⟨b, 4, none⟩ : Addr).add j = ⟨b, 4 + j, none⟩ := Addr.add_mid b 4 j
    rw [e, cell_of_row _ _ _ _ _ _ k]
    have hat := join_at _ n g.came hl rfl hp j (by omega)
    rw [List.getElem?_eq_getElem hjl] at hat
    have := k6 (j / 16) (j % 16) _ hat.symm
    rw [show 4 + 16 * (j / 16) + j % 16 = 4 + j by omega] at this
    exact this)
  rw [hj] at this
  exact this
end Go.Proofs.Ytbfjimbffpkkhaa.Pa
