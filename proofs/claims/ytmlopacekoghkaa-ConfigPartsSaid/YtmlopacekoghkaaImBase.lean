/-
  Spots, texts and areas in memory. Conditions: as each states.
-/
import Derived.Test.YtmlopacekoghkaaImMath
import Derived.Test.YtmlopacekoghkaaBlFind
import Derived.StillTailTactics
import Derived.Lib.SlBuf
import Derived.Deep.MidRow
namespace Go.Proofs.Ytmlopacekoghkaa.Bl
open Go.RowKit

/-! ### Texts -/
def S (l : Bs) : ByteArray := ⟨l.toArray⟩
theorem S_of (s : ByteArray) : S s.data.toList = s := by unfold S; simp
theorem S_size (l : Bs) : (S l).size = l.length := by simp [S, ByteArray.size]
theorem S_inj {a b : Bs} (h : S a = S b) : a = b := congrArg (fun s : ByteArray => s.data.toList) h
theorem toL (l : Bs) : (S l).toList = l := by rw [Lib.toList_data]; rfl
theorem S_cut (v : Bs) (a b : Nat) : (S v).extract a b = S ((v.take b).drop a) := by
  unfold S
  apply ByteArray.ext
  simp [ByteArray.data_extract, List.extract_eq_take_drop, List.drop_take]
theorem kept_own {W W' : World} (hb : Below W.heap.size W W') {b k : Nat} {v : Value} (hc : W.cell? ⟨b, k, none⟩ = some v) : W'.cell? ⟨b, k, none⟩ = some v :=
  kept_cell hb (World.block_lt_of_cell? W _ hc) hc
theorem below_drewN (W : World) (N n : Nat) : Below N W (W.drewN n) := ⟨rfl, rfl, rfl, Nat.le_refl _, fun _ _ => rfl⟩

/-! ### Spots -/
def spV (s : Spt) : Value := .agg #[.int .i64 s.b, .int .i64 s.a]
def Cells2 (w : World) (b o : Nat) (x : Spt) : Prop := w.cell? ⟨b, o, none⟩ = some (.int .i64 x.b) ∧ w.cell? ⟨b, o + 1, none⟩ = some (.int .i64 x.a)
def LiesS (w : World) (N : Nat) (ao : Option Addr) (xs : List Spt) : Prop := 1 ≤ xs.length → ∃ b o, ao = some ⟨b, o, none⟩ ∧ b < N ∧ ∀ (i : Nat) (x : Spt), xs[i]? = some x → Cells2 w b (o + i * 2) x
theorem LiesS.below {w w' : World} {N : Nat} {ao : Option Addr} {xs : List Spt} (h : LiesS w N ao xs) (hb : Below N w w') : LiesS w' N ao xs := by
  intro h1
  obtain ⟨b, o, ha, hlt, hI⟩ := h h1
  exact ⟨b, o, ha, hlt, fun i x hx => ⟨kept_cell hb hlt (hI i x hx).1, kept_cell hb hlt (hI i x hx).2⟩⟩
theorem LiesS.more {w : World} {N M : Nat} {ao : Option Addr} {xs : List Spt} (h : LiesS w N ao xs) (hm : N ≤ M) : LiesS w M ao xs := by
  intro h1
  obtain ⟨b, o, ha, hlt, hI⟩ := h h1
  exact ⟨b, o, ha, by omega, hI⟩
def Own2 (w : World) (b : Nat) (x : Spt) (t : TypeId) : Prop := w.heap[b]? = some (.cells #[.int .i64 x.b, .int .i64 x.a] t (0, 0))
theorem Own2.cells {w : World} {b : Nat} {x : Spt} {t : TypeId} (h : Own2 w b x t) : Cells2 w b 0 x := by
  refine ⟨?_, ?_⟩ <;> (rw [cell_of_row _ _ _ _ _ _ h]; rfl)
theorem Own2.kept {w w' : World} {b N : Nat} {x : Spt} {t : TypeId} (h : Own2 w b x t) (hb : Below N w w') (hN : b < N) : Own2 w' b x t := (hb.block b hN).trans h
theorem Own2.new (w : World) (x : Spt) (t : TypeId) : Own2 (w.alloc (.cells #[.int .i64 x.b, .int .i64 x.a] t)) w.heap.size x t := heap_alloc_new _ _
theorem Own2.lt {w : World} {b : Nat} {x : Spt} {t : TypeId} (h : Own2 w b x t) : b < w.heap.size := by
  have h' : w.heap[b]? = some _ := h
  exact (Array.getElem?_eq_some_iff.1 h').1

/-! ### Rows of texts -/
def LiesT (w : World) (N : Nat) (ao : Option Addr) (xs : List Bs) : Prop := 1 ≤ xs.length → ∃ b o, ao = some ⟨b, o, none⟩ ∧ b < N ∧ ∀ (i : Nat) (x : Bs), xs[i]? = some x → w.cell? ⟨b, o + i, none⟩ = some (.string (S x))
theorem LiesT.below {w w' : World} {N : Nat} {ao : Option Addr} {xs : List Bs} (h : LiesT w N ao xs) (hb : Below N w w') : LiesT w' N ao xs := by
  intro h1
  obtain ⟨b, o, ha, hlt, hI⟩ := h h1
  exact ⟨b, o, ha, hlt, fun i x hx => kept_cell hb hlt (hI i x hx)⟩
theorem LiesT.more {w : World} {N M : Nat} {ao : Option Addr} {xs : List Bs} (h : LiesT w N ao xs) (hm : N ≤ M) : LiesT w M ao xs := by
  intro h1
  obtain ⟨b, o, ha, hlt, hI⟩ := h h1
  exact ⟨b, o, ha, by omega, hI⟩

/-! ### Areas -/
/-- Bytes lie in block b from its head on, and may be written. -/
def AreaAt (W : World) (b : Nat) (A : Bs) : Prop := ∀ (j : Nat) (x : UInt8), A[j]? = some x → W.cell? ⟨b, j, none⟩ = some (.int .u8 (x.toNat : Nat)) ∧ W.frozen? ⟨b, j, none⟩ = false
theorem frozen_kept {W W' : World} {N : Nat} (hb : Below N W W') {b k : Nat} (hN : b < N) : W'.frozen? ⟨b, k, none⟩ = W.frozen? ⟨b, k, none⟩ := by
  unfold World.frozen?
  rw [hb.block b hN]
theorem AreaAt.below {W W' : World} {N b : Nat} {A : Bs} (h : AreaAt W b A) (hb : Below N W W') (hN : b < N) : AreaAt W' b A := fun j x hx =>
  ⟨kept_cell hb hN (h j x hx).1, (frozen_kept hb hN).trans (h j x hx).2⟩
theorem AreaAt.drew {W : World} {b : Nat} {A : Bs} (h : AreaAt W b A) : AreaAt W.drew b A := h
theorem AreaAt.of_row {W : World} {b : Nat} {A : Bs} {t : TypeId} {c : Array Value} (h : W.heap[b]? = some (.cells c t (0, 0))) (hc : c.toList = A.map fun x => Value.int .u8 (x.toNat : Nat)) : AreaAt W b A := fun j x hx => by
  refine ⟨?_, ?_⟩
  · rw [cell_of_row _ _ _ _ _ _ h, ← Array.getElem?_toList, hc, List.getElem?_map, hx]
    rfl
  · unfold World.frozen?
    rw [h]
    simp
theorem AreaAt.zeros {W : World} {t : TypeId} (n : Nat) : AreaAt (W.alloc (.cells (madeCells #[.int .u8 0] n) t)) W.heap.size (zeroA n) :=
  AreaAt.of_row (heap_alloc_new _ _) (by rw [toList_madeCells_one]; unfold zeroA; rw [List.map_replicate]; rfl)
def cellsV (l : Bs) : List Value := l.map fun x => Value.int .u8 (x.toNat : Int)
theorem AreaAt.sets {W : World} {b o : Nat} {A v : Bs} (h : AreaAt W b A) (hl : o + v.length ≤ A.length) : AreaAt (W.setCells b o (cellsV v)) b (A.take o ++ v ++ A.drop (o + v.length)) := fun j x hx => by
  have hin : ∀ k, k < A.length → ∃ y, A[k]? = some y := fun k hk => ⟨_, List.getElem?_eq_getElem hk⟩
  have hvl : (cellsV v).length = v.length := by unfold cellsV; simp
  have hol : (A.take o).length = o := by rw [List.length_take]; omega
  rw [List.append_assoc, List.getElem?_append, hol] at hx
  by_cases c1 : j < o
  · rw [if_pos c1, List.getElem?_take, if_pos c1] at hx
    rw [World.frozen?_setCells, World.cell?_setCells_out b _ _ _ _ (fun _ _ => Or.inl c1)]
    exact h j x hx
  · rw [if_neg c1, List.getElem?_append] at hx
    by_cases c2 : j - o < v.length
    · rw [if_pos c2] at hx
      have hjA : j < A.length := by omega
      obtain ⟨y, hy⟩ := hin j hjA
      rw [World.frozen?_setCells]
      refine ⟨?_, (h j y hy).2⟩
      have := World.cell?_setCells_in b (cellsV v) o W (fun k hk => by
        obtain ⟨y, hy⟩ := hin (o + k) (by rw [hvl] at hk; omega)
        rw [(h _ y hy).1]; rfl) (j - o) (by rw [hvl]; exact c2)
      rw [show o + (j - o) = j by omega] at this
      rw [this]
      congr 1
      unfold cellsV
      rw [List.getElem_map]
      obtain ⟨_, rfl⟩ := List.getElem?_eq_some_iff.1 hx
      rfl
    · rw [if_neg c2, List.getElem?_drop, show o + v.length + (j - o - v.length) = j by omega] at hx
      rw [World.frozen?_setCells, World.cell?_setCells_out b _ _ _ _ (fun _ _ => Or.inr (by rw [hvl]; show o + v.length ≤ j; omega))]
      exact h j x hx
theorem sizeU8 : ∀ w : World, (Go.sizeOf 5).run Try.prog w = .ok 1 w := by
  intro w
  go_simp
/-- 'copy' of a text's bytes into an area, as many as both have. -/
theorem run_copy_area (W : World) (ty : TypeId) {b o dLen dCap : Nat} {A v : Bs} (h : AreaAt W b A) (hd : o + dLen ≤ A.length) :
    (Builtin.copy_ #[101, 9] ty #[.slice (some ⟨b, o, none⟩) dLen dCap, .string (S v)]).run Try.prog W = .ok (goInt (Nat.min v.length dLen)) (W.setCells b o (cellsV (v.take (Nat.min v.length dLen)))) := by
  have hs : (S v).size = v.length := S_size v
  have hdt : (S v).data.toList = v := rfl
  have hmin : Nat.min v.length dLen = min v.length dLen := rfl
  have htk : List.take (Nat.min v.length dLen) (v.map fun x => Value.int .u8 (x.toNat : Int)) = cellsV (v.take (Nat.min v.length dLen)) := by
    unfold cellsV
    rw [← List.map_take]
  have hst := run_storeCells_cells (P := Try.prog) b o (cellsV (v.take (Nat.min v.length dLen))) 0 W (fun j hj => by
      unfold cellsV at hj
      rw [List.length_map, List.length_take] at hj
      have hjA : o + j < A.length := by rw [hmin] at hj; omega
      rw [Nat.add_zero, (h (o + j) _ (List.getElem?_eq_getElem hjA)).1]; rfl) (fun j hj => by
      unfold cellsV at hj
      rw [List.length_map, List.length_take] at hj
      have hjA : o + j < A.length := by rw [hmin] at hj; omega
      rw [Nat.add_zero, (h (o + j) _ (List.getElem?_eq_getElem hjA)).2]) (by
      intro u hu
      unfold cellsV at hu
      obtain ⟨x, _, rfl⟩ := List.mem_map.1 hu
      rfl)
  have hz := sizeU8
  simp [Builtin.copy_, run_underlying Try.underlying101, Builtin.lenOf, Builtin.firstCells, hz, hs, hdt]
  rw [htk, hst]
  rfl
theorem conv_area (W : World) {b n cap : Nat} {A : Bs} (h : AreaAt W b A) (hn : A.length = n) : (convert 101 9 (.slice (some ⟨b, 0, none⟩) n cap)).run Try.prog W = .ok (.string (S A)) W := by
  subst hn
  exact run_convert_bytes_back (P := Try.prog) W 101 9 5 ⟨b, 0, none⟩ cap A Try.underlying101 Try.underlying5 Try.underlying9 (fun j hj => by
    have e : (⟨b, 0, none⟩ : Addr).add j = ⟨b, 0 + j, none⟩ := Addr.add_mid _ 0 j
    rw [e, Nat.zero_add]
    exact (h j _ (List.getElem?_eq_getElem hj)).1)
theorem below_sets {N b : Nat} (hb : N ≤ b) : ∀ (vs : List Value) (o : Nat) (W : World), Below N W (W.setCells b o vs)
  | [], _, _ => Below.refl _ _
  | v :: r, o, W => ((Below.refl N W).setCell (p := ⟨b, o, none⟩) (show N ≤ b from hb) v).trans (below_sets hb r (o + 1) _)
theorem size_sets {b : Nat} : ∀ (vs : List Value) (o : Nat) (W : World), (W.setCells b o vs).heap.size = W.heap.size
  | [], _, _ => rfl
  | v :: r, o, W => by rw [World.setCells, size_sets r]; simp [World.setCell]
end Go.Proofs.Ytmlopacekoghkaa.Bl
