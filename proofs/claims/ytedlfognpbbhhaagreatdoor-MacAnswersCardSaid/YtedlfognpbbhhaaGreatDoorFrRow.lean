/-
  A row of nineteen cells: a frame in memory. Conditions: as each states.
-/
import Derived.Test.YtedlfognpbbhhaaGreatDoorFrMath
namespace Go.Proofs.YtedlfognpbbhhaaGreatDoor.Frm
open Go.RowKit

/-- The nineteen cells of block b, as they stand. -/
noncomputable def rowArr (W : World) (b : Nat) : Array Value := ((List.range 19).map fun k => (W.cell? ⟨b, k, none⟩).getD undef).toArray
/-- There are nineteen. -/
def RowOk (W : World) (b : Nat) : Prop := ∀ k, k < 19 → (W.cell? ⟨b, k, none⟩).isSome = true
/-- And they may be written. -/
def RowFree (W : World) (b : Nat) : Prop := RowOk W b ∧ ∀ k, k < 19 → W.frozen? ⟨b, k, none⟩ = false
/-- Nineteen cells written. -/
noncomputable def put29 (W : World) (b : Nat) (c : Array Value) : World := W.setCells b 0 c.toList

theorem rowArr_size (W : World) (b : Nat) : (rowArr W b).size = 19 := by simp [rowArr]
theorem rowArr_at (W : World) (b k : Nat) (hk : k < 19) (h : RowOk W b) : (rowArr W b)[k]? = W.cell? ⟨b, k, none⟩ := by
  obtain ⟨v, hv⟩ := Option.isSome_iff_exists.1 (h k hk)
  simp [rowArr, hk, hv]
theorem rowArr_ext {W : World} {b : Nat} {c : Array Value} (hc : c.size = 19) (h : ∀ k, k < 19 → W.cell? ⟨b, k, none⟩ = c[k]?) : rowArr W b = c := by
  have hok : RowOk W b := fun k hk => by rw [h k hk]; simp [hc, hk]
  apply Array.ext_getElem?
  intro k
  by_cases hk : k < 19
  · rw [rowArr_at W b k hk hok, h k hk]
  · rw [Array.getElem?_eq_none (by rw [rowArr_size]; omega), Array.getElem?_eq_none (by omega)]
theorem range_of {W : World} {b : Nat} (h : RowOk W b) : W.rangeAt b 0 (rowArr W b).toList := fun j v hv => by
  have hj : j < 19 := by
    have := (List.getElem?_eq_some_iff.1 hv).1
    rw [Array.length_toList, rowArr_size] at this
    exact this
  rw [Nat.zero_add, ← rowArr_at W b j hj h]
  simpa using hv

theorem Tryz.size29 : (Tryz.prog.info? 38).map (·.size) = some 19 := by kernel_rfl

theorem load_row (W : World) (b : Nat) (h : RowOk W b) : (Instr.loadAt 38 (.pointer (some ⟨b, 0, none⟩))).run Tryz.prog W = .ok (.agg (rowArr W b)) W := by
  have h2 := run_loadAt_mid (P := Tryz.prog) W b 0 38 (rowArr W b).toList _ (range_of h) Tryz.underlying38 rfl (by rw [Array.length_toList, rowArr_size]; exact Tryz.size29)
  simpa using h2
theorem loadVar_row (W : World) (b : Nat) (h : RowOk W b) : (loadVar 38 ⟨b, 0, none⟩).run Tryz.prog W = .ok (.agg (rowArr W b)) W := by
  have h2 := run_loadVar_mid (P := Tryz.prog) W b 0 38 (rowArr W b).toList _ (range_of h) Tryz.underlying38 rfl (by rw [Array.length_toList, rowArr_size]; exact Tryz.size29)
  simpa using h2
theorem store_row (W : World) (b : Nat) (c : Array Value) (h : RowFree W b) (hc : c.size = 19) (h1 : c.all (·.oneCell') = true) :
    (Instr.storeAt 38 (.pointer (some ⟨b, 0, none⟩)) (.agg c)).run Tryz.prog W = .ok () (put29 W b c) :=
  run_storeAt_mid (P := Tryz.prog) W b 0 38 c (fun j hj => by rw [Nat.zero_add]; exact ⟨h.1 j (by omega), h.2 j (by omega)⟩) (by rw [hc]; exact Tryz.size29) h1

theorem one_int (k : IntKind) (n : Int) : (Value.int k n).oneCell' = true := rfl
theorem one_bool (b : Bool) : (Value.bool b).oneCell' = true := rfl
theorem one_str (s : ByteArray) : (Value.string s).oneCell' = true := rfl

/-- The operation that reads a frame, and the one that writes one, at their operands' values. -/
noncomputable def ld29 (v : Value) (W : World) : Result Next := (do pure (Next.value (← Instr.loadAt 38 v)) : Sem Next).run Tryz.prog W
noncomputable def st29 (p v : Value) (W : World) : Result Next := (do Instr.storeAt 38 p v; pure Next.skip : Sem Next).run Tryz.prog W
theorem exec_ld (ρ : Operand → Value) (d : Option Tmp) (x : Operand) (t : TypeId) (pos : String) (af : _) (g : _) (W : World) :
    (execOp ρ ⟨d, .load 38 x, t, pos, af, g⟩).run Tryz.prog W = ld29 (ρ x) W := rfl
theorem exec_st (ρ : Operand → Value) (d : Option Tmp) (x y : Operand) (t : TypeId) (pos : String) (af : _) (g : _) (W : World) :
    (execOp ρ ⟨d, .store 38 x y, t, pos, af, g⟩).run Tryz.prog W = st29 (ρ x) (ρ y) W := rfl
theorem ld_row (W : World) (b : Nat) (h : RowOk W b) : ld29 (.pointer (some ⟨b, 0, none⟩)) W = .ok (.value (.agg (rowArr W b))) W := by
  unfold ld29
  rw [Sem.run_bind, load_row W b h]
  rfl
theorem st_row (W : World) (b : Nat) (c : Array Value) (h : RowFree W b) (hc : c.size = 19) (h1 : c.all (·.oneCell') = true) :
    st29 (.pointer (some ⟨b, 0, none⟩)) (.agg c) W = .ok .skip (put29 W b c) := by
  unfold st29
  rw [Sem.run_bind, store_row W b c h hc h1]
  rfl

/-- The operation that makes a frame. -/
noncomputable def bd29 (parts : Array (Nat × Value)) (W : World) : Result Next := (do pure (Next.value (← Instr.build 38 parts)) : Sem Next).run Tryz.prog W
theorem exec_bd (ρ : Operand → Value) (d : Option Tmp) (ps : Array (Nat × Operand)) (t : TypeId) (pos : String) (af : _) (g : _) (W : World) :
    (execOp ρ ⟨d, .build 38 ps, t, pos, af, g⟩).run Tryz.prog W = bd29 (ps.map fun x => (x.1, ρ x.2)) W := rfl
theorem bd_of (parts : Array (Nat × Value)) (c : Array Value) (W : World) (h : Tryz.prog.built 38 parts.toList = some c) : bd29 parts W = .ok (.value (.agg c)) W := by
  unfold bd29
  rw [Sem.run_bind, run_build W 38 parts c h]
  rfl
theorem bd_0 (W : World) : bd29 #[] W = .ok (.value (.agg #[.int .i64 0, .int .u8 0, .int .u8 0, .int .u16 0, .int .u16 0, .int .u16 0, .int .u8 0, .int .u16 0, .int .u16 0, .int .u16 0, .int .u8 0, .int .u16 0, .bool false, .int .u8 0, .int .u16 0, .int .u32 0, .int .u8 0, .int .u8 0, .string ⟨#[]⟩])) W := bd_of _ _ W (by kernel_rfl)
theorem bd_1 (a : Int) (W : World) : bd29 #[(0, .int .i64 a)] W = .ok (.value (.agg #[.int .i64 a, .int .u8 0, .int .u8 0, .int .u16 0, .int .u16 0, .int .u16 0, .int .u8 0, .int .u16 0, .int .u16 0, .int .u16 0, .int .u8 0, .int .u16 0, .bool false, .int .u8 0, .int .u16 0, .int .u32 0, .int .u8 0, .int .u8 0, .string ⟨#[]⟩])) W := bd_of _ _ W (by kernel_rfl)
theorem bd_5 (a b c x y z d : Int) (W : World) : bd29 #[(0, .int .i64 a), (1, .int .u8 b), (3, .int .u16 c), (5, .agg #[.int .u16 x, .int .u8 y, .int .u16 z]), (6, .int .u16 d)] W = .ok (.value (.agg #[.int .i64 a, .int .u8 b, .int .u8 0, .int .u16 c, .int .u16 0, .int .u16 x, .int .u8 y, .int .u16 z, .int .u16 d, .int .u16 0, .int .u8 0, .int .u16 0, .bool false, .int .u8 0, .int .u16 0, .int .u32 0, .int .u8 0, .int .u8 0, .string ⟨#[]⟩])) W := bd_of _ _ W (by kernel_rfl)
theorem bd_6 (a b c d e h : Int) (W : World) : bd29 #[(0, .int .i64 a), (1, .int .u8 b), (3, .int .u16 c), (2, .int .u8 d), (4, .int .u16 e), (6, .int .u16 h)] W = .ok (.value (.agg #[.int .i64 a, .int .u8 b, .int .u8 d, .int .u16 c, .int .u16 e, .int .u16 0, .int .u8 0, .int .u16 0, .int .u16 h, .int .u16 0, .int .u8 0, .int .u16 0, .bool false, .int .u8 0, .int .u16 0, .int .u32 0, .int .u8 0, .int .u8 0, .string ⟨#[]⟩])) W := bd_of _ _ W (by kernel_rfl)

/-! What becomes of a row. -/
theorem cell_new (W : World) (c : Array Value) (t : TypeId) (n k : Nat) (h : n = W.heap.size) : (W.alloc (.cells c t)).cell? ⟨n, k, none⟩ = c[k]? := by
  subst h; exact World.cell?_alloc_new _ _ _ _
theorem cell_old (W : World) (o : Obj) (n k : Nat) (h : n < W.heap.size) : (W.alloc o).cell? ⟨n, k, none⟩ = W.cell? ⟨n, k, none⟩ :=
  ((Below.refl W.heap.size W).alloc (Nat.le_refl _) o).cell (p := ⟨n, k, none⟩) h
theorem row_new (W : World) (c : Array Value) (t : TypeId) (n : Nat) (h : n = W.heap.size) (hc : c.size = 19) : rowArr (W.alloc (.cells c t)) n = c :=
  rowArr_ext hc fun k _ => cell_new W c t n k h
theorem ok_new (W : World) (c : Array Value) (t : TypeId) (n : Nat) (h : n = W.heap.size) (hc : c.size = 19) : RowOk (W.alloc (.cells c t)) n := fun k hk => by
  rw [cell_new W c t n k h]; simp [hc, hk]
theorem free_new (W : World) (c : Array Value) (t : TypeId) (n : Nat) (h : n = W.heap.size) (hc : c.size = 19) : RowFree (W.alloc (.cells c t)) n :=
  ⟨ok_new W c t n h hc, fun k hk => by subst h; exact World.frozen?_alloc_new _ _ _ _⟩
theorem row_old (W : World) (o : Obj) (n : Nat) (h : n < W.heap.size) : rowArr (W.alloc o) n = rowArr W n := by
  unfold rowArr; congr 2; funext k; rw [cell_old W o n k h]
theorem ok_old (W : World) (o : Obj) (n : Nat) (h : n < W.heap.size) (hk : RowOk W n) : RowOk (W.alloc o) n := fun k h2 => by rw [cell_old W o n k h]; exact hk k h2
theorem free_old (W : World) (o : Obj) (n : Nat) (h : n < W.heap.size) (hk : RowFree W n) : RowFree (W.alloc o) n :=
  ⟨ok_old W o n h hk.1, fun k h2 => by rw [World.frozen?_alloc_old W o ⟨n, k, none⟩ (by show n ≠ _; omega)]; exact hk.2 k h2⟩

theorem put_cell_in (W : World) (b : Nat) (c : Array Value) (k : Nat) (h : RowOk W b) (hc : c.size = 19) (hk : k < 19) : (put29 W b c).cell? ⟨b, k, none⟩ = c[k]? := by
  have h2 := World.cell?_setCells_in b c.toList 0 W (fun j hj => by rw [Nat.zero_add]; exact h j (by rw [Array.length_toList] at hj; omega)) k (by rw [Array.length_toList]; omega)
  rw [Nat.zero_add] at h2
  unfold put29
  rw [h2]
  simp [hc, hk]
theorem put_cell_out (W : World) (b n k : Nat) (c : Array Value) (h : n ≠ b) : (put29 W b c).cell? ⟨n, k, none⟩ = W.cell? ⟨n, k, none⟩ :=
  World.cell?_setCells_out b c.toList 0 W ⟨n, k, none⟩ (fun e => absurd e h)
theorem put_frozen (W : World) (b : Nat) (c : Array Value) (a : Addr) : (put29 W b c).frozen? a = W.frozen? a := World.frozen?_setCells b c.toList 0 W a
theorem row_put (W : World) (b : Nat) (c : Array Value) (h : RowOk W b) (hc : c.size = 19) : rowArr (put29 W b c) b = c :=
  rowArr_ext hc fun k hk => put_cell_in W b c k h hc hk
theorem row_put_out (W : World) (b n : Nat) (c : Array Value) (h : n ≠ b) : rowArr (put29 W b c) n = rowArr W n := by
  unfold rowArr; congr 2; funext k; rw [put_cell_out W b n k c h]
theorem ok_put (W : World) (b n : Nat) (c : Array Value) (h : RowOk W n) : RowOk (put29 W b c) n := fun k hk => World.isSome_setCells b c.toList 0 W _ (h k hk)
theorem free_put (W : World) (b n : Nat) (c : Array Value) (h : RowFree W n) : RowFree (put29 W b c) n := ⟨ok_put W b n c h.1, fun k hk => by rw [put_frozen]; exact h.2 k hk⟩
theorem setCells_size (b : Nat) : ∀ (l : List Value) (o : Nat) (W : World), (W.setCells b o l).heap.size = W.heap.size
  | [], _, _ => rfl
  | v :: r, o, W => by rw [World.setCells, setCells_size b r]; simp
theorem put_size (W : World) (b : Nat) (c : Array Value) : (put29 W b c).heap.size = W.heap.size := setCells_size b _ _ _
theorem below_setCells {N : Nat} {W0 : World} (b : Nat) (hb : N ≤ b) : ∀ (l : List Value) (o : Nat) (W : World), Below N W0 W → Below N W0 (W.setCells b o l)
  | [], _, _, h => h
  | v :: r, o, _, h => below_setCells b hb r (o + 1) _ (h.setCell (p := ⟨b, o, none⟩) hb v)
theorem below_put {N : Nat} {W0 W : World} {b : Nat} (hb : N ≤ b) (c : Array Value) (h : Below N W0 W) : Below N W0 (put29 W b c) := below_setCells b hb _ _ _ h

theorem set_cell (W : World) (b k j n : Nat) (v : Value) (h : RowOk W b) (hk : k < 19) : (W.setCell ⟨b, k, none⟩ v).cell? ⟨n, j, none⟩ = if n = b ∧ j = k then some v else W.cell? ⟨n, j, none⟩ := by
  by_cases e : n = b ∧ j = k
  · rw [if_pos e]
    obtain ⟨rfl, rfl⟩ := e
    exact World.cell?_setCell_same' _ _ _ (h _ hk)
  · rw [if_neg e]
    refine World.cell?_setCell_other _ _ _ _ ?_
    intro e2
    injection e2 with e3 e4
    exact e ⟨e3.symm, e4.symm⟩
theorem row_set (W : World) (b k : Nat) (v : Value) (h : RowOk W b) (hk : k < 19) : rowArr (W.setCell ⟨b, k, none⟩ v) b = (rowArr W b).setIfInBounds k v := by
  refine rowArr_ext (by rw [Array.size_setIfInBounds, rowArr_size]) fun j hj => ?_
  rw [set_cell W b k j b v h hk, Array.getElem?_setIfInBounds, rowArr_size]
  by_cases e : k = j
  · subst e; simp [hk]
  · rw [if_neg (by omega), if_neg e, rowArr_at W b j hj h]
theorem row_set_out (W : World) (b k n : Nat) (v : Value) (h : n ≠ b) : rowArr (W.setCell ⟨b, k, none⟩ v) n = rowArr W n := by
  unfold rowArr; congr 2; funext j
  rw [World.cell?_setCell_other _ _ _ _ (by intro e; injection e with e1 _; exact h e1.symm)]
theorem ok_set (W : World) (b k n : Nat) (v : Value) (h : RowOk W n) : RowOk (W.setCell ⟨b, k, none⟩ v) n := fun j hj => by
  obtain ⟨u, hu⟩ := Option.isSome_iff_exists.1 (h j hj)
  obtain ⟨u', hu'⟩ := RowKit.cell?_setCell_some (p := ⟨b, k, none⟩) (x := v) hu
  rw [hu']; rfl
theorem free_set (W : World) (b k n : Nat) (v : Value) (h : RowFree W n) : RowFree (W.setCell ⟨b, k, none⟩ v) n := ⟨ok_set W b k n v h.1, fun j hj => by rw [World.frozen?_setCell]; exact h.2 j hj⟩
theorem ok_of_free (W : World) (n : Nat) (h : RowFree W n) : RowOk W n := h.1
theorem drew_cell (W : World) (a : Addr) : W.drew.cell? a = W.cell? a := Eq.trans rfl rfl
theorem drew_frozen (W : World) (a : Addr) : W.drew.frozen? a = W.frozen? a := Eq.trans rfl rfl
theorem drew_size (W : World) : W.drew.heap.size = W.heap.size := Eq.trans rfl rfl
theorem row_drew (W : World) (n : Nat) : rowArr W.drew n = rowArr W n := Eq.trans rfl rfl
theorem ok_drew (W : World) (n : Nat) : RowOk W.drew n = RowOk W n := propext ⟨fun h => h, fun h => h⟩
theorem free_drew (W : World) (n : Nat) : RowFree W.drew n = RowFree W n := propext ⟨fun h => h, fun h => h⟩

/-! The same, with the block's number apart. -/
theorem put_in (W : World) (b n k : Nat) (c : Array Value) (e : n = b) (h : RowOk W b) (hc : c.size = 19) (hk : k < 19) : (put29 W b c).cell? ⟨n, k, none⟩ = c[k]? := by
  subst e; exact put_cell_in W _ c k h hc hk
theorem row_put_in (W : World) (b n : Nat) (c : Array Value) (e : n = b) (h : RowOk W b) (hc : c.size = 19) : rowArr (put29 W b c) n = c := by
  subst e; exact row_put W _ c h hc
theorem row_set_in (W : World) (b k n : Nat) (v : Value) (e : n = b) (h : RowOk W b) (hk : k < 19) : rowArr (W.setCell ⟨b, k, none⟩ v) n = (rowArr W b).setIfInBounds k v := by
  subst e; exact row_set W _ k v h hk

theorem put_cell_lt (W : World) (b n k : Nat) (c : Array Value) (h : n < b) : (put29 W b c).cell? ⟨n, k, none⟩ = W.cell? ⟨n, k, none⟩ := put_cell_out W b n k c (by omega)
theorem put_cell_gt (W : World) (b n k : Nat) (c : Array Value) (h : b < n) : (put29 W b c).cell? ⟨n, k, none⟩ = W.cell? ⟨n, k, none⟩ := put_cell_out W b n k c (by omega)
theorem row_put_lt (W : World) (b n : Nat) (c : Array Value) (h : n < b) : rowArr (put29 W b c) n = rowArr W n := row_put_out W b n c (by omega)
theorem row_put_gt (W : World) (b n : Nat) (c : Array Value) (h : b < n) : rowArr (put29 W b c) n = rowArr W n := row_put_out W b n c (by omega)
theorem row_set_lt (W : World) (b k n : Nat) (v : Value) (h : n < b) : rowArr (W.setCell ⟨b, k, none⟩ v) n = rowArr W n := row_set_out W b k n v (by omega)
theorem row_set_gt (W : World) (b k n : Nat) (v : Value) (h : b < n) : rowArr (W.setCell ⟨b, k, none⟩ v) n = rowArr W n := row_set_out W b k n v (by omega)

theorem isSome_setCell (W : World) (a x : Addr) (v : Value) : ((W.setCell a v).cell? x).isSome = (W.cell? x).isSome := by
  by_cases h : a = x
  · subst h
    simp only [World.setCell, World.cell?, Array.getElem?_modify, if_true]
    cases hh : W.heap[a.block]? with
    | none => simp
    | some o =>
      cases o <;> simp
      cases hs : a.spot with
      | some _ => simp
      | none => simp [Array.getElem?_setIfInBounds]; split <;> simp_all
  · rw [World.cell?_setCell_other _ _ _ _ h]
theorem isSome_sets (b : Nat) (x : Addr) : ∀ (l : List Value) (o : Nat) (W : World), ((W.setCells b o l).cell? x).isSome = (W.cell? x).isSome
  | [], _, _ => rfl
  | v :: r, o, W => by rw [World.setCells, isSome_sets b x r, isSome_setCell]
theorem ok_put_iff (W : World) (b n : Nat) (c : Array Value) : RowOk (put29 W b c) n = RowOk W n := by
  unfold RowOk put29; simp only [isSome_sets]
theorem ok_set_iff (W : World) (b k n : Nat) (v : Value) : RowOk (W.setCell ⟨b, k, none⟩ v) n = RowOk W n := by
  unfold RowOk; simp only [isSome_setCell]
theorem free_put_iff (W : World) (b n : Nat) (c : Array Value) : RowFree (put29 W b c) n = RowFree W n := by
  unfold RowFree; rw [ok_put_iff]; simp only [put_frozen]
theorem free_set_iff (W : World) (b k n : Nat) (v : Value) : RowFree (W.setCell ⟨b, k, none⟩ v) n = RowFree W n := by
  unfold RowFree; rw [ok_set_iff]; simp only [World.frozen?_setCell]
theorem ok_old_iff (W : World) (o : Obj) (n : Nat) (h : n < W.heap.size) : RowOk (W.alloc o) n = RowOk W n := by
  unfold RowOk; simp only [cell_old W o n _ h]
theorem free_old_iff (W : World) (o : Obj) (n : Nat) (h : n < W.heap.size) : RowFree (W.alloc o) n = RowFree W n := by
  unfold RowFree; rw [ok_old_iff W o n h]
  have : ∀ k, (W.alloc o).frozen? ⟨n, k, none⟩ = W.frozen? ⟨n, k, none⟩ := fun k => World.frozen?_alloc_old W o ⟨n, k, none⟩ (by show n ≠ _; omega)
  simp only [this]

theorem set_cell_lt (W : World) (b k n j : Nat) (v : Value) (h : n < b) : (W.setCell ⟨b, k, none⟩ v).cell? ⟨n, j, none⟩ = W.cell? ⟨n, j, none⟩ :=
  World.cell?_setCell_other _ _ _ _ (by intro e; injection e with e1 _; omega)
theorem set_cell_gt (W : World) (b k n j : Nat) (v : Value) (h : b < n) : (W.setCell ⟨b, k, none⟩ v).cell? ⟨n, j, none⟩ = W.cell? ⟨n, j, none⟩ :=
  World.cell?_setCell_other _ _ _ _ (by intro e; injection e with e1 _; omega)

theorem below_set {N : Nat} {W0 W : World} {b : Nat} (hb : N ≤ b) (k : Nat) (v : Value) (h : Below N W0 W) : Below N W0 (W.setCell ⟨b, k, none⟩ v) := h.setCell (p := ⟨b, k, none⟩) hb v
theorem below_drew' {N : Nat} {W0 W : World} (h : Below N W0 W) : Below N W0 W.drew := h.drew
theorem below_new {N : Nat} {W0 W : World} (h : Below N W0 W) (hN : N ≤ W.heap.size) (o : Obj) : Below N W0 (W.alloc o) := h.alloc hN o

/-! What a function hands back: a frame, alone or beside a number. -/
theorem results_29 {fn : Func} {p : Tmp} (h : fn.results = #[.cell p 38]) (tmps : Array Value) (w : World) (b : Nat) (c : Array Value)
    (hp : tmps.getD p undef = .pointer (some ⟨b, 0, none⟩)) (hk : RowOk w b) (hc : rowArr w b = c) : (results fn tmps).run Tryz.prog w = .ok (.agg c) w := by
  subst hc
  have hp' : tmps[p]?.getD undef = .pointer (some ⟨b, 0, none⟩) := by simpa using hp
  simp [results, h, hp', asAddr, loadVar_row w b hk]
theorem results_29e {fn : Func} {p q : Tmp} (h : fn.results = #[.cell p 38, .tmp q]) (tmps : Array Value) (w : World) (b : Nat) (c : Array Value) (v : Value)
    (hp : tmps.getD p undef = .pointer (some ⟨b, 0, none⟩)) (hv : tmps.getD q undef = v) (hk : RowOk w b) (hc : rowArr w b = c) : (results fn tmps).run Tryz.prog w = .ok (.tuple #[.agg c, v]) w := by
  subst hc
  have hp' : tmps[p]?.getD undef = .pointer (some ⟨b, 0, none⟩) := by simpa using hp
  have hv' : tmps[q]?.getD undef = v := by simpa using hv
  simp [results, h, hp', hv', asAddr, loadVar_row w b hk]

/-- The world at hand, known by what holds of it alone. -/
theorem world_cut {G : World → Prop} {W0 : World} (T : World → Prop) (h0 : T W0) (h : ∀ W, T W → G W) : G W0 := h W0 h0
theorem cell_of {W : World} {b : Nat} {c : Array Value} (h : RowOk W b) (e : rowArr W b = c) (k : Nat) (v : Value) (hv : c[k]? = some v) : W.cell? ⟨b, k, none⟩ = some v := by
  have hk : k < 19 := by
    have h1 := (Array.getElem?_eq_some_iff.1 hv).1
    rw [← e, rowArr_size] at h1
    exact h1
  rw [← rowArr_at W b k hk h, e, hv]

/-! A row behind a call that makes memory. -/
theorem row_below {W W' : World} {n : Nat} (hb : Below W.heap.size W W') (h : RowOk W n) : RowOk W' n ∧ rowArr W' n = rowArr W n := by
  have hc : ∀ k, k < 19 → W'.cell? ⟨n, k, none⟩ = W.cell? ⟨n, k, none⟩ := fun k hk => by
    obtain ⟨v, hv⟩ := Option.isSome_iff_exists.1 (h k hk)
    exact hb.cell (p := ⟨n, k, none⟩) (World.block_lt_of_cell? W ⟨n, k, none⟩ hv)
  have hok : RowOk W' n := fun k hk => by rw [hc k hk]; exact h k hk
  exact ⟨hok, rowArr_ext (rowArr_size W n) fun k hk => by rw [hc k hk, rowArr_at W n k hk h]⟩

end Go.Proofs.YtedlfognpbbhhaaGreatDoor.Frm
