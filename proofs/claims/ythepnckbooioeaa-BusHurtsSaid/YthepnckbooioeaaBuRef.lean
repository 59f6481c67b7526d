/-
  The reference's bus: one piece more, walked. Conditions: none.
-/
import Derived.Test.YthepnckbooioeaaBuFace
import Derived.Deep.RegionWith
import Derived.StillTailTactics
namespace Go.Proofs.Ythepnckbooioeaa.Bus
open Go.RowKit

/-- The reference's object: a block with the row's head and the fault, and the row's own block. -/
def RefAt (w : World) (b : Nat) (ms : List Nat) (x : Bs) : Prop :=
  ∃ v, ms = b :: v.ownBlock.toList ∧ w.cell? ⟨b, 0, none⟩ = some v ∧ w.cell? ⟨b, 1, none⟩ = some (.bool x.f) ∧ w.frozen? ⟨b, 0, none⟩ = false ∧ w.frozen? ⟨b, 1, none⟩ = false ∧
    w.ownsRow 0 43 4 v x.l.length (flat x.l) ∧ v.ownBlock ≠ some b ∧ x.Ok

theorem own_of {w w' : World} {v : Value} {n : Nat} {xs : List Value} (h : w.ownsRow 0 43 4 v n xs) (hb : ∀ k, v.ownBlock = some k → w'.heap[k]? = w.heap[k]?) : w'.ownsRow 0 43 4 v n xs := by
  rcases h.2 with ⟨rfl, h0⟩ | ⟨g, cap, cur, rfl, hN, hg, h1, h2, h3, h4⟩
  · exact ⟨h.1, .inl ⟨rfl, h0⟩⟩
  · exact ⟨h.1, .inr ⟨g, cap, cur, rfl, hN, (hb g rfl).trans hg, h1, h2, h3, h4⟩⟩

def refFace : Face where
  At := RefAt
  of := by
    rintro w w' b ms x ⟨v, rfl, c0, c1, f0, f1, ho, hne, hok⟩ hb
    have hbb := hb b (by simp)
    exact ⟨v, rfl, (World.cell?_of_block (a := ⟨b, 0, none⟩) hbb).trans c0, (World.cell?_of_block (a := ⟨b, 1, none⟩) hbb).trans c1, (World.frozen?_of_block (a := ⟨b, 0, none⟩) hbb).trans f0, (World.frozen?_of_block (a := ⟨b, 1, none⟩) hbb).trans f1,
      own_of ho (fun k hk => hb k (by simp [hk])), hne, hok⟩
  lt := by
    rintro w b ms x ⟨v, rfl, c0, c1, f0, f1, ho, hne, hok⟩ k hk
    simp at hk
    rcases hk with rfl | hk
    · exact World.block_lt_of_cell? w ⟨k, 0, none⟩ c0
    · exact (World.ownsRow.lt ho k hk).2
  ok := by
    rintro w b ms x ⟨v, rfl, c0, c1, f0, f1, ho, hne, hok⟩
    exact hok

theorem off_ne (p : Nat) {i j : Nat} (h : i ≠ j) : (⟨p, i, none⟩ : Addr) ≠ ⟨p, j, none⟩ := by intro e; injection e; contradiction
theorem set_block (w : World) (b o : Nat) (v : Value) (k : Nat) (h : k ≠ b) : (w.setCell ⟨b, o, none⟩ v).heap[k]? = w.heap[k]? := Below.heap_setCell _ _ _ _ h

theorem RefAt.fault {w : World} {b : Nat} {ms : List Nat} {x : Bs} (h : RefAt w b ms x) (f : Bool) : RefAt (w.setCell ⟨b, 1, none⟩ (.bool f)) b ms ⟨x.l, f⟩ := by
  obtain ⟨v, rfl, c0, c1, f0, f1, ho, hne, hok⟩ := h
  refine ⟨v, rfl, ?_, World.cell?_setCell_same _ _ _ c1, (World.frozen?_setCell _ _ _ _).trans f0, (World.frozen?_setCell _ _ _ _).trans f1, own_of ho (fun k hk => set_block _ _ _ _ _ (fun e => hne (by rw [hk, e]))), hne, ⟨hok.len, hok.small⟩⟩
  rw [World.cell?_setCell_other _ _ _ _ (off_ne b (by decide))]
  exact c0
/-- Another row is stored. -/
theorem RefAt.row {w : World} {b : Nat} {v u : Value} {l : List Pc} {f : Bool} (c0 : w.cell? ⟨b, 0, none⟩ = some u) (c1 : w.cell? ⟨b, 1, none⟩ = some (.bool f)) (f0 : w.frozen? ⟨b, 0, none⟩ = false) (f1 : w.frozen? ⟨b, 1, none⟩ = false)
    (ho : w.ownsRow 0 43 4 v l.length (flat l)) (hne : v.ownBlock ≠ some b) (hok : Bs.Ok ⟨l, f⟩) : RefAt (w.setCell ⟨b, 0, none⟩ v) b (b :: v.ownBlock.toList) ⟨l, f⟩ := by
  refine ⟨v, rfl, World.cell?_setCell_same _ _ _ c0, ?_, (World.frozen?_setCell _ _ _ _).trans f0, (World.frozen?_setCell _ _ _ _).trans f1, own_of ho (fun k hk => set_block _ _ _ _ _ (fun e => hne (by rw [hk, e]))), hne, hok⟩
  rw [World.cell?_setCell_other _ _ _ _ (off_ne b (by decide))]
  exact c1

theorem OnlyL.set {ms : List Nat} {w : World} {b : Nat} (hb : b ∈ ms) (o : Nat) (v : Value) : OnlyL ms w (w.setCell ⟨b, o, none⟩ v) :=
  ⟨rfl, rfl, rfl, by simp [World.setCell], fun k _ hk => set_block _ _ _ _ _ (fun e => hk (by rw [e]; exact hb))⟩
theorem OnlyL.alloc {ms : List Nat} {a w : World} (h : OnlyL ms a w) (o : Obj) : OnlyL ms a (w.alloc o) :=
  h.trans (OnlyL.of_below (ms := []) ((Below.refl w.heap.size w).alloc (Nat.le_refl _) o)) (fun j hj => by cases hj)

set_option maxRecDepth 100000 in
set_option maxHeartbeats 4000000 in
theorem radd_full (b : Nat) (ms : List Nat) (x : Bs) (p : Pc) (w : World) (hx : RefAt w b ms x) (hl : x.l.length = 64) :
    Calls Try.prog 37 #[.pointer (some ⟨b, 0, none⟩), .agg #[.string p.b, .int .i64 p.src, .int .u32 (p.to.toNat : Int), .bool p.hurt]] w (Done refFace b ms (.int .i64 8) ⟨x.l, true⟩ w) := by
  obtain ⟨v, rfl, c0, c1, f0, f1, ho, hne, hok⟩ := hx
  have hbw : b < w.heap.size := World.block_lt_of_cell? w ⟨b, 0, none⟩ c0
  have hfm : ∃ A c, v = .slice A x.l.length c := by
    rcases ho.2 with ⟨rfl, h0⟩ | ⟨g, cap, cur, rfl, _⟩
    · exact ⟨none, 0, by rw [h0]⟩
    · exact ⟨_, _, rfl⟩
  obtain ⟨A, c, rfl⟩ := hfm
  have hli : (x.l.length : Int) = 64 := by omega
  have hr : RefAt w b (b :: (Value.slice A x.l.length c).ownBlock.toList) x := ⟨_, rfl, c0, c1, f0, f1, ho, hne, hok⟩
  have HX := Lib.hid (hr.fault true)
  have HO := Lib.hid (OnlyL.set (ms := b :: (Value.slice A x.l.length c).ownBlock.toList) (w := w) (b := b) (by simp) 1 (.bool true))
  clear ho hne hok hr
  go_enter Try.func37, Try.ntmps37
  go_wp2
  go_ret
  exact ⟨rfl, _, Face.below (F := refFace) HX.out ((Below.refl _ _).alloc (Nat.le_refl _) _), HO.out.alloc _, fun j hj => .inl hj⟩

/-- A boxed piece. -/
def BoxP (w : World) (t : Nat) (p : Pc) : Prop := w.cell? ⟨t, 0, none⟩ = some (.string p.b) ∧ w.cell? ⟨t, 1, none⟩ = some (.int .i64 p.src) ∧ w.cell? ⟨t, 2, none⟩ = some (.int .u32 (p.to.toNat : Int)) ∧ w.cell? ⟨t, 3, none⟩ = some (.bool p.hurt)
theorem BoxP.new (w : World) (p : Pc) (k : TypeId) : BoxP (w.alloc (.cells #[.string p.b, .int .i64 p.src, .int .u32 (p.to.toNat : Int), .bool p.hurt] k)) w.heap.size p := by
  have hc : ∀ j v, #[Value.string p.b, .int .i64 p.src, .int .u32 (p.to.toNat : Int), .bool p.hurt][j]? = some v → (w.alloc (.cells #[.string p.b, .int .i64 p.src, .int .u32 (p.to.toNat : Int), .bool p.hurt] k)).cell? ⟨w.heap.size, j, none⟩ = some v := by
    intro j v hv
    rw [cell_of_row _ _ j _ k (0, 0) (heap_alloc_new w _)]
    exact hv
  exact ⟨hc 0 _ rfl, hc 1 _ rfl, hc 2 _ rfl, hc 3 _ rfl⟩

/-- A piece just laid in a block of its own. -/
theorem laid_piece (w : World) (p : Pc) (n : Nat) (hn : n = w.heap.size) : ∀ j u, (cells4 p)[j]? = some u → (w.alloc (.cells #[.string p.b, .int .i64 p.src, .int .u32 (p.to.toNat : Int), .bool p.hurt] 43)).cell? ((⟨n, 0, none⟩ : Addr).add j) = some u := by
  intro j u hu
  subst hn
  have hadd : (⟨w.heap.size, 0, none⟩ : Addr).add j = ⟨w.heap.size, j, none⟩ := by unfold Addr.add; split <;> simp_all
  rw [hadd, cell_of_row _ _ j _ 43 (0, 0) (heap_alloc_new w _)]
  simpa [cells4] using hu
theorem pc_parts : ∃ i, Try.prog.info? 43 = some i ∧ i.zero = some (.agg #[.string ⟨#[]⟩, .int .i64 0, .int .u32 0, .bool false]) ∧ i.size = 4 ∧ i.bytes = 32 := by
  have h1 := infoPc
  have h2 := bytesPc
  cases hi : Try.prog.info? 43 with
  | none => rw [hi] at h1; cases h1
  | some i =>
    rw [hi] at h1 h2
    simp at h1 h2
    exact ⟨i, rfl, h1.1, h1.2, h2⟩

theorem own_slice {w : World} {v : Value} {n : Nat} {xs : List Value} (h : w.ownsRow 0 43 4 v (n + 1) xs) : ∃ g c, v = .slice (some ⟨g, 0, none⟩) (n + 1) c := by
  rcases h.2 with ⟨rfl, h0⟩ | ⟨g, cap, cur, rfl, _⟩
  · omega
  · exact ⟨g, cap, rfl⟩
theorem grown_cell {W w w1 : World} {row : Option Nat} {b o : Nat} {v : Value} (hg : W.grownBy w1 row) (hW : W.heap.size ≥ w.heap.size) (hb : W.heap[b]? = w.heap[b]?) (h : w.cell? ⟨b, o, none⟩ = some v) (hne : row ≠ some b) : w1.cell? ⟨b, o, none⟩ = some v := by
  have hlt : b < w.heap.size := World.block_lt_of_cell? w ⟨b, o, none⟩ h
  exact (World.cell?_of_block (a := ⟨b, o, none⟩) ((hg.block b (by omega) (fun e => hne e.symm)).trans hb)).trans h
theorem grown_frozen {W w w1 : World} {row : Option Nat} {b o : Nat} (hg : W.grownBy w1 row) (hlt : b < W.heap.size) (hb : W.heap[b]? = w.heap[b]?) (h : w.frozen? ⟨b, o, none⟩ = false) (hne : row ≠ some b) : w1.frozen? ⟨b, o, none⟩ = false :=
  (World.frozen?_of_block (a := ⟨b, o, none⟩) ((hg.block b hlt (fun e => hne e.symm)).trans hb)).trans h

end Go.Proofs.Ythepnckbooioeaa.Bus
