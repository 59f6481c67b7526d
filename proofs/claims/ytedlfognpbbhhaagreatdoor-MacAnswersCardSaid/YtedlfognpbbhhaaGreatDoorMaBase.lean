/-
  A mac and frames in memory; the operations that read, write and make frames. Conditions: as each states.
-/
import Derived.Test.YtedlfognpbbhhaaGreatDoorMaMath
import Derived.Deep.RegionHeldLaw
import Derived.Deep.AppendLies
namespace Go.Proofs.YtedlfognpbbhhaaGreatDoor.Ma
open Go.RowKit
open Go.Proofs.YtedlfognpbbhhaaGreatDoor.Epo (Ep cmpE newB maxE numE numM)
open Go.Proofs.YtedlfognpbbhhaaGreatDoor.Mem (St withB woB hasB passB nextI turnI gapB sv)
open Go.Proofs.YtedlfognpbbhhaaGreatDoor.Frm (Fr)

def Tells (v : Value) (w : World) (e : Ending) (w' : World) : Prop := e = .returned v ∧ Below w.heap.size w w'
theorem kept_cell {W W' : World} {N : Nat} (hb : Below N W W') {b k : Nat} (hN : b < N) {v : Value} (hc : W.cell? ⟨b, k, none⟩ = some v) : W'.cell? ⟨b, k, none⟩ = some v :=
  (World.cell?_of_block (a := ⟨b, k, none⟩) (hb.block b hN)).trans hc
theorem kept_own {W W' : World} (hb : Below W.heap.size W W') {b k : Nat} {v : Value} (hc : W.cell? ⟨b, k, none⟩ = some v) : W'.cell? ⟨b, k, none⟩ = some v :=
  kept_cell hb (World.block_lt_of_cell? W _ hc) hc
theorem below_drewN (W : World) (N n : Nat) : Below N W (W.drewN n) := ⟨rfl, rfl, rfl, Nat.le_refl _, fun _ _ => rfl⟩
theorem one_S (w : World) (A : Array Value) (t : TypeId) : Below w.heap.size w (w.alloc (.cells A t)) := (Below.refl _ _).alloc (Nat.le_refl _) _
theorem lt_of_heap {w : World} {b : Nat} {x : Obj} (h : w.heap[b]? = some x) : b < w.heap.size := (Array.getElem?_eq_some_iff.1 h).1
theorem cell_of_row (w : World) (b k : Nat) (a : Array Value) (t : TypeId) (f : Nat × Nat) (h : w.heap[b]? = some (.cells a t f)) : w.cell? ⟨b, k, none⟩ = a[k]? := by
  simp [World.cell?, h]
theorem frozen_of (w : World) (b j : Nat) (a : Array Value) (t : TypeId) (h : w.heap[b]? = some (.cells a t (0, 0))) : w.frozen? ⟨b, j, none⟩ = false := by
  unfold World.frozen?
  rw [h]
  simp

/-! ### What turns -/
structure OnlyL (ms : List Nat) (w w' : World) : Prop where
  os : w'.os = w.os
  tape : w'.tape = w.tape
  output : w'.output = w.output
  size : w.heap.size ≤ w'.heap.size
  block : ∀ k, k < w.heap.size → k ∉ ms → w'.heap[k]? = w.heap[k]?
theorem OnlyL.refl (ms : List Nat) (w : World) : OnlyL ms w w := ⟨rfl, rfl, rfl, Nat.le_refl _, fun _ _ _ => rfl⟩
theorem OnlyL.of_below {ms : List Nat} {w w' : World} (h : Below w.heap.size w w') : OnlyL ms w w' := ⟨h.os, h.tape, h.output, h.size, fun k hk _ => h.block k hk⟩
theorem OnlyL.trans {ms ns : List Nat} {a b c : World} (h : OnlyL ms a b) (k : OnlyL ns b c) (hn : ∀ j ∈ ns, j ∈ ms ∨ a.heap.size ≤ j) : OnlyL ms a c :=
  ⟨k.os.trans h.os, k.tape.trans h.tape, k.output.trans h.output, Nat.le_trans h.size k.size, fun j hj hm => (k.block j (Nat.lt_of_lt_of_le hj h.size) (fun hin => (hn j hin).elim hm (by omega))).trans (h.block j hj hm)⟩
theorem OnlyL.tr {ms : List Nat} {a b c : World} (h : OnlyL ms a b) (k : OnlyL ms b c) : OnlyL ms a c := h.trans k fun _ hj => .inl hj
theorem OnlyL.below {ms : List Nat} {N : Nat} {w w' : World} (h : OnlyL ms w w') (hm : ∀ j ∈ ms, N ≤ j) (hN : N ≤ w.heap.size) : Below N w w' :=
  ⟨h.os, h.tape, h.output, h.size, fun k hk => h.block k (by omega) (fun hin => by have := hm k hin; omega)⟩
theorem OnlyL.drew {ms : List Nat} {a w : World} (h : OnlyL ms a w) : OnlyL ms a w.drew := ⟨h.os, h.tape, h.output, h.size, h.block⟩
theorem OnlyL.drewN {ms : List Nat} {a w : World} (h : OnlyL ms a w) (n : Nat) : OnlyL ms a (w.drewN n) := ⟨h.os, h.tape, h.output, h.size, h.block⟩
theorem OnlyL.frm {ms : List Nat} {a w : World} (h : OnlyL ms a.drew w) : OnlyL ms a w := ⟨h.os, h.tape, h.output, h.size, h.block⟩
theorem set_other {w : World} {b k j : Nat} {v : Value} (h : j ≠ b) : (w.setCell ⟨b, k, none⟩ v).heap[j]? = w.heap[j]? := by
  simp only [World.setCell]
  rw [Array.getElem?_modify, if_neg (fun e => h e.symm)]
theorem OnlyL.set {ms : List Nat} {w : World} {b : Nat} (hb : b ∈ ms) (k : Nat) (v : Value) : OnlyL ms w (w.setCell ⟨b, k, none⟩ v) :=
  ⟨rfl, rfl, rfl, by simp [World.setCell], fun _ _ hn => set_other (fun e => hn (e ▸ hb))⟩
theorem OnlyL.sets {ms : List Nat} {b : Nat} (hb : b ∈ ms) : ∀ (vs : List Value) (o : Nat) (w : World), OnlyL ms w (w.setCells b o vs)
  | [], _, _ => OnlyL.refl _ _
  | v :: vs, o, _ => (OnlyL.set hb o v).tr (OnlyL.sets hb vs (o + 1) _)
theorem OnlyL.cell {ms : List Nat} {w w' : World} (h : OnlyL ms w w') {g k : Nat} {v : Value} (hg : g ∉ ms) (hc : w.cell? ⟨g, k, none⟩ = some v) : w'.cell? ⟨g, k, none⟩ = some v :=
  (World.cell?_of_block (a := ⟨g, k, none⟩) (h.block g (World.block_lt_of_cell? w _ hc) hg)).trans hc
theorem OnlyL.setc {ms : List Nat} {a w : World} {b : Nat} (h : OnlyL ms a w) (hb : b ∈ ms ∨ a.heap.size ≤ b) (k : Nat) (v : Value) : OnlyL ms a (w.setCell ⟨b, k, none⟩ v) :=
  h.trans (ns := [b]) (OnlyL.set (by simp) k v) (by simpa using hb)
theorem OnlyL.alloc {ms : List Nat} {a w : World} (h : OnlyL ms a w) (o : Obj) : OnlyL ms a (w.alloc o) := h.tr (OnlyL.of_below ((Below.refl _ _).alloc (Nat.le_refl _) o))

/-! ### Frames -/
def frC (f : Fr) : List Value := [.int .i64 f.kind, .int .u8 f.src, .int .u8 f.dst, .int .u16 f.sinc, .int .u16 f.dinc, .int .u16 f.ec, .int .u8 f.ea, .int .u16 f.ei, .int .u16 f.hop, .int .u16 f.hc, .int .u8 f.ha, .int .u16 f.hi, .bool f.wants, .int .u8 f.blk, .int .u16 f.vinc, .int .u32 f.vseq, .int .u8 f.part, .int .u8 f.parts, .string f.bytes]
def frA (f : Fr) : Array Value := (frC f).toArray
theorem frC_len (f : Fr) : (frC f).length = 19 := rfl
theorem frA_size (f : Fr) : (frA f).size = 19 := rfl
theorem frA_list (f : Fr) : (frA f).toList = frC f := rfl
theorem frA_one (f : Fr) : (frA f).all (·.oneCell') = true := by
  unfold frA frC
  simp [Value.oneCell']
noncomputable def ldF (v : Value) (W : World) : Result Next := (do pure (Next.value (← Instr.loadAt 38 v)) : Sem Next).run Tryz.prog W
noncomputable def stF (p v : Value) (W : World) : Result Next := (do Instr.storeAt 38 p v; pure Next.skip : Sem Next).run Tryz.prog W
noncomputable def bdF (parts : Array (Nat × Value)) (W : World) : Result Next := (do pure (Next.value (← Instr.build 38 parts)) : Sem Next).run Tryz.prog W
theorem exec_ldF (ρ : Operand → Value) (d : Option Tmp) (x : Operand) (t : TypeId) (pos : String) (af : _) (g : _) (W : World) :
    (execOp ρ ⟨d, .load 38 x, t, pos, af, g⟩).run Tryz.prog W = ldF (ρ x) W := rfl
theorem exec_stF (ρ : Operand → Value) (d : Option Tmp) (x y : Operand) (t : TypeId) (pos : String) (af : _) (g : _) (W : World) :
    (execOp ρ ⟨d, .store 38 x y, t, pos, af, g⟩).run Tryz.prog W = stF (ρ x) (ρ y) W := rfl
theorem exec_bdF (ρ : Operand → Value) (d : Option Tmp) (ps : Array (Nat × Operand)) (t : TypeId) (pos : String) (af : _) (g : _) (W : World) :
    (execOp ρ ⟨d, .build 38 ps, t, pos, af, g⟩).run Tryz.prog W = bdF (ps.map fun x => (x.1, ρ x.2)) W := rfl
theorem Tryz.sizeF : (Tryz.prog.info? 38).map (·.size) = some 19 := by kernel_rfl
theorem load_F (W : World) (b o : Nat) (c : List Value) (h : W.rangeAt b o c) (hc : c.length = 19) : (Instr.loadAt 38 (.pointer (some ⟨b, o, none⟩))).run Tryz.prog W = .ok (.agg c.toArray) W :=
  run_loadAt_mid (P := Tryz.prog) W b o 38 c _ h Tryz.underlying38 rfl (by rw [hc]; exact Tryz.sizeF)
theorem ldF_of (W : World) (b o : Nat) (c : List Value) (h : W.rangeAt b o c) (hc : c.length = 19) : ldF (.pointer (some ⟨b, o, none⟩)) W = .ok (.value (.agg c.toArray)) W := by
  unfold ldF
  rw [Sem.run_bind, load_F W b o c h hc]
  rfl
theorem stF_of (W : World) (b o : Nat) (c : Array Value) (h : W.there b o 19) (hc : c.size = 19) (h1 : c.all (·.oneCell') = true) :
    stF (.pointer (some ⟨b, o, none⟩)) (.agg c) W = .ok .skip (W.setCells b o c.toList) := by
  unfold stF
  rw [Sem.run_bind, run_storeAt_mid (P := Tryz.prog) W b o 38 c (by rw [hc]; exact h) (by rw [hc]; exact Tryz.sizeF) h1]
  rfl
theorem bdF_of (parts : Array (Nat × Value)) (c : Array Value) (W : World) (h : Tryz.prog.built 38 parts.toList = some c) : bdF parts W = .ok (.value (.agg c)) W := by
  unfold bdF
  rw [Sem.run_bind, run_build W 38 parts c h]
  rfl
theorem bdF_0 (W : World) : bdF #[] W = .ok (.value (.agg (frA noF))) W := bdF_of _ _ W (by kernel_rfl)
theorem bdF_5 (a b c x y z d : Int) (W : World) : bdF #[(0, .int .i64 a), (1, .int .u8 b), (3, .int .u16 c), (5, .agg #[.int .u16 x, .int .u8 y, .int .u16 z]), (6, .int .u16 d)] W =
    .ok (.value (.agg #[.int .i64 a, .int .u8 b, .int .u8 0, .int .u16 c, .int .u16 0, .int .u16 x, .int .u8 y, .int .u16 z, .int .u16 d, .int .u16 0, .int .u8 0, .int .u16 0, .bool false, .int .u8 0, .int .u16 0, .int .u32 0, .int .u8 0, .int .u8 0, .string ⟨#[]⟩])) W := bdF_of _ _ W (by kernel_rfl)
theorem bdF_9 (a b c d e x y z h i j k : Int) (q : Bool) (W : World) : bdF #[(0, .int .i64 a), (1, .int .u8 b), (3, .int .u16 c), (2, .int .u8 d), (4, .int .u16 e), (5, .agg #[.int .u16 x, .int .u8 y, .int .u16 z]), (6, .int .u16 h), (7, .agg #[.int .u16 i, .int .u8 j, .int .u16 k]), (8, .bool q)] W =
    .ok (.value (.agg #[.int .i64 a, .int .u8 b, .int .u8 d, .int .u16 c, .int .u16 e, .int .u16 x, .int .u8 y, .int .u16 z, .int .u16 h, .int .u16 i, .int .u8 j, .int .u16 k, .bool q, .int .u8 0, .int .u16 0, .int .u32 0, .int .u8 0, .int .u8 0, .string ⟨#[]⟩])) W := bdF_of _ _ W (by kernel_rfl)
theorem range_new (W : World) (c : Array Value) (t : TypeId) : (W.alloc (.cells c t)).rangeAt W.heap.size 0 c.toList := fun j v hv => by
  rw [Nat.zero_add, World.cell?_alloc_new]
  simpa using hv
theorem range_below {W W' : World} {b o : Nat} {c : List Value} (h : W.rangeAt b o c) (hb : Below W.heap.size W W') : W'.rangeAt b o c := fun j v hv => kept_own hb (h j v hv)
/-- A frame lies in block b from cell o on. -/
def FrAt (W : World) (b o : Nat) (f : Fr) : Prop := W.rangeAt b o (frC f)
theorem FrAt.ld {W : World} {b o : Nat} {f : Fr} (h : FrAt W b o f) : ldF (.pointer (some ⟨b, o, none⟩)) W = .ok (.value (.agg (frA f))) W := ldF_of W b o (frC f) h rfl
theorem FrAt.new (W : World) (f : Fr) (t : TypeId) : FrAt (W.alloc (.cells (frA f) t)) W.heap.size 0 f := range_new W (frA f) t
theorem FrAt.below {W W' : World} {b o : Nat} {f : Fr} (h : FrAt W b o f) (hb : Below W.heap.size W W') : FrAt W' b o f := range_below h hb
theorem FrAt.lt {W : World} {b o : Nat} {f : Fr} (h : FrAt W b o f) : b < W.heap.size := World.block_lt_of_cell? W _ (h 0 _ rfl)
theorem FrAt.only {ms : List Nat} {W W' : World} {b o : Nat} {f : Fr} (h : FrAt W b o f) (hb : OnlyL ms W W') (hn : b ∉ ms) : FrAt W' b o f := fun j v hv => hb.cell hn (h j v hv)
theorem FrAt.at {W : World} {b : Nat} {f : Fr} (h : FrAt W b 0 f) (k : Nat) {v : Value} (hk : (frC f)[k]? = some v) : W.cell? ⟨b, k, none⟩ = some v := by
  have := h k v hk
  rwa [Nat.zero_add] at this
/-- A block of its own that holds a frame. -/
def FrOwn (W : World) (b : Nat) (f : Fr) : Prop := W.heap[b]? = some (.cells (frA f) 38 (0, 0))
section
variable {W W' : World} {b : Nat} {f g : Fr}
theorem FrOwn.new (W : World) (f : Fr) : FrOwn (W.alloc (.cells (frA f) 38)) W.heap.size f := heap_alloc_new _ _
theorem FrOwn.at (h : FrOwn W b f) : FrAt W b 0 f := fun j v hv => by
  rw [Nat.zero_add, cell_of_row _ _ _ _ _ _ h]
  simpa [frA] using hv
theorem FrOwn.lt (h : FrOwn W b f) : b < W.heap.size := lt_of_heap h
theorem FrOwn.free (h : FrOwn W b f) (j : Nat) : W.frozen? ⟨b, j, none⟩ = false := frozen_of _ _ _ _ _ h
theorem FrOwn.there (h : FrOwn W b f) : W.there b 0 19 := fun j hj => by
  refine ⟨?_, h.free _⟩
  rw [cell_of_row _ _ _ _ _ _ h, Nat.zero_add, Array.getElem?_eq_getElem (by rw [frA_size]; omega)]
  rfl
theorem FrOwn.below (h : FrOwn W b f) (hb : Below W.heap.size W W') : FrOwn W' b f := (hb.block b h.lt).trans h
theorem FrOwn.only {ms : List Nat} (h : FrOwn W b f) (hb : OnlyL ms W W') (hn : b ∉ ms) : FrOwn W' b f := (hb.block b h.lt hn).trans h
theorem FrOwn.drew (h : FrOwn W b f) : FrOwn W.drew b f := h
theorem setCells_heap (b : Nat) (t : TypeId) : ∀ (l : List Value) (o : Nat) (A : Array Value) (W : World), W.heap[b]? = some (.cells A t (0, 0)) →
    ∃ A', (W.setCells b o l).heap[b]? = some (.cells A' t (0, 0)) ∧ A'.size = A.size
  | [], _, A, _, h => ⟨A, h, rfl⟩
  | v :: r, o, A, W, h => by
    obtain ⟨A', h1, h2⟩ := setCells_heap b t r (o + 1) (A.setIfInBounds o v) (W.setCell ⟨b, o, none⟩ v) (heap_setCell_same _ b o _ _ v h)
    exact ⟨A', h1, by rw [h2, Array.size_setIfInBounds]⟩
theorem FrOwn.put (h : FrOwn W b f) (g : Fr) : FrOwn (W.setCells b 0 (frC g)) b g := by
  obtain ⟨A, h1, h2⟩ := setCells_heap b 38 (frC g) 0 _ W h
  have hr : (W.setCells b 0 (frC g)).rangeAt b 0 (frC g) := by
    intro j v hv
    have hj := (List.getElem?_eq_some_iff.1 hv).1
    rw [World.cell?_setCells_in b (frC g) 0 W (fun i hi => (h.there i (by rw [frC_len] at hi; exact hi)).1) j hj, ← hv, List.getElem?_eq_getElem hj]
  have e : A = frA g := by
    apply Array.ext_getElem?
    intro k
    by_cases hk : k < 19
    · have := hr k (frC g)[k] (List.getElem?_eq_getElem (by rw [frC_len]; exact hk))
      rw [Nat.zero_add, cell_of_row _ _ _ _ _ _ h1] at this
      rw [this, frA, List.getElem?_toArray, List.getElem?_eq_getElem (by rw [frC_len]; exact hk)]
      rfl
    · rw [Array.getElem?_eq_none (by rw [h2, frA_size]; omega), Array.getElem?_eq_none (by rw [frA_size]; omega)]
  unfold FrOwn
  rw [h1, e]
theorem FrOwn.st (h : FrOwn W b f) (g : Fr) : stF (.pointer (some ⟨b, 0, none⟩)) (.agg (frA g)) W = .ok .skip (W.setCells b 0 (frC g)) := stF_of W b 0 _ h.there rfl (frA_one g)
end
def putA (c : List Value) : Nat → List Value → List Value
  | _, [] => c
  | o, v :: r => putA (c.set o v) (o + 1) r
theorem sets_new (w : World) (t : TypeId) : ∀ (vs : List Value) (o : Nat) (c : List Value), (w.alloc (.cells c.toArray t)).setCells w.heap.size o vs = w.alloc (.cells (putA c o vs).toArray t)
  | [], _, _ => rfl
  | v :: vs, o, c => by rw [World.setCells, World.setCell_alloc_at (hn := rfl), List.setIfInBounds_toArray, sets_new w t vs, putA]
theorem put_frC (f : Fr) : putA (frC noF) 0 (frC f) = frC f := by
  unfold frC
  simp only [putA, List.set, Nat.zero_add, Nat.reduceAdd]
theorem stF_new0 (W : World) (f : Fr) : stF (.pointer (some ⟨W.heap.size, 0, none⟩)) (.agg (frA f)) (W.alloc (.cells #[.int .i64 0, .int .u8 0, .int .u8 0, .int .u16 0, .int .u16 0, .int .u16 0, .int .u8 0, .int .u16 0, .int .u16 0, .int .u16 0, .int .u8 0, .int .u16 0, .bool false, .int .u8 0, .int .u16 0, .int .u32 0, .int .u8 0, .int .u8 0, .string ⟨#[]⟩] 38)) = .ok .skip (W.alloc (.cells (frA f) 38)) := by
  have h := (FrOwn.new W noF).st f
  have e := sets_new W 38 (frC f) 0 (frC noF)
  rw [put_frC] at e
  exact h.trans (congrArg _ e)
/-- A frame's own block beside what else has turned. -/
structure Fx (ms : List Nat) (w W : World) (R : Nat) (f : Fr) : Prop where
  box : FrOwn W R f
  only : OnlyL ms w W
  le : w.heap.size ≤ R
section
variable {ms : List Nat} {w W W' : World} {R : Nat} {f g : Fr}
theorem Fx.new (ms : List Nat) (w : World) (f : Fr) : Fx ms w (w.alloc (.cells (frA f) 38)) w.heap.size f := ⟨FrOwn.new w f, OnlyL.of_below (one_S _ _ _), Nat.le_refl _⟩
theorem Fx.turn (h : Fx ms w W R f) (hb : OnlyL ms W W') (hm : ∀ j ∈ ms, j < w.heap.size) : Fx ms w W' R f :=
  ⟨h.box.only hb (fun hin => by have := hm _ hin; have := h.le; omega), h.only.tr hb, h.le⟩
theorem Fx.below (h : Fx ms w W R f) (hb : Below W.heap.size W W') : Fx ms w W' R f := ⟨h.box.below hb, h.only.tr (OnlyL.of_below hb), h.le⟩
theorem Fx.drew (h : Fx ms w W R f) : Fx ms w W.drew R f := ⟨h.box.drew, h.only.drew, h.le⟩
theorem Fx.drewN (h : Fx ms w W R f) (n : Nat) : Fx ms w (W.drewN n) R f := ⟨h.box, h.only.drewN n, h.le⟩
theorem Fx.put (h : Fx ms w W R f) (g : Fr) : Fx ms w (W.setCells R 0 (frC g)) R g := ⟨h.box.put g, h.only.trans (ns := [R]) (OnlyL.sets (by simp) _ _ _) (by simpa using .inr h.le), h.le⟩
theorem Fx.bel (h : Fx [] w W R f) : Below w.heap.size w W := h.only.below (by simp) (Nat.le_refl _)
end
theorem FrOwn.stc {W : World} {b : Nat} {f : Fr} (h : FrOwn W b f) (g : Fr) : (storeCells ⟨b, 0, none⟩ (frA g).toList).run Tryz.prog W = .ok () (W.setCells b 0 (frC g)) :=
  run_storeCells_cells (P := Tryz.prog) b 0 (frC g) 0 W (fun j hj => by have := (h.there j (by rw [frC_len] at hj; exact hj)).1; simpa using this) (fun j _ => h.free _)
    (fun v hv => (Array.all_eq_true_iff_forall_mem.1 (frA_one g)) v (by rw [frA]; simpa using hv))
theorem results_F1 {fn : Func} {p : Tmp} (h : fn.results = #[.cell p 38]) (tmps : Array Value) (w : World) (b : Nat) (f : Fr)
    (hp : tmps.getD p undef = .pointer (some ⟨b, 0, none⟩)) (hr : FrAt w b 0 f) : (results fn tmps).run Tryz.prog w = .ok (.agg (frA f)) w := by
  have hp' : tmps[p]?.getD undef = .pointer (some ⟨b, 0, none⟩) := by simpa using hp
  have hl : (loadVar 38 ⟨b, 0, none⟩).run Tryz.prog w = .ok (.agg (frC f).toArray) w :=
    run_loadVar_mid (P := Tryz.prog) w b 0 38 (frC f) _ hr Tryz.underlying38 rfl (by rw [frC_len]; exact Tryz.sizeF)
  simp [results, h, hp', asAddr, hl, frA]
theorem results_F {fn : Func} {p q : Tmp} (h : fn.results = #[.cell p 38, .tmp q]) (tmps : Array Value) (w : World) (b : Nat) (f : Fr) (v : Value)
    (hp : tmps.getD p undef = .pointer (some ⟨b, 0, none⟩)) (hq : tmps.getD q undef = v) (hr : FrAt w b 0 f) : (results fn tmps).run Tryz.prog w = .ok (.tuple #[.agg (frA f), v]) w := by
  have hp' : tmps[p]?.getD undef = .pointer (some ⟨b, 0, none⟩) := by simpa using hp
  have hq' : tmps[q]?.getD undef = v := by simpa using hq
  have hl : (loadVar 38 ⟨b, 0, none⟩).run Tryz.prog w = .ok (.agg (frC f).toArray) w :=
    run_loadVar_mid (P := Tryz.prog) w b 0 38 (frC f) _ hr Tryz.underlying38 rfl (by rw [frC_len]; exact Tryz.sizeF)
  simp [results, h, hp', hq', asAddr, hl, frA]

/-! ### A mac -/
def macL (M : Mc) : List Value := [.int .i64 M.ad, .int .u16 M.inc, .int .i64 M.sl, .int .i64 M.tt, .int .i64 M.gp, .int .i64 M.rt, .int .i64 M.lm, .int .i64 M.tp, .slice none 0 0, .slice none 0 0, .int .i64 M.st, .bool M.wants, .bool M.leaving, .bool M.fault, .int .i64 M.clock, .int .i64 M.silence, .int .i64 M.timer, .int .i64 M.visits, .int .i64 M.arrived, .int .i64 M.rot, .int .u32 (M.list.toNat : Int), .int .u16 (M.kn 0), .int .u16 (M.kn 1), .int .u16 (M.kn 2), .int .u16 (M.kn 3), .int .u16 (M.kn 4), .int .u16 (M.kn 5), .int .u16 (M.kn 6), .int .u16 (M.kn 7), .int .u16 (M.kn 8), .int .u16 (M.kn 9), .int .u16 (M.kn 10), .int .u16 (M.kn 11), .int .u16 (M.kn 12), .int .u16 (M.kn 13), .int .u16 (M.kn 14), .int .u16 (M.kn 15), .int .u16 (M.kn 16), .int .u16 (M.kn 17), .int .u16 (M.kn 18), .int .u16 (M.kn 19), .int .u16 (M.kn 20), .int .u16 (M.kn 21), .int .u16 (M.kn 22), .int .u16 (M.kn 23), .int .u16 (M.kn 24), .int .u16 (M.kn 25), .int .u16 (M.kn 26), .int .u16 (M.kn 27), .int .u16 (M.kn 28), .int .u16 (M.kn 29), .int .u16 (M.kn 30), .int .u16 (M.kn 31), .int .u16 M.high.c, .int .u8 M.high.a, .int .u16 M.high.i, .int .u16 M.tok.e.c, .int .u8 M.tok.e.a, .int .u16 M.tok.e.i, .int .u16 M.tok.h, .int .u16 M.mark.e.c, .int .u8 M.mark.e.a, .int .u16 M.mark.e.i, .int .u16 M.mark.h, .int .u16 M.heard.e.c, .int .u8 M.heard.e.a, .int .u16 M.heard.e.i, .int .u16 M.heard.h, .int .i64 M.partner, .int .u16 M.pinc, .int .i64 M.tries, .bool M.answered, .int .i64 M.last, .int .i64 M.ask, .int .i64 M.poll.kind, .int .u8 M.poll.src, .int .u8 M.poll.dst, .int .u16 M.poll.sinc, .int .u16 M.poll.dinc, .int .u16 M.poll.ec, .int .u8 M.poll.ea, .int .u16 M.poll.ei, .int .u16 M.poll.hop, .int .u16 M.poll.hc, .int .u8 M.poll.ha, .int .u16 M.poll.hi, .bool M.poll.wants, .int .u8 M.poll.blk, .int .u16 M.poll.vinc, .int .u32 M.poll.vseq, .int .u8 M.poll.part, .int .u8 M.poll.parts, .string M.poll.bytes, .bool M.polled]
structure Mw (W : World) (b : Nat) (M : Mc) : Prop where
  head : W.heap[b]? = some (.cells (macL M).toArray 66 (0, 0))
  tz : Mem.Tz W
  ne : b ≠ 0
/-- So many cells set, one behind another. -/
def setL (W : World) (b : Nat) : List (Nat × Value) → World
  | [] => W
  | x :: r => setL (W.setCell ⟨b, x.1, none⟩ x.2) b r
def setA (l : List Value) : List (Nat × Value) → List Value
  | [] => l
  | x :: r => setA (l.set x.1 x.2) r
section
variable {W W' : World} {b : Nat} {M : Mc}
theorem tz_only {ms : List Nat} (h : Mem.Tz W) (hb : OnlyL ms W W') (hn : 0 ∉ ms) : Mem.Tz W' := fun j hj => hb.cell hn (h j hj)
theorem Mw.lt (h : Mw W b M) : b < W.heap.size := lt_of_heap h.head
theorem Mw.cell (h : Mw W b M) (k : Nat) {v : Value} (hk : (macL M)[k]? = some v) : W.cell? ⟨b, k, none⟩ = some v := by
  rw [cell_of_row _ _ _ _ _ _ h.head]
  simpa using hk
theorem Mw.free (h : Mw W b M) (j : Nat) : W.frozen? ⟨b, j, none⟩ = false := frozen_of _ _ _ _ _ h.head
theorem Mw.only {ms : List Nat} (h : Mw W b M) (hb : OnlyL ms W W') (hn : b ∉ ms) (h0 : 0 ∉ ms) : Mw W' b M :=
  ⟨(hb.block b h.lt hn).trans h.head, tz_only h.tz hb h0, h.ne⟩
theorem Mw.below (h : Mw W b M) (hb : Below W.heap.size W W') : Mw W' b M := h.only (OnlyL.of_below hb) (List.not_mem_nil) (List.not_mem_nil)
theorem Mw.drew (h : Mw W b M) : Mw W.drew b M := ⟨h.head, h.tz, h.ne⟩
theorem Mw.drewN (h : Mw W b M) (n : Nat) : Mw (W.drewN n) b M := ⟨h.head, h.tz, h.ne⟩
theorem Mw.alloc (h : Mw W b M) (o : Obj) : Mw (W.alloc o) b M := h.below ((Below.refl _ _).alloc (Nat.le_refl _) o)
theorem setL_only {ms : List Nat} (hb : b ∈ ms) : ∀ (l : List (Nat × Value)) (W : World), OnlyL ms W (setL W b l)
  | [], _ => OnlyL.refl _ _
  | x :: r, _ => (OnlyL.set hb x.1 x.2).tr (setL_only hb r _)
theorem setL_heap (t : TypeId) : ∀ (l : List (Nat × Value)) (A : List Value) (W : World), W.heap[b]? = some (.cells A.toArray t (0, 0)) → (setL W b l).heap[b]? = some (.cells (setA A l).toArray t (0, 0))
  | [], _, _, h => h
  | x :: r, A, W, h => by
    have := heap_setCell_same W b x.1 _ _ x.2 h
    rw [List.setIfInBounds_toArray] at this
    exact setL_heap t r (A.set x.1 x.2) _ this
theorem Mw.sets {M' : Mc} (h : Mw W b M) (l : List (Nat × Value)) (e : setA (macL M) l = macL M') : Mw (setL W b l) b M' :=
  ⟨by rw [← e]; exact setL_heap _ l _ _ h.head, tz_only h.tz (setL_only (ms := [b]) (by simp) l W) (by have := h.ne; simp; omega), h.ne⟩
theorem Mw.own (h : Mw W b M) {w : World} (hb : b < w.heap.size) {R : Nat} (hR : w.heap.size ≤ R) (l : List Value) (o : Nat) : Mw (W.setCells R o l) b M :=
  h.only (ms := [R]) (OnlyL.sets (by simp) l o W) (by simp; omega) (by simp; omega)
theorem tz_lt (h : Mem.Tz W) : 0 < W.heap.size := World.block_lt_of_cell? W _ (h 0 (by decide))
end
theorem macL_known (M : Mc) : ∀ (n : Nat), n < 32 → (macL M)[21 + n]? = some (.int .u16 (M.kn n))
  | 0, _ => rfl
  | 1, _ => rfl
  | 2, _ => rfl
  | 3, _ => rfl
  | 4, _ => rfl
  | 5, _ => rfl
  | 6, _ => rfl
  | 7, _ => rfl
  | 8, _ => rfl
  | 9, _ => rfl
  | 10, _ => rfl
  | 11, _ => rfl
  | 12, _ => rfl
  | 13, _ => rfl
  | 14, _ => rfl
  | 15, _ => rfl
  | 16, _ => rfl
  | 17, _ => rfl
  | 18, _ => rfl
  | 19, _ => rfl
  | 20, _ => rfl
  | 21, _ => rfl
  | 22, _ => rfl
  | 23, _ => rfl
  | 24, _ => rfl
  | 25, _ => rfl
  | 26, _ => rfl
  | 27, _ => rfl
  | 28, _ => rfl
  | 29, _ => rfl
  | 30, _ => rfl
  | 31, _ => rfl
  | n + 32, h => absurd h (by omega)
theorem macL_upd (M : Mc) (v : Nat) : ∀ (n : Nat), n < 32 → setA (macL M) [(21 + n, .int .u16 v)] = macL { M with kn := upd M.kn n v }
  | 0, _ => by simp [setA, macL, upd]
  | 1, _ => by simp [setA, macL, upd]
  | 2, _ => by simp [setA, macL, upd]
  | 3, _ => by simp [setA, macL, upd]
  | 4, _ => by simp [setA, macL, upd]
  | 5, _ => by simp [setA, macL, upd]
  | 6, _ => by simp [setA, macL, upd]
  | 7, _ => by simp [setA, macL, upd]
  | 8, _ => by simp [setA, macL, upd]
  | 9, _ => by simp [setA, macL, upd]
  | 10, _ => by simp [setA, macL, upd]
  | 11, _ => by simp [setA, macL, upd]
  | 12, _ => by simp [setA, macL, upd]
  | 13, _ => by simp [setA, macL, upd]
  | 14, _ => by simp [setA, macL, upd]
  | 15, _ => by simp [setA, macL, upd]
  | 16, _ => by simp [setA, macL, upd]
  | 17, _ => by simp [setA, macL, upd]
  | 18, _ => by simp [setA, macL, upd]
  | 19, _ => by simp [setA, macL, upd]
  | 20, _ => by simp [setA, macL, upd]
  | 21, _ => by simp [setA, macL, upd]
  | 22, _ => by simp [setA, macL, upd]
  | 23, _ => by simp [setA, macL, upd]
  | 24, _ => by simp [setA, macL, upd]
  | 25, _ => by simp [setA, macL, upd]
  | 26, _ => by simp [setA, macL, upd]
  | 27, _ => by simp [setA, macL, upd]
  | 28, _ => by simp [setA, macL, upd]
  | 29, _ => by simp [setA, macL, upd]
  | 30, _ => by simp [setA, macL, upd]
  | 31, _ => by simp [setA, macL, upd]
  | n + 32, h => absurd h (by omega)
/-- A mac beside a frame's own block. -/
structure Px (w W : World) (b : Nat) (M : Mc) (R : Nat) (f : Fr) : Prop where
  fx : Fx [b] w W R f
  mw : Mw W b M
  blt : b < w.heap.size
section
variable {w W W' : World} {b R : Nat} {M M' : Mc} {f g : Fr}
theorem Px.first (h : Mw w b M) (f : Fr) : Px w (w.alloc (.cells (frA f) 38)) b M w.heap.size f := ⟨Fx.new [b] w f, h.alloc _, h.lt⟩
theorem setL_size : ∀ (l : List (Nat × Value)) (W : World), (setL W b l).heap.size = W.heap.size
  | [], _ => rfl
  | x :: r, W => (setL_size r _).trans (by simp [World.setCell])
theorem Px.firstS (h : Mw w b M) (l : List (Nat × Value)) (k : Mw (setL w b l) b M') (f : Fr) : Px w ((setL w b l).alloc (.cells (frA f) 38)) b M' w.heap.size f := by
  have e := setL_size (b := b) l w
  have o : OnlyL [b] w (setL w b l) := setL_only (by simp) l w
  have n := FrOwn.new (setL w b l) f
  rw [e] at n
  exact ⟨⟨n, o.alloc _, Nat.le_refl _⟩, k.alloc _, h.lt⟩
theorem Px.turn (h : Px w W b M R f) (hm : Mw W' b M') (ho : OnlyL [b] W W') : Px w W' b M' R f := ⟨h.fx.turn ho (by simpa using h.blt), hm, h.blt⟩
theorem Px.below (h : Px w W b M R f) (hb : Below W.heap.size W W') : Px w W' b M R f := ⟨h.fx.below hb, h.mw.below hb, h.blt⟩
theorem Px.drew (h : Px w W b M R f) : Px w W.drew b M R f := ⟨h.fx.drew, h.mw.drew, h.blt⟩
theorem Px.drewN (h : Px w W b M R f) (n : Nat) : Px w (W.drewN n) b M R f := ⟨h.fx.drewN n, h.mw.drewN n, h.blt⟩
theorem Px.put (h : Px w W b M R f) (g : Fr) : Px w (W.setCells R 0 (frC g)) b M R g :=
  ⟨h.fx.put g, h.mw.own h.blt h.fx.le (frC g) 0, h.blt⟩
theorem Px.sets (h : Px w W b M R f) (l : List (Nat × Value)) (e : setA (macL M) l = macL M') : Px w (setL W b l) b M' R f :=
  h.turn (h.mw.sets l e) (setL_only (by simp) l W)
theorem Px.alloc (h : Px w W b M R f) (o : Obj) : Px w (W.alloc o) b M R f := h.below ((Below.refl _ _).alloc (Nat.le_refl _) o)
theorem Px.does (h : Px w W b M R f) : Mw W b M ∧ OnlyL [b] w W := ⟨h.mw, h.fx.only⟩
end
section
variable {W : World} {b : Nat} {M : Mc}
/-- A store elsewhere. -/
theorem Mw.setx (h : Mw W b M) {g : Nat} (hg : g ≠ b) (h0 : g ≠ 0) (k : Nat) (v : Value) : Mw (W.setCell ⟨g, k, none⟩ v) b M :=
  h.only (ms := [g]) (OnlyL.set (by simp) k v) (by simp; omega) (by simp; omega)
end
end Go.Proofs.YtedlfognpbbhhaaGreatDoor.Ma
