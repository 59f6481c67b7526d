/-
  An act in memory; how many ticks it has. Conditions: as each states.
-/
import Derived.Test.YtedlfognpbbhhaaGreatDoorMaActs
namespace Go.Proofs.YtedlfognpbbhhaaGreatDoor.Ma
open Go.RowKit
open Go.Proofs.YtedlfognpbbhhaaGreatDoor.Frm (Fr)

def actA (a : Ac) : Array Value := (actC a).toArray
theorem actA_size (a : Ac) : (actA a).size = 23 := rfl
theorem actA_one (a : Ac) : (actA a).all (·.oneCell') = true := by
  unfold actA actC frC
  simp [Value.oneCell']
noncomputable def ldC (v : Value) (W : World) : Result Next := (do pure (Next.value (← Instr.loadAt 40 v)) : Sem Next).run Tryz.prog W
noncomputable def stC (p v : Value) (W : World) : Result Next := (do Instr.storeAt 40 p v; pure Next.skip : Sem Next).run Tryz.prog W
theorem exec_ldC (ρ : Operand → Value) (d : Option Tmp) (x : Operand) (t : TypeId) (pos : String) (af : _) (g : _) (W : World) :
    (execOp ρ ⟨d, .load 40 x, t, pos, af, g⟩).run Tryz.prog W = ldC (ρ x) W := rfl
theorem exec_stC (ρ : Operand → Value) (d : Option Tmp) (x y : Operand) (t : TypeId) (pos : String) (af : _) (g : _) (W : World) :
    (execOp ρ ⟨d, .store 40 x y, t, pos, af, g⟩).run Tryz.prog W = stC (ρ x) (ρ y) W := rfl
theorem Tryz.sizeC : (Tryz.prog.info? 40).map (·.size) = some 23 := by kernel_rfl
theorem ldC_of (W : World) (b o : Nat) (c : List Value) (h : W.rangeAt b o c) (hc : c.length = 23) : ldC (.pointer (some ⟨b, o, none⟩)) W = .ok (.value (.agg c.toArray)) W := by
  unfold ldC
  rw [Sem.run_bind, run_loadAt_mid (P := Tryz.prog) W b o 40 c _ h Tryz.underlying40 rfl (by rw [hc]; exact Tryz.sizeC)]
  rfl
theorem stC_of (W : World) (b o : Nat) (c : Array Value) (h : W.there b o 23) (hc : c.size = 23) (h1 : c.all (·.oneCell') = true) :
    stC (.pointer (some ⟨b, o, none⟩)) (.agg c) W = .ok .skip (W.setCells b o c.toList) := by
  unfold stC
  rw [Sem.run_bind, run_storeAt_mid (P := Tryz.prog) W b o 40 c (by rw [hc]; exact h) (by rw [hc]; exact Tryz.sizeC) h1]
  rfl
/-- A block of its own that holds an act. -/
def AcOwn (W : World) (b : Nat) (a : Ac) : Prop := W.heap[b]? = some (.cells (actA a) 40 (0, 0))
def noA : Ac := ⟨0, 0, 0, 0, noF⟩
section
variable {W W' : World} {b : Nat} {a : Ac}
theorem AcOwn.new (W : World) (a : Ac) : AcOwn (W.alloc (.cells (actA a) 40)) W.heap.size a := heap_alloc_new _ _
theorem AcOwn.range (h : AcOwn W b a) : W.rangeAt b 0 (actC a) := fun j v hv => by
  rw [Nat.zero_add, cell_of_row _ _ _ _ _ _ h]
  simpa [actA] using hv
theorem AcOwn.at (h : AcOwn W b a) (k : Nat) {v : Value} (hk : (actC a)[k]? = some v) : W.cell? ⟨b, k, none⟩ = some v := by
  have := h.range k v hk
  rwa [Nat.zero_add] at this
theorem AcOwn.lt (h : AcOwn W b a) : b < W.heap.size := lt_of_heap h
theorem AcOwn.ld (h : AcOwn W b a) : ldC (.pointer (some ⟨b, 0, none⟩)) W = .ok (.value (.agg (actA a))) W := ldC_of W b 0 (actC a) h.range rfl
/-- Its frame. -/
theorem AcOwn.fr (h : AcOwn W b a) : FrAt W b 4 a.f := fun j v hv => by
  refine (h.range (4 + j) v ?_ : _) |> fun z => by rwa [Nat.zero_add] at z
  rw [Nat.add_comm]
  exact hv
theorem AcOwn.there (h : AcOwn W b a) : W.there b 0 23 := fun j hj => by
  refine ⟨?_, frozen_of _ _ _ _ _ h⟩
  rw [cell_of_row _ _ _ _ _ _ h, Nat.zero_add, Array.getElem?_eq_getElem (by rw [actA_size]; omega)]
  rfl
theorem AcOwn.below (h : AcOwn W b a) (hb : Below W.heap.size W W') : AcOwn W' b a := (hb.block b h.lt).trans h
theorem AcOwn.only {ms : List Nat} (h : AcOwn W b a) (hb : OnlyL ms W W') (hn : b ∉ ms) : AcOwn W' b a := (hb.block b h.lt hn).trans h
end
theorem put_actC (a : Ac) : putA (actC noA) 0 (actC a) = actC a := by
  unfold actC frC
  simp only [putA, List.set, Nat.zero_add, Nat.reduceAdd]
theorem stC_new0 (W : World) (a : Ac) : stC (.pointer (some ⟨W.heap.size, 0, none⟩)) (.agg (actA a)) (W.alloc (.cells #[.int .u8 0, .int .i64 0, .int .i64 0, .int .i64 0, .int .i64 0, .int .u8 0, .int .u8 0, .int .u16 0, .int .u16 0, .int .u16 0, .int .u8 0, .int .u16 0, .int .u16 0, .int .u16 0, .int .u8 0, .int .u16 0, .bool false, .int .u8 0, .int .u16 0, .int .u32 0, .int .u8 0, .int .u8 0, .string ⟨#[]⟩] 40)) = .ok .skip (W.alloc (.cells (actA a) 40)) := by
  have h := stC_of (W.alloc (.cells (actA noA) 40)) W.heap.size 0 (actA a) (AcOwn.new W noA).there rfl (actA_one a)
  have e := sets_new W 40 (actC a) 0 (actC noA)
  rw [put_actC] at e
  exact h.trans (congrArg _ e)
end Go.Proofs.YtedlfognpbbhhaaGreatDoor.Ma
