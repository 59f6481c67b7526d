/-
  What lies in memory when a bus is walked, and what is asked of the code's calls. Conditions: none.
-/
import Derived.Test.YthepnckbooioeaaRows
import Derived.Test.YthepnckbooioeaaBuMath
import Derived.WalkKit
import Derived.WalkSpells
import Derived.WalkLawsBesides
import Derived.Lib.Hide
import Derived.Below
import Derived.OwnWalk
import Derived.Laws.OwnMore
import Derived.Maps.AppendAt
namespace Go.Proofs.Ythepnckbooioeaa.Bus
open Go.RowKit

/-- A piece as a value; its cells; those of pieces one behind the other. -/
def Pc.val (p : Pc) : Value := .agg #[.string p.b, .int .i64 p.src, .int .u32 (p.to.toNat : Int), .bool p.hurt]
def cells4 (p : Pc) : List Value := [.string p.b, .int .i64 p.src, .int .u32 (p.to.toNat : Int), .bool p.hurt]
def flat (l : List Pc) : List Value := l.flatMap cells4
theorem flat_nil : flat [] = [] := rfl
theorem flat_app (a b : List Pc) : flat (a ++ b) = flat a ++ flat b := by simp [flat]
theorem flat_cons (p : Pc) (l : List Pc) : flat (p :: l) = cells4 p ++ flat l := by simp [flat]
theorem flat_length (l : List Pc) : (flat l).length = l.length * 4 := by
  induction l with
  | nil => rfl
  | cons p l ih => rw [flat_cons, List.length_append, ih, List.length_cons]; simp [cells4]; omega
theorem flat_one (l : List Pc) : ∀ u ∈ flat l, u.oneCell' = true := by
  intro u hu
  simp only [flat, List.mem_flatMap] at hu
  obtain ⟨p, _, hu⟩ := hu
  simp [cells4] at hu
  rcases hu with rfl | rfl | rfl | rfl <;> rfl
theorem flat_at (l : List Pc) (k j : Nat) (h : k < l.length) (hj : j < 4) : (flat l)[k * 4 + j]? = (cells4 l[k])[j]? := by
  induction l generalizing k with
  | nil => simp at h
  | cons p l ih =>
    rw [flat_cons]
    match k, h with
    | 0, _ =>
      rw [Nat.zero_mul, Nat.zero_add, List.getElem?_append_left (by simp [cells4]; omega)]
      rfl
    | k + 1, h =>
      rw [List.getElem?_append_right (by simp [cells4]; omega)]
      have e : (k + 1) * 4 + j - (cells4 p).length = k * 4 + j := by simp [cells4]; omega
      rw [e, ih k (by simpa using h)]
      rfl
theorem infoPc : (Try.prog.info? 43).map (fun i => (i.zero, i.size)) = some (some (.agg #[.string ⟨#[]⟩, .int .i64 0, .int .u32 0, .bool false]), 4) := by kernel_rfl
theorem bytesPc : (Try.prog.info? 43).map (fun i => i.bytes) = some 32 := by kernel_rfl

/-- Nothing but the blocks of a list has turned. -/
structure OnlyL (ms : List Nat) (w w' : World) : Prop where
  os : w'.os = w.os
  tape : w'.tape = w.tape
  output : w'.output = w.output
  size : w.heap.size ≤ w'.heap.size
  block : ∀ k, k < w.heap.size → k ∉ ms → w'.heap[k]? = w.heap[k]?
theorem OnlyL.refl (ms : List Nat) (w : World) : OnlyL ms w w := ⟨rfl, rfl, rfl, Nat.le_refl _, fun _ _ _ => rfl⟩
theorem OnlyL.of_below {ms : List Nat} {w w' : World} (h : Below w.heap.size w w') : OnlyL ms w w' := ⟨h.os, h.tape, h.output, h.size, fun k hk _ => h.block k hk⟩
/-- Two steps, the second one on blocks of the first one's list, or new ones. -/
theorem OnlyL.trans {ms ns : List Nat} {a b c : World} (h : OnlyL ms a b) (k : OnlyL ns b c) (hn : ∀ j ∈ ns, j ∈ ms ∨ a.heap.size ≤ j) : OnlyL ms a c :=
  ⟨k.os.trans h.os, k.tape.trans h.tape, k.output.trans h.output, Nat.le_trans h.size k.size, fun j hj hm => (k.block j (Nat.lt_of_lt_of_le hj h.size) (fun hin => (hn j hin).elim hm (by omega))).trans (h.block j hj hm)⟩
theorem OnlyL.below {ms : List Nat} {N : Nat} {w w' : World} (h : OnlyL ms w w') (hm : ∀ j ∈ ms, N ≤ j) (hN : N ≤ w.heap.size) : Below N w w' :=
  ⟨h.os, h.tape, h.output, h.size, fun k hk => h.block k (by omega) (fun hin => by have := hm k hin; omega)⟩

/-- The code's object: what lies at p, in which blocks, when it is the bus x. -/
structure Face where
  At : World → Nat → List Nat → Bs → Prop
  of : ∀ {w w' : World} {p : Nat} {ms : List Nat} {x : Bs}, At w p ms x → (∀ k ∈ ms, w'.heap[k]? = w.heap[k]?) → At w' p ms x
  lt : ∀ {w : World} {p : Nat} {ms : List Nat} {x : Bs}, At w p ms x → ∀ k ∈ ms, k < w.heap.size
  ok : ∀ {w : World} {p : Nat} {ms : List Nat} {x : Bs}, At w p ms x → x.Ok

/-- What a call that turns it leaves. -/
def Done (F : Face) (p : Nat) (ms : List Nat) (v : Value) (x : Bs) (w : World) (e : Ending) (w' : World) : Prop :=
  e = .returned v ∧ ∃ ns, F.At w' p ns x ∧ OnlyL ms w w' ∧ ∀ j ∈ ns, j ∈ ms ∨ w.heap.size ≤ j
def News (F : Face) (w : World) (e : Ending) (w' : World) : Prop :=
  ∃ p ms, e = .returned (.pointer (some ⟨p, 0, none⟩)) ∧ F.At w' p ms Bs.zero ∧ (∀ j ∈ ms, w.heap.size ≤ j) ∧ Below w.heap.size w w'
def Tells (v : Value) (w : World) (e : Ending) (w' : World) : Prop := e = .returned v ∧ Below w.heap.size w w'

section
variable {F : Face} {w w' : World} {p : Nat} {ms ns : List Nat} {x : Bs}
theorem Face.below (h : F.At w p ms x) (hb : Below w.heap.size w w') : F.At w' p ms x := F.of h (fun k hk => hb.block k (F.lt h k hk))
theorem Face.only (h : F.At w p ms x) (hb : OnlyL ns w w') (hd : ∀ k ∈ ms, k ∉ ns) : F.At w' p ms x := F.of h (fun k hk => hb.block k (F.lt h k hk) (hd k hk))
end

end Go.Proofs.Ythepnckbooioeaa.Bus
