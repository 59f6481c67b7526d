/-
  What lies in memory when timers are walked, and what is asked of the code's calls. Conditions: none.
-/
import Derived.Test.YtmjbdpgjalkbpaaRows
import Derived.Test.YtmjbdpgjalkbpaaWhMath
import Derived.WalkKit
import Derived.WalkSpells
import Derived.WalkLawsBesides
import Derived.Lib.Hide
import Derived.Below
import Derived.OwnWalk
import Derived.Laws.OwnMore
namespace Go.Proofs.Ytmjbdpgjalkbpaa.Whl
open Go.RowKit

def ints (l : List Nat) : List Value := l.map fun n : Nat => Value.int .i64 (n : Int)
theorem ints_length (l : List Nat) : (ints l).length = l.length := by simp [ints]
theorem ints_app (a b : List Nat) : ints (a ++ b) = ints a ++ ints b := by simp [ints]
theorem ints_one (l : List Nat) : ∀ u ∈ ints l, u.oneCell' = true := by
  intro u hu
  simp only [ints, List.mem_map] at hu
  obtain ⟨c, _, rfl⟩ := hu
  rfl
theorem ints_at (l : List Nat) (i : Nat) (h : i < l.length) : (ints l)[i]? = some (.int .i64 ((l.getD i 0 : Nat) : Int)) := by
  simp [ints, List.getD_eq_getElem?_getD, h]
theorem infoInt : (Try.prog.info? 3).map (fun i => (i.zero, i.size, i.bytes)) = some (some (.int .i64 0), 1, 8) := by kernel_rfl

/-- Nothing but blocks p and g has turned. -/
structure Only (p g : Nat) (w w' : World) : Prop where
  os : w'.os = w.os
  tape : w'.tape = w.tape
  output : w'.output = w.output
  size : w.heap.size ≤ w'.heap.size
  block : ∀ k, k < w.heap.size → k ≠ p → k ≠ g → w'.heap[k]? = w.heap[k]?
theorem Only.refl (p g : Nat) (w : World) : Only p g w w := ⟨rfl, rfl, rfl, Nat.le_refl _, fun _ _ _ _ => rfl⟩
theorem Only.trans {p g : Nat} {a b c : World} (h : Only p g a b) (k : Only p g b c) : Only p g a c :=
  ⟨k.os.trans h.os, k.tape.trans h.tape, k.output.trans h.output, Nat.le_trans h.size k.size, fun i hi h1 h2 => (k.block i (Nat.lt_of_lt_of_le hi h.size) h1 h2).trans (h.block i hi h1 h2)⟩
theorem Only.of_below {p g : Nat} {w w' : World} (h : Below w.heap.size w w') : Only p g w w' := ⟨h.os, h.tape, h.output, h.size, fun k hk _ _ => h.block k hk⟩
theorem Only.set (p g : Nat) (w : World) (o : Nat) (v : Value) : Only p g w (w.setCell ⟨p, o, none⟩ v) := ⟨rfl, rfl, rfl, by simp [World.setCell], fun k _ hk _ => Below.heap_setCell _ _ _ _ hk⟩
theorem Only.drew {p g : Nat} {a w : World} (h : Only p g a w) : Only p g a w.drew := ⟨h.os, h.tape, h.output, h.size, h.block⟩
theorem Only.drewN {p g : Nat} {a w : World} (h : Only p g a w) (n : Nat) : Only p g a (w.drewN n) := ⟨h.os, h.tape, h.output, h.size, h.block⟩
theorem Only.alloc {p g : Nat} {a w : World} (h : Only p g a w) (o : Obj) : Only p g a (w.alloc o) := h.trans (Only.of_below ((Below.refl _ _).alloc (Nat.le_refl _) o))
theorem Only.below {p g N : Nat} {w w' : World} (h : Only p g w w') (hp : N ≤ p) (hg : N ≤ g) (hN : N ≤ w.heap.size) : Below N w w' :=
  ⟨h.os, h.tape, h.output, h.size, fun k hk => h.block k (by omega) (by omega) (by omega)⟩

theorem off_ne (p : Nat) {i j : Nat} (h : i ≠ j) : (⟨p, i, none⟩ : Addr) ≠ ⟨p, j, none⟩ := by intro e; injection e; contradiction

/-- Block b holds sixteen numbers. -/
def RefAt (w : World) (b : Nat) (x : Wh) : Prop := Ok x ∧ ∀ i, i < 16 → w.cell? ⟨b, i, none⟩ = some (.int .i64 (x.getD i 0 : Nat)) ∧ w.frozen? ⟨b, i, none⟩ = false
theorem RefAt.lt {w : World} {b : Nat} {x : Wh} (h : RefAt w b x) : b < w.heap.size := World.block_lt_of_cell? w ⟨b, 0, none⟩ (h.2 0 (by omega)).1
theorem RefAt.of {w w' : World} {b : Nat} {x : Wh} (h : RefAt w b x) (hb : w'.heap[b]? = w.heap[b]?) : RefAt w' b x :=
  ⟨h.1, fun i hi => ⟨(World.cell?_of_block (a := ⟨b, i, none⟩) hb).trans (h.2 i hi).1, (World.frozen?_of_block (a := ⟨b, i, none⟩) hb).trans (h.2 i hi).2⟩⟩
theorem RefAt.below {w w' : World} {b : Nat} {x : Wh} (h : RefAt w b x) (hb : Below w.heap.size w w') : RefAt w' b x := h.of (hb.block b h.lt)
theorem RefAt.only {w w' : World} {b p g : Nat} {x : Wh} (h : RefAt w b x) (hb : Only p g w w') (h1 : b ≠ p) (h2 : b ≠ g) : RefAt w' b x := h.of (hb.block b h.lt h1 h2)
theorem RefAt.drew {w : World} {b : Nat} {x : Wh} (h : RefAt w b x) : RefAt w.drew b x := h
theorem RefAt.drewN {w : World} {b : Nat} {x : Wh} (h : RefAt w b x) (n : Nat) : RefAt (w.drewN n) b x := h
theorem RefAt.put {w : World} {b : Nat} {x : Wh} (h : RefAt w b x) (i v : Nat) (hi : i < 16) (hv : v ≤ 10000) : RefAt (w.setCell ⟨b, i, none⟩ (.int .i64 (v : Int))) b (x.set i v) := by
  have hl := h.1.len
  refine ⟨⟨by rw [List.length_set]; exact hl, fun j => ?_⟩, fun j hj => ⟨?_, (World.frozen?_setCell _ _ _ _).trans (h.2 j hj).2⟩⟩
  · rw [getD_set _ _ _ _ (by omega)]
    split
    · exact hv
    · exact h.1.le j
  · rw [getD_set _ _ _ _ (by omega)]
    by_cases e : i = j
    · subst e
      rw [if_pos rfl]
      exact World.cell?_setCell_same _ _ _ (h.2 i hi).1
    · rw [if_neg e, World.cell?_setCell_other _ _ _ _ (off_ne b e)]
      exact (h.2 j hj).1

/-- A slice of numbers of the call's own, from block N on. -/
def OwnL (N : Nat) (w : World) (v : Value) (l : List Nat) : Prop := w.ownsRow N 3 1 v l.length (ints l)
theorem OwnL.below {N : Nat} {w w' : World} {v : Value} {l : List Nat} (h : OwnL N w v l) (hb : Below w.heap.size w w') : OwnL N w' v l :=
  World.ownsRow.kept h (row := none) ⟨hb.os, hb.tape, hb.output, hb.size, fun k hk _ => hb.block k hk⟩ (by cases v.ownBlock <;> simp)
theorem OwnL.only {N : Nat} {w w' : World} {v : Value} {l : List Nat} {p g : Nat} (h : OwnL N w v l) (hb : Only p g w w') (hp : p < N) (hg : g < N) : OwnL N w' v l := by
  rcases h.2 with ⟨rfl, h0⟩ | ⟨b, cap, cur, rfl, hN, hg', h1, h2, h3, h4⟩
  · exact ⟨h.1, .inl ⟨rfl, h0⟩⟩
  · refine ⟨h.1, .inr ⟨b, cap, cur, rfl, hN, ?_, h1, h2, h3, h4⟩⟩
    rw [hb.block b (Array.getElem?_eq_some_iff.1 hg').1 (by omega) (by omega)]
    exact hg'
theorem OwnL.mono {N M : Nat} {w : World} {v : Value} {l : List Nat} (h : OwnL N w v l) (hM : M ≤ N) : OwnL M w v l := by
  refine ⟨h.1, ?_⟩
  rcases h.2 with h | ⟨b, cap, cur, hv, hN, hr⟩
  · exact .inl h
  · exact .inr ⟨b, cap, cur, hv, Nat.le_trans hM hN, hr⟩

/-- What a slice's value shows: nil, or a block whose cells are the numbers. -/
def ListAt (w : World) (v : Value) (l : List Nat) : Prop :=
  (v = .slice none 0 0 ∧ l = []) ∨ ∃ b cap, v = .slice (some ⟨b, 0, none⟩) l.length cap ∧ b < w.heap.size ∧ l.length ≤ cap ∧ cap ≤ maxLen ∧ ∀ i, i < l.length → w.cell? ⟨b, i, none⟩ = some (.int .i64 (l.getD i 0 : Nat))
theorem OwnL.list {N : Nat} {w : World} {v : Value} {l : List Nat} (h : OwnL N w v l) : ListAt w v l := by
  rcases h.2 with ⟨rfl, h0⟩ | ⟨b, cap, cur, rfl, hN, hg', h1, h2, h3, h4⟩
  · exact .inl ⟨rfl, List.length_eq_zero_iff.1 h0⟩
  · refine .inr ⟨b, cap, rfl, (Array.getElem?_eq_some_iff.1 hg').1, h1, h2, fun i hi => ?_⟩
    have := World.ownsRow.cellAt h i (by omega)
    rw [this, ints_at l i hi]
theorem ListAt.below {w w' : World} {v : Value} {l : List Nat} (h : ListAt w v l) (hb : Below w.heap.size w w') : ListAt w' v l := by
  rcases h with h | ⟨b, cap, hv, hlt, h1, h2, h3⟩
  · exact .inl h
  · exact .inr ⟨b, cap, hv, Nat.lt_of_lt_of_le hlt hb.size, h1, h2, fun i hi => (hb.cell (p := ⟨b, i, none⟩) hlt).trans (h3 i hi)⟩

/-- The code's object: what lies at its blocks p and g when of its timers so many ticks are left. -/
structure Face where
  At : World → Nat → Nat → Wh → Prop
  of : ∀ {w w' : World} {p g : Nat} {x : Wh}, At w p g x → w'.heap[p]? = w.heap[p]? → w'.heap[g]? = w.heap[g]? → At w' p g x
  plt : ∀ {w : World} {p g : Nat} {x : Wh}, At w p g x → p < w.heap.size
  glt : ∀ {w : World} {p g : Nat} {x : Wh}, At w p g x → g < w.heap.size
  ok : ∀ {w : World} {p g : Nat} {x : Wh}, At w p g x → Ok x

section
variable {F : Face} {w w' : World} {p g : Nat} {x : Wh}
theorem Face.below (h : F.At w p g x) (hb : Below w.heap.size w w') : F.At w' p g x := F.of h (hb.block p (F.plt h)) (hb.block g (F.glt h))
theorem Face.only {q r : Nat} (h : F.At w p g x) (hb : Only q r w w') (h1 : p ≠ q) (h2 : p ≠ r) (h3 : g ≠ q) (h4 : g ≠ r) : F.At w' p g x := F.of h (hb.block p (F.plt h) h1 h2) (hb.block g (F.glt h) h3 h4)
theorem Face.drew (h : F.At w p g x) : F.At w.drew p g x := F.of h rfl rfl
end

def News (F : Face) (w : World) (e : Ending) (w' : World) : Prop :=
  ∃ p g, e = .returned (.pointer (some ⟨p, 0, none⟩)) ∧ F.At w' p g zero ∧ w.heap.size ≤ p ∧ w.heap.size ≤ g ∧ Below w.heap.size w w'
def Done (F : Face) (p g : Nat) (v : Value) (x : Wh) (w : World) (e : Ending) (w' : World) : Prop := e = .returned v ∧ F.At w' p g x ∧ Only p g w w'
def Comes (F : Face) (p g : Nat) (l : List Nat) (x : Wh) (w : World) (e : Ending) (w' : World) : Prop :=
  ∃ v, e = .returned v ∧ OwnL w.heap.size w' v l ∧ F.At w' p g x ∧ Only p g w w'
def Tells (v : Value) (w : World) (e : Ending) (w' : World) : Prop := e = .returned v ∧ Below w.heap.size w w'
def I64 (n : Int) : Prop := -9223372036854775808 ≤ n ∧ n ≤ 9223372036854775807

/-- What is asked of the code. -/
structure Code (F : Face) : Prop where
  new : ∀ w : World, Calls Try.prog 7 #[] w (News F w)
  set : ∀ (p g : Nat) (x : Wh) (id n : Int) (w : World), F.At w p g x → I64 id → I64 n → Calls Try.prog 8 #[.pointer (some ⟨p, 0, none⟩), .int .i64 id, .int .i64 n] w (Done F p g (.bool (setB id n)) (setX x id n) w)
  cancel : ∀ (p g : Nat) (x : Wh) (id : Int) (w : World), F.At w p g x → I64 id → Calls Try.prog 11 #[.pointer (some ⟨p, 0, none⟩), .int .i64 id] w (Done F p g (.bool (canB x id)) (canX x id) w)
  left : ∀ (p g : Nat) (x : Wh) (id : Int) (w : World), F.At w p g x → I64 id → Calls Try.prog 17 #[.pointer (some ⟨p, 0, none⟩), .int .i64 id] w fun e w' => e = .returned (.int .i64 (leftN x id : Nat)) ∧ w = w'
  tick : ∀ (p g : Nat) (x : Wh) (w : World), F.At w p g x → Calls Try.prog 13 #[.pointer (some ⟨p, 0, none⟩)] w (Comes F p g (comeL x) (tickX x) w)
  skip : ∀ (p g : Nat) (x : Wh) (n : Int) (w : World), F.At w p g x → I64 n → Calls Try.prog 15 #[.pointer (some ⟨p, 0, none⟩), .int .i64 n] w (Comes F p g (skipL x (skipN n)) (skipX x (skipN n)) w)
  soonest : ∀ (p g : Nat) (x : Wh) (w : World), F.At w p g x → Calls Try.prog 20 #[.pointer (some ⟨p, 0, none⟩)] w (Tells (.tuple #[.int .i64 (soonTo x 16 : Nat), .bool (decide (0 < lenTo x 16))]) w)
  len : ∀ (p g : Nat) (x : Wh) (w : World), F.At w p g x → Calls Try.prog 18 #[.pointer (some ⟨p, 0, none⟩)] w (Tells (.int .i64 (lenTo x 16 : Nat)) w)

end Go.Proofs.Ytmjbdpgjalkbpaa.Whl
