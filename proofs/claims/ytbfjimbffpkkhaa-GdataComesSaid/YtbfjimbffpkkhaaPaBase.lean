/-
  Frames and a glue in memory; the operations that read, write and make them whole. Conditions: as each states.
-/
import Derived.Test.YtbfjimbffpkkhaaRows
import Derived.Test.YtbfjimbffpkkhaaPaMath
import Derived.WalkKit
import Derived.WalkSpells
import Derived.WalkLawsBesides
import Derived.Lib.Hide
import Derived.Below
import Derived.BigQuiet
import Derived.Deep.QuietTactic
import Derived.Deep.AppendLies
import Derived.Deep.MidRow
import Derived.Lib.Strings
namespace Go.Proofs.Ytbfjimbffpkkhaa.Pa
open Go.RowKit

def I64 (n : Int) : Prop := -9223372036854775808 ≤ n ∧ n ≤ 9223372036854775807
def Tells (v : Value) (w : World) (e : Ending) (w' : World) : Prop := e = .returned v ∧ Below w.heap.size w w'
theorem kept_cell {W W' : World} {N : Nat} (hb : Below N W W') {b k : Nat} (hN : b < N) {v : Value} (hc : W.cell? ⟨b, k, none⟩ = some v) : W'.cell? ⟨b, k, none⟩ = some v :=
  (World.cell?_of_block (a := ⟨b, k, none⟩) (hb.block b hN)).trans hc
theorem kept_own {W W' : World} (hb : Below W.heap.size W W') {b k : Nat} {v : Value} (hc : W.cell? ⟨b, k, none⟩ = some v) : W'.cell? ⟨b, k, none⟩ = some v :=
  kept_cell hb (World.block_lt_of_cell? W _ hc) hc
theorem below_drewN (W : World) (N n : Nat) : Below N W (W.drewN n) := ⟨rfl, rfl, rfl, Nat.le_refl _, fun _ _ => rfl⟩
theorem one_S (w : World) (A : Array Value) (t : TypeId) : Below w.heap.size w (w.alloc (.cells A t)) := (Below.refl _ _).alloc (Nat.le_refl _) _

/-! ### Texts -/
def S (l : Bs) : ByteArray := ⟨l.toArray⟩
theorem S_of (s : ByteArray) : S s.data.toList = s := by unfold S; simp
theorem S_size (l : Bs) : (S l).size = l.length := by simp [S, ByteArray.size]
theorem S_inj {a b : Bs} (h : S a = S b) : a = b := congrArg (fun s : ByteArray => s.data.toList) h
theorem toL (l : Bs) : (S l).toList = l := by rw [Lib.toList_data]; rfl
theorem S_cut (v : Bs) (a b : Nat) : (S v).extract a b = S ((v.take b).drop a) := by
  unfold S
  apply ByteArray.ext
  simp [ByteArray.data_extract, List.extract_eq_take_drop, List.drop_take]
theorem S_app (a b : Bs) : S a ++ S b = S (a ++ b) := by
  unfold S
  apply ByteArray.ext
  simp

/-! ### What turns -/
structure OnlyL (ms : List Nat) (w w' : World) : Prop where
  os : w'.os = w.os
  tape : w'.tape = w.tape
  output : w'.output = w.output
  size : w.heap.size ≤ w'.heap.size
  block : ∀ k, k < w.heap.size → k ∉ ms → w'.heap[k]? = w.heap[k]?
theorem OnlyL.refl (ms : List Nat) (w : World) : OnlyL ms w w := ⟨rfl, rfl, rfl, Nat.le_refl _, fun _ _ _ => rfl⟩
theorem OnlyL.of_below {ms : List Nat} {w w' : World} (h : Below w.heap.size w w') : OnlyL ms w w' := ⟨h.os, h.tape, h.output, h.size, fun k hk _ => h.block k hk⟩
theorem OnlyL.trans {ms ns : List Nat} {a b c : World} (h : OnlyL ms a b) (k : OnlyL ns b c) (hn : ∀ j ∈ ns, j ∈ ms ∨ a.heap.size ≤ j) : OnlyL ms a c :=
  ⟨k.os.trans h.os, k.tape.trans h.tape, k.output.trans h.output, Nat.le_trans h.size k.size, fun j hj hm => (k.block j (Nat.lt_of_lt_of_le hj h.size) (fun hin => (hn j hin).elim hm (by omega))).trans (h.block j hj hm)⟩
theorem OnlyL.tr {ms : List Nat} {a b c : World} (h : OnlyL ms a b) (k : OnlyL ms b c) : OnlyL ms a c := h.trans k fun _ hj => .inl hj
theorem OnlyL.below {ms : List Nat} {N : Nat} {w w' : World} (h : OnlyL ms w w') (hm : ∀ j ∈ ms, N ≤ j) (hN : N ≤ w.heap.size) : Below N w w' :=
  ⟨h.os, h.tape, h.output, h.size, fun k hk => h.block k (by omega) (fun hin => by have := hm k hin; omega)⟩
theorem OnlyL.drew {ms : List Nat} {a w : World} (h : OnlyL ms a w) : OnlyL ms a w.drew := ⟨h.os, h.tape, h.output, h.size, h.block⟩
theorem set_other {w : World} {b k j : Nat} {v : Value} (h : j ≠ b) : (w.setCell ⟨b, k, none⟩ v).heap[j]? = w.heap[j]? := by
  simp only [World.setCell]
  rw [Array.getElem?_modify, if_neg (fun e => h e.symm)]
theorem OnlyL.set {ms : List Nat} {w : World} {b : Nat} (hb : b ∈ ms) (k : Nat) (v : Value) : OnlyL ms w (w.setCell ⟨b, k, none⟩ v) :=
  ⟨rfl, rfl, rfl, by simp [World.setCell], fun _ _ hn => set_other (fun e => hn (e ▸ hb))⟩
theorem OnlyL.sets {ms : List Nat} {b : Nat} (hb : b ∈ ms) : ∀ (vs : List Value) (o : Nat) (w : World), OnlyL ms w (w.setCells b o vs)
  | [], _, _ => OnlyL.refl _ _
  | v :: vs, o, _ => (OnlyL.set hb o v).tr (OnlyL.sets hb vs (o + 1) _)
theorem OnlyL.cell {ms : List Nat} {w w' : World} (h : OnlyL ms w w') {g k : Nat} {v : Value} (hg : g ∉ ms) (hc : w.cell? ⟨g, k, none⟩ = some v) : w'.cell? ⟨g, k, none⟩ = some v :=
  (World.cell?_of_block (a := ⟨g, k, none⟩) (h.block g (World.block_lt_of_cell? w _ hc) hg)).trans hc

/-! ### Frames -/
def frC (f : Fr) : List Value := [.int .i64 f.kind, .int .u8 f.src, .int .u8 f.dst, .int .u16 f.sinc, .int .u16 f.dinc, .int .u16 f.ec, .int .u8 f.ea, .int .u16 f.ei, .int .u16 f.hop, .int .u16 f.hc, .int .u8 f.ha, .int .u16 f.hi, .bool f.wants, .int .u8 f.blk, .int .u16 f.vinc, .int .u32 f.vseq, .int .u8 f.part, .int .u8 f.parts, .string (S f.bytes)]
def frA (f : Fr) : Array Value := (frC f).toArray
theorem frC_len (f : Fr) : (frC f).length = 19 := rfl
theorem frA_size (f : Fr) : (frA f).size = 19 := rfl
theorem frA_list (f : Fr) : (frA f).toList = frC f := rfl
theorem frA_one (f : Fr) : (frA f).all (·.oneCell') = true := by
  unfold frA frC
  simp [Value.oneCell']
theorem frA_0 (f : Fr) : (frA f)[0]? = some (.int .i64 f.kind) := rfl
theorem frA_14 (f : Fr) : (frA f)[14]? = some (.int .u16 f.vinc) := rfl
theorem frA_15 (f : Fr) : (frA f)[15]? = some (.int .u32 f.vseq) := rfl
theorem frA_16 (f : Fr) : (frA f)[16]? = some (.int .u8 f.part) := rfl
theorem frA_17 (f : Fr) : (frA f)[17]? = some (.int .u8 f.parts) := rfl
theorem frA_18 (f : Fr) : (frA f)[18]? = some (.string (S f.bytes)) := rfl
noncomputable def ldF (v : Value) (W : World) : Result Next := (do pure (Next.value (← Instr.loadAt 33 v)) : Sem Next).run Try.prog W
noncomputable def stF (p v : Value) (W : World) : Result Next := (do Instr.storeAt 33 p v; pure Next.skip : Sem Next).run Try.prog W
theorem exec_ldF (ρ : Operand → Value) (d : Option Tmp) (x : Operand) (t : TypeId) (pos : String) (af : _) (g : _) (W : World) :
    (execOp ρ ⟨d, .load 33 x, t, pos, af, g⟩).run Try.prog W = ldF (ρ x) W := rfl
theorem exec_stF (ρ : Operand → Value) (d : Option Tmp) (x y : Operand) (t : TypeId) (pos : String) (af : _) (g : _) (W : World) :
    (execOp ρ ⟨d, .store 33 x y, t, pos, af, g⟩).run Try.prog W = stF (ρ x) (ρ y) W := rfl
theorem Try.sizeF : (Try.prog.info? 33).map (·.size) = some 19 := by kernel_rfl
theorem load_F (W : World) (b o : Nat) (c : List Value) (h : W.rangeAt b o c) (hc : c.length = 19) : (Instr.loadAt 33 (.pointer (some ⟨b, o, none⟩))).run Try.prog W = .ok (.agg c.toArray) W :=
  run_loadAt_mid (P := Try.prog) W b o 33 c _ h Try.underlying33 rfl (by rw [hc]; exact Try.sizeF)
theorem ldF_of (W : World) (b o : Nat) (c : List Value) (h : W.rangeAt b o c) (hc : c.length = 19) : ldF (.pointer (some ⟨b, o, none⟩)) W = .ok (.value (.agg c.toArray)) W := by
  unfold ldF
  rw [Sem.run_bind, load_F W b o c h hc]
  rfl
theorem stF_of (W : World) (b o : Nat) (c : Array Value) (h : W.there b o 19) (hc : c.size = 19) (h1 : c.all (·.oneCell') = true) :
    stF (.pointer (some ⟨b, o, none⟩)) (.agg c) W = .ok .skip (W.setCells b o c.toList) := by
  unfold stF
  rw [Sem.run_bind, run_storeAt_mid (P := Try.prog) W b o 33 c (by rw [hc]; exact h) (by rw [hc]; exact Try.sizeF) h1]
  rfl
theorem range_new (W : World) (c : Array Value) (t : TypeId) : (W.alloc (.cells c t)).rangeAt W.heap.size 0 c.toList := fun j v hv => by
  rw [Nat.zero_add, World.cell?_alloc_new]
  simpa using hv
theorem range_below {W W' : World} {b o : Nat} {c : List Value} (h : W.rangeAt b o c) (hb : Below W.heap.size W W') : W'.rangeAt b o c := fun j v hv => kept_own hb (h j v hv)
/-- A frame lies in block b from cell o on. -/
def FrAt (W : World) (b o : Nat) (f : Fr) : Prop := W.rangeAt b o (frC f)
theorem FrAt.ld {W : World} {b o : Nat} {f : Fr} (h : FrAt W b o f) : ldF (.pointer (some ⟨b, o, none⟩)) W = .ok (.value (.agg (frA f))) W := ldF_of W b o (frC f) h rfl
theorem FrAt.new (W : World) (f : Fr) (t : TypeId) : FrAt (W.alloc (.cells (frA f) t)) W.heap.size 0 f := range_new W (frA f) t
theorem FrAt.below {W W' : World} {b o : Nat} {f : Fr} (h : FrAt W b o f) (hb : Below W.heap.size W W') : FrAt W' b o f := range_below h hb
theorem FrAt.lt {W : World} {b o : Nat} {f : Fr} (h : FrAt W b o f) : b < W.heap.size := World.block_lt_of_cell? W _ (h 0 _ rfl)
theorem FrAt.only {ms : List Nat} {W W' : World} {b o : Nat} {f : Fr} (h : FrAt W b o f) (hb : OnlyL ms W W') (hn : b ∉ ms) : FrAt W' b o f := fun j v hv => hb.cell hn (h j v hv)

/-! ### A glue -/
def GArr (n : Nat) (g : Gl) (A : Array Value) : Prop :=
  A.size = 68 ∧ A[0]? = some (.int .i64 n) ∧ A[1]? = some (.int .u16 g.inc) ∧ A[2]? = some (.int .u32 g.seq) ∧ A[3]? = some (.int .u8 (maskB g.came : Nat)) ∧
  (∀ j, j < 64 → ∃ x : UInt8, A[4 + j]? = some (.int .u8 (x.toNat : Nat))) ∧ ∀ (p j : Nat) (c : UInt8), (g.came.getD p [])[j]? = some c → A[4 + 16 * p + j]? = some (.int .u8 (c.toNat : Nat))
def GAt (W : World) (b n : Nat) (g : Gl) : Prop := ∃ A : Array Value, W.heap[b]? = some (.cells A 95 (0, 0)) ∧ GArr n g A
theorem cell_of_row (w : World) (b k : Nat) (a : Array Value) (t : TypeId) (f : Nat × Nat) (h : w.heap[b]? = some (.cells a t f)) : w.cell? ⟨b, k, none⟩ = a[k]? := by
  simp [World.cell?, h]
theorem frozen_of (w : World) (b j : Nat) (a : Array Value) (t : TypeId) (h : w.heap[b]? = some (.cells a t (0, 0))) : w.frozen? ⟨b, j, none⟩ = false := by
  unfold World.frozen?
  rw [h]
  simp
theorem lt_of_heap {w : World} {b : Nat} {x : Obj} (h : w.heap[b]? = some x) : b < w.heap.size := (Array.getElem?_eq_some_iff.1 h).1
section
variable {W W' : World} {b n : Nat} {g : Gl}
theorem GAt.lt (h : GAt W b n g) : b < W.heap.size := by obtain ⟨A, h, -⟩ := h; exact lt_of_heap h
theorem GAt.c0 (h : GAt W b n g) : W.cell? ⟨b, 0, none⟩ = some (.int .i64 n) := by obtain ⟨A, h, k⟩ := h; rw [cell_of_row _ _ _ _ _ _ h]; exact k.2.1
theorem GAt.c1 (h : GAt W b n g) : W.cell? ⟨b, 1, none⟩ = some (.int .u16 g.inc) := by obtain ⟨A, h, k⟩ := h; rw [cell_of_row _ _ _ _ _ _ h]; exact k.2.2.1
theorem GAt.c2 (h : GAt W b n g) : W.cell? ⟨b, 2, none⟩ = some (.int .u32 g.seq) := by obtain ⟨A, h, k⟩ := h; rw [cell_of_row _ _ _ _ _ _ h]; exact k.2.2.2.1
theorem GAt.c3 (h : GAt W b n g) : W.cell? ⟨b, 3, none⟩ = some (.int .u8 (maskB g.came : Nat)) := by obtain ⟨A, h, k⟩ := h; rw [cell_of_row _ _ _ _ _ _ h]; exact k.2.2.2.2.1
theorem GAt.free (h : GAt W b n g) (j : Nat) : W.frozen? ⟨b, j, none⟩ = false := by obtain ⟨A, h, k⟩ := h; exact frozen_of _ _ _ _ _ h
theorem GAt.below (h : GAt W b n g) (hb : Below W.heap.size W W') : GAt W' b n g := by
  have hl := h.lt
  obtain ⟨A, h, k⟩ := h
  exact ⟨A, (hb.block b hl).trans h, k⟩
theorem GAt.only {ms : List Nat} (h : GAt W b n g) (hb : OnlyL ms W W') (hn : b ∉ ms) : GAt W' b n g := by
  have hl := h.lt
  obtain ⟨A, h, k⟩ := h
  exact ⟨A, (hb.block b hl hn).trans h, k⟩
theorem GAt.drew (h : GAt W b n g) : GAt W.drew b n g := h
theorem GAt.drewN (h : GAt W b n g) (m : Nat) : GAt (W.drewN m) b n g := h
end
end Go.Proofs.Ytbfjimbffpkkhaa.Pa
