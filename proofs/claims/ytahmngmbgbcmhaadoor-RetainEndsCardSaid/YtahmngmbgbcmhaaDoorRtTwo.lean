/-
  Two rows that a call makes for itself, one of numbers and one of bytes, each appended to. Conditions: none but on sizes.
-/
import Derived.Test.YtahmngmbgbcmhaaDoorRtNext
import Derived.OwnWalk
import Derived.Laws.OwnMore
namespace Go.Proofs.YtahmngmbgbcmhaaDoor.Ret
open Go.RowKit
open Oct

def ints (l : List Nat) : List Value := l.map fun n : Nat => Value.int .i64 (n : Int)
theorem ints_length (l : List Nat) : (ints l).length = l.length := by simp [ints]
theorem ints_app (a b : List Nat) : ints (a ++ b) = ints a ++ ints b := by simp [ints]
theorem ints_one (l : List Nat) : ∀ u ∈ ints l, u.oneCell' = true := by
  intro u hu
  simp only [ints, List.mem_map] at hu
  obtain ⟨c, _, rfl⟩ := hu
  rfl
theorem vals_app (a b : List UInt8) : Sto.vals (a ++ b) = Sto.vals a ++ Sto.vals b := by simp [Sto.vals]
theorem vals_one (l : List UInt8) : ∀ u ∈ Sto.vals l, u.oneCell' = true := by
  intro u hu
  simp only [Sto.vals, List.mem_map] at hu
  obtain ⟨c, _, rfl⟩ := hu
  rfl
theorem info3 : (Tryd.prog.info? 3).map (fun i => (i.zero, i.size, i.bytes)) = some (some (.int .i64 0), 1, 8) := by kernel_rfl

/-- Two rows of the call's own, of numbers and of bytes, that lie from block N on. -/
structure Two (N : Nat) (w : World) (pv bv : Value) (ps : List Nat) (bs : List UInt8) : Prop where
  p : w.ownsRow N 3 1 pv ps.length (ints ps)
  b : w.ownsRow N 5 1 bv bs.length (Sto.vals bs)

theorem own_apart {N : Nat} {w : World} {pv bv : Value} {n m : Nat} {xs ys : List Value} (hp : w.ownsRow N 3 1 pv n xs) (hb : w.ownsRow N 5 1 bv m ys) : bv.ownBlock = none ∨ bv.ownBlock ≠ pv.ownBlock := by
  rcases hb.2 with ⟨rfl, _⟩ | ⟨g, cap, cur, rfl, _, hg, _⟩
  · exact .inl rfl
  · refine .inr ?_
    rcases hp.2 with ⟨rfl, _⟩ | ⟨g', cap', cur', rfl, _, hg', _⟩
    · simp [Value.ownBlock]
    · simp only [Value.ownBlock]
      intro e
      injection e with e
      have e : g = g' := e
      subst e
      rw [hg] at hg'
      injection hg' with h
      injection h with _ h2
      cases h2

theorem own_apart' {N : Nat} {w : World} {pv bv : Value} {n m : Nat} {xs ys : List Value} (hp : w.ownsRow N 3 1 pv n xs) (hb : w.ownsRow N 5 1 bv m ys) : pv.ownBlock = none ∨ pv.ownBlock ≠ bv.ownBlock := by
  rcases hp.2 with ⟨rfl, _⟩ | ⟨g, cap, cur, rfl, _⟩
  · exact .inl rfl
  · refine .inr fun e => ?_
    rcases own_apart hp hb with h | h
    · rw [h] at e; simp [Value.ownBlock] at e
    · exact h e.symm

theorem Two.alloc {N : Nat} {w : World} {pv bv : Value} {ps : List Nat} {bs : List UInt8} (h : Two N w pv bv ps bs) (o : Obj) : Two N (w.alloc o) pv bv ps bs := ⟨h.p.alloc o, h.b.alloc o⟩
theorem Two.below {N : Nat} {w w' : World} {pv bv : Value} {ps : List Nat} {bs : List UInt8} (h : Two N w pv bv ps bs) (hb : Below w.heap.size w w') : Two N w' pv bv ps bs :=
  ⟨h.p.kept (row := none) ⟨hb.os, hb.tape, hb.output, hb.size, fun k hk _ => hb.block k hk⟩ (by cases pv.ownBlock <;> simp), h.b.kept (row := none) ⟨hb.os, hb.tape, hb.output, hb.size, fun k hk _ => hb.block k hk⟩ (by cases bv.ownBlock <;> simp)⟩

/-- Behind an append to the numbers; behind one to the bytes. -/
theorem Two.nums {N : Nat} {w w' : World} {pv bv pv' : Value} {ps : List Nat} {bs : List UInt8} {n : Nat} (h : Two N w pv bv ps bs) (ho : w'.ownsRow N 3 1 pv' (ps.length + 1) (ints ps ++ ints [n])) (hg : w.grownBy w' pv.ownBlock) : Two N w' pv' bv (ps ++ [n]) bs :=
  ⟨by rw [List.length_append, ints_app]; exact ho, h.b.kept hg (own_apart h.p h.b)⟩
theorem Two.byts {N : Nat} {w w' : World} {pv bv bv' : Value} {ps : List Nat} {bs : List UInt8} {c : UInt8} (h : Two N w pv bv ps bs) (ho : w'.ownsRow N 5 1 bv' (bs.length + 1) (Sto.vals bs ++ Sto.vals [c])) (hg : w.grownBy w' bv.ownBlock) : Two N w' pv bv' ps (bs ++ [c]) :=
  ⟨h.p.kept hg (own_apart' h.p h.b), by rw [List.length_append, vals_app]; exact ho⟩

/-- What lies below N stays behind an append to an own row. -/
theorem old_grown {N n e : Nat} {w w' : World} {v : Value} {xs : List Value} {s : Nat} (ho : w.ownsRow N e s v n xs) (hg : w.grownBy w' v.ownBlock) (k : Nat) (hk : k < N) (hN : N ≤ w.heap.size) : w'.heap[k]? = w.heap[k]? :=
  hg.block k (by omega) (fun e => by have := (ho.lt k e.symm).1; omega)
theorem below_grown {N M n e : Nat} {w w' : World} {v : Value} {xs : List Value} {s : Nat} (ho : w.ownsRow N e s v n xs) (hg : w.grownBy w' v.ownBlock) (hM : M ≤ N) (hN : N ≤ w.heap.size) : Below M w w' :=
  ⟨hg.os, hg.tape, hg.output, hg.size, fun k hk => old_grown ho hg k (by omega) hN⟩

/-- A row just laid. -/
theorem laid_one (w : World) (v : Value) (t : TypeId) : ∀ j u, ([v] : List Value)[j]? = some u → (w.alloc (.cells #[v] t)).cell? ((⟨w.heap.size, 0, none⟩ : Addr).add j) = some u := by
  intro j u hu
  have hadd : (⟨w.heap.size, 0, none⟩ : Addr).add j = ⟨w.heap.size, j, none⟩ := by unfold Addr.add; split <;> simp_all
  rw [hadd, cell_of_row _ _ j _ t (0, 0) (heap_alloc_new w _)]
  match j, hu with
  | 0, hu => simpa using hu

/-- The places that a commit writes, and the bytes. -/
def plc (k j : Nat) : List Nat := k :: (List.range j).map fun i => k + 1 + i
def byt (sl : List UInt8) (j : Nat) : List UInt8 := 0 :: sl.take j
theorem plc_succ (k j : Nat) : plc k (j + 1) = plc k j ++ [k + 1 + j] := by simp [plc, List.range_succ]
theorem byt_succ (sl : List UInt8) (j : Nat) (h : j < sl.length) : byt sl (j + 1) = byt sl j ++ [sl.getD j 0] := by
  simp [byt, List.getD_eq_getElem?_getD, h]
theorem plc_length (k j : Nat) : (plc k j).length = j + 1 := by simp [plc]
theorem byt_length (sl : List UInt8) (j : Nat) (h : j ≤ sl.length) : (byt sl j).length = j + 1 := by simp [byt, h]

/-- All of them. -/
def plcs (k : Nat) : List Nat := plc k 73 ++ [k]
def byts (sl : List UInt8) : List UInt8 := byt sl 73 ++ [165]
theorem plcs_length (k : Nat) : (plcs k).length = 75 := by simp [plcs, plc_length]
theorem byts_length {sl : List UInt8} (h : sl.length = 73) : (byts sl).length = 75 := by simp [byts, byt_length, h]
theorem plcs_le (k j : Nat) : (plcs k).getD j 0 ≤ k + 73 := by
  rw [List.getD_eq_getElem?_getD]
  cases h : (plcs k)[j]? with
  | none => simp
  | some x =>
    have hm := List.mem_of_getElem? h
    simp only [plcs, plc, List.mem_append, List.mem_cons, List.mem_map, List.mem_range] at hm
    simp
    rcases hm with (rfl | ⟨i, hi, rfl⟩) | h
    · omega
    · omega
    · simp at h; omega

/-- A store's bytes behind so many of a commit's bytes. -/
def cur (l : List UInt8) (k : Nat) (sl : List UInt8) : Nat → List UInt8
  | 0 => l
  | j + 1 => (cur l k sl j).set ((plcs k).getD j 0) ((byts sl).getD j 0)
theorem cur_length (l : List UInt8) (k : Nat) (sl : List UInt8) (j : Nat) : (cur l k sl j).length = l.length := by
  induction j with
  | zero => rfl
  | succ j ih => rw [cur, List.length_set, ih]

/-- A byte set in a row. -/
theorem row_set {w : World} {g : Nat} {l : List UInt8} (hr : Sto.Row w g l) (i : Nat) (c : UInt8) : Sto.Row (w.setCell ⟨g, i, none⟩ (.int .u8 (c.toNat : Int))) g (l.set i c) := by
  intro j hj
  rw [List.length_set] at hj
  obtain ⟨hc, hf⟩ := hr j hj
  refine ⟨?_, (World.frozen?_setCell _ _ _ _).trans hf⟩
  by_cases h : i = j
  · subst h
    rw [World.cell?_setCell_same _ _ _ hc]
    simp [List.getD_eq_getElem?_getD, hj]
  · rw [World.cell?_setCell_other _ _ _ _ (by intro e; injection e with _ e; exact h e), hc]
    simp [List.getD_eq_getElem?_getD, h]

/-- A row's value, where it has something. -/
theorem own_shape {N n e s : Nat} {w : World} {v : Value} {xs : List Value} (h : w.ownsRow N e s v n xs) (hn : 0 < n) : ∃ g cap, v = .slice (some ⟨g, 0, none⟩) n cap ∧ N ≤ g ∧ g < w.heap.size := by
  rcases h.2 with ⟨_, h0⟩ | ⟨g, cap, cur, rfl, hb, hg, _⟩
  · omega
  · exact ⟨g, cap, rfl, hb, (Array.getElem?_eq_some_iff.1 hg).1⟩

theorem nums_at {N g cap : Nat} {w : World} {ps : List Nat} {n : Nat} (h : w.ownsRow N 3 1 (.slice (some ⟨g, 0, none⟩) n cap) n (ints ps)) (j : Nat) (hj : j < n) : w.cell? ⟨g, j, none⟩ = some (.int .i64 (ps.getD j 0 : Nat)) := by
  have hl := h.1
  rw [ints_length] at hl
  rw [h.cellAt j (by omega)]
  simp [ints, List.getD_eq_getElem?_getD, show j < ps.length by omega]
theorem byts_at {N g cap : Nat} {w : World} {bs : List UInt8} {n : Nat} (h : w.ownsRow N 5 1 (.slice (some ⟨g, 0, none⟩) n cap) n (Sto.vals bs)) (j : Nat) (hj : j < n) : w.cell? ⟨g, j, none⟩ = some (.int .u8 ((bs.getD j 0).toNat : Int)) := by
  have hl := h.1
  rw [Sto.vals_length] at hl
  rw [h.cellAt j (by omega)]
  simp [Sto.vals, List.getD_eq_getElem?_getD, show j < bs.length by omega]

/-- What stands while the bytes are written. -/
structure Late (w0 : World) (gb N2 : Nat) (l : List UInt8) (W : World) (pv bv : Value) (ps : List Nat) (bs : List UInt8) : Prop where
  bel : Below w0.heap.size w0 W
  row : Sto.Row W gb l
  two : Two N2 W pv bv ps bs
  n2 : gb < N2
  base : w0.heap.size ≤ gb
theorem Late.drew {w0 W : World} {gb N2 : Nat} {l : List UInt8} {pv bv : Value} {ps : List Nat} {bs : List UInt8} (h : Late w0 gb N2 l W pv bv ps bs) : Late w0 gb N2 l W.drew pv bv ps bs :=
  ⟨h.bel.drew, h.row, ⟨h.two.p, h.two.b⟩, h.n2, h.base⟩
theorem Late.set {w0 W : World} {gb N2 : Nat} {l : List UInt8} {pv bv : Value} {ps : List Nat} {bs : List UInt8} (h : Late w0 gb N2 l W pv bv ps bs) (i : Nat) (c : UInt8) : Late w0 gb N2 (l.set i c) (W.setCell ⟨gb, i, none⟩ (.int .u8 (c.toNat : Int))) pv bv ps bs := by
  have hg : W.grownBy (W.setCell ⟨gb, i, none⟩ (.int .u8 (c.toNat : Int))) (some gb) := only_set W gb i _
  have hne : ∀ {v : Value} {n e s : Nat} {xs : List Value}, W.ownsRow N2 e s v n xs → (v.ownBlock = none ∨ v.ownBlock ≠ some gb) := fun ho => .inr (fun e => by have := (ho.lt gb e).1; have := h.n2; omega)
  exact ⟨h.bel.setCell (p := ⟨gb, i, none⟩) h.base _, row_set h.row i c, ⟨h.two.p.kept hg (hne h.two.p), h.two.b.kept hg (hne h.two.b)⟩, h.n2, h.base⟩

end Go.Proofs.YtahmngmbgbcmhaaDoor.Ret
