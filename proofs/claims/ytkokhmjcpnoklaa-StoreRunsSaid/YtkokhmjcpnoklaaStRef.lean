/-
  The reference's store in memory, and its calls but Write, walked. Conditions: none but on sizes.
-/
import Derived.Test.YtkokhmjcpnoklaaStApart
namespace Go.Proofs.Ytkokhmjcpnoklaa.Sto
open Go.RowKit

/-- Block q is the reference's store whose bytes lie in block h. -/
structure RefAt (w : World) (q h cap : Nat) (l : List UInt8) (up : Bool) (z n : Int) : Prop where
  ne : q ≠ h
  lt : h < w.heap.size
  hcap : l.length ≤ cap
  big : cap ≤ maxLen
  few : l.length ≤ 1000
  c0 : w.cell? ⟨q, 0, none⟩ = some (.slice (some ⟨h, 0, none⟩) l.length cap)
  c1 : w.cell? ⟨q, 1, none⟩ = some (.bool up)
  c2 : w.cell? ⟨q, 2, none⟩ = some (.int .i64 z)
  c3 : w.cell? ⟨q, 3, none⟩ = some (.int .i64 n)
  f1 : w.frozen? ⟨q, 1, none⟩ = false
  f2 : w.frozen? ⟨q, 2, none⟩ = false
  f3 : w.frozen? ⟨q, 3, none⟩ = false
  row : Row w h l

theorem RefAt.drewN {w : World} {q h cap : Nat} {l : List UInt8} {u : Bool} {z n : Int} (hr : RefAt w q h cap l u z n) (k : Nat) : RefAt (w.drewN k) q h cap l u z n :=
  ⟨hr.ne, hr.lt, hr.hcap, hr.big, hr.few, hr.c0, hr.c1, hr.c2, hr.c3, hr.f1, hr.f2, hr.f3, hr.row⟩
theorem RefAt.drew {w : World} {q h cap : Nat} {l : List UInt8} {u : Bool} {z n : Int} (hr : RefAt w q h cap l u z n) : RefAt w.drew q h cap l u z n :=
  ⟨hr.ne, hr.lt, hr.hcap, hr.big, hr.few, hr.c0, hr.c1, hr.c2, hr.c3, hr.f1, hr.f2, hr.f3, hr.row⟩
theorem RefAt.qlt {w : World} {q h cap : Nat} {l : List UInt8} {u : Bool} {z n : Int} (hr : RefAt w q h cap l u z n) : q < w.heap.size := World.block_lt_of_cell? w ⟨q, 0, none⟩ hr.c0

theorem RefAt.kept {w w' : World} {q h cap : Nat} {l : List UInt8} {u : Bool} {z n : Int} (hr : RefAt w q h cap l u z n) (hq : w'.heap[q]? = w.heap[q]?) (hh : w'.heap[h]? = w.heap[h]?) : RefAt w' q h cap l u z n := by
  have hc : ∀ o, w'.cell? ⟨q, o, none⟩ = w.cell? ⟨q, o, none⟩ := fun o => World.cell?_of_block (a := ⟨q, o, none⟩) hq
  have hf : ∀ o, w'.frozen? ⟨q, o, none⟩ = w.frozen? ⟨q, o, none⟩ := fun o => World.frozen?_of_block (a := ⟨q, o, none⟩) hq
  have hlt : h < w'.heap.size := by
    have h1 : w.heap[h]? = some (w.heap[h]'hr.lt) := Array.getElem?_eq_getElem hr.lt
    rw [h1] at hh
    exact (Array.getElem?_eq_some_iff.1 hh).1
  exact ⟨hr.ne, hlt, hr.hcap, hr.big, hr.few, (hc 0).trans hr.c0, (hc 1).trans hr.c1, (hc 2).trans hr.c2, (hc 3).trans hr.c3, (hf 1).trans hr.f1, (hf 2).trans hr.f2, (hf 3).trans hr.f3, hr.row.at hh⟩

theorem RefAt.only {w w' : World} {p g q h cap : Nat} {l : List UInt8} {u : Bool} {z n : Int} (hr : RefAt w q h cap l u z n) (ho : Only p g w w') (h1 : q ≠ p) (h2 : q ≠ g) (h3 : h ≠ p) (h4 : h ≠ g) : RefAt w' q h cap l u z n :=
  hr.kept (ho.block q hr.qlt h1 h2) (ho.block h hr.lt h3 h4)
theorem RefAt.below {w w' : World} {q h cap N : Nat} {l : List UInt8} {u : Bool} {z n : Int} (hr : RefAt w q h cap l u z n) (hb : Below N w w') (hq : q < N) (hh : h < N) : RefAt w' q h cap l u z n :=
  hr.kept (hb.block q hq) (hb.block h hh)

theorem RefAt.set1 {w : World} {q h cap : Nat} {l : List UInt8} {u : Bool} {z n : Int} (hr : RefAt w q h cap l u z n) (b : Bool) : RefAt (w.setCell ⟨q, 1, none⟩ (.bool b)) q h cap l b z n := by
  have hf : ∀ o, (w.setCell ⟨q, 1, none⟩ (.bool b)).frozen? ⟨q, o, none⟩ = w.frozen? ⟨q, o, none⟩ := fun o => World.frozen?_setCell _ _ _ _
  have hc : ∀ o, o ≠ 1 → (w.setCell ⟨q, 1, none⟩ (.bool b)).cell? ⟨q, o, none⟩ = w.cell? ⟨q, o, none⟩ := fun o ho => World.cell?_setCell_other _ _ _ _ (off_ne q (fun e => ho e.symm))
  exact ⟨hr.ne, by rw [heap_set_size]; exact hr.lt, hr.hcap, hr.big, hr.few, (hc 0 (by decide)).trans hr.c0, World.cell?_setCell_same _ _ _ hr.c1, (hc 2 (by decide)).trans hr.c2, (hc 3 (by decide)).trans hr.c3,
    (hf 1).trans hr.f1, (hf 2).trans hr.f2, (hf 3).trans hr.f3, hr.row.set hr.ne _ _⟩
theorem RefAt.set2 {w : World} {q h cap : Nat} {l : List UInt8} {u : Bool} {z n : Int} (hr : RefAt w q h cap l u z n) (y : Int) : RefAt (w.setCell ⟨q, 2, none⟩ (.int .i64 y)) q h cap l u y n := by
  have hf : ∀ o, (w.setCell ⟨q, 2, none⟩ (.int .i64 y)).frozen? ⟨q, o, none⟩ = w.frozen? ⟨q, o, none⟩ := fun o => World.frozen?_setCell _ _ _ _
  have hc : ∀ o, o ≠ 2 → (w.setCell ⟨q, 2, none⟩ (.int .i64 y)).cell? ⟨q, o, none⟩ = w.cell? ⟨q, o, none⟩ := fun o ho => World.cell?_setCell_other _ _ _ _ (off_ne q (fun e => ho e.symm))
  exact ⟨hr.ne, by rw [heap_set_size]; exact hr.lt, hr.hcap, hr.big, hr.few, (hc 0 (by decide)).trans hr.c0, (hc 1 (by decide)).trans hr.c1, World.cell?_setCell_same _ _ _ hr.c2, (hc 3 (by decide)).trans hr.c3,
    (hf 1).trans hr.f1, (hf 2).trans hr.f2, (hf 3).trans hr.f3, hr.row.set hr.ne _ _⟩
theorem RefAt.set3 {w : World} {q h cap : Nat} {l : List UInt8} {u : Bool} {z n : Int} (hr : RefAt w q h cap l u z n) (y : Int) : RefAt (w.setCell ⟨q, 3, none⟩ (.int .i64 y)) q h cap l u z y := by
  have hf : ∀ o, (w.setCell ⟨q, 3, none⟩ (.int .i64 y)).frozen? ⟨q, o, none⟩ = w.frozen? ⟨q, o, none⟩ := fun o => World.frozen?_setCell _ _ _ _
  have hc : ∀ o, o ≠ 3 → (w.setCell ⟨q, 3, none⟩ (.int .i64 y)).cell? ⟨q, o, none⟩ = w.cell? ⟨q, o, none⟩ := fun o ho => World.cell?_setCell_other _ _ _ _ (off_ne q (fun e => ho e.symm))
  exact ⟨hr.ne, by rw [heap_set_size]; exact hr.lt, hr.hcap, hr.big, hr.few, (hc 0 (by decide)).trans hr.c0, (hc 1 (by decide)).trans hr.c1, (hc 2 (by decide)).trans hr.c2, World.cell?_setCell_same _ _ _ hr.c3,
    (hf 1).trans hr.f1, (hf 2).trans hr.f2, (hf 3).trans hr.f3, hr.row.set hr.ne _ _⟩

theorem RefAt.cells {w : World} {q h cap : Nat} {l : List UInt8} {u : Bool} {z n : Int} (hr : RefAt w q h cap l u z n) (o : Nat) (s : List UInt8) (hfit : o + s.length ≤ l.length) : RefAt (w.setCells h o (vals s)) q h cap (lay l o s) u z n := by
  have hc : ∀ k, (w.setCells h o (vals s)).cell? ⟨q, k, none⟩ = w.cell? ⟨q, k, none⟩ := fun k => World.cell?_setCells_out h _ o w ⟨q, k, none⟩ (fun e => absurd e hr.ne)
  have hf : ∀ k, (w.setCells h o (vals s)).frozen? ⟨q, k, none⟩ = w.frozen? ⟨q, k, none⟩ := fun k => World.frozen?_setCells _ _ _ _ _
  have hlen := lay_length hfit
  have hs : h < (w.setCells h o (vals s)).heap.size := Nat.lt_of_lt_of_le hr.lt ((Only.refl q h w).cells (vals s) o).size
  exact ⟨hr.ne, hs, by rw [hlen]; exact hr.hcap, hr.big, by rw [hlen]; exact hr.few, by rw [hlen]; exact (hc 0).trans hr.c0, (hc 1).trans hr.c1, (hc 2).trans hr.c2, (hc 3).trans hr.c3, (hf 1).trans hr.f1, (hf 2).trans hr.f2, (hf 3).trans hr.f3, hr.row.laid o s hfit⟩

/-- A struct just laid over a row that lies there. -/
theorem ref_new {w : World} {q h cap : Nat} {l : List UInt8} (hq : q = w.heap.size) (hh : h < w.heap.size) (hr : Row w h l) (hl : l.length ≤ cap) (hb : cap ≤ maxLen) (hf : l.length ≤ 1000) (t : TypeId) :
    RefAt (w.alloc (.cells #[.slice (some ⟨h, 0, none⟩) l.length cap, .bool true, .int .i64 (-1), .int .i64 0] t)) q h cap l true (-1) 0 := by
  subst hq
  have hc : ∀ (j : Nat) (v : Value), #[Value.slice (some ⟨h, 0, none⟩) l.length cap, .bool true, .int .i64 (-1), .int .i64 0][j]? = some v →
      (w.alloc (.cells #[.slice (some ⟨h, 0, none⟩) l.length cap, .bool true, .int .i64 (-1), .int .i64 0] t)).cell? ⟨w.heap.size, j, none⟩ = some v := by
    intro j v hv
    rw [cell_of_row _ _ j _ t (0, 0) (heap_alloc_new w _)]
    exact hv
  exact ⟨by omega, by simp; omega, hl, hb, hf, hc 0 _ rfl, hc 1 _ rfl, hc 2 _ rfl, hc 3 _ rfl, by simp [go_sem], by simp [go_sem], by simp [go_sem], hr.at (Below.heap_alloc _ _ _ hh)⟩

/-- Block q is the reference's store x. -/
def SameAt (w : World) (q h cap : Nat) (x : St) : Prop := RefAt w q h cap x.l x.up (left x.arm) x.n

/-- What the reference's New leaves. -/
def RNews (x : St) (w : World) (e : Ending) (w' : World) : Prop := ∃ q h cap, e = .returned (.pointer (some ⟨q, 0, none⟩)) ∧ SameAt w' q h cap x ∧ w.heap.size ≤ q ∧ w.heap.size ≤ h ∧ Below w.heap.size w w'

set_option maxHeartbeats 800000 in
theorem rnew_any (m : Int) (n : Nat) (hn : n = (min (max m 0) 1000).toNat) (w : World) :
    Calls Try.prog 8 #[.int .i64 m] w (RNews ⟨zeros n, true, none, 0⟩ w) := by
  have hn2 : n ≤ 1000 := by omega
  have HS := Lib.hid (ref_new (q := w.heap.size + 1) (t := 38) (by simp) (by simp) (row_made w n 5) (cap := n) (by rw [zeros_length]; exact Nat.le_refl _) (by unfold maxLen; omega) (by rw [zeros_length]; exact hn2))
  rw [zeros_length] at HS
  have HB := fun o1 o2 => Lib.hid (((Below.refl w.heap.size w).alloc (Nat.le_refl _) o1).alloc (by simp) o2)
  by_cases h0 : 0 ≤ m
  · by_cases h1 : m ≤ 1000
    · have hmk := mk m n (by omega) hn2
      clear hn
      go_enter Try.func8, Try.ntmps8
      go_wp2
      go_ret
      exact ⟨_, _, _, rfl, HS.out, Nat.le_succ _, Nat.le_refl _, (HB _ _).out⟩
    · have hmk := mk 1000 n (by omega) hn2
      clear hn
      go_enter Try.func8, Try.ntmps8
      go_wp2
      go_ret
      exact ⟨_, _, _, rfl, HS.out, Nat.le_succ _, Nat.le_refl _, (HB _ _).out⟩
  · have hmk := mk 0 n (by omega) hn2
    clear hn
    go_enter Try.func8, Try.ntmps8
    go_wp2
    go_ret
    exact ⟨_, _, _, rfl, HS.out, Nat.le_succ _, Nat.le_refl _, (HB _ _).out⟩

theorem wpList_copy_string {P : Program} {ops : Array Oper} {rest : List Oper} {o : Oper} {a : Act} {w : World} {Q : Exit → Act → World → Prop}
    (hg : o.guard = none) (d x : Operand) (dT sT : TypeId) (hop : o.op = Op.call { callee := Callee.builtin Builtin.copy, args := #[d, x], argTypes := #[dT, sT] })
    (elem : TypeId) (hu : P.underlying dT = some (.slice elem)) (hz : ∀ w, (Go.sizeOf elem).run P w = .ok 1 w)
    (b off dLen dCap : Nat) (hd : a.eval d = .slice (some ⟨b, off, none⟩) dLen dCap) (t : ByteArray) (hx : a.eval x = .string t) (hle : t.size ≤ dLen)
    (hc : ∀ j, j < t.size → (w.cell? ⟨b, off + j, none⟩).isSome = true) (hf : ∀ j, j < t.size → w.frozen? ⟨b, off + j, none⟩ = false)
    (h : wpList P ops Q rest (a.put o.dst (goInt t.size)) (w.setCells b off (t.data.toList.map fun x => Value.int .u8 (x.toNat : Int)))) :
    wpList P ops Q (o :: rest) a w := by
  refine wpList_plain hg fun K hK => ?_
  have hrun := run_copy_string (P := P) w dT sT o.type elem b off dLen dCap t hu hz hle hc hf
  unfold Oper.wp
  simp [execOp, hop, resolve, invoke, builtin, hd, hx, hrun, Result.andThen]
  exact hK _ _ h

theorem lay_all {l s : List UInt8} (h : s.length = l.length) : lay l 0 s = s := by
  unfold lay
  rw [List.take_zero, List.nil_append, List.drop_eq_nil_of_le (by omega), List.append_nil]

set_option maxHeartbeats 800000 in
theorem rof_any (s : ByteArray) (w : World) (hs : s.size ≤ 1000) :
    Calls Try.prog 10 #[.string s] w (RNews ⟨s.data.toList, true, none, 0⟩ w) := by
  go_enter Try.func10, Try.ntmps10
  go_wp2_with fail
  refine (rnew_any s.size s.size (by omega) _).mono ?_
  rintro e w1 ⟨q, h, cap, rfl, hq, h1, h2, hb1⟩
  have c0 := hq.c0
  have hlen : (zeros s.size).length = s.size := zeros_length _
  have hcell := fun j (hj : j < s.size) => hq.row j (by rw [hlen]; exact hj)
  have HX : Hid (SameAt (w1.setCells h 0 (vals s.data.toList)) q h cap ⟨s.data.toList, true, none, 0⟩) := by
    have := RefAt.cells hq 0 s.data.toList (by rw [hlen, size_list]; omega)
    rw [lay_all (by rw [hlen, size_list])] at this
    exact this
  have HB := Lib.hid (hb1.trans (((Only.refl q h w1).cells (vals s.data.toList) 0).below h1 h2 hb1.size))
  have HC1 : Hid (∀ j, j < s.size → (w1.cell? ⟨h, 0 + j, none⟩).isSome = true) := fun j hj => by rw [Nat.zero_add, (hcell j hj).1]; rfl
  have HC2 : Hid (∀ j, j < s.size → w1.frozen? ⟨h, 0 + j, none⟩ = false) := fun j hj => by rw [Nat.zero_add]; exact (hcell j hj).2
  rw [hlen] at c0
  clear hcell hq hb1 hlen
  go_wp2_with (with_reducible refine wpList_copy_string rfl (.tmp 10) (.tmp 11) 36 9 rfl 5 Try.underlying36 sizeU8 h 0 s.size cap rfl s rfl (Nat.le_refl _) HC1.out HC2.out ?_)
  go_ret
  exact ⟨q, h, cap, rfl, HX.out, h1, h2, HB.out⟩

set_option maxHeartbeats 800000 in
theorem rthere_any (q h cap : Nat) (l : List UInt8) (u : Bool) (z n : Int) (a m : Int) (w : World) (hr : RefAt w q h cap l u z n) (ha : -9223372036854775808 ≤ a) (hb : a ≤ 9223372036854775807) :
    Calls Try.prog 21 #[.pointer (some ⟨q, 0, none⟩), .int .i64 a, .int .i64 m] w fun e w' => e = .returned (.bool (there l a m)) ∧ w = w' := by
  have h0 := hr.c0
  have hl := hr.few
  clear hr
  by_cases h1 : 0 ≤ a
  · by_cases h2 : 0 ≤ m
    · by_cases h4 : a ≤ (l.length : Int)
      · by_cases h3 : m ≤ (l.length : Int) - a
        · have HR := Lib.hid (there_of h1 h2 h3)
          go_enter Try.func21, Try.ntmps21
          go_wp2
          go_ret
          exact ⟨ret_bool HR.out.symm, rfl⟩
        · have HR := Lib.hid (there_no3 (l := l) (a := a) (n := m) (by omega))
          go_enter Try.func21, Try.ntmps21
          go_wp2
          go_ret
          exact ⟨ret_bool HR.out.symm, rfl⟩
      · have HR := Lib.hid (there_no3 (l := l) (a := a) (n := m) (by omega))
        go_enter Try.func21, Try.ntmps21
        go_wp2
        go_ret
        exact ⟨ret_bool HR.out.symm, rfl⟩
    · have HR := Lib.hid (there_no2 (l := l) (a := a) (n := m) (by omega))
      go_enter Try.func21, Try.ntmps21
      go_wp2
      go_ret
      exact ⟨ret_bool HR.out.symm, rfl⟩
  · have HR := Lib.hid (there_no1 (l := l) (a := a) (n := m) (by omega))
    go_enter Try.func21, Try.ntmps21
    go_wp2
    go_ret
    exact ⟨ret_bool HR.out.symm, rfl⟩

/-- What a call of the reference with no result leaves. -/
def RTurns (q h cap : Nat) (x : St) (w : World) (e : Ending) (w' : World) : Prop := e = .returned (.tuple #[]) ∧ SameAt w' q h cap x ∧ Only q h w w'

set_option maxHeartbeats 800000 in
theorem roff_any (q h cap : Nat) (x : St) (w : World) (hx : SameAt w q h cap x) :
    Calls Try.prog 22 #[.pointer (some ⟨q, 0, none⟩)] w (RTurns q h cap { x with up := false, arm := none } w) := by
  have h1 := hx.c1
  have h2 := hx.c2
  have f1 := hx.f1
  have f2 := hx.f2
  have HO := Lib.hid (((Only.refl q h w).set 1 (.bool false)).set 2 (.int .i64 (-1)))
  have HS := Lib.hid ((RefAt.set1 hx false).set2 (-1))
  clear hx
  go_enter Try.func22, Try.ntmps22
  go_wp2
  go_end0
  exact ⟨rfl, HS.out, HO.out⟩

end Go.Proofs.Ytkokhmjcpnoklaa.Sto
