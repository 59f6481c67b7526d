/-
  The laws' acts, as a slice that lies in memory, and whether they are few and small, walked. Conditions: none.
-/
import Derived.Test.YthepnckbooioeaaBuAwake
namespace Go.Proofs.Ythepnckbooioeaa.Bus
open Go.RowKit

structure Ac where
  a : Nat
  k : Int
  at_ : Int
  pat : BitVec 16
  s : ByteArray
def Ac.val (y : Ac) : Value := .agg #[.int .u8 y.a, .int .i64 y.k, .int .i64 y.at_, .int .u16 (y.pat.toNat : Int), .string y.s]

/-- At b, o lie the acts xs. -/
def Items (w : World) (b o : Nat) (xs : List Ac) : Prop :=
  ∀ (i : Nat) (x : Ac), xs[i]? = some x → w.cell? ⟨b, o + i * 5, none⟩ = some (.int .u8 x.a) ∧ w.cell? ⟨b, o + i * 5 + 1, none⟩ = some (.int .i64 x.k) ∧ w.cell? ⟨b, o + i * 5 + 2, none⟩ = some (.int .i64 x.at_) ∧ w.cell? ⟨b, o + i * 5 + 3, none⟩ = some (.int .u16 (x.pat.toNat : Int)) ∧ w.cell? ⟨b, o + i * 5 + 4, none⟩ = some (.string x.s)
/-- Their numbers are of their kinds, their texts no longer than may be. -/
def Ac.Fit (x : Ac) : Prop := (x.a : Int) ≤ 255 ∧ I64 x.k ∧ I64 x.at_ ∧ x.s.size ≤ maxLen
def Fit (xs : List Ac) : Prop := ∀ (i : Nat) (x : Ac), xs[i]? = some x → x.Fit
theorem Items.below {w w' : World} {b o : Nat} {xs : List Ac} (h : Items w b o xs) {N : Nat} (hb : Below N w w') (hN : b < N) : Items w' b o xs := by
  intro i x hx
  obtain ⟨h1, h2, h3, h4, h5⟩ := h i x hx
  exact ⟨(hb.cell (p := ⟨b, _, none⟩) hN).trans h1, (hb.cell (p := ⟨b, _, none⟩) hN).trans h2, (hb.cell (p := ⟨b, _, none⟩) hN).trans h3, (hb.cell (p := ⟨b, _, none⟩) hN).trans h4, (hb.cell (p := ⟨b, _, none⟩) hN).trans h5⟩
/-- Below N, where the slice's head points to, lie the acts xs. -/
def Lies (w : World) (N : Nat) (ao : Option Addr) (xs : List Ac) : Prop := 1 ≤ xs.length → ∃ b o, ao = some ⟨b, o, none⟩ ∧ b < N ∧ Items w b o xs
theorem Lies.below {w w' : World} {N : Nat} {ao : Option Addr} {xs : List Ac} (h : Lies w N ao xs) (hb : Below N w w') : Lies w' N ao xs := by
  intro h1
  obtain ⟨b, o, ha, hlt, hI⟩ := h h1
  exact ⟨b, o, ha, hlt, hI.below hb hlt⟩

/-- Block t is an act. -/
structure ActAt (w : World) (t : Nat) (y : Ac) : Prop where
  c0 : w.cell? ⟨t, 0, none⟩ = some (.int .u8 y.a)
  c1 : w.cell? ⟨t, 1, none⟩ = some (.int .i64 y.k)
  c2 : w.cell? ⟨t, 2, none⟩ = some (.int .i64 y.at_)
  c3 : w.cell? ⟨t, 3, none⟩ = some (.int .u16 (y.pat.toNat : Int))
  c4 : w.cell? ⟨t, 4, none⟩ = some (.string y.s)
theorem ActAt.of {w w' : World} {t : Nat} {y : Ac} (h : ActAt w t y) (hb : w'.heap[t]? = w.heap[t]?) : ActAt w' t y :=
  ⟨(World.cell?_of_block (a := ⟨t, 0, none⟩) hb).trans h.c0, (World.cell?_of_block (a := ⟨t, 1, none⟩) hb).trans h.c1, (World.cell?_of_block (a := ⟨t, 2, none⟩) hb).trans h.c2, (World.cell?_of_block (a := ⟨t, 3, none⟩) hb).trans h.c3, (World.cell?_of_block (a := ⟨t, 4, none⟩) hb).trans h.c4⟩
theorem ActAt.lt {w : World} {t : Nat} {y : Ac} (h : ActAt w t y) : t < w.heap.size := World.block_lt_of_cell? w ⟨t, 0, none⟩ h.c0
theorem ActAt.below {w w' : World} {t : Nat} {y : Ac} (h : ActAt w t y) (hb : Below w.heap.size w w') : ActAt w' t y := h.of (hb.block t h.lt)
theorem ActAt.only {w w' : World} {t : Nat} {ms : List Nat} {y : Ac} (h : ActAt w t y) (hb : OnlyL ms w w') (h1 : t ∉ ms) : ActAt w' t y := h.of (hb.block t h.lt h1)
theorem ActAt.new (w : World) (y : Ac) (k : TypeId) : ActAt (w.alloc (.cells #[.int .u8 y.a, .int .i64 y.k, .int .i64 y.at_, .int .u16 (y.pat.toNat : Int), .string y.s] k)) w.heap.size y := by
  have hc : ∀ j v, #[Value.int .u8 y.a, .int .i64 y.k, .int .i64 y.at_, .int .u16 (y.pat.toNat : Int), .string y.s][j]? = some v → (w.alloc (.cells #[.int .u8 y.a, .int .i64 y.k, .int .i64 y.at_, .int .u16 (y.pat.toNat : Int), .string y.s] k)).cell? ⟨w.heap.size, j, none⟩ = some v := by
    intro j v hv
    rw [cell_of_row _ _ j _ k (0, 0) (heap_alloc_new w _)]
    exact hv
  exact ⟨hc 0 _ rfl, hc 1 _ rfl, hc 2 _ rfl, hc 3 _ rfl, hc 4 _ rfl⟩
theorem alloc_below (w : World) (o : Obj) : Below w.heap.size w (w.alloc o) := (Below.refl _ _).alloc (Nat.le_refl _) o

/-- Up to so many acts, none with a text of more than 300 bytes. -/
def smallB (xs : List Ac) (n : Nat) : Bool := decide (xs.length ≤ n) && decide (∀ y ∈ xs, y.s.size ≤ 300)

set_option maxRecDepth 100000 in
set_option maxHeartbeats 4000000 in
theorem small_any (cap : Nat) (ao : Option Addr) (xs : List Ac) (n : Nat) (w : World) (hn : n ≤ 1000) (hI : Lies w w.heap.size ao xs) (hF : Fit xs) (hl : xs.length ≤ maxLen) :
    Calls Try.prog 8 #[.slice ao xs.length cap, .int .i64 (n : Int)] w (Tells (.bool (smallB xs n)) w) := by
  unfold maxLen at hl
  have HI := Lib.hid hI
  have HF := Lib.hid hF
  have HV : Hid (smallB xs n = (decide (xs.length ≤ n) && decide (∀ y ∈ xs, y.s.size ≤ 300))) := Lib.hid rfl
  clear hI hF
  generalize smallB xs n = v at *
  by_cases hgd : xs.length ≤ n
  · have HV2 : Hid (v = decide (∀ y ∈ xs, y.s.size ≤ 300)) := Lib.hid (by rw [HV.out, decide_eq_true hgd, Bool.true_and])
    have hgi : ¬ (n : Int) < xs.length := by omega
    clear HV
    go_enter Try.func8, Try.ntmps8
    go_wp2
    generalize hNN : w.heap.size = N at *
    have HNN := Lib.hid hNN
    clear hNN
    go_loopw [13] (fun i wr => ∃ k : Nat, k ≤ xs.length ∧ i = .int .i64 k ∧ Hid (Below N w wr ∧ ∀ j (hj : j < xs.length), j < k → xs[j].s.size ≤ 300)) (fun i _ => xs.length - (intOf i).toNat)
    case atStart => exact ⟨0, Nat.zero_le _, rfl, Lib.hid ⟨Below.refl _ _, fun j _ hj => by omega⟩⟩
    case round =>
      obtain ⟨k, hk, rfl, hS⟩ := hrel
      by_cases hlt : k < xs.length
      · have HX := Lib.hid (List.getElem?_eq_getElem hlt)
        obtain ⟨bb, of, rfl, hbb, hi⟩ := HI.out.below hS.out.1 (by omega)
        obtain ⟨c0, c1, c2, c3, c4⟩ := hi k _ HX.out
        have HE := Lib.hid (show xs[k] = xs[k] from rfl)
        have HB := Lib.hid (fun h : xs[k].s.size ≤ 300 => show ∀ j (hj : j < xs.length), j < k + 1 → xs[j].s.size ≤ 300 from fun j hj hjk => by
          by_cases e : j = k
          · subst e; exact h
          · exact hS.out.2 j hj (by omega))
        have HNo := Lib.hid (fun h : ¬ xs[k].s.size ≤ 300 => show decide (∀ y ∈ xs, y.s.size ≤ 300) = false from decide_eq_false (fun ha => h (ha _ (List.getElem_mem hlt))))
        clear hi HE
        generalize xs[k] = y at *
        have HZ := Lib.hid (hS.out.1.trans (Below.mono (alloc_below wr (.cells #[.int .u8 y.a, .int .i64 y.k, .int .i64 y.at_, .int .u16 (y.pat.toNat : Int), .string y.s] 33)) (by rw [← HNN.out]; exact (by have := hS.out.1.size; rw [HNN.out] at this ⊢; exact this))))
        clear hS
        by_cases hs : y.s.size ≤ 300
        · have hs2 : ¬ (300 : Int) < y.s.size := by omega
          have HB2 := Lib.hid (HB.out hs)
          clear HB HNo
          go_wp2
          go_roundw
          case rel => exact ⟨k + 1, by omega, by go_num, Lib.hid ⟨HZ.out, HB2.out⟩⟩
          case measure => simp [intOf]; omega
        · have hs2 : (300 : Int) < y.s.size := by omega
          have HN2 := Lib.hid (HV2.out.trans (HNo.out hs))
          clear HB HNo
          go_wp2
          go_ret
          exact ⟨by rw [HN2.out]; rfl, by rw [HNN.out]; exact HZ.out⟩
      · have HE : Hid (v = true) := Lib.hid (HV2.out.trans (decide_eq_true (fun y hy => by
          obtain ⟨j, hj, rfl⟩ := List.mem_iff_getElem.1 hy
          exact hS.out.2 j hj (by omega))))
        go_wp2
        go_ret
        exact ⟨by rw [HE.out]; rfl, by rw [HNN.out]; exact hS.out.1⟩
  · have HV2 : Hid (v = false) := Lib.hid (by rw [HV.out, decide_eq_false hgd, Bool.false_and])
    have hgi : (n : Int) < xs.length := by omega
    go_enter Try.func8, Try.ntmps8
    go_wp2
    go_ret
    exact ⟨by rw [HV2.out]; rfl, Below.refl _ _⟩

end Go.Proofs.Ythepnckbooioeaa.Bus
