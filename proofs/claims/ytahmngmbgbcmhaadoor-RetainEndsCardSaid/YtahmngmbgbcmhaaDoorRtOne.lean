/-
  One act of the law RetainRuns, walked: the code and the document don't part. Conditions: the calls answer as is asked.
-/
import Derived.Test.YtahmngmbgbcmhaaDoorRtAwake
namespace Go.Proofs.YtahmngmbgbcmhaaDoor.Ret
open Go.RowKit
open Oct
open Sto (St CodeAt Only)

/-- An act. -/
structure Ac where
  a : Nat
  inc : Nat
  d : ByteArray
  n : Nat

/-- A store behind an act. -/
def did (x : St) (y : Ac) : St :=
  if y.a % 3 = 2 then { x with arm := some y.n } else if y.a % 3 = 1 then cmX x true 0 ⟨#[]⟩ else cmX x false y.inc y.d

def OneEnd (p g cap : Nat) (x : St) (w : World) (e : Ending) (w' : World) : Prop := e = .returned (.bool true) ∧ CodeAt w' p g cap x ∧ Only p g w w'

theorem case3 (n : Nat) : n % 3 = 0 ∨ n % 3 = 1 ∨ n % 3 = 2 := by omega
theorem m_no {n r : Nat} {j : Int} (h : n % 3 = r) (hj : (r : Int) ≠ j) : ((n : Int) % 3 == j) = false := by
  rw [beq_eq_false_iff_ne]; omega
theorem m_yes {n r : Nat} {j : Int} (h : n % 3 = r) (hj : (r : Int) = j) : ((n : Int) % 3 == j) = true := by
  rw [beq_iff_eq]; omega

/-- Block b is an act. -/
structure ActAt (w : World) (b : Nat) (y : Ac) : Prop where
  c0 : w.cell? ⟨b, 0, none⟩ = some (.int .u8 y.a)
  c1 : w.cell? ⟨b, 1, none⟩ = some (.int .u16 y.inc)
  c2 : w.cell? ⟨b, 2, none⟩ = some (.string y.d)
  c3 : w.cell? ⟨b, 3, none⟩ = some (.int .u8 y.n)
theorem ActAt.of {w w' : World} {b : Nat} {y : Ac} (h : ActAt w b y) (hb : w'.heap[b]? = w.heap[b]?) : ActAt w' b y :=
  ⟨(World.cell?_of_block (a := ⟨b, 0, none⟩) hb).trans h.c0, (World.cell?_of_block (a := ⟨b, 1, none⟩) hb).trans h.c1, (World.cell?_of_block (a := ⟨b, 2, none⟩) hb).trans h.c2, (World.cell?_of_block (a := ⟨b, 3, none⟩) hb).trans h.c3⟩
theorem ActAt.lt {w : World} {b : Nat} {y : Ac} (h : ActAt w b y) : b < w.heap.size := World.block_lt_of_cell? w ⟨b, 0, none⟩ h.c0
theorem ActAt.new (w : World) (a inc n : Nat) (d : ByteArray) : ActAt (w.alloc (.cells #[.int .u8 a, .int .u16 inc, .string d, .int .u8 n] 28)) w.heap.size ⟨a, inc, d, n⟩ := by
  have hc : ∀ j v, #[Value.int .u8 a, .int .u16 inc, .string d, .int .u8 n][j]? = some v → (w.alloc (.cells #[.int .u8 a, .int .u16 inc, .string d, .int .u8 n] 28)).cell? ⟨w.heap.size, j, none⟩ = some v := by
    intro j v hv
    rw [cell_of_row _ _ j _ 28 (0, 0) (heap_alloc_new w _)]
    exact hv
  exact ⟨hc 0 _ rfl, hc 1 _ rfl, hc 2 _ rfl, hc 3 _ rfl⟩

theorem only_below {p g : Nat} {w w' : World} (h : Below w.heap.size w w') : Only p g w w' := ⟨h.os, h.tape, h.output, h.size, fun k hk _ _ => h.block k hk⟩

set_option maxRecDepth 100000 in
set_option maxHeartbeats 4000000 in
theorem one_arm (p g cap : Nat) (x : St) (a inc n : Nat) (d : ByteArray) (w : World) (hx : CodeAt w p g cap x) (h3 : a % 3 = 2) (hn : (n : Int) ≤ 255) :
    Calls Tryd.prog 9 #[.pointer (some ⟨p, 0, none⟩), .agg #[.int .u8 a, .int .u16 inc, .string d, .int .u8 n]] w (OneEnd p g cap { x with arm := some n } w) := by
  have t2 : ((a : Int) % 3 == 2) = true := m_yes h3 (by decide)
  have hal := (Below.refl w.heap.size w).alloc (Nat.le_refl _) (Obj.cells #[Value.int IntKind.u8 a, Value.int IntKind.u16 inc, Value.string d, Value.int IntKind.u8 n] 28)
  have hx1 := hx.below hal hx.plt hx.glt
  have hact := ActAt.new w a inc n d
  have HO := Lib.hid (only_below (p := p) (g := g) hal)
  clear hal hx h3
  have HZ := Lib.hid (⟨hx1, hact⟩ : _ ∧ _)
  clear hx1 hact
  go_enter Tryd.func9, Tryd.ntmps9
  go_wp2_with fail
  obtain ⟨hx1, hact⟩ := HZ.out
  refine (bytes_of p g cap x _ hx1).mono ?_
  rintro e w1 ⟨rfl, rfl⟩
  go_wp2_with fail
  refine (Sto.arm_any p g cap x _ _ hx1).mono ?_
  rintro e w2 ⟨rfl, hx2, ho2⟩
  rw [Int.toNat_natCast] at hx2
  have HO2 := Lib.hid (HO.out.trans ho2)
  clear hx1 hact ho2
  go_wp2_with fail
  refine (bytes_of p g cap _ _ hx2).mono ?_
  rintro e w3 ⟨rfl, rfl⟩
  go_wp2_with fail
  go_ret
  exact ⟨by simp, hx2, HO2.out⟩

/-- What the walk of a commit, or a boot, is told. -/
theorem power_is (p g cap : Nat) (x : St) (w : World) (U : Bool) (hx : CodeAt w p g cap x) (hu : x.up = U) : Calls Tryd.prog 23 #[.pointer (some ⟨p, 0, none⟩)] w fun e w' => e = .returned (.bool U) ∧ w = w' := by
  subst hu
  exact Sto.power_any p g cap x w hx

/-- Three cells of a block set. -/
def set3 (w : World) (b q i : Nat) (d : ByteArray) : World := ((w.setCell ⟨b, 0, none⟩ (.int .u32 q)).setCell ⟨b, 1, none⟩ (.int .u16 i)).setCell ⟨b, 2, none⟩ (.string d)
theorem set3_block (w : World) (b q i : Nat) (d : ByteArray) (k : Nat) (h : k ≠ b) : (set3 w b q i d).heap[k]? = w.heap[k]? := by
  unfold set3
  rw [set_block _ _ _ _ _ h, set_block _ _ _ _ _ h, set_block _ _ _ _ _ h]
theorem set3_size (w : World) (b q i : Nat) (d : ByteArray) : (set3 w b q i d).heap.size = w.heap.size := by simp [set3, World.setCell]
theorem RecAt.set0 {w : World} {b q i : Nat} {d : ByteArray} (h : RecAt w b q i d) (j : Nat) : RecAt (w.setCell ⟨b, 0, none⟩ (.int .u32 j)) b j i d := by
  have hf : ∀ o, (w.setCell ⟨b, 0, none⟩ (.int .u32 j)).frozen? ⟨b, o, none⟩ = w.frozen? ⟨b, o, none⟩ := fun o => World.frozen?_setCell _ _ _ _
  have hc : ∀ o, o ≠ 0 → (w.setCell ⟨b, 0, none⟩ (.int .u32 j)).cell? ⟨b, o, none⟩ = w.cell? ⟨b, o, none⟩ := fun o ho => World.cell?_setCell_other _ _ _ _ (off_ne b (fun e => ho e.symm))
  exact ⟨World.cell?_setCell_same _ _ _ h.c0, (hc 1 (by decide)).trans h.c1, (hc 2 (by decide)).trans h.c2, (hf 0).trans h.f0, (hf 1).trans h.f1, (hf 2).trans h.f2⟩
theorem rec_set {w : World} {b q i : Nat} {d : ByteArray} (h : RecAt w b q i d) (q' i' : Nat) (d' : ByteArray) : RecAt (set3 w b q' i' d') b q' i' d' := ((h.set0 q').set1 i').set2 d'
theorem only_set3 {p g : Nat} {w0 w : World} (h : Only p g w0 w) {b : Nat} (hb : w0.heap.size ≤ b) (q i : Nat) (d : ByteArray) : Only p g w0 (set3 w b q i d) :=
  ⟨h.os, h.tape, h.output, by rw [set3_size]; exact h.size, fun k hk h1 h2 => (set3_block w b q i d k (by omega)).trans (h.block k hk h1 h2)⟩

theorem code_set {w : World} {p g cap b : Nat} {x : St} (h : CodeAt w p g cap x) (h1 : p ≠ b) (h2 : g ≠ b) (q i : Nat) (d : ByteArray) : CodeAt (set3 w b q i d) p g cap x := by
  obtain ⟨y, hs, hy⟩ := h
  exact ⟨y, hs.kept (set3_block w b q i d p h1) (set3_block w b q i d g h2), hy⟩

set_option maxRecDepth 100000 in
set_option maxHeartbeats 8000000 in
theorem one_commit1 (p g cap : Nat) (x y : St) (r : Rc) (a inc n : Nat) (d : ByteArray) (v k : Int) (b : Bool) (w : World) (F : Int) (U : Bool) (hF : (F == 0) = false)
    (hx : CodeAt w p g cap x) (h3 : a % 3 = 0) (hvb : (b = false ∧ k = -1) ∨ (b = true ∧ k = v)) (hxu : x.up = U)
    (HAr : Hid (∀ w, CodeAt w p g cap x → Calls Tryd.prog 22 #[.pointer (some ⟨p, 0, none⟩)] w fun e w' => e = .returned (.tuple #[.int .i64 v, .bool b]) ∧ w = w'))
    (HCm : Hid (∀ w, CodeAt w p g cap x → Calls Tryd.prog 14 #[.pointer (some ⟨p, 0, none⟩), .int .u16 inc, .string d] w fun e w' => e = .returned (.int .i64 F) ∧ CodeAt w' p g cap y ∧ Only p g w w'))
    (HNx : Hid (∀ w, Calls Tryd.prog 24 #[.string (S x.l), .bool false, .int .u16 inc, .string d] w fun e w' => e = .returned (.tuple #[.agg #[.int .u32 r.q, .int .u16 r.i, .string r.d], .int .i64 F]) ∧ Below w.heap.size w w'))
    (hyl : y.l = x.l) (hyu : y.up = U) :
    Calls Tryd.prog 9 #[.pointer (some ⟨p, 0, none⟩), .agg #[.int .u8 a, .int .u16 inc, .string d, .int .u8 n]] w (OneEnd p g cap y w) := by
  have t2 : ((a : Int) % 3 == 2) = false := m_no h3 (by decide)
  have t1 : ((a : Int) % 3 == 1) = false := m_no h3 (by decide)
  have hal := (Below.refl w.heap.size w).alloc (Nat.le_refl _) (Obj.cells #[Value.int IntKind.u8 a, Value.int IntKind.u16 inc, Value.string d, Value.int IntKind.u8 n] 28)
  have hx1 := hx.below hal hx.plt hx.glt
  have hact : ActAt _ w.heap.size ⟨a, inc, d, n⟩ := ActAt.new w a inc n d
  have hne1 : w.heap.size ≠ p := by have := hx.plt; omega
  have hne2 : w.heap.size ≠ g := by have := hx.glt; omega
  have HO := Lib.hid (only_below (p := p) (g := g) hal)
  clear hal hx h3
  have HZ := Lib.hid (⟨hx1, hact⟩ : _ ∧ _)
  have HXU := Lib.hid hxu
  clear hx1 hact hxu
  have HYL := Lib.hid hyl
  clear hyl
  have HYU := Lib.hid hyu
  clear hyu
  have hF2 : (F != 0) = true := by simpa [bne] using hF
  rcases hvb with ⟨rfl, rfl⟩ | ⟨rfl, rfl⟩
  all_goals
    go_enter Tryd.func9, Tryd.ntmps9
    go_wp2_with fail
    obtain ⟨hx1, hact⟩ := HZ.out
    clear HZ
    generalize w.alloc (Obj.cells #[Value.int IntKind.u8 a, Value.int IntKind.u16 inc, Value.string d, Value.int IntKind.u8 n] 28) = W0 at *
    refine (bytes_of p g cap x _ hx1).mono ?_
    rintro e w1 ⟨rfl, rfl⟩
    have k0 := hact.c0
    have hal := (Below.refl W0.heap.size W0).alloc (Nat.le_refl _) (Obj.cells #[Value.int IntKind.u32 0, Value.int IntKind.u16 0, Value.string { data := #[] }] 39)
    have hx2 := hx1.below hal hx1.plt hx1.glt
    have hact2 := hact.of (hal.block w.heap.size hact.lt)
    have hgot : RecAt _ W0.heap.size 0 0 ⟨#[]⟩ := RecAt.new W0 0 0 ⟨#[]⟩ 39
    have hbg1 : W0.heap.size ≠ p := by have := hx1.plt; omega
    have hbg2 : W0.heap.size ≠ g := by have := hx1.glt; omega
    have hbgw : w.heap.size ≤ W0.heap.size := HO.out.size
    have hbg3 : w.heap.size ≠ W0.heap.size := by have := hact.lt; omega
    have HO2 := Lib.hid (HO.out.trans (only_below hal))
    have HZ := Lib.hid (⟨hx2, hact2, hgot⟩ : _ ∧ _ ∧ _)
    clear hal hx2 hact2 hgot hact
    go_wp2_with fail
    refine (HAr.out _ hx1).mono ?_
    rintro e w1 ⟨rfl, rfl⟩
    go_wp2_with fail
    refine (power_is p g cap x _ _ hx1 HXU.out).mono ?_
    rintro e w1 ⟨rfl, rfl⟩
    have k1 := HZ.out.2.1.c1
    have k2 := HZ.out.2.1.c2
    clear hx1 HO HAr k0
    go_wp2_with fail
    obtain ⟨hx2, hact2, hgot⟩ := HZ.out
    clear HZ k1 k2
    generalize W0.alloc (Obj.cells #[Value.int IntKind.u32 0, Value.int IntKind.u16 0, Value.string { data := #[] }] 39) = W1 at *
    generalize W0.heap.size = bg at *
    refine (HCm.out _ hx2).mono ?_
    rintro e w3 ⟨rfl, hx3, ho3⟩
    have hact3 := hact2.of (ho3.block w.heap.size hact2.lt hne1 hne2)
    have hgot3 := hgot.of (ho3.block bg hgot.lt hbg1 hbg2)
    have HO3 := Lib.hid (HO2.out.trans ho3)
    clear hx2 hact2 hgot ho3 HO2 HCm
    have m1 := hact3.c1
    have m2 := hact3.c2
    have HZ := Lib.hid (⟨hx3, hact3, hgot3, HO3.out⟩ : _ ∧ _ ∧ _ ∧ _)
    clear hx3 hact3 hgot3 HO3
    go_wp2_with fail
    obtain ⟨hx4, hact4, hgot4, ho4⟩ := HZ.out
    clear HZ m1 m2
    generalize w3 = w4 at *
    refine (HNx.out _).mono ?_
    rintro e w5 ⟨rfl, hb5⟩
    have hx5 := hx4.below hb5 hx4.plt hx4.glt
    have hgot5 := hgot4.below hb5
    have ho5 := ho4.trans (only_below hb5)
    have hal := (Below.refl w5.heap.size w5).alloc (Nat.le_refl _) (Obj.cells #[Value.int IntKind.u32 r.q, Value.int IntKind.u16 r.i, Value.string r.d] 39)
    have hx6 := hx5.below hal hx5.plt hx5.glt
    have hgot6 := hgot5.below hal
    have HO6 := Lib.hid (ho5.trans (only_below hal))
    have hrr : RecAt _ w5.heap.size r.q r.i r.d := RecAt.new w5 r.q r.i r.d 39
    have hlt5 := hgot5.lt
    have HG6 := Lib.hid hgot6
    have HX6 := Lib.hid hx6
    have HR6 := Lib.hid hrr
    clear hb5 hx5 hgot5 ho5 hal hx6 hgot6 hrr hx4 hact4 hgot4 ho4 HNx
    go_wp2_with fail
    generalize w5.alloc (Obj.cells #[Value.int IntKind.u32 r.q, Value.int IntKind.u16 r.i, Value.string r.d] 39) = W6 at *
    refine (bytes_of p g cap y _ HX6.out).mono ?_
    rintro e w7 ⟨rfl, rfl⟩
    have z0 := HG6.out.c0
    have z1 := HG6.out.c1
    have z2 := HG6.out.c2
    rw [HYL.out]
    go_wp2_with fail
    refine (power_is p g cap y _ _ HX6.out HYU.out).mono ?_
    rintro e w7 ⟨rfl, rfl⟩
    go_wp2_with fail
    go_ret
    exact ⟨by simp, HX6.out, HO6.out⟩

set_option maxRecDepth 100000 in
set_option maxHeartbeats 8000000 in
theorem one_commit2 (p g cap : Nat) (x y : St) (r : Rc) (a inc n : Nat) (d : ByteArray) (v k : Int) (b : Bool) (w : World)
    (hx : CodeAt w p g cap x) (h3 : a % 3 = 0) (hvb : (b = false ∧ k = -1) ∨ (b = true ∧ k = v)) (hxu : x.up = false)
    (HAr : Hid (∀ w, CodeAt w p g cap x → Calls Tryd.prog 22 #[.pointer (some ⟨p, 0, none⟩)] w fun e w' => e = .returned (.tuple #[.int .i64 v, .bool b]) ∧ w = w'))
    (HCm : Hid (∀ w, CodeAt w p g cap x → Calls Tryd.prog 14 #[.pointer (some ⟨p, 0, none⟩), .int .u16 inc, .string d] w fun e w' => e = .returned (.int .i64 12) ∧ CodeAt w' p g cap y ∧ Only p g w w'))
    (HNx : Hid (∀ w, Calls Tryd.prog 24 #[.string (S x.l), .bool false, .int .u16 inc, .string d] w fun e w' => e = .returned (.tuple #[.agg #[.int .u32 r.q, .int .u16 r.i, .string r.d], .int .i64 0]) ∧ Below w.heap.size w w'))
    (hyl : y.l = x.l) :
    Calls Tryd.prog 9 #[.pointer (some ⟨p, 0, none⟩), .agg #[.int .u8 a, .int .u16 inc, .string d, .int .u8 n]] w (OneEnd p g cap y w) := by
  have t2 : ((a : Int) % 3 == 2) = false := m_no h3 (by decide)
  have t1 : ((a : Int) % 3 == 1) = false := m_no h3 (by decide)
  have hal := (Below.refl w.heap.size w).alloc (Nat.le_refl _) (Obj.cells #[Value.int IntKind.u8 a, Value.int IntKind.u16 inc, Value.string d, Value.int IntKind.u8 n] 28)
  have hx1 := hx.below hal hx.plt hx.glt
  have hact : ActAt _ w.heap.size ⟨a, inc, d, n⟩ := ActAt.new w a inc n d
  have hne1 : w.heap.size ≠ p := by have := hx.plt; omega
  have hne2 : w.heap.size ≠ g := by have := hx.glt; omega
  have HO := Lib.hid (only_below (p := p) (g := g) hal)
  clear hal hx h3
  have HZ := Lib.hid (⟨hx1, hact⟩ : _ ∧ _)
  have HXU := Lib.hid hxu
  clear hx1 hact hxu
  have HYL := Lib.hid hyl
  clear hyl
  rcases hvb with ⟨rfl, rfl⟩ | ⟨rfl, rfl⟩
  all_goals
    go_enter Tryd.func9, Tryd.ntmps9
    go_wp2_with fail
    obtain ⟨hx1, hact⟩ := HZ.out
    clear HZ
    generalize w.alloc (Obj.cells #[Value.int IntKind.u8 a, Value.int IntKind.u16 inc, Value.string d, Value.int IntKind.u8 n] 28) = W0 at *
    refine (bytes_of p g cap x _ hx1).mono ?_
    rintro e w1 ⟨rfl, rfl⟩
    have k0 := hact.c0
    have hal := (Below.refl W0.heap.size W0).alloc (Nat.le_refl _) (Obj.cells #[Value.int IntKind.u32 0, Value.int IntKind.u16 0, Value.string { data := #[] }] 39)
    have hx2 := hx1.below hal hx1.plt hx1.glt
    have hact2 := hact.of (hal.block w.heap.size hact.lt)
    have hgot : RecAt _ W0.heap.size 0 0 ⟨#[]⟩ := RecAt.new W0 0 0 ⟨#[]⟩ 39
    have hbg1 : W0.heap.size ≠ p := by have := hx1.plt; omega
    have hbg2 : W0.heap.size ≠ g := by have := hx1.glt; omega
    have hbgw : w.heap.size ≤ W0.heap.size := HO.out.size
    have hbg3 : w.heap.size ≠ W0.heap.size := by have := hact.lt; omega
    have HO2 := Lib.hid (HO.out.trans (only_below hal))
    have HZ := Lib.hid (⟨hx2, hact2, hgot⟩ : _ ∧ _ ∧ _)
    clear hal hx2 hact2 hgot hact
    go_wp2_with fail
    refine (HAr.out _ hx1).mono ?_
    rintro e w1 ⟨rfl, rfl⟩
    go_wp2_with fail
    refine (power_is p g cap x _ _ hx1 HXU.out).mono ?_
    rintro e w1 ⟨rfl, rfl⟩
    have k1 := HZ.out.2.1.c1
    have k2 := HZ.out.2.1.c2
    clear hx1 HO HAr k0
    go_wp2_with fail
    obtain ⟨hx2, hact2, hgot⟩ := HZ.out
    clear HZ k1 k2
    generalize W0.alloc (Obj.cells #[Value.int IntKind.u32 0, Value.int IntKind.u16 0, Value.string { data := #[] }] 39) = W1 at *
    generalize W0.heap.size = bg at *
    refine (HCm.out _ hx2).mono ?_
    rintro e w3 ⟨rfl, hx3, ho3⟩
    have hact3 := hact2.of (ho3.block w.heap.size hact2.lt hne1 hne2)
    have hgot3 := hgot.of (ho3.block bg hgot.lt hbg1 hbg2)
    have HO3 := Lib.hid (HO2.out.trans ho3)
    clear hx2 hact2 hgot ho3 HO2 HCm
    have m1 := hact3.c1
    have m2 := hact3.c2
    have HZ := Lib.hid (⟨hx3, hact3, hgot3, HO3.out⟩ : _ ∧ _ ∧ _ ∧ _)
    clear hx3 hact3 hgot3 HO3
    go_wp2_with fail
    obtain ⟨hx4, hact4, hgot4, ho4⟩ := HZ.out
    clear HZ m1 m2
    generalize w3 = w4 at *
    refine (HNx.out _).mono ?_
    rintro e w5 ⟨rfl, hb5⟩
    have hx5 := hx4.below hb5 hx4.plt hx4.glt
    have hgot5 := hgot4.below hb5
    have ho5 := ho4.trans (only_below hb5)
    have hal := (Below.refl w5.heap.size w5).alloc (Nat.le_refl _) (Obj.cells #[Value.int IntKind.u32 r.q, Value.int IntKind.u16 r.i, Value.string r.d] 39)
    have hx6 := hx5.below hal hx5.plt hx5.glt
    have hgot6 := hgot5.below hal
    have HO6 := Lib.hid (ho5.trans (only_below hal))
    have hrr : RecAt _ w5.heap.size r.q r.i r.d := RecAt.new w5 r.q r.i r.d 39
    have hlt5 := hgot5.lt
    have HG6 := Lib.hid hgot6
    have HX6 := Lib.hid hx6
    have HR6 := Lib.hid hrr
    clear hb5 hx5 hgot5 ho5 hal hx6 hgot6 hrr hx4 hact4 hgot4 ho4 HNx
    go_wp2_with fail
    generalize w5.alloc (Obj.cells #[Value.int IntKind.u32 r.q, Value.int IntKind.u16 r.i, Value.string r.d] 39) = W6 at *
    refine (bytes_of p g cap y _ HX6.out).mono ?_
    rintro e w7 ⟨rfl, rfl⟩
    have z0 := HG6.out.c0
    have z1 := HG6.out.c1
    have z2 := HG6.out.c2
    rw [HYL.out]
    go_wp2_with fail
    go_ret
    exact ⟨by simp, HX6.out, HO6.out⟩

set_option maxRecDepth 100000 in
set_option maxHeartbeats 8000000 in
theorem one_commit3 (p g cap : Nat) (x y : St) (r : Rc) (a inc n : Nat) (d : ByteArray) (v k : Int) (b : Bool) (w : World)
    (hx : CodeAt w p g cap x) (h3 : a % 3 = 0) (hvb : (b = false ∧ k = -1) ∨ (b = true ∧ k = v)) (hxu : x.up = true)
    (HAr : Hid (∀ w, CodeAt w p g cap x → Calls Tryd.prog 22 #[.pointer (some ⟨p, 0, none⟩)] w fun e w' => e = .returned (.tuple #[.int .i64 v, .bool b]) ∧ w = w'))
    (HCm : Hid (∀ w, CodeAt w p g cap x → Calls Tryd.prog 14 #[.pointer (some ⟨p, 0, none⟩), .int .u16 inc, .string d] w fun e w' => e = .returned (.int .i64 0) ∧ CodeAt w' p g cap y ∧ Only p g w w'))
    (HNx : Hid (∀ w, Calls Tryd.prog 24 #[.string (S x.l), .bool false, .int .u16 inc, .string d] w fun e w' => e = .returned (.tuple #[.agg #[.int .u32 r.q, .int .u16 r.i, .string r.d], .int .i64 0]) ∧ Below w.heap.size w w'))
    (HRc : Hid (∀ w, Calls Tryd.prog 25 #[.string (S x.l), .agg #[.int .u32 r.q, .int .u16 r.i, .string r.d], .int .i64 k] w fun e w' => e = .returned (.tuple #[.string (S y.l), .bool true]) ∧ Below w.heap.size w w')) :
    Calls Tryd.prog 9 #[.pointer (some ⟨p, 0, none⟩), .agg #[.int .u8 a, .int .u16 inc, .string d, .int .u8 n]] w (OneEnd p g cap y w) := by
  have t2 : ((a : Int) % 3 == 2) = false := m_no h3 (by decide)
  have t1 : ((a : Int) % 3 == 1) = false := m_no h3 (by decide)
  have hal := (Below.refl w.heap.size w).alloc (Nat.le_refl _) (Obj.cells #[Value.int IntKind.u8 a, Value.int IntKind.u16 inc, Value.string d, Value.int IntKind.u8 n] 28)
  have hx1 := hx.below hal hx.plt hx.glt
  have hact : ActAt _ w.heap.size ⟨a, inc, d, n⟩ := ActAt.new w a inc n d
  have hne1 : w.heap.size ≠ p := by have := hx.plt; omega
  have hne2 : w.heap.size ≠ g := by have := hx.glt; omega
  have HO := Lib.hid (only_below (p := p) (g := g) hal)
  clear hal hx h3
  have HZ := Lib.hid (⟨hx1, hact⟩ : _ ∧ _)
  have HXU := Lib.hid hxu
  clear hx1 hact hxu
  rcases hvb with ⟨rfl, rfl⟩ | ⟨rfl, rfl⟩
  all_goals
    go_enter Tryd.func9, Tryd.ntmps9
    go_wp2_with fail
    obtain ⟨hx1, hact⟩ := HZ.out
    clear HZ
    generalize w.alloc (Obj.cells #[Value.int IntKind.u8 a, Value.int IntKind.u16 inc, Value.string d, Value.int IntKind.u8 n] 28) = W0 at *
    refine (bytes_of p g cap x _ hx1).mono ?_
    rintro e w1 ⟨rfl, rfl⟩
    have k0 := hact.c0
    have hal := (Below.refl W0.heap.size W0).alloc (Nat.le_refl _) (Obj.cells #[Value.int IntKind.u32 0, Value.int IntKind.u16 0, Value.string { data := #[] }] 39)
    have hx2 := hx1.below hal hx1.plt hx1.glt
    have hact2 := hact.of (hal.block w.heap.size hact.lt)
    have hgot : RecAt _ W0.heap.size 0 0 ⟨#[]⟩ := RecAt.new W0 0 0 ⟨#[]⟩ 39
    have hbg1 : W0.heap.size ≠ p := by have := hx1.plt; omega
    have hbg2 : W0.heap.size ≠ g := by have := hx1.glt; omega
    have hbgw : w.heap.size ≤ W0.heap.size := HO.out.size
    have hbg3 : w.heap.size ≠ W0.heap.size := by have := hact.lt; omega
    have HO2 := Lib.hid (HO.out.trans (only_below hal))
    have HZ := Lib.hid (⟨hx2, hact2, hgot⟩ : _ ∧ _ ∧ _)
    clear hal hx2 hact2 hgot hact
    go_wp2_with fail
    refine (HAr.out _ hx1).mono ?_
    rintro e w1 ⟨rfl, rfl⟩
    go_wp2_with fail
    refine (power_is p g cap x _ _ hx1 HXU.out).mono ?_
    rintro e w1 ⟨rfl, rfl⟩
    have k1 := HZ.out.2.1.c1
    have k2 := HZ.out.2.1.c2
    clear hx1 HO HAr k0
    go_wp2_with fail
    obtain ⟨hx2, hact2, hgot⟩ := HZ.out
    clear HZ k1 k2
    generalize W0.alloc (Obj.cells #[Value.int IntKind.u32 0, Value.int IntKind.u16 0, Value.string { data := #[] }] 39) = W1 at *
    generalize W0.heap.size = bg at *
    refine (HCm.out _ hx2).mono ?_
    rintro e w3 ⟨rfl, hx3, ho3⟩
    have hact3 := hact2.of (ho3.block w.heap.size hact2.lt hne1 hne2)
    have hgot3 := hgot.of (ho3.block bg hgot.lt hbg1 hbg2)
    have HO3 := Lib.hid (HO2.out.trans ho3)
    clear hx2 hact2 hgot ho3 HO2 HCm
    have m1 := hact3.c1
    have m2 := hact3.c2
    have HZ := Lib.hid (⟨hx3, hact3, hgot3, HO3.out⟩ : _ ∧ _ ∧ _ ∧ _)
    clear hx3 hact3 hgot3 HO3
    go_wp2_with fail
    obtain ⟨hx4, hact4, hgot4, ho4⟩ := HZ.out
    clear HZ m1 m2
    generalize w3 = w4 at *
    refine (HNx.out _).mono ?_
    rintro e w5 ⟨rfl, hb5⟩
    have hx5 := hx4.below hb5 hx4.plt hx4.glt
    have hgot5 := hgot4.below hb5
    have ho5 := ho4.trans (only_below hb5)
    have hal := (Below.refl w5.heap.size w5).alloc (Nat.le_refl _) (Obj.cells #[Value.int IntKind.u32 r.q, Value.int IntKind.u16 r.i, Value.string r.d] 39)
    have hx6 := hx5.below hal hx5.plt hx5.glt
    have hgot6 := hgot5.below hal
    have HO6 := Lib.hid (ho5.trans (only_below hal))
    have hrr : RecAt _ w5.heap.size r.q r.i r.d := RecAt.new w5 r.q r.i r.d 39
    have hlt5 := hgot5.lt
    have HG6 := Lib.hid hgot6
    have HX6 := Lib.hid hx6
    have HR6 := Lib.hid hrr
    clear hb5 hx5 hgot5 ho5 hal hx6 hgot6 hrr hx4 hact4 hgot4 ho4 HNx
    go_wp2_with fail
    generalize w5.alloc (Obj.cells #[Value.int IntKind.u32 r.q, Value.int IntKind.u16 r.i, Value.string r.d] 39) = W6 at *
    generalize w5.heap.size = b6 at *
    refine (HRc.out _).mono ?_
    rintro e w7 ⟨rfl, hb7⟩
    have hx7 := HX6.out.below hb7 HX6.out.plt HX6.out.glt
    have hg7 := HG6.out.below hb7
    have hr7 := HR6.out.below hb7
    have HO7 := Lib.hid (HO6.out.trans (only_below hb7))
    have z0 := hg7.c0
    have z1 := hg7.c1
    have z2 := hg7.c2
    have y0 := hr7.c0
    have y1 := hr7.c1
    have y2 := hr7.c2
    clear hb7 hg7 hr7 HX6 HG6 HR6 HO6 HRc
    go_wp2_with fail
    refine (bytes_of p g cap y _ hx7).mono ?_
    rintro e w8 ⟨rfl, rfl⟩
    go_wp2_with fail
    go_ret
    exact ⟨by simp, hx7, HO7.out⟩

set_option maxRecDepth 100000 in
set_option maxHeartbeats 8000000 in
theorem one_commit4 (p g cap : Nat) (x y : St) (r : Rc) (a inc n : Nat) (d : ByteArray) (v k : Int) (b : Bool) (w : World)
    (hx : CodeAt w p g cap x) (h3 : a % 3 = 0) (hvb : (b = false ∧ k = -1) ∨ (b = true ∧ k = v)) (hxu : x.up = true)
    (HAr : Hid (∀ w, CodeAt w p g cap x → Calls Tryd.prog 22 #[.pointer (some ⟨p, 0, none⟩)] w fun e w' => e = .returned (.tuple #[.int .i64 v, .bool b]) ∧ w = w'))
    (HCm : Hid (∀ w, CodeAt w p g cap x → Calls Tryd.prog 14 #[.pointer (some ⟨p, 0, none⟩), .int .u16 inc, .string d] w fun e w' => e = .returned (.int .i64 12) ∧ CodeAt w' p g cap y ∧ Only p g w w'))
    (HNx : Hid (∀ w, Calls Tryd.prog 24 #[.string (S x.l), .bool false, .int .u16 inc, .string d] w fun e w' => e = .returned (.tuple #[.agg #[.int .u32 r.q, .int .u16 r.i, .string r.d], .int .i64 0]) ∧ Below w.heap.size w w'))
    (HRc : Hid (∀ w, Calls Tryd.prog 25 #[.string (S x.l), .agg #[.int .u32 r.q, .int .u16 r.i, .string r.d], .int .i64 k] w fun e w' => e = .returned (.tuple #[.string (S y.l), .bool false]) ∧ Below w.heap.size w w')) (hyu : y.up = false) :
    Calls Tryd.prog 9 #[.pointer (some ⟨p, 0, none⟩), .agg #[.int .u8 a, .int .u16 inc, .string d, .int .u8 n]] w (OneEnd p g cap y w) := by
  have t2 : ((a : Int) % 3 == 2) = false := m_no h3 (by decide)
  have t1 : ((a : Int) % 3 == 1) = false := m_no h3 (by decide)
  have hal := (Below.refl w.heap.size w).alloc (Nat.le_refl _) (Obj.cells #[Value.int IntKind.u8 a, Value.int IntKind.u16 inc, Value.string d, Value.int IntKind.u8 n] 28)
  have hx1 := hx.below hal hx.plt hx.glt
  have hact : ActAt _ w.heap.size ⟨a, inc, d, n⟩ := ActAt.new w a inc n d
  have hne1 : w.heap.size ≠ p := by have := hx.plt; omega
  have hne2 : w.heap.size ≠ g := by have := hx.glt; omega
  have HO := Lib.hid (only_below (p := p) (g := g) hal)
  clear hal hx h3
  have HZ := Lib.hid (⟨hx1, hact⟩ : _ ∧ _)
  have HXU := Lib.hid hxu
  clear hx1 hact hxu
  have HYU := Lib.hid hyu
  clear hyu
  rcases hvb with ⟨rfl, rfl⟩ | ⟨rfl, rfl⟩
  all_goals
    go_enter Tryd.func9, Tryd.ntmps9
    go_wp2_with fail
    obtain ⟨hx1, hact⟩ := HZ.out
    clear HZ
    generalize w.alloc (Obj.cells #[Value.int IntKind.u8 a, Value.int IntKind.u16 inc, Value.string d, Value.int IntKind.u8 n] 28) = W0 at *
    refine (bytes_of p g cap x _ hx1).mono ?_
    rintro e w1 ⟨rfl, rfl⟩
    have k0 := hact.c0
    have hal := (Below.refl W0.heap.size W0).alloc (Nat.le_refl _) (Obj.cells #[Value.int IntKind.u32 0, Value.int IntKind.u16 0, Value.string { data := #[] }] 39)
    have hx2 := hx1.below hal hx1.plt hx1.glt
    have hact2 := hact.of (hal.block w.heap.size hact.lt)
    have hgot : RecAt _ W0.heap.size 0 0 ⟨#[]⟩ := RecAt.new W0 0 0 ⟨#[]⟩ 39
    have hbg1 : W0.heap.size ≠ p := by have := hx1.plt; omega
    have hbg2 : W0.heap.size ≠ g := by have := hx1.glt; omega
    have hbgw : w.heap.size ≤ W0.heap.size := HO.out.size
    have hbg3 : w.heap.size ≠ W0.heap.size := by have := hact.lt; omega
    have HO2 := Lib.hid (HO.out.trans (only_below hal))
    have HZ := Lib.hid (⟨hx2, hact2, hgot⟩ : _ ∧ _ ∧ _)
    clear hal hx2 hact2 hgot hact
    go_wp2_with fail
    refine (HAr.out _ hx1).mono ?_
    rintro e w1 ⟨rfl, rfl⟩
    go_wp2_with fail
    refine (power_is p g cap x _ _ hx1 HXU.out).mono ?_
    rintro e w1 ⟨rfl, rfl⟩
    have k1 := HZ.out.2.1.c1
    have k2 := HZ.out.2.1.c2
    clear hx1 HO HAr k0
    go_wp2_with fail
    obtain ⟨hx2, hact2, hgot⟩ := HZ.out
    clear HZ k1 k2
    generalize W0.alloc (Obj.cells #[Value.int IntKind.u32 0, Value.int IntKind.u16 0, Value.string { data := #[] }] 39) = W1 at *
    generalize W0.heap.size = bg at *
    refine (HCm.out _ hx2).mono ?_
    rintro e w3 ⟨rfl, hx3, ho3⟩
    have hact3 := hact2.of (ho3.block w.heap.size hact2.lt hne1 hne2)
    have hgot3 := hgot.of (ho3.block bg hgot.lt hbg1 hbg2)
    have HO3 := Lib.hid (HO2.out.trans ho3)
    clear hx2 hact2 hgot ho3 HO2 HCm
    have m1 := hact3.c1
    have m2 := hact3.c2
    have HZ := Lib.hid (⟨hx3, hact3, hgot3, HO3.out⟩ : _ ∧ _ ∧ _ ∧ _)
    clear hx3 hact3 hgot3 HO3
    go_wp2_with fail
    obtain ⟨hx4, hact4, hgot4, ho4⟩ := HZ.out
    clear HZ m1 m2
    generalize w3 = w4 at *
    refine (HNx.out _).mono ?_
    rintro e w5 ⟨rfl, hb5⟩
    have hx5 := hx4.below hb5 hx4.plt hx4.glt
    have hgot5 := hgot4.below hb5
    have ho5 := ho4.trans (only_below hb5)
    have hal := (Below.refl w5.heap.size w5).alloc (Nat.le_refl _) (Obj.cells #[Value.int IntKind.u32 r.q, Value.int IntKind.u16 r.i, Value.string r.d] 39)
    have hx6 := hx5.below hal hx5.plt hx5.glt
    have hgot6 := hgot5.below hal
    have HO6 := Lib.hid (ho5.trans (only_below hal))
    have hrr : RecAt _ w5.heap.size r.q r.i r.d := RecAt.new w5 r.q r.i r.d 39
    have hlt5 := hgot5.lt
    have HG6 := Lib.hid hgot6
    have HX6 := Lib.hid hx6
    have HR6 := Lib.hid hrr
    clear hb5 hx5 hgot5 ho5 hal hx6 hgot6 hrr hx4 hact4 hgot4 ho4 HNx
    go_wp2_with fail
    generalize w5.alloc (Obj.cells #[Value.int IntKind.u32 r.q, Value.int IntKind.u16 r.i, Value.string r.d] 39) = W6 at *
    generalize w5.heap.size = b6 at *
    refine (HRc.out _).mono ?_
    rintro e w7 ⟨rfl, hb7⟩
    have hx7 := HX6.out.below hb7 HX6.out.plt HX6.out.glt
    have hg7 := HG6.out.below hb7
    have hr7 := HR6.out.below hb7
    have HO7 := Lib.hid (HO6.out.trans (only_below hb7))
    have z0 := hg7.c0
    have z1 := hg7.c1
    have z2 := hg7.c2
    have y0 := hr7.c0
    have y1 := hr7.c1
    have y2 := hr7.c2
    clear hb7 hg7 hr7 HX6 HG6 HR6 HO6 HRc
    go_wp2_with fail
    refine (bytes_of p g cap y _ hx7).mono ?_
    rintro e w8 ⟨rfl, rfl⟩
    go_wp2_with fail
    refine (power_is p g cap y _ _ hx7 HYU.out).mono ?_
    rintro e w8 ⟨rfl, rfl⟩
    go_wp2_with fail
    go_ret
    exact ⟨by simp, hx7, HO7.out⟩

set_option maxRecDepth 100000 in
set_option maxHeartbeats 8000000 in
theorem one_boot1 (p g cap : Nat) (x y : St) (r : Rc) (a inc n : Nat) (d : ByteArray) (v k : Int) (b : Bool) (w : World) (F : Int) (U : Bool) (hF : (F == 0) = false)
    (hx : CodeAt w p g cap x) (h3 : a % 3 = 1) (hvb : (b = false ∧ k = -1) ∨ (b = true ∧ k = v)) (hxu : x.up = U)
    (HAr : Hid (∀ w, CodeAt w p g cap x → Calls Tryd.prog 22 #[.pointer (some ⟨p, 0, none⟩)] w fun e w' => e = .returned (.tuple #[.int .i64 v, .bool b]) ∧ w = w'))
    (HCm : Hid (∀ w, CodeAt w p g cap x → Calls Tryd.prog 19 #[.pointer (some ⟨p, 0, none⟩)] w fun e w' => e = .returned (.tuple #[.agg #[.int .u32 0, .int .u16 0, .string ⟨#[]⟩], .int .i64 F]) ∧ CodeAt w' p g cap y ∧ Only p g w w'))
    (HNx : Hid (∀ w, Calls Tryd.prog 24 #[.string (S x.l), .bool true, .int .u16 inc, .string d] w fun e w' => e = .returned (.tuple #[.agg #[.int .u32 r.q, .int .u16 r.i, .string r.d], .int .i64 F]) ∧ Below w.heap.size w w'))
    (hyl : y.l = x.l) (hyu : y.up = U) :
    Calls Tryd.prog 9 #[.pointer (some ⟨p, 0, none⟩), .agg #[.int .u8 a, .int .u16 inc, .string d, .int .u8 n]] w (OneEnd p g cap y w) := by
  have t2 : ((a : Int) % 3 == 2) = false := m_no h3 (by decide)
  have t1 : ((a : Int) % 3 == 1) = true := m_yes h3 (by decide)
  have hal := (Below.refl w.heap.size w).alloc (Nat.le_refl _) (Obj.cells #[Value.int IntKind.u8 a, Value.int IntKind.u16 inc, Value.string d, Value.int IntKind.u8 n] 28)
  have hx1 := hx.below hal hx.plt hx.glt
  have hact : ActAt _ w.heap.size ⟨a, inc, d, n⟩ := ActAt.new w a inc n d
  have hne1 : w.heap.size ≠ p := by have := hx.plt; omega
  have hne2 : w.heap.size ≠ g := by have := hx.glt; omega
  have HO := Lib.hid (only_below (p := p) (g := g) hal)
  clear hal hx h3
  have HZ := Lib.hid (⟨hx1, hact⟩ : _ ∧ _)
  have HXU := Lib.hid hxu
  clear hx1 hact hxu
  have HYL := Lib.hid hyl
  clear hyl
  have HYU := Lib.hid hyu
  clear hyu
  have hF2 : (F != 0) = true := by simpa [bne] using hF
  rcases hvb with ⟨rfl, rfl⟩ | ⟨rfl, rfl⟩
  all_goals
    go_enter Tryd.func9, Tryd.ntmps9
    go_wp2_with fail
    obtain ⟨hx1, hact⟩ := HZ.out
    clear HZ
    generalize w.alloc (Obj.cells #[Value.int IntKind.u8 a, Value.int IntKind.u16 inc, Value.string d, Value.int IntKind.u8 n] 28) = W0 at *
    refine (bytes_of p g cap x _ hx1).mono ?_
    rintro e w1 ⟨rfl, rfl⟩
    have k0 := hact.c0
    have hal := (Below.refl W0.heap.size W0).alloc (Nat.le_refl _) (Obj.cells #[Value.int IntKind.u32 0, Value.int IntKind.u16 0, Value.string { data := #[] }] 39)
    have hx2 := hx1.below hal hx1.plt hx1.glt
    have hact2 := hact.of (hal.block w.heap.size hact.lt)
    have hgot : RecAt _ W0.heap.size 0 0 ⟨#[]⟩ := RecAt.new W0 0 0 ⟨#[]⟩ 39
    have hbg1 : W0.heap.size ≠ p := by have := hx1.plt; omega
    have hbg2 : W0.heap.size ≠ g := by have := hx1.glt; omega
    have hbgw : w.heap.size ≤ W0.heap.size := HO.out.size
    have hbg3 : w.heap.size ≠ W0.heap.size := by have := hact.lt; omega
    have HO2 := Lib.hid (HO.out.trans (only_below hal))
    have HZ := Lib.hid (⟨hx2, hact2, hgot⟩ : _ ∧ _ ∧ _)
    clear hal hx2 hact2 hgot hact
    go_wp2_with fail
    refine (HAr.out _ hx1).mono ?_
    rintro e w1 ⟨rfl, rfl⟩
    go_wp2_with fail
    refine (power_is p g cap x _ _ hx1 HXU.out).mono ?_
    rintro e w1 ⟨rfl, rfl⟩
    have k1 := HZ.out.2.1.c1
    have k2 := HZ.out.2.1.c2
    clear hx1 HO HAr k0
    go_wp2_with fail
    obtain ⟨hx2, hact2, hgot⟩ := HZ.out
    clear HZ k1 k2
    generalize W0.alloc (Obj.cells #[Value.int IntKind.u32 0, Value.int IntKind.u16 0, Value.string { data := #[] }] 39) = W1 at *
    generalize W0.heap.size = bg at *
    refine (HCm.out _ hx2).mono ?_
    rintro e w3 ⟨rfl, hx3, ho3⟩
    have hact3 := hact2.of (ho3.block w.heap.size hact2.lt hne1 hne2)
    have hgot3 := hgot.of (ho3.block bg hgot.lt hbg1 hbg2)
    have HO3 := Lib.hid (HO2.out.trans ho3)
    clear hx2 hact2 hgot ho3 HO2 HCm
    have z0 := hgot3.c0
    have z1 := hgot3.c1
    have z2 := hgot3.c2
    have f0 := hgot3.f0
    have f1 := hgot3.f1
    have f2 := hgot3.f2
    have m1 := hact3.c1
    have m2 := hact3.c2
    have HZ := Lib.hid (⟨code_set hx3 hbg1.symm hbg2.symm 0 0 ⟨#[]⟩, hact3.of (set3_block w3 bg 0 0 ⟨#[]⟩ w.heap.size hbg3), rec_set hgot3 0 0 ⟨#[]⟩, only_set3 HO3.out hbgw 0 0 ⟨#[]⟩⟩ : _ ∧ _ ∧ _ ∧ _)
    unfold set3 at HZ
    clear hx3 hact3 hgot3 HO3
    go_wp2_with fail
    obtain ⟨hx4, hact4, hgot4, ho4⟩ := HZ.out
    clear HZ z0 z1 z2 f0 f1 f2 m1 m2
    generalize ((w3.setCell ⟨bg, 0, none⟩ (.int .u32 0)).setCell ⟨bg, 1, none⟩ (.int .u16 0)).setCell ⟨bg, 2, none⟩ (.string ⟨#[]⟩) = w4 at *
    refine (HNx.out _).mono ?_
    rintro e w5 ⟨rfl, hb5⟩
    have hx5 := hx4.below hb5 hx4.plt hx4.glt
    have hgot5 := hgot4.below hb5
    have ho5 := ho4.trans (only_below hb5)
    have hal := (Below.refl w5.heap.size w5).alloc (Nat.le_refl _) (Obj.cells #[Value.int IntKind.u32 r.q, Value.int IntKind.u16 r.i, Value.string r.d] 39)
    have hx6 := hx5.below hal hx5.plt hx5.glt
    have hgot6 := hgot5.below hal
    have HO6 := Lib.hid (ho5.trans (only_below hal))
    have hrr : RecAt _ w5.heap.size r.q r.i r.d := RecAt.new w5 r.q r.i r.d 39
    have hlt5 := hgot5.lt
    have HG6 := Lib.hid hgot6
    have HX6 := Lib.hid hx6
    have HR6 := Lib.hid hrr
    clear hb5 hx5 hgot5 ho5 hal hx6 hgot6 hrr hx4 hact4 hgot4 ho4 HNx
    go_wp2_with fail
    generalize w5.alloc (Obj.cells #[Value.int IntKind.u32 r.q, Value.int IntKind.u16 r.i, Value.string r.d] 39) = W6 at *
    refine (bytes_of p g cap y _ HX6.out).mono ?_
    rintro e w7 ⟨rfl, rfl⟩
    have z0 := HG6.out.c0
    have z1 := HG6.out.c1
    have z2 := HG6.out.c2
    rw [HYL.out]
    go_wp2_with fail
    refine (power_is p g cap y _ _ HX6.out HYU.out).mono ?_
    rintro e w7 ⟨rfl, rfl⟩
    go_wp2_with fail
    go_ret
    exact ⟨by simp, HX6.out, HO6.out⟩

set_option maxRecDepth 100000 in
set_option maxHeartbeats 8000000 in
theorem one_boot2 (p g cap : Nat) (x y : St) (r : Rc) (a inc n : Nat) (d : ByteArray) (v k : Int) (b : Bool) (w : World)
    (hx : CodeAt w p g cap x) (h3 : a % 3 = 1) (hvb : (b = false ∧ k = -1) ∨ (b = true ∧ k = v)) (hxu : x.up = false)
    (HAr : Hid (∀ w, CodeAt w p g cap x → Calls Tryd.prog 22 #[.pointer (some ⟨p, 0, none⟩)] w fun e w' => e = .returned (.tuple #[.int .i64 v, .bool b]) ∧ w = w'))
    (HCm : Hid (∀ w, CodeAt w p g cap x → Calls Tryd.prog 19 #[.pointer (some ⟨p, 0, none⟩)] w fun e w' => e = .returned (.tuple #[.agg #[.int .u32 0, .int .u16 0, .string ⟨#[]⟩], .int .i64 12]) ∧ CodeAt w' p g cap y ∧ Only p g w w'))
    (HNx : Hid (∀ w, Calls Tryd.prog 24 #[.string (S x.l), .bool true, .int .u16 inc, .string d] w fun e w' => e = .returned (.tuple #[.agg #[.int .u32 r.q, .int .u16 r.i, .string r.d], .int .i64 0]) ∧ Below w.heap.size w w'))
    (hyl : y.l = x.l) :
    Calls Tryd.prog 9 #[.pointer (some ⟨p, 0, none⟩), .agg #[.int .u8 a, .int .u16 inc, .string d, .int .u8 n]] w (OneEnd p g cap y w) := by
  have t2 : ((a : Int) % 3 == 2) = false := m_no h3 (by decide)
  have t1 : ((a : Int) % 3 == 1) = true := m_yes h3 (by decide)
  have hal := (Below.refl w.heap.size w).alloc (Nat.le_refl _) (Obj.cells #[Value.int IntKind.u8 a, Value.int IntKind.u16 inc, Value.string d, Value.int IntKind.u8 n] 28)
  have hx1 := hx.below hal hx.plt hx.glt
  have hact : ActAt _ w.heap.size ⟨a, inc, d, n⟩ := ActAt.new w a inc n d
  have hne1 : w.heap.size ≠ p := by have := hx.plt; omega
  have hne2 : w.heap.size ≠ g := by have := hx.glt; omega
  have HO := Lib.hid (only_below (p := p) (g := g) hal)
  clear hal hx h3
  have HZ := Lib.hid (⟨hx1, hact⟩ : _ ∧ _)
  have HXU := Lib.hid hxu
  clear hx1 hact hxu
  have HYL := Lib.hid hyl
  clear hyl
  rcases hvb with ⟨rfl, rfl⟩ | ⟨rfl, rfl⟩
  all_goals
    go_enter Tryd.func9, Tryd.ntmps9
    go_wp2_with fail
    obtain ⟨hx1, hact⟩ := HZ.out
    clear HZ
    generalize w.alloc (Obj.cells #[Value.int IntKind.u8 a, Value.int IntKind.u16 inc, Value.string d, Value.int IntKind.u8 n] 28) = W0 at *
    refine (bytes_of p g cap x _ hx1).mono ?_
    rintro e w1 ⟨rfl, rfl⟩
    have k0 := hact.c0
    have hal := (Below.refl W0.heap.size W0).alloc (Nat.le_refl _) (Obj.cells #[Value.int IntKind.u32 0, Value.int IntKind.u16 0, Value.string { data := #[] }] 39)
    have hx2 := hx1.below hal hx1.plt hx1.glt
    have hact2 := hact.of (hal.block w.heap.size hact.lt)
    have hgot : RecAt _ W0.heap.size 0 0 ⟨#[]⟩ := RecAt.new W0 0 0 ⟨#[]⟩ 39
    have hbg1 : W0.heap.size ≠ p := by have := hx1.plt; omega
    have hbg2 : W0.heap.size ≠ g := by have := hx1.glt; omega
    have hbgw : w.heap.size ≤ W0.heap.size := HO.out.size
    have hbg3 : w.heap.size ≠ W0.heap.size := by have := hact.lt; omega
    have HO2 := Lib.hid (HO.out.trans (only_below hal))
    have HZ := Lib.hid (⟨hx2, hact2, hgot⟩ : _ ∧ _ ∧ _)
    clear hal hx2 hact2 hgot hact
    go_wp2_with fail
    refine (HAr.out _ hx1).mono ?_
    rintro e w1 ⟨rfl, rfl⟩
    go_wp2_with fail
    refine (power_is p g cap x _ _ hx1 HXU.out).mono ?_
    rintro e w1 ⟨rfl, rfl⟩
    have k1 := HZ.out.2.1.c1
    have k2 := HZ.out.2.1.c2
    clear hx1 HO HAr k0
    go_wp2_with fail
    obtain ⟨hx2, hact2, hgot⟩ := HZ.out
    clear HZ k1 k2
    generalize W0.alloc (Obj.cells #[Value.int IntKind.u32 0, Value.int IntKind.u16 0, Value.string { data := #[] }] 39) = W1 at *
    generalize W0.heap.size = bg at *
    refine (HCm.out _ hx2).mono ?_
    rintro e w3 ⟨rfl, hx3, ho3⟩
    have hact3 := hact2.of (ho3.block w.heap.size hact2.lt hne1 hne2)
    have hgot3 := hgot.of (ho3.block bg hgot.lt hbg1 hbg2)
    have HO3 := Lib.hid (HO2.out.trans ho3)
    clear hx2 hact2 hgot ho3 HO2 HCm
    have z0 := hgot3.c0
    have z1 := hgot3.c1
    have z2 := hgot3.c2
    have f0 := hgot3.f0
    have f1 := hgot3.f1
    have f2 := hgot3.f2
    have m1 := hact3.c1
    have m2 := hact3.c2
    have HZ := Lib.hid (⟨code_set hx3 hbg1.symm hbg2.symm 0 0 ⟨#[]⟩, hact3.of (set3_block w3 bg 0 0 ⟨#[]⟩ w.heap.size hbg3), rec_set hgot3 0 0 ⟨#[]⟩, only_set3 HO3.out hbgw 0 0 ⟨#[]⟩⟩ : _ ∧ _ ∧ _ ∧ _)
    unfold set3 at HZ
    clear hx3 hact3 hgot3 HO3
    go_wp2_with fail
    obtain ⟨hx4, hact4, hgot4, ho4⟩ := HZ.out
    clear HZ z0 z1 z2 f0 f1 f2 m1 m2
    generalize ((w3.setCell ⟨bg, 0, none⟩ (.int .u32 0)).setCell ⟨bg, 1, none⟩ (.int .u16 0)).setCell ⟨bg, 2, none⟩ (.string ⟨#[]⟩) = w4 at *
    refine (HNx.out _).mono ?_
    rintro e w5 ⟨rfl, hb5⟩
    have hx5 := hx4.below hb5 hx4.plt hx4.glt
    have hgot5 := hgot4.below hb5
    have ho5 := ho4.trans (only_below hb5)
    have hal := (Below.refl w5.heap.size w5).alloc (Nat.le_refl _) (Obj.cells #[Value.int IntKind.u32 r.q, Value.int IntKind.u16 r.i, Value.string r.d] 39)
    have hx6 := hx5.below hal hx5.plt hx5.glt
    have hgot6 := hgot5.below hal
    have HO6 := Lib.hid (ho5.trans (only_below hal))
    have hrr : RecAt _ w5.heap.size r.q r.i r.d := RecAt.new w5 r.q r.i r.d 39
    have hlt5 := hgot5.lt
    have HG6 := Lib.hid hgot6
    have HX6 := Lib.hid hx6
    have HR6 := Lib.hid hrr
    clear hb5 hx5 hgot5 ho5 hal hx6 hgot6 hrr hx4 hact4 hgot4 ho4 HNx
    go_wp2_with fail
    generalize w5.alloc (Obj.cells #[Value.int IntKind.u32 r.q, Value.int IntKind.u16 r.i, Value.string r.d] 39) = W6 at *
    refine (bytes_of p g cap y _ HX6.out).mono ?_
    rintro e w7 ⟨rfl, rfl⟩
    have z0 := HG6.out.c0
    have z1 := HG6.out.c1
    have z2 := HG6.out.c2
    rw [HYL.out]
    go_wp2_with fail
    go_ret
    exact ⟨by simp, HX6.out, HO6.out⟩

set_option maxRecDepth 100000 in
set_option maxHeartbeats 8000000 in
theorem one_boot3 (p g cap : Nat) (x y : St) (r : Rc) (a inc n : Nat) (d : ByteArray) (v k : Int) (b : Bool) (w : World)
    (hx : CodeAt w p g cap x) (h3 : a % 3 = 1) (hvb : (b = false ∧ k = -1) ∨ (b = true ∧ k = v)) (hxu : x.up = true)
    (HAr : Hid (∀ w, CodeAt w p g cap x → Calls Tryd.prog 22 #[.pointer (some ⟨p, 0, none⟩)] w fun e w' => e = .returned (.tuple #[.int .i64 v, .bool b]) ∧ w = w'))
    (HCm : Hid (∀ w, CodeAt w p g cap x → Calls Tryd.prog 19 #[.pointer (some ⟨p, 0, none⟩)] w fun e w' => e = .returned (.tuple #[.agg #[.int .u32 r.q, .int .u16 r.i, .string r.d], .int .i64 0]) ∧ CodeAt w' p g cap y ∧ Only p g w w'))
    (HNx : Hid (∀ w, Calls Tryd.prog 24 #[.string (S x.l), .bool true, .int .u16 inc, .string d] w fun e w' => e = .returned (.tuple #[.agg #[.int .u32 r.q, .int .u16 r.i, .string r.d], .int .i64 0]) ∧ Below w.heap.size w w'))
    (HRc : Hid (∀ w, Calls Tryd.prog 25 #[.string (S x.l), .agg #[.int .u32 r.q, .int .u16 r.i, .string r.d], .int .i64 k] w fun e w' => e = .returned (.tuple #[.string (S y.l), .bool true]) ∧ Below w.heap.size w w')) :
    Calls Tryd.prog 9 #[.pointer (some ⟨p, 0, none⟩), .agg #[.int .u8 a, .int .u16 inc, .string d, .int .u8 n]] w (OneEnd p g cap y w) := by
  have t2 : ((a : Int) % 3 == 2) = false := m_no h3 (by decide)
  have t1 : ((a : Int) % 3 == 1) = true := m_yes h3 (by decide)
  have hal := (Below.refl w.heap.size w).alloc (Nat.le_refl _) (Obj.cells #[Value.int IntKind.u8 a, Value.int IntKind.u16 inc, Value.string d, Value.int IntKind.u8 n] 28)
  have hx1 := hx.below hal hx.plt hx.glt
  have hact : ActAt _ w.heap.size ⟨a, inc, d, n⟩ := ActAt.new w a inc n d
  have hne1 : w.heap.size ≠ p := by have := hx.plt; omega
  have hne2 : w.heap.size ≠ g := by have := hx.glt; omega
  have HO := Lib.hid (only_below (p := p) (g := g) hal)
  clear hal hx h3
  have HZ := Lib.hid (⟨hx1, hact⟩ : _ ∧ _)
  have HXU := Lib.hid hxu
  clear hx1 hact hxu
  rcases hvb with ⟨rfl, rfl⟩ | ⟨rfl, rfl⟩
  all_goals
    go_enter Tryd.func9, Tryd.ntmps9
    go_wp2_with fail
    obtain ⟨hx1, hact⟩ := HZ.out
    clear HZ
    generalize w.alloc (Obj.cells #[Value.int IntKind.u8 a, Value.int IntKind.u16 inc, Value.string d, Value.int IntKind.u8 n] 28) = W0 at *
    refine (bytes_of p g cap x _ hx1).mono ?_
    rintro e w1 ⟨rfl, rfl⟩
    have k0 := hact.c0
    have hal := (Below.refl W0.heap.size W0).alloc (Nat.le_refl _) (Obj.cells #[Value.int IntKind.u32 0, Value.int IntKind.u16 0, Value.string { data := #[] }] 39)
    have hx2 := hx1.below hal hx1.plt hx1.glt
    have hact2 := hact.of (hal.block w.heap.size hact.lt)
    have hgot : RecAt _ W0.heap.size 0 0 ⟨#[]⟩ := RecAt.new W0 0 0 ⟨#[]⟩ 39
    have hbg1 : W0.heap.size ≠ p := by have := hx1.plt; omega
    have hbg2 : W0.heap.size ≠ g := by have := hx1.glt; omega
    have hbgw : w.heap.size ≤ W0.heap.size := HO.out.size
    have hbg3 : w.heap.size ≠ W0.heap.size := by have := hact.lt; omega
    have HO2 := Lib.hid (HO.out.trans (only_below hal))
    have HZ := Lib.hid (⟨hx2, hact2, hgot⟩ : _ ∧ _ ∧ _)
    clear hal hx2 hact2 hgot hact
    go_wp2_with fail
    refine (HAr.out _ hx1).mono ?_
    rintro e w1 ⟨rfl, rfl⟩
    go_wp2_with fail
    refine (power_is p g cap x _ _ hx1 HXU.out).mono ?_
    rintro e w1 ⟨rfl, rfl⟩
    have k1 := HZ.out.2.1.c1
    have k2 := HZ.out.2.1.c2
    clear hx1 HO HAr k0
    go_wp2_with fail
    obtain ⟨hx2, hact2, hgot⟩ := HZ.out
    clear HZ k1 k2
    generalize W0.alloc (Obj.cells #[Value.int IntKind.u32 0, Value.int IntKind.u16 0, Value.string { data := #[] }] 39) = W1 at *
    generalize W0.heap.size = bg at *
    refine (HCm.out _ hx2).mono ?_
    rintro e w3 ⟨rfl, hx3, ho3⟩
    have hact3 := hact2.of (ho3.block w.heap.size hact2.lt hne1 hne2)
    have hgot3 := hgot.of (ho3.block bg hgot.lt hbg1 hbg2)
    have HO3 := Lib.hid (HO2.out.trans ho3)
    clear hx2 hact2 hgot ho3 HO2 HCm
    have z0 := hgot3.c0
    have z1 := hgot3.c1
    have z2 := hgot3.c2
    have f0 := hgot3.f0
    have f1 := hgot3.f1
    have f2 := hgot3.f2
    have m1 := hact3.c1
    have m2 := hact3.c2
    have HZ := Lib.hid (⟨code_set hx3 hbg1.symm hbg2.symm r.q r.i r.d, hact3.of (set3_block w3 bg r.q r.i r.d w.heap.size hbg3), rec_set hgot3 r.q r.i r.d, only_set3 HO3.out hbgw r.q r.i r.d⟩ : _ ∧ _ ∧ _ ∧ _)
    unfold set3 at HZ
    clear hx3 hact3 hgot3 HO3
    go_wp2_with fail
    obtain ⟨hx4, hact4, hgot4, ho4⟩ := HZ.out
    clear HZ z0 z1 z2 f0 f1 f2 m1 m2
    generalize ((w3.setCell ⟨bg, 0, none⟩ (.int .u32 r.q)).setCell ⟨bg, 1, none⟩ (.int .u16 r.i)).setCell ⟨bg, 2, none⟩ (.string r.d) = w4 at *
    refine (HNx.out _).mono ?_
    rintro e w5 ⟨rfl, hb5⟩
    have hx5 := hx4.below hb5 hx4.plt hx4.glt
    have hgot5 := hgot4.below hb5
    have ho5 := ho4.trans (only_below hb5)
    have hal := (Below.refl w5.heap.size w5).alloc (Nat.le_refl _) (Obj.cells #[Value.int IntKind.u32 r.q, Value.int IntKind.u16 r.i, Value.string r.d] 39)
    have hx6 := hx5.below hal hx5.plt hx5.glt
    have hgot6 := hgot5.below hal
    have HO6 := Lib.hid (ho5.trans (only_below hal))
    have hrr : RecAt _ w5.heap.size r.q r.i r.d := RecAt.new w5 r.q r.i r.d 39
    have hlt5 := hgot5.lt
    have HG6 := Lib.hid hgot6
    have HX6 := Lib.hid hx6
    have HR6 := Lib.hid hrr
    clear hb5 hx5 hgot5 ho5 hal hx6 hgot6 hrr hx4 hact4 hgot4 ho4 HNx
    go_wp2_with fail
    generalize w5.alloc (Obj.cells #[Value.int IntKind.u32 r.q, Value.int IntKind.u16 r.i, Value.string r.d] 39) = W6 at *
    generalize w5.heap.size = b6 at *
    refine (HRc.out _).mono ?_
    rintro e w7 ⟨rfl, hb7⟩
    have hx7 := HX6.out.below hb7 HX6.out.plt HX6.out.glt
    have hg7 := HG6.out.below hb7
    have hr7 := HR6.out.below hb7
    have HO7 := Lib.hid (HO6.out.trans (only_below hb7))
    have z0 := hg7.c0
    have z1 := hg7.c1
    have z2 := hg7.c2
    have y0 := hr7.c0
    have y1 := hr7.c1
    have y2 := hr7.c2
    clear hb7 hg7 hr7 HX6 HG6 HR6 HO6 HRc
    go_wp2_with fail
    refine (bytes_of p g cap y _ hx7).mono ?_
    rintro e w8 ⟨rfl, rfl⟩
    go_wp2_with fail
    go_ret
    exact ⟨by simp, hx7, HO7.out⟩

set_option maxRecDepth 100000 in
set_option maxHeartbeats 8000000 in
theorem one_boot4 (p g cap : Nat) (x y : St) (r : Rc) (a inc n : Nat) (d : ByteArray) (v k : Int) (b : Bool) (w : World)
    (hx : CodeAt w p g cap x) (h3 : a % 3 = 1) (hvb : (b = false ∧ k = -1) ∨ (b = true ∧ k = v)) (hxu : x.up = true)
    (HAr : Hid (∀ w, CodeAt w p g cap x → Calls Tryd.prog 22 #[.pointer (some ⟨p, 0, none⟩)] w fun e w' => e = .returned (.tuple #[.int .i64 v, .bool b]) ∧ w = w'))
    (HCm : Hid (∀ w, CodeAt w p g cap x → Calls Tryd.prog 19 #[.pointer (some ⟨p, 0, none⟩)] w fun e w' => e = .returned (.tuple #[.agg #[.int .u32 0, .int .u16 0, .string ⟨#[]⟩], .int .i64 12]) ∧ CodeAt w' p g cap y ∧ Only p g w w'))
    (HNx : Hid (∀ w, Calls Tryd.prog 24 #[.string (S x.l), .bool true, .int .u16 inc, .string d] w fun e w' => e = .returned (.tuple #[.agg #[.int .u32 r.q, .int .u16 r.i, .string r.d], .int .i64 0]) ∧ Below w.heap.size w w'))
    (HRc : Hid (∀ w, Calls Tryd.prog 25 #[.string (S x.l), .agg #[.int .u32 r.q, .int .u16 r.i, .string r.d], .int .i64 k] w fun e w' => e = .returned (.tuple #[.string (S y.l), .bool false]) ∧ Below w.heap.size w w')) (hyu : y.up = false) :
    Calls Tryd.prog 9 #[.pointer (some ⟨p, 0, none⟩), .agg #[.int .u8 a, .int .u16 inc, .string d, .int .u8 n]] w (OneEnd p g cap y w) := by
  have t2 : ((a : Int) % 3 == 2) = false := m_no h3 (by decide)
  have t1 : ((a : Int) % 3 == 1) = true := m_yes h3 (by decide)
  have hal := (Below.refl w.heap.size w).alloc (Nat.le_refl _) (Obj.cells #[Value.int IntKind.u8 a, Value.int IntKind.u16 inc, Value.string d, Value.int IntKind.u8 n] 28)
  have hx1 := hx.below hal hx.plt hx.glt
  have hact : ActAt _ w.heap.size ⟨a, inc, d, n⟩ := ActAt.new w a inc n d
  have hne1 : w.heap.size ≠ p := by have := hx.plt; omega
  have hne2 : w.heap.size ≠ g := by have := hx.glt; omega
  have HO := Lib.hid (only_below (p := p) (g := g) hal)
  clear hal hx h3
  have HZ := Lib.hid (⟨hx1, hact⟩ : _ ∧ _)
  have HXU := Lib.hid hxu
  clear hx1 hact hxu
  have HYU := Lib.hid hyu
  clear hyu
  rcases hvb with ⟨rfl, rfl⟩ | ⟨rfl, rfl⟩
  all_goals
    go_enter Tryd.func9, Tryd.ntmps9
    go_wp2_with fail
    obtain ⟨hx1, hact⟩ := HZ.out
    clear HZ
    generalize w.alloc (Obj.cells #[Value.int IntKind.u8 a, Value.int IntKind.u16 inc, Value.string d, Value.int IntKind.u8 n] 28) = W0 at *
    refine (bytes_of p g cap x _ hx1).mono ?_
    rintro e w1 ⟨rfl, rfl⟩
    have k0 := hact.c0
    have hal := (Below.refl W0.heap.size W0).alloc (Nat.le_refl _) (Obj.cells #[Value.int IntKind.u32 0, Value.int IntKind.u16 0, Value.string { data := #[] }] 39)
    have hx2 := hx1.below hal hx1.plt hx1.glt
    have hact2 := hact.of (hal.block w.heap.size hact.lt)
    have hgot : RecAt _ W0.heap.size 0 0 ⟨#[]⟩ := RecAt.new W0 0 0 ⟨#[]⟩ 39
    have hbg1 : W0.heap.size ≠ p := by have := hx1.plt; omega
    have hbg2 : W0.heap.size ≠ g := by have := hx1.glt; omega
    have hbgw : w.heap.size ≤ W0.heap.size := HO.out.size
    have hbg3 : w.heap.size ≠ W0.heap.size := by have := hact.lt; omega
    have HO2 := Lib.hid (HO.out.trans (only_below hal))
    have HZ := Lib.hid (⟨hx2, hact2, hgot⟩ : _ ∧ _ ∧ _)
    clear hal hx2 hact2 hgot hact
    go_wp2_with fail
    refine (HAr.out _ hx1).mono ?_
    rintro e w1 ⟨rfl, rfl⟩
    go_wp2_with fail
    refine (power_is p g cap x _ _ hx1 HXU.out).mono ?_
    rintro e w1 ⟨rfl, rfl⟩
    have k1 := HZ.out.2.1.c1
    have k2 := HZ.out.2.1.c2
    clear hx1 HO HAr k0
    go_wp2_with fail
    obtain ⟨hx2, hact2, hgot⟩ := HZ.out
    clear HZ k1 k2
    generalize W0.alloc (Obj.cells #[Value.int IntKind.u32 0, Value.int IntKind.u16 0, Value.string { data := #[] }] 39) = W1 at *
    generalize W0.heap.size = bg at *
    refine (HCm.out _ hx2).mono ?_
    rintro e w3 ⟨rfl, hx3, ho3⟩
    have hact3 := hact2.of (ho3.block w.heap.size hact2.lt hne1 hne2)
    have hgot3 := hgot.of (ho3.block bg hgot.lt hbg1 hbg2)
    have HO3 := Lib.hid (HO2.out.trans ho3)
    clear hx2 hact2 hgot ho3 HO2 HCm
    have z0 := hgot3.c0
    have z1 := hgot3.c1
    have z2 := hgot3.c2
    have f0 := hgot3.f0
    have f1 := hgot3.f1
    have f2 := hgot3.f2
    have m1 := hact3.c1
    have m2 := hact3.c2
    have HZ := Lib.hid (⟨code_set hx3 hbg1.symm hbg2.symm 0 0 ⟨#[]⟩, hact3.of (set3_block w3 bg 0 0 ⟨#[]⟩ w.heap.size hbg3), rec_set hgot3 0 0 ⟨#[]⟩, only_set3 HO3.out hbgw 0 0 ⟨#[]⟩⟩ : _ ∧ _ ∧ _ ∧ _)
    unfold set3 at HZ
    clear hx3 hact3 hgot3 HO3
    go_wp2_with fail
    obtain ⟨hx4, hact4, hgot4, ho4⟩ := HZ.out
    clear HZ z0 z1 z2 f0 f1 f2 m1 m2
    generalize ((w3.setCell ⟨bg, 0, none⟩ (.int .u32 0)).setCell ⟨bg, 1, none⟩ (.int .u16 0)).setCell ⟨bg, 2, none⟩ (.string ⟨#[]⟩) = w4 at *
    refine (HNx.out _).mono ?_
    rintro e w5 ⟨rfl, hb5⟩
    have hx5 := hx4.below hb5 hx4.plt hx4.glt
    have hgot5 := hgot4.below hb5
    have ho5 := ho4.trans (only_below hb5)
    have hal := (Below.refl w5.heap.size w5).alloc (Nat.le_refl _) (Obj.cells #[Value.int IntKind.u32 r.q, Value.int IntKind.u16 r.i, Value.string r.d] 39)
    have hx6 := hx5.below hal hx5.plt hx5.glt
    have hgot6 := hgot5.below hal
    have HO6 := Lib.hid (ho5.trans (only_below hal))
    have hrr : RecAt _ w5.heap.size r.q r.i r.d := RecAt.new w5 r.q r.i r.d 39
    have hlt5 := hgot5.lt
    have HG6 := Lib.hid hgot6
    have HX6 := Lib.hid hx6
    have HR6 := Lib.hid hrr
    clear hb5 hx5 hgot5 ho5 hal hx6 hgot6 hrr hx4 hact4 hgot4 ho4 HNx
    go_wp2_with fail
    generalize w5.alloc (Obj.cells #[Value.int IntKind.u32 r.q, Value.int IntKind.u16 r.i, Value.string r.d] 39) = W6 at *
    generalize w5.heap.size = b6 at *
    refine (HRc.out _).mono ?_
    rintro e w7 ⟨rfl, hb7⟩
    have hx7 := HX6.out.below hb7 HX6.out.plt HX6.out.glt
    have hg7 := HG6.out.below hb7
    have hr7 := HR6.out.below hb7
    have HO7 := Lib.hid (HO6.out.trans (only_below hb7))
    have z0 := hg7.c0
    have z1 := hg7.c1
    have z2 := hg7.c2
    have y0 := hr7.c0
    have y1 := hr7.c1
    have y2 := hr7.c2
    clear hb7 hg7 hr7 HX6 HG6 HR6 HO6 HRc
    go_wp2_with fail
    refine (bytes_of p g cap y _ hx7).mono ?_
    rintro e w8 ⟨rfl, rfl⟩
    go_wp2_with fail
    refine (power_is p g cap y _ _ hx7 HYU.out).mono ?_
    rintro e w8 ⟨rfl, rfl⟩
    go_wp2_with fail
    go_ret
    exact ⟨by simp, hx7, HO7.out⟩

end Go.Proofs.YtahmngmbgbcmhaaDoor.Ret
