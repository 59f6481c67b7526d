/-
  One act with both stores, walked: they do not part. Conditions: none but on sizes.
-/
import Derived.Test.YtkokhmjcpnoklaaStRWrite
import Derived.Test.YtkokhmjcpnoklaaStTears
import Derived.Deep.RegionHeld3
namespace Go.Proofs.Ytkokhmjcpnoklaa.Sto
open Go.RowKit

theorem case5 (n : Nat) : n % 5 = 0 ∨ n % 5 = 1 ∨ n % 5 = 2 ∨ n % 5 = 3 ∨ n % 5 = 4 := by omega
theorem t_no {n r : Nat} {j : Int} (h : n % 5 = r) (hj : (r : Int) ≠ j) : ((n : Int) % 5 == j) = false := by
  rw [beq_eq_false_iff_ne]; omega
theorem t_yes {n r : Nat} {j : Int} (h : n % 5 = r) (hj : (r : Int) = j) : ((n : Int) % 5 == j) = true := by
  rw [beq_iff_eq]; omega

theorem Only.cell {p g : Nat} {w w' : World} (h : Only p g w w') {b o : Nat} {v : Value} (hc : w.cell? ⟨b, o, none⟩ = some v) (h1 : b ≠ p) (h2 : b ≠ g) : w'.cell? ⟨b, o, none⟩ = some v :=
  (World.cell?_of_block (a := ⟨b, o, none⟩) (h.block b (World.block_lt_of_cell? w _ hc) h1 h2)).trans hc

/-- Both stores, alike, and apart; nothing below N has turned. -/
structure Both (N : Nat) (w0 w : World) (p g c q h d : Nat) (x : St) : Prop where
  code : CodeAt w p g c x
  same : SameAt w q h d x
  below : Below N w0 w
  pN : N ≤ p
  gN : N ≤ g
  qN : N ≤ q
  hN : N ≤ h
  a1 : p ≠ q
  a2 : p ≠ h
  a3 : g ≠ q
  a4 : g ≠ h

theorem Both.drewN {N : Nat} {w0 w : World} {p g c q h d : Nat} {x : St} (b : Both N w0 w p g c q h d x) (n : Nat) : Both N w0 (w.drewN n) p g c q h d x :=
  ⟨b.code.drewN n, RefAt.drewN b.same n, below_drewN b.below n, b.pN, b.gN, b.qN, b.hN, b.a1, b.a2, b.a3, b.a4⟩
theorem Both.drew {N : Nat} {w0 w : World} {p g c q h d : Nat} {x : St} (b : Both N w0 w p g c q h d x) : Both N w0 w.drew p g c q h d x := by
  obtain ⟨⟨y, hc, hy⟩, b2, b3, b4, b5, b6, b7, b8, b9, b10, b11⟩ := b
  exact ⟨⟨y, hc.drew, hy⟩, RefAt.drew b2, b3.drew, b4, b5, b6, b7, b8, b9, b10, b11⟩
theorem Both.size {N : Nat} {w0 w : World} {p g c q h d : Nat} {x : St} (b : Both N w0 w p g c q h d x) : N ≤ w.heap.size := by
  have := b.code.plt
  have := b.pN
  omega
theorem Both.alloc {N : Nat} {w0 w : World} {p g c q h d : Nat} {x : St} (b : Both N w0 w p g c q h d x) (o : Obj) : Both N w0 (w.alloc o) p g c q h d x :=
  have hb := (Below.refl w.heap.size w).alloc (Nat.le_refl _) o
  ⟨b.code.below hb b.code.plt b.code.glt, RefAt.below b.same hb (RefAt.qlt b.same) b.same.lt, b.below.trans (hb.mono b.size), b.pN, b.gN, b.qN, b.hN, b.a1, b.a2, b.a3, b.a4⟩
/-- Behind a call that turns the code's store alone. -/
theorem Both.half {N : Nat} {w0 w w1 : World} {p g c q h d : Nat} {x : St} (b : Both N w0 w p g c q h d x) (ho : Only p g w w1) : SameAt w1 q h d x ∧ Below N w0 w1 :=
  ⟨RefAt.only b.same ho b.a1.symm b.a3.symm b.a2.symm b.a4.symm, b.below.trans (ho.below b.pN b.gN b.size)⟩
/-- .. and then behind one that turns the reference's. -/
theorem Both.next {N : Nat} {w0 w w1 w2 : World} {p g c q h d : Nat} {x y : St} (b : Both N w0 w p g c q h d x) (ho1 : Only p g w w1) (hc : CodeAt w1 p g c y) (ho2 : Only q h w1 w2) (hs : SameAt w2 q h d y) : Both N w0 w2 p g c q h d y :=
  ⟨hc.only ho2 b.a1 b.a2 b.a3 b.a4, hs, (b.half ho1).2.trans (ho2.below b.qN b.hN (Nat.le_trans b.size ho1.size)), b.pN, b.gN, b.qN, b.hN, b.a1, b.a2, b.a3, b.a4⟩

/-- An act. -/
structure Ac where
  a : Nat
  p : Int
  n : Int
  s : ByteArray

/-- A store behind an act. -/
def did (x : St) (y : Ac) : St :=
  if y.a % 5 = 0 then wrote x y.p y.s.data.toList
  else if y.a % 5 = 1 then x
  else if y.a % 5 = 2 then { x with arm := some y.n.toNat }
  else if y.a % 5 = 3 then { x with up := false, arm := none }
  else { x with up := true }

/-- What one leaves. -/
def OneEnd (N : Nat) (w0 : World) (p g c q h d : Nat) (x : St) (e : Ending) (w' : World) : Prop := e = .returned (.bool true) ∧ Both N w0 w' p g c q h d x

theorem armed_some (p g cap : Nat) (l : List UInt8) (up : Bool) (k n : Nat) (w : World) (hx : CodeAt w p g cap ⟨l, up, some k, n⟩) :
    Calls Try.prog 23 #[.pointer (some ⟨p, 0, none⟩)] w fun e w' => e = .returned (.tuple #[.int .i64 k, .bool true]) ∧ w = w' := armed_any p g cap _ w hx
theorem armed_none (p g cap : Nat) (l : List UInt8) (up : Bool) (n : Nat) (w : World) (hx : CodeAt w p g cap ⟨l, up, none, n⟩) :
    Calls Try.prog 23 #[.pointer (some ⟨p, 0, none⟩)] w fun e w' => e = .returned (.tuple #[.int .i64 0, .bool false]) ∧ w = w' := armed_any p g cap _ w hx

/-- The act that the law boxes. -/
theorem act_cells (w : World) (a : Nat) (p n : Int) (s : ByteArray) : ∀ j v, #[Value.int .u8 a, .int .i64 p, .int .i64 n, .string s][j]? = some v →
    (w.alloc (.cells #[.int .u8 a, .int .i64 p, .int .i64 n, .string s] 31)).cell? ⟨w.heap.size, j, none⟩ = some v := by
  intro j v hv
  rw [cell_of_row _ _ j _ 31 (0, 0) (heap_alloc_new w _)]
  exact hv

theorem rthere_no (q h cap : Nat) (l : List UInt8) (u : Bool) (z n : Int) (a m : Int) (w : World) (k : Nat) (hr : RefAt w q h cap l u z n) (ha : -9223372036854775808 ≤ a) (hb : a ≤ 9223372036854775807) (ht : there l a m = false) :
    Calls Try.prog 21 #[.pointer (some ⟨q, 0, none⟩), .int .i64 a, .int .i64 m] (w.drewN k) fun e w' => e = .returned (.bool false) ∧ w' = w.drewN k :=
  (rthere_any q h cap l u z n a m _ (hr.drewN k) ha hb).mono fun _ _ ⟨h1, h2⟩ => ⟨by rw [← ht]; exact h1, h2.symm⟩
theorem rthere_yes (q h cap : Nat) (l : List UInt8) (u : Bool) (z n : Int) (a m : Int) (w : World) (k : Nat) (hr : RefAt w q h cap l u z n) (ha : -9223372036854775808 ≤ a) (hb : a ≤ 9223372036854775807) (ht : there l a m = true) :
    Calls Try.prog 21 #[.pointer (some ⟨q, 0, none⟩), .int .i64 a, .int .i64 m] (w.drewN k) fun e w' => e = .returned (.bool true) ∧ w' = w.drewN k :=
  (rthere_any q h cap l u z n a m _ (hr.drewN k) ha hb).mono fun _ _ ⟨h1, h2⟩ => ⟨by rw [← ht]; exact h1, h2.symm⟩

theorem left_some (k : Nat) : left (some k) = (k : Int) := rfl
theorem left_none : left none = -1 := rfl

set_option maxRecDepth 100000 in
set_option maxHeartbeats 4000000 in
theorem one_off (N : Nat) (w0 w : World) (p g c q h d : Nat) (x : St) (ya : Nat) (yp yn : Int) (ys : ByteArray) (hb : Both N w0 w p g c q h d x) (h5 : ya % 5 = 3) :
    Calls Try.prog 11 #[.pointer (some ⟨p, 0, none⟩), .pointer (some ⟨q, 0, none⟩), .agg #[.int .u8 ya, .int .i64 yp, .int .i64 yn, .string ys]] w (OneEnd N w0 p g c q h d (did x ⟨ya, yp, yn, ys⟩)) := by
  have hd : did x ⟨ya, yp, yn, ys⟩ = { x with up := false, arm := none } := by simp [did, h5]
  rw [hd]
  have t0 : ((ya : Int) % 5 == 0) = false := t_no h5 (by decide)
  have t1 : ((ya : Int) % 5 == 1) = false := t_no h5 (by decide)
  have t2 : ((ya : Int) % 5 == 2) = false := t_no h5 (by decide)
  have t3 : ((ya : Int) % 5 == 3) = true := t_yes h5 (by decide)
  have hB0 := hb.alloc (.cells #[.int .u8 ya, .int .i64 yp, .int .i64 yn, .string ys] 31)
  have hc0 := act_cells w ya yp yn ys
  have k1 := hc0 1 _ rfl
  have k2 := hc0 2 _ rfl
  have k3 := hc0 3 _ rfl
  have hbp : w.heap.size ≠ p := by have := hb.code.plt; omega
  have hbg : w.heap.size ≠ g := by have := hb.code.glt; omega
  have hbq : w.heap.size ≠ q := by have := RefAt.qlt hb.same; omega
  have hbh : w.heap.size ≠ h := by have := hb.same.lt; omega
  clear hc0 hb
  clear hd h5
  go_enter Try.func11, Try.ntmps11
  go_wp2_with fail
  refine (off_any p g c _ _ hB0.code).mono ?_
  rintro e w1 ⟨rfl, hx1, ho1⟩
  have hs1 := (hB0.half ho1).1
  go_wp2_with fail
  refine (roff_any q h d _ _ hs1).mono ?_
  rintro e W ⟨rfl, hs2, ho2⟩
  have hB := hB0.next ho1 hx1 ho2 hs2
  clear hx1 hs1 hs2 ho1 ho2 k1 k2 k3 hbp hbg hbq hbh
  go_wp2_with fail
  generalize ({ x with up := false, arm := none } : St) = X at *
  clear hB0
  have hcode := hB.code
  have r1 := hB.same.c1
  have r2 := hB.same.c2
  have r3 := hB.same.c3
  obtain ⟨l', up', arm', n'⟩ := X
  cases arm' with
  | none =>
    replace r2 : W.cell? ⟨q, 2, none⟩ = some (.int .i64 (-1)) := r2
    refine (armed_none p g c _ _ _ _ hcode).mono ?_
    rintro e w9 ⟨rfl, rfl⟩
    go_wp2_with fail
    go_quiet ((first | (go_at_call 16; exact Calls.quiet_of_same (power_q _ _ _ _ _ _ hcode)) | (go_at_call 17; exact Calls.quiet_of_same (wroteN_q _ _ _ _ _ _ hcode))))
    go_wp2
    go_ret
    exact ⟨rfl, hB.drewN _⟩
  | some k' =>
    replace r2 : W.cell? ⟨q, 2, none⟩ = some (.int .i64 (k' : Int)) := r2
    have hk1 : ¬ ((k' : Int) < 0) := by omega
    refine (armed_some p g c _ _ _ _ _ hcode).mono ?_
    rintro e w9 ⟨rfl, rfl⟩
    go_wp2_with fail
    go_quiet ((first | (go_at_call 16; exact Calls.quiet_of_same (power_q _ _ _ _ _ _ hcode)) | (go_at_call 17; exact Calls.quiet_of_same (wroteN_q _ _ _ _ _ _ hcode))))
    go_wp2
    go_ret
    exact ⟨rfl, hB.drewN _⟩

set_option maxRecDepth 100000 in
set_option maxHeartbeats 4000000 in
theorem one_on (N : Nat) (w0 w : World) (p g c q h d : Nat) (x : St) (ya : Nat) (yp yn : Int) (ys : ByteArray) (hb : Both N w0 w p g c q h d x) (h5 : ya % 5 = 4) :
    Calls Try.prog 11 #[.pointer (some ⟨p, 0, none⟩), .pointer (some ⟨q, 0, none⟩), .agg #[.int .u8 ya, .int .i64 yp, .int .i64 yn, .string ys]] w (OneEnd N w0 p g c q h d (did x ⟨ya, yp, yn, ys⟩)) := by
  have hd : did x ⟨ya, yp, yn, ys⟩ = { x with up := true } := by simp [did, h5]
  rw [hd]
  have t0 : ((ya : Int) % 5 == 0) = false := t_no h5 (by decide)
  have t1 : ((ya : Int) % 5 == 1) = false := t_no h5 (by decide)
  have t2 : ((ya : Int) % 5 == 2) = false := t_no h5 (by decide)
  have t3 : ((ya : Int) % 5 == 3) = false := t_no h5 (by decide)
  have t4 : ((ya : Int) % 5 == 4) = true := t_yes h5 (by decide)
  have hB0 := hb.alloc (.cells #[.int .u8 ya, .int .i64 yp, .int .i64 yn, .string ys] 31)
  have hc0 := act_cells w ya yp yn ys
  have k1 := hc0 1 _ rfl
  have k2 := hc0 2 _ rfl
  have k3 := hc0 3 _ rfl
  have hbp : w.heap.size ≠ p := by have := hb.code.plt; omega
  have hbg : w.heap.size ≠ g := by have := hb.code.glt; omega
  have hbq : w.heap.size ≠ q := by have := RefAt.qlt hb.same; omega
  have hbh : w.heap.size ≠ h := by have := hb.same.lt; omega
  clear hc0 hb
  clear hd h5
  go_enter Try.func11, Try.ntmps11
  go_wp2_with fail
  refine (on_any p g c _ _ hB0.code).mono ?_
  rintro e w1 ⟨rfl, hx1, ho1⟩
  have hs1 := (hB0.half ho1).1
  have q1 := hs1.c1
  have q2 := hs1.f1
  have hs2 := RefAt.set1 hs1 true
  have hB := hB0.next ho1 hx1 ((Only.refl q h w1).set 1 (.bool true)) hs2
  clear hx1 hs1 hs2 ho1 k1 k2 k3 hbp hbg hbq hbh
  go_wp2_with fail
  generalize w1.setCell ⟨q, 1, none⟩ (.bool true) = W at *
  generalize ({ x with up := true } : St) = X at *
  clear q1 q2
  clear hB0
  have hcode := hB.code
  have r1 := hB.same.c1
  have r2 := hB.same.c2
  have r3 := hB.same.c3
  obtain ⟨l', up', arm', n'⟩ := X
  cases arm' with
  | none =>
    replace r2 : W.cell? ⟨q, 2, none⟩ = some (.int .i64 (-1)) := r2
    refine (armed_none p g c _ _ _ _ hcode).mono ?_
    rintro e w9 ⟨rfl, rfl⟩
    go_wp2_with fail
    go_quiet ((first | (go_at_call 16; exact Calls.quiet_of_same (power_q _ _ _ _ _ _ hcode)) | (go_at_call 17; exact Calls.quiet_of_same (wroteN_q _ _ _ _ _ _ hcode))))
    go_wp2
    go_ret
    exact ⟨rfl, hB.drewN _⟩
  | some k' =>
    replace r2 : W.cell? ⟨q, 2, none⟩ = some (.int .i64 (k' : Int)) := r2
    have hk1 : ¬ ((k' : Int) < 0) := by omega
    refine (armed_some p g c _ _ _ _ _ hcode).mono ?_
    rintro e w9 ⟨rfl, rfl⟩
    go_wp2_with fail
    go_quiet ((first | (go_at_call 16; exact Calls.quiet_of_same (power_q _ _ _ _ _ _ hcode)) | (go_at_call 17; exact Calls.quiet_of_same (wroteN_q _ _ _ _ _ _ hcode))))
    go_wp2
    go_ret
    exact ⟨rfl, hB.drewN _⟩

set_option maxRecDepth 100000 in
set_option maxHeartbeats 4000000 in
theorem one_arm0 (N : Nat) (w0 w : World) (p g c q h d : Nat) (x : St) (ya : Nat) (yp yn : Int) (ys : ByteArray) (hb : Both N w0 w p g c q h d x) (h5 : ya % 5 = 2) (hn : yn < 0) :
    Calls Try.prog 11 #[.pointer (some ⟨p, 0, none⟩), .pointer (some ⟨q, 0, none⟩), .agg #[.int .u8 ya, .int .i64 yp, .int .i64 yn, .string ys]] w (OneEnd N w0 p g c q h d (did x ⟨ya, yp, yn, ys⟩)) := by
  have hd : did x ⟨ya, yp, yn, ys⟩ = { x with arm := some 0 } := by (have : yn.toNat = 0 := by omega); simp [did, h5, this]
  rw [hd]
  have t0 : ((ya : Int) % 5 == 0) = false := t_no h5 (by decide)
  have t1 : ((ya : Int) % 5 == 1) = false := t_no h5 (by decide)
  have t2 : ((ya : Int) % 5 == 2) = true := t_yes h5 (by decide)
  have hB0 := hb.alloc (.cells #[.int .u8 ya, .int .i64 yp, .int .i64 yn, .string ys] 31)
  have hc0 := act_cells w ya yp yn ys
  have k1 := hc0 1 _ rfl
  have k2 := hc0 2 _ rfl
  have k3 := hc0 3 _ rfl
  have hbp : w.heap.size ≠ p := by have := hb.code.plt; omega
  have hbg : w.heap.size ≠ g := by have := hb.code.glt; omega
  have hbq : w.heap.size ≠ q := by have := RefAt.qlt hb.same; omega
  have hbh : w.heap.size ≠ h := by have := hb.same.lt; omega
  clear hc0 hb
  clear hd h5
  go_enter Try.func11, Try.ntmps11
  have HN := Lib.hid (show yn.toNat = 0 by omega)
  go_wp2_with fail
  refine (arm_any p g c _ _ _ hB0.code).mono ?_
  rintro e w1 ⟨rfl, hx1, ho1⟩
  rw [HN.out] at hx1
  have hs1 := (hB0.half ho1).1
  have q1 := hs1.c2
  have q2 := hs1.f2
  have hs2 : SameAt (w1.setCell ⟨q, 2, none⟩ (.int .i64 0)) q h d { x with arm := some 0 } := RefAt.set2 hs1 0
  have hB := hB0.next ho1 hx1 ((Only.refl q h w1).set 2 (.int .i64 0)) hs2
  have j2 := ho1.cell k2 hbp hbg
  clear hx1 hs1 hs2 ho1 k1 k2 k3 hbp hbg hbq hbh
  generalize ({ x with arm := some 0 } : St) = X at *
  go_wp2_with fail
  generalize w1.setCell ⟨q, 2, none⟩ (.int .i64 0) = W at *
  clear q1 q2 j2
  clear hB0
  have hcode := hB.code
  have r1 := hB.same.c1
  have r2 := hB.same.c2
  have r3 := hB.same.c3
  obtain ⟨l', up', arm', n'⟩ := X
  cases arm' with
  | none =>
    replace r2 : W.cell? ⟨q, 2, none⟩ = some (.int .i64 (-1)) := r2
    refine (armed_none p g c _ _ _ _ hcode).mono ?_
    rintro e w9 ⟨rfl, rfl⟩
    go_wp2_with fail
    go_quiet ((first | (go_at_call 16; exact Calls.quiet_of_same (power_q _ _ _ _ _ _ hcode)) | (go_at_call 17; exact Calls.quiet_of_same (wroteN_q _ _ _ _ _ _ hcode))))
    go_wp2
    go_ret
    exact ⟨rfl, hB.drewN _⟩
  | some k' =>
    replace r2 : W.cell? ⟨q, 2, none⟩ = some (.int .i64 (k' : Int)) := r2
    have hk1 : ¬ ((k' : Int) < 0) := by omega
    refine (armed_some p g c _ _ _ _ _ hcode).mono ?_
    rintro e w9 ⟨rfl, rfl⟩
    go_wp2_with fail
    go_quiet ((first | (go_at_call 16; exact Calls.quiet_of_same (power_q _ _ _ _ _ _ hcode)) | (go_at_call 17; exact Calls.quiet_of_same (wroteN_q _ _ _ _ _ _ hcode))))
    go_wp2
    go_ret
    exact ⟨rfl, hB.drewN _⟩

set_option maxRecDepth 100000 in
set_option maxHeartbeats 4000000 in
theorem one_arm (N : Nat) (w0 w : World) (p g c q h d : Nat) (x : St) (ya : Nat) (yp : Int) (m : Nat) (ys : ByteArray) (hb : Both N w0 w p g c q h d x) (h5 : ya % 5 = 2) :
    Calls Try.prog 11 #[.pointer (some ⟨p, 0, none⟩), .pointer (some ⟨q, 0, none⟩), .agg #[.int .u8 ya, .int .i64 yp, .int .i64 (m : Int), .string ys]] w (OneEnd N w0 p g c q h d (did x ⟨ya, yp, (m : Int), ys⟩)) := by
  have hd : did x ⟨ya, yp, (m : Int), ys⟩ = { x with arm := some m } := by simp [did, h5]
  rw [hd]
  have t0 : ((ya : Int) % 5 == 0) = false := t_no h5 (by decide)
  have t1 : ((ya : Int) % 5 == 1) = false := t_no h5 (by decide)
  have t2 : ((ya : Int) % 5 == 2) = true := t_yes h5 (by decide)
  have hB0 := hb.alloc (.cells #[.int .u8 ya, .int .i64 yp, .int .i64 (m : Int), .string ys] 31)
  have hc0 := act_cells w ya yp (m : Int) ys
  have k1 := hc0 1 _ rfl
  have k2 := hc0 2 _ rfl
  have k3 := hc0 3 _ rfl
  have hbp : w.heap.size ≠ p := by have := hb.code.plt; omega
  have hbg : w.heap.size ≠ g := by have := hb.code.glt; omega
  have hbq : w.heap.size ≠ q := by have := RefAt.qlt hb.same; omega
  have hbh : w.heap.size ≠ h := by have := hb.same.lt; omega
  clear hc0 hb
  clear hd h5
  go_enter Try.func11, Try.ntmps11
  have HN := Lib.hid (Int.toNat_natCast m)
  have hm0 : ¬ ((m : Int) < 0) := by omega
  go_wp2_with fail
  refine (arm_any p g c _ _ _ hB0.code).mono ?_
  rintro e w1 ⟨rfl, hx1, ho1⟩
  rw [HN.out] at hx1
  have hs1 := (hB0.half ho1).1
  have q1 := hs1.c2
  have q2 := hs1.f2
  have hs2 : SameAt (w1.setCell ⟨q, 2, none⟩ (.int .i64 (m : Int))) q h d { x with arm := some m } := RefAt.set2 hs1 (m : Int)
  have hB := hB0.next ho1 hx1 ((Only.refl q h w1).set 2 (.int .i64 (m : Int))) hs2
  have j2 := ho1.cell k2 hbp hbg
  clear hx1 hs1 hs2 ho1 k1 k2 k3 hbp hbg hbq hbh
  generalize ({ x with arm := some m } : St) = X at *
  go_wp2_with fail
  generalize w1.setCell ⟨q, 2, none⟩ (.int .i64 (m : Int)) = W at *
  clear q1 q2 j2
  clear hB0
  have hcode := hB.code
  have r1 := hB.same.c1
  have r2 := hB.same.c2
  have r3 := hB.same.c3
  obtain ⟨l', up', arm', n'⟩ := X
  cases arm' with
  | none =>
    replace r2 : W.cell? ⟨q, 2, none⟩ = some (.int .i64 (-1)) := r2
    refine (armed_none p g c _ _ _ _ hcode).mono ?_
    rintro e w9 ⟨rfl, rfl⟩
    go_wp2_with fail
    go_quiet ((first | (go_at_call 16; exact Calls.quiet_of_same (power_q _ _ _ _ _ _ hcode)) | (go_at_call 17; exact Calls.quiet_of_same (wroteN_q _ _ _ _ _ _ hcode))))
    go_wp2
    go_ret
    exact ⟨rfl, hB.drewN _⟩
  | some k' =>
    replace r2 : W.cell? ⟨q, 2, none⟩ = some (.int .i64 (k' : Int)) := r2
    have hk1 : ¬ ((k' : Int) < 0) := by omega
    refine (armed_some p g c _ _ _ _ _ hcode).mono ?_
    rintro e w9 ⟨rfl, rfl⟩
    go_wp2_with fail
    go_quiet ((first | (go_at_call 16; exact Calls.quiet_of_same (power_q _ _ _ _ _ _ hcode)) | (go_at_call 17; exact Calls.quiet_of_same (wroteN_q _ _ _ _ _ _ hcode))))
    go_wp2
    go_ret
    exact ⟨rfl, hB.drewN _⟩

set_option maxRecDepth 100000 in
set_option maxHeartbeats 4000000 in
theorem one_read (N : Nat) (w0 w : World) (p g c q h d : Nat) (x : St) (ya : Nat) (yp yn : Int) (ys : ByteArray) (hb : Both N w0 w p g c q h d x) (h5 : ya % 5 = 1) (hp0 : -9223372036854775808 ≤ yp) (hp1 : yp ≤ 9223372036854775807) :
    Calls Try.prog 11 #[.pointer (some ⟨p, 0, none⟩), .pointer (some ⟨q, 0, none⟩), .agg #[.int .u8 ya, .int .i64 yp, .int .i64 yn, .string ys]] w (OneEnd N w0 p g c q h d (did x ⟨ya, yp, yn, ys⟩)) := by
  have hd : did x ⟨ya, yp, yn, ys⟩ = x := by simp [did, h5]
  rw [hd]
  have t0 : ((ya : Int) % 5 == 0) = false := t_no h5 (by decide)
  have t1 : ((ya : Int) % 5 == 1) = true := t_yes h5 (by decide)
  have hB0 := hb.alloc (.cells #[.int .u8 ya, .int .i64 yp, .int .i64 yn, .string ys] 31)
  have hc0 := act_cells w ya yp yn ys
  have k1 := hc0 1 _ rfl
  have k2 := hc0 2 _ rfl
  have k3 := hc0 3 _ rfl
  have hbp : w.heap.size ≠ p := by have := hb.code.plt; omega
  have hbg : w.heap.size ≠ g := by have := hb.code.glt; omega
  have hbq : w.heap.size ≠ q := by have := RefAt.qlt hb.same; omega
  have hbh : w.heap.size ≠ h := by have := hb.same.lt; omega
  clear hc0 hb
  clear hd h5
  go_enter Try.func11, Try.ntmps11
  have h5' := hB0
  obtain ⟨W, hW⟩ : ∃ W, W = w.alloc (.cells #[.int .u8 ya, .int .i64 yp, .int .i64 yn, .string ys] 31) := ⟨_, rfl⟩
  go_wp2_with fail
  rw [← hW] at hB0 k1 k2 k3 h5' ⊢
  clear hW
  refine (read_any p g c x yp yn _ hB0.code hp0 hp1).mono ?_
  rintro e w1 ⟨rfl, rfl⟩
  have c0 := hB0.same.c0
  have HS := Lib.hid hB0.same
  cases hth : there x.l yp yn with
  | false =>
    have hg : got x.l yp yn = ⟨#[]⟩ := got_no hth
    have HT := Lib.hid hth
    clear hth
    rw [hg]
    clear hg
    go_wp2_with fail
    go_quiet ((go_at_call 21; exact Calls.quiet_of_same (rthere_no q h d _ _ _ _ _ _ _ _ HS.out hp0 hp1 HT.out)))
    have hB := hB0.drewN nq
    clear h5' k1 k2 k3 hbp hbg hbq hbh c0 HT HS
    generalize W.drewN nq = W1 at *
    generalize x = X at *
    go_wp2_with fail
    clear hB0
    have hcode := hB.code
    have r1 := hB.same.c1
    have r2 := hB.same.c2
    have r3 := hB.same.c3
    obtain ⟨l', up', arm', n'⟩ := X
    cases arm' with
    | none =>
      replace r2 : W1.cell? ⟨q, 2, none⟩ = some (.int .i64 (-1)) := r2
      refine (armed_none p g c _ _ _ _ hcode).mono ?_
      rintro e w9 ⟨rfl, rfl⟩
      go_wp2_with fail
      go_quiet ((first | (go_at_call 16; exact Calls.quiet_of_same (power_q _ _ _ _ _ _ hcode)) | (go_at_call 17; exact Calls.quiet_of_same (wroteN_q _ _ _ _ _ _ hcode))))
      go_wp2
      go_ret
      exact ⟨rfl, hB.drewN _⟩
    | some k' =>
      replace r2 : W1.cell? ⟨q, 2, none⟩ = some (.int .i64 (k' : Int)) := r2
      have hk1 : ¬ ((k' : Int) < 0) := by omega
      refine (armed_some p g c _ _ _ _ _ hcode).mono ?_
      rintro e w9 ⟨rfl, rfl⟩
      go_wp2_with fail
      go_quiet ((first | (go_at_call 16; exact Calls.quiet_of_same (power_q _ _ _ _ _ _ hcode)) | (go_at_call 17; exact Calls.quiet_of_same (wroteN_q _ _ _ _ _ _ hcode))))
      go_wp2
      go_ret
      exact ⟨rfl, hB.drewN _⟩
  | true =>
    obtain ⟨y1, y2, y3⟩ := there_yes hth
    have hl := hB0.same.hcap
    have hf := hB0.same.few
    have hg : got x.l yp yn = S ((x.l.drop yp.toNat).take yn.toNat) := by unfold got; rw [if_pos hth]
    rw [hg]
    clear hg
    obtain ⟨k, rfl⟩ := Int.eq_ofNat_of_zero_le y1
    have hkl : k ≤ x.l.length := by omega
    have HT := Lib.hid hth
    clear hth h5'
    by_cases hdk : d = k
    · subst hdk
      obtain rfl : yn = 0 := by omega
      have hc := fun j => row_text (w := W.drewN j) (RefAt.drewN hB0.same j).row 0 0 0 (by omega) 36 Try.underlying36
      rw [List.take_zero] at hc
      rw [show (0 : Int).toNat = 0 from rfl, List.take_zero]
      generalize S [] = U at *
      go_wp2_with fail
      go_quiet ((go_at_call 21; exact Calls.quiet_of_same (rthere_yes q h d _ _ _ _ _ _ _ _ HS.out hp0 hp1 HT.out)))
      have hB := hB0.drewN nq
      clear k1 k2 k3 hbp hbg hbq hbh c0 HT HS hc
      generalize W.drewN nq = W1 at *
      generalize x = X at *
      go_wp2_with fail
      clear hB0
      have hcode := hB.code
      have r1 := hB.same.c1
      have r2 := hB.same.c2
      have r3 := hB.same.c3
      obtain ⟨l', up', arm', n'⟩ := X
      cases arm' with
      | none =>
        replace r2 : W1.cell? ⟨q, 2, none⟩ = some (.int .i64 (-1)) := r2
        refine (armed_none p g c _ _ _ _ hcode).mono ?_
        rintro e w9 ⟨rfl, rfl⟩
        go_wp2_with fail
        go_quiet ((first | (go_at_call 16; exact Calls.quiet_of_same (power_q _ _ _ _ _ _ hcode)) | (go_at_call 17; exact Calls.quiet_of_same (wroteN_q _ _ _ _ _ _ hcode))))
        go_wp2
        go_ret
        exact ⟨rfl, hB.drewN _⟩
      | some k' =>
        replace r2 : W1.cell? ⟨q, 2, none⟩ = some (.int .i64 (k' : Int)) := r2
        have hk1 : ¬ ((k' : Int) < 0) := by omega
        refine (armed_some p g c _ _ _ _ _ hcode).mono ?_
        rintro e w9 ⟨rfl, rfl⟩
        go_wp2_with fail
        go_quiet ((first | (go_at_call 16; exact Calls.quiet_of_same (power_q _ _ _ _ _ _ hcode)) | (go_at_call 17; exact Calls.quiet_of_same (wroteN_q _ _ _ _ _ _ hcode))))
        go_wp2
        go_ret
        exact ⟨rfl, hB.drewN _⟩
    · obtain ⟨m, rfl⟩ := Int.eq_ofNat_of_zero_le y2
      have hfit : k + m ≤ x.l.length := by omega
      have hmd : m ≤ d - k := by omega
      have hc := fun j => row_text (w := W.drewN j) (RefAt.drewN hB0.same j).row k m (d - k) hfit 36 Try.underlying36
      rw [Int.toNat_natCast, Int.toNat_natCast]
      generalize S ((x.l.drop k).take m) = U at *
      go_wp2_with fail
      go_quiet ((go_at_call 21; exact Calls.quiet_of_same (rthere_yes q h d _ _ _ _ _ _ _ _ HS.out hp0 hp1 HT.out)))
      have hB := hB0.drewN nq
      clear k1 k2 k3 hbp hbg hbq hbh c0 HT HS hc
      generalize W.drewN nq = W1 at *
      generalize x = X at *
      go_wp2_with fail
      clear hB0
      have hcode := hB.code
      have r1 := hB.same.c1
      have r2 := hB.same.c2
      have r3 := hB.same.c3
      obtain ⟨l', up', arm', n'⟩ := X
      cases arm' with
      | none =>
        replace r2 : W1.cell? ⟨q, 2, none⟩ = some (.int .i64 (-1)) := r2
        refine (armed_none p g c _ _ _ _ hcode).mono ?_
        rintro e w9 ⟨rfl, rfl⟩
        go_wp2_with fail
        go_quiet ((first | (go_at_call 16; exact Calls.quiet_of_same (power_q _ _ _ _ _ _ hcode)) | (go_at_call 17; exact Calls.quiet_of_same (wroteN_q _ _ _ _ _ _ hcode))))
        go_wp2
        go_ret
        exact ⟨rfl, hB.drewN _⟩
      | some k' =>
        replace r2 : W1.cell? ⟨q, 2, none⟩ = some (.int .i64 (k' : Int)) := r2
        have hk1 : ¬ ((k' : Int) < 0) := by omega
        refine (armed_some p g c _ _ _ _ _ hcode).mono ?_
        rintro e w9 ⟨rfl, rfl⟩
        go_wp2_with fail
        go_quiet ((first | (go_at_call 16; exact Calls.quiet_of_same (power_q _ _ _ _ _ _ hcode)) | (go_at_call 17; exact Calls.quiet_of_same (wroteN_q _ _ _ _ _ _ hcode))))
        go_wp2
        go_ret
        exact ⟨rfl, hB.drewN _⟩

set_option maxRecDepth 100000 in
set_option maxHeartbeats 4000000 in
theorem one_write (N : Nat) (w0 w : World) (p g c q h d : Nat) (x : St) (ya : Nat) (yp yn : Int) (ys : ByteArray) (hb : Both N w0 w p g c q h d x) (h5 : ya % 5 = 0) (hp0 : -9223372036854775808 ≤ yp) (hp1 : yp ≤ 9223372036854775807) (hn : x.n ≤ 4611686018427387904) (hk : ∀ k, x.arm = some k → k ≤ 9223372036854775807) :
    Calls Try.prog 11 #[.pointer (some ⟨p, 0, none⟩), .pointer (some ⟨q, 0, none⟩), .agg #[.int .u8 ya, .int .i64 yp, .int .i64 yn, .string ys]] w (OneEnd N w0 p g c q h d (did x ⟨ya, yp, yn, ys⟩)) := by
  have hd : did x ⟨ya, yp, yn, ys⟩ = wrote x yp ys.data.toList := by simp [did, h5]
  rw [hd]
  have t0 : ((ya : Int) % 5 == 0) = true := t_yes h5 (by decide)
  have hB0 := hb.alloc (.cells #[.int .u8 ya, .int .i64 yp, .int .i64 yn, .string ys] 31)
  have hc0 := act_cells w ya yp yn ys
  have k1 := hc0 1 _ rfl
  have k2 := hc0 2 _ rfl
  have k3 := hc0 3 _ rfl
  have hbp : w.heap.size ≠ p := by have := hb.code.plt; omega
  have hbg : w.heap.size ≠ g := by have := hb.code.glt; omega
  have hbq : w.heap.size ≠ q := by have := RefAt.qlt hb.same; omega
  have hbh : w.heap.size ≠ h := by have := hb.same.lt; omega
  clear hc0 hb
  clear hd h5
  go_enter Try.func11, Try.ntmps11
  have hne := hB0
  obtain ⟨W, hW⟩ : ∃ W, W = w.alloc (.cells #[.int .u8 ya, .int .i64 yp, .int .i64 yn, .string ys] 31) := ⟨_, rfl⟩
  go_wp2_with fail
  rw [← hW] at hB0 k1 k2 k3 hne ⊢
  clear hW hne
  generalize w.heap.size = b at *
  replace k1 : W.cell? ⟨b, 1, none⟩ = some (.int .i64 yp) := k1
  replace k3 : W.cell? ⟨b, 3, none⟩ = some (.string ys) := k3
  have HB := Lib.hid hB0.drew
  have HK := Lib.hid (⟨hbp, hbg, hbq, hbh⟩ : b ≠ p ∧ b ≠ g ∧ b ≠ q ∧ b ≠ h)
  clear hbp hbg hbq hbh hB0 k2
  go_region_held3 (fun W' => W'.cell? ⟨b, 1, none⟩ = some (.int .i64 yp) ∧ W'.cell? ⟨b, 3, none⟩ = some (.string ys)) (go_keep)
    (first | (go_at_call 15; (have hS := ‹_ ∧ _›; (with_reducible refine (write_any p g c x yp ys _ HB.out.code hp0 hp1 hn hk).mono ?_); rintro e w1 ⟨rfl, hx1, ho1⟩; have j1 := ho1.cell hS.1 HK.out.1 HK.out.2.1; have j3 := ho1.cell hS.2 HK.out.1 HK.out.2.1; have HX1 := Lib.hid hx1; have HO1 := Lib.hid ho1; have HS1 := Lib.hid (HB.out.half ho1).1; clear hx1 ho1)) | (go_at_call 20; (have hS := ‹_ ∧ _›; (with_reducible refine (rwrite_any q h d x yp ys _ HS1.out hp0 hp1 hn hk).mono ?_); rintro e w2 ⟨rfl, hs2, ho2⟩; have i1 := ho2.cell hS.1 HK.out.2.2.1 HK.out.2.2.2; have i3 := ho2.cell hS.2 HK.out.2.2.1 HK.out.2.2.2; have HB2 := Lib.hid (HB.out.next HO1.out HX1.out ho2 hs2); clear hs2 ho2)))
  have hB := HB2.out
  have hB0 := True.intro
  clear j1 j3 i1 i3 hS HX1 HO1 HS1 HB2 HB HK
  generalize wroteE x yp ys.data.toList = E at *
  generalize wrote x yp ys.data.toList = X at *
  go_wp2_with fail
  clear hB0
  have hcode := hB.code
  have r1 := hB.same.c1
  have r2 := hB.same.c2
  have r3 := hB.same.c3
  obtain ⟨l', up', arm', n'⟩ := X
  cases arm' with
  | none =>
    replace r2 : w2.cell? ⟨q, 2, none⟩ = some (.int .i64 (-1)) := r2
    refine (armed_none p g c _ _ _ _ hcode).mono ?_
    rintro e w9 ⟨rfl, rfl⟩
    go_wp2_with fail
    go_quiet ((first | (go_at_call 16; exact Calls.quiet_of_same (power_q _ _ _ _ _ _ hcode)) | (go_at_call 17; exact Calls.quiet_of_same (wroteN_q _ _ _ _ _ _ hcode))))
    go_wp2
    go_ret
    exact ⟨rfl, hB.drewN _⟩
  | some k' =>
    replace r2 : w2.cell? ⟨q, 2, none⟩ = some (.int .i64 (k' : Int)) := r2
    have hk1 : ¬ ((k' : Int) < 0) := by omega
    refine (armed_some p g c _ _ _ _ _ hcode).mono ?_
    rintro e w9 ⟨rfl, rfl⟩
    go_wp2_with fail
    go_quiet ((first | (go_at_call 16; exact Calls.quiet_of_same (power_q _ _ _ _ _ _ hcode)) | (go_at_call 17; exact Calls.quiet_of_same (wroteN_q _ _ _ _ _ _ hcode))))
    go_wp2
    go_ret
    exact ⟨rfl, hB.drewN _⟩

/-- What an armed store holds is a number of 64 bits. -/
def ArmOk (x : St) : Prop := ∀ k, x.arm = some k → k ≤ 9223372036854775807

theorem one_any (N : Nat) (w0 w : World) (p g c q h d : Nat) (x : St) (y : Ac) (hb : Both N w0 w p g c q h d x) (hn : x.n ≤ 4611686018427387904) (hk : ArmOk x) (hp0 : -9223372036854775808 ≤ y.p) (hp1 : y.p ≤ 9223372036854775807) :
    Calls Try.prog 11 #[.pointer (some ⟨p, 0, none⟩), .pointer (some ⟨q, 0, none⟩), .agg #[.int .u8 y.a, .int .i64 y.p, .int .i64 y.n, .string y.s]] w (OneEnd N w0 p g c q h d (did x y)) := by
  obtain ⟨ya, yp, yn, ys⟩ := y
  rcases case5 ya with h5 | h5 | h5 | h5 | h5
  · exact one_write N w0 w p g c q h d x ya yp yn ys hb h5 hp0 hp1 hn hk
  · exact one_read N w0 w p g c q h d x ya yp yn ys hb h5 hp0 hp1
  · rcases Int.lt_or_le yn 0 with h0 | h0
    · exact one_arm0 N w0 w p g c q h d x ya yp yn ys hb h5 h0
    · obtain ⟨m, rfl⟩ := Int.eq_ofNat_of_zero_le h0
      exact one_arm N w0 w p g c q h d x ya yp m ys hb h5
  · exact one_off N w0 w p g c q h d x ya yp yn ys hb h5
  · exact one_on N w0 w p g c q h d x ya yp yn ys hb h5

theorem wrote_arm {x : St} (a : Int) (s : List UInt8) (hx : ArmOk x) : ArmOk (wrote x a s) := by
  intro k hk
  unfold wrote at hk
  split at hk
  · exact hx k hk
  · split at hk
    · exact hx k hk
    · split at hk
      · cases hk
      · rename_i j hj
        have := hx j hj
        split at hk
        · cases hk
        · injection hk with hk
          omega

theorem did_arm {x : St} {y : Ac} (hx : ArmOk x) (hn : y.n ≤ 9223372036854775807) : ArmOk (did x y) := by
  unfold did
  split
  · exact wrote_arm _ _ hx
  · split
    · exact hx
    · split
      · intro k hk
        injection hk with hk
        omega
      · split
        · intro k hk
          cases hk
        · exact hx

theorem did_n (x : St) (y : Ac) : (did x y).n ≤ x.n + y.s.size := by
  unfold did
  split
  · have := wrote_n x y.p y.s.data.toList
    rw [size_list] at this
    exact this
  · repeat' split
    all_goals (show x.n ≤ _; omega)

end Go.Proofs.Ytkokhmjcpnoklaa.Sto
