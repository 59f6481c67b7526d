/-
  The code's commit and boot, walked: they answer as is asked of them. Conditions: a store that has written few bytes.
-/
import Derived.Test.YtahmngmbgbcmhaaDoorRtPut
namespace Go.Proofs.YtahmngmbgbcmhaaDoor.Ret
open Go.RowKit
open Oct
open Sto (St CodeAt Only)

/-- What the code's inner commit leaves. -/
def ComEnd (p g cap : Nat) (v : Value) (e : Int) (x : St) (w : World) (en : Ending) (w' : World) : Prop :=
  en = .returned (.tuple #[v, .int .i64 e]) ∧ CodeAt w' p g cap x ∧ Only p g w w'

/-- Block b holds three values, which may be written. -/
structure BoxAt (w : World) (b : Nat) (x y z : Value) : Prop where
  c0 : w.cell? ⟨b, 0, none⟩ = some x
  c1 : w.cell? ⟨b, 1, none⟩ = some y
  c2 : w.cell? ⟨b, 2, none⟩ = some z
  f0 : w.frozen? ⟨b, 0, none⟩ = false
  f1 : w.frozen? ⟨b, 1, none⟩ = false
  f2 : w.frozen? ⟨b, 2, none⟩ = false
theorem BoxAt.of {w w' : World} {b : Nat} {x y z : Value} (h : BoxAt w b x y z) (hb : w'.heap[b]? = w.heap[b]?) : BoxAt w' b x y z :=
  ⟨(World.cell?_of_block (a := ⟨b, 0, none⟩) hb).trans h.c0, (World.cell?_of_block (a := ⟨b, 1, none⟩) hb).trans h.c1, (World.cell?_of_block (a := ⟨b, 2, none⟩) hb).trans h.c2,
    (World.frozen?_of_block (a := ⟨b, 0, none⟩) hb).trans h.f0, (World.frozen?_of_block (a := ⟨b, 1, none⟩) hb).trans h.f1, (World.frozen?_of_block (a := ⟨b, 2, none⟩) hb).trans h.f2⟩
theorem BoxAt.lt {w : World} {b : Nat} {x y z : Value} (h : BoxAt w b x y z) : b < w.heap.size := World.block_lt_of_cell? w ⟨b, 0, none⟩ h.c0
theorem BoxAt.below {w w' : World} {b : Nat} {x y z : Value} (h : BoxAt w b x y z) (hb : Below w.heap.size w w') : BoxAt w' b x y z := h.of (hb.block b h.lt)
theorem BoxAt.only {w w' : World} {p g b : Nat} {x y z : Value} (h : BoxAt w b x y z) (hb : Only p g w w') (h1 : b ≠ p) (h2 : b ≠ g) : BoxAt w' b x y z := h.of (hb.block b h.lt h1 h2)
theorem BoxAt.new (w : World) (x y z : Value) (t : TypeId) : BoxAt (w.alloc (.cells #[x, y, z] t)) w.heap.size x y z := by
  have hc : ∀ j v, #[x, y, z][j]? = some v → (w.alloc (.cells #[x, y, z] t)).cell? ⟨w.heap.size, j, none⟩ = some v := by
    intro j v hv
    rw [cell_of_row _ _ j _ t (0, 0) (heap_alloc_new w _)]
    exact hv
  exact ⟨hc 0 _ rfl, hc 1 _ rfl, hc 2 _ rfl, by simp [go_sem], by simp [go_sem], by simp [go_sem]⟩

/-- Behind what is stored at the end. -/
theorem fin_set {p g cap N : Nat} {x : St} {w W : World} (hx : CodeAt W p g cap x) (ho : Only p g w W) (h1 : p < N) (h2 : g < N) (hN : w.heap.size = N) (a b c : Value) :
    CodeAt (((W.setCell ⟨N, 0, none⟩ a).setCell ⟨N, 1, none⟩ b).setCell ⟨N, 2, none⟩ c) p g cap x ∧ Only p g w (((W.setCell ⟨N, 0, none⟩ a).setCell ⟨N, 1, none⟩ b).setCell ⟨N, 2, none⟩ c) := by
  have hb : ∀ k, k ≠ N → (((W.setCell ⟨N, 0, none⟩ a).setCell ⟨N, 1, none⟩ b).setCell ⟨N, 2, none⟩ c).heap[k]? = W.heap[k]? := fun k hk => by
    rw [set_block _ _ _ _ _ hk, set_block _ _ _ _ _ hk, set_block _ _ _ _ _ hk]
  refine ⟨?_, ?_⟩
  · obtain ⟨y, hs, hy⟩ := hx
    exact ⟨y, hs.kept (hb p (by omega)) (hb g (by omega)), hy⟩
  · exact ⟨ho.os, ho.tape, ho.output, by simp [World.setCell]; exact ho.size, fun k hk k1 k2 => (hb k (by omega)).trans (ho.block k hk k1 k2)⟩
theorem fin_alloc {p g cap : Nat} {x : St} {w W : World} (h : CodeAt W p g cap x ∧ Only p g w W) (o : Obj) : CodeAt (W.alloc o) p g cap x ∧ Only p g w (W.alloc o) :=
  ⟨h.1.below ((Below.refl W.heap.size W).alloc (Nat.le_refl _) o) h.1.plt h.1.glt, h.2.trans (only_of ((Below.refl W.heap.size W).alloc (Nat.le_refl _) o))⟩

set_option maxRecDepth 100000 in
set_option maxHeartbeats 4000000 in
theorem com_long (p g cap : Nat) (x : St) (Q I : Int) (t : ByteArray) (K : Int) (B : Bool) (inc : Nat) (d : ByteArray) (w : World) (hx : CodeAt w p g cap x)
    (hn : ∀ w, CodeAt w p g cap x → Calls Tryd.prog 28 #[.pointer (some ⟨p, 0, none⟩)] w fun e w' => e = .returned (.tuple #[.agg #[.int .u32 Q, .int .u16 I, .string t], .int .i64 K, .bool B]) ∧ Below w.heap.size w w')
    (hm : d.size ≤ maxLen) (hd : 64 < d.size) :
    Calls Tryd.prog 27 #[.pointer (some ⟨p, 0, none⟩), .int .u16 inc, .string d] w (ComEnd p g cap (.agg #[.int .u32 0, .int .u16 0, .string ⟨#[]⟩]) 2 x w) := by
  have hp := hx.plt
  have hg := hx.glt
  have HX := Lib.hid hx
  have HN := Lib.hid hn
  unfold maxLen at hm
  have hd2 : (64 : Int) < d.size := by omega
  clear hd
  clear hx hn
  go_enter Tryd.func27, Tryd.ntmps27
  have hL := (Below.refl w.heap.size w).alloc (Nat.le_refl _) (Obj.cells #[Value.int IntKind.u32 0, Value.int IntKind.u16 0, Value.string { data := #[] }] 39)
  have hz := BoxAt.new w (.int .u32 0) (.int .u16 0) (.string ⟨#[]⟩) 39
  have HZ := Lib.hid (⟨only_of (p := p) (g := g) hL, hz, HX.out.below hL hp hg⟩ : _ ∧ _ ∧ _)
  clear hL hz HX
  go_wp2_with fail
  obtain ⟨hL, hz, hx⟩ := HZ.out
  clear HZ
  generalize w.alloc (Obj.cells #[Value.int IntKind.u32 0, Value.int IntKind.u16 0, Value.string { data := #[] }] 39) = W0 at *
  generalize hNN : w.heap.size = N at *
  have HNN := Lib.hid hNN
  clear hNN
  refine (HN.out _ hx).mono ?_
  rintro e w1 ⟨rfl, hb1⟩
  have hz1 := hz.below hb1
  have hL1 := hL.trans (only_of hb1)
  have hx1 := hx.below hb1 hx.plt hx.glt
  have hlt : N < w1.heap.size := hz1.lt
  clear hb1 hz hL hx HN
  have z0 := hz1.c0
  have z1 := hz1.c1
  have z2 := hz1.c2
  have z3 := hz1.f0
  have z4 := hz1.f1
  have z5 := hz1.f2
  have HF := Lib.hid (fun a b c => fin_set hx1 hL1 hp hg HNN.out a b c)
  clear hz1 hL1 hx1
  go_wp2
  exact bodyPost_ret (v := .tuple #[.agg #[.int .u32 0, .int .u16 0, .string ⟨#[]⟩], .int .i64 2]) (by simp [results, Tryd.results27, go_sem, *]) rfl ⟨rfl, fin_alloc (HF.out _ _ _) _⟩

set_option maxRecDepth 100000 in
set_option maxHeartbeats 4000000 in
theorem com_sat (p g cap : Nat) (x : St) (Q I : Int) (t : ByteArray) (K : Int) (B : Bool) (inc : Nat) (d : ByteArray) (w : World) (hx : CodeAt w p g cap x)
    (hn : ∀ w, CodeAt w p g cap x → Calls Tryd.prog 28 #[.pointer (some ⟨p, 0, none⟩)] w fun e w' => e = .returned (.tuple #[.agg #[.int .u32 Q, .int .u16 I, .string t], .int .i64 K, .bool B]) ∧ Below w.heap.size w w')
    (hd : d.size ≤ 64) (hq : Q = 4294967295) :
    Calls Tryd.prog 27 #[.pointer (some ⟨p, 0, none⟩), .int .u16 inc, .string d] w (ComEnd p g cap (.agg #[.int .u32 0, .int .u16 0, .string ⟨#[]⟩]) 13 x w) := by
  have hp := hx.plt
  have hg := hx.glt
  have HX := Lib.hid hx
  have HN := Lib.hid hn
  have hd2 : (d.size : Int) ≤ 64 := by omega
  clear hd
  clear hx hn
  go_enter Tryd.func27, Tryd.ntmps27
  have hL := (Below.refl w.heap.size w).alloc (Nat.le_refl _) (Obj.cells #[Value.int IntKind.u32 0, Value.int IntKind.u16 0, Value.string { data := #[] }] 39)
  have hz := BoxAt.new w (.int .u32 0) (.int .u16 0) (.string ⟨#[]⟩) 39
  have HZ := Lib.hid (⟨only_of (p := p) (g := g) hL, hz, HX.out.below hL hp hg⟩ : _ ∧ _ ∧ _)
  clear hL hz HX
  go_wp2_with fail
  obtain ⟨hL, hz, hx⟩ := HZ.out
  clear HZ
  generalize w.alloc (Obj.cells #[Value.int IntKind.u32 0, Value.int IntKind.u16 0, Value.string { data := #[] }] 39) = W0 at *
  generalize hNN : w.heap.size = N at *
  have HNN := Lib.hid hNN
  clear hNN
  refine (HN.out _ hx).mono ?_
  rintro e w1 ⟨rfl, hb1⟩
  have hz1 := hz.below hb1
  have hL1 := hL.trans (only_of hb1)
  have hx1 := hx.below hb1 hx.plt hx.glt
  have hlt : N < w1.heap.size := hz1.lt
  clear hb1 hz hL hx HN
  have z0 := hz1.c0
  have z1 := hz1.c1
  have z2 := hz1.c2
  have z3 := hz1.f0
  have z4 := hz1.f1
  have z5 := hz1.f2
  have HF := Lib.hid (fun a b c => fin_set hx1 hL1 hp hg HNN.out a b c)
  clear hz1 hL1 hx1
  go_wp2
  exact bodyPost_ret (v := .tuple #[.agg #[.int .u32 0, .int .u16 0, .string ⟨#[]⟩], .int .i64 13]) (by simp [results, Tryd.results27, go_sem, *]) rfl ⟨rfl, fin_alloc (HF.out _ _ _) _⟩

set_option maxRecDepth 100000 in
set_option maxHeartbeats 4000000 in
theorem com_short (p g cap : Nat) (x : St) (Q I : Int) (t : ByteArray) (K : Int) (B : Bool) (inc : Nat) (d : ByteArray) (w : World) (hx : CodeAt w p g cap x)
    (hn : ∀ w, CodeAt w p g cap x → Calls Tryd.prog 28 #[.pointer (some ⟨p, 0, none⟩)] w fun e w' => e = .returned (.tuple #[.agg #[.int .u32 Q, .int .u16 I, .string t], .int .i64 K, .bool B]) ∧ Below w.heap.size w w')
    (hd : d.size ≤ 64) (hq : ¬ Q = 4294967295) (hl : (x.l.length : Int) < 148) :
    Calls Tryd.prog 27 #[.pointer (some ⟨p, 0, none⟩), .int .u16 inc, .string d] w (ComEnd p g cap (.agg #[.int .u32 0, .int .u16 0, .string ⟨#[]⟩]) 1 x w) := by
  have hp := hx.plt
  have hg := hx.glt
  have HX := Lib.hid hx
  have HN := Lib.hid hn
  have hd2 : (d.size : Int) ≤ 64 := by omega
  clear hd
  clear hx hn
  go_enter Tryd.func27, Tryd.ntmps27
  have hL := (Below.refl w.heap.size w).alloc (Nat.le_refl _) (Obj.cells #[Value.int IntKind.u32 0, Value.int IntKind.u16 0, Value.string { data := #[] }] 39)
  have hz := BoxAt.new w (.int .u32 0) (.int .u16 0) (.string ⟨#[]⟩) 39
  have HZ := Lib.hid (⟨only_of (p := p) (g := g) hL, hz, HX.out.below hL hp hg⟩ : _ ∧ _ ∧ _)
  clear hL hz HX
  go_wp2_with fail
  obtain ⟨hL, hz, hx⟩ := HZ.out
  clear HZ
  generalize w.alloc (Obj.cells #[Value.int IntKind.u32 0, Value.int IntKind.u16 0, Value.string { data := #[] }] 39) = W0 at *
  generalize hNN : w.heap.size = N at *
  have HNN := Lib.hid hNN
  clear hNN
  refine (HN.out _ hx).mono ?_
  rintro e w1 ⟨rfl, hb1⟩
  have hz1 := hz.below hb1
  have hL1 := hL.trans (only_of hb1)
  have hx1 := hx.below hb1 hx.plt hx.glt
  have hlt : N < w1.heap.size := hz1.lt
  clear hb1 hz hL hx HN
  have hal := (Below.refl w1.heap.size w1).alloc (Nat.le_refl _) (Obj.cells #[Value.int IntKind.u32 Q, Value.int IntKind.u16 I, Value.string t] 39)
  have hr1 := BoxAt.new w1 (.int .u32 Q) (.int .u16 I) (.string t) 39
  have HZ := Lib.hid (⟨hz1.below hal, hL1.trans (only_of hal), hr1, hx1.below hal hx1.plt hx1.glt⟩ : _ ∧ _ ∧ _ ∧ _)
  clear hz1 hL1 hal hr1 hx1
  go_wp2_with fail
  obtain ⟨hz, hL, hr, hx⟩ := HZ.out
  clear HZ
  generalize w1.alloc (Obj.cells #[Value.int IntKind.u32 Q, Value.int IntKind.u16 I, Value.string t] 39) = W1 at *
  generalize w1.heap.size = b at *
  refine (Sto.len_any p g cap x _ hx).mono ?_
  rintro e w2 ⟨rfl, rfl⟩
  go_wp2_with fail
  refine (size_any _).mono ?_
  rintro e w2 ⟨rfl, rfl⟩
  have z0 := hz.c0
  have z1 := hz.c1
  have z2 := hz.c2
  have z3 := hz.f0
  have z4 := hz.f1
  have z5 := hz.f2
  have HF := Lib.hid (fun a b c => fin_set hx hL hp hg HNN.out a b c)
  clear hz hL hx hr
  go_wp2
  exact bodyPost_ret (v := .tuple #[.agg #[.int .u32 0, .int .u16 0, .string ⟨#[]⟩], .int .i64 1]) (by simp [results, Tryd.results27, go_sem, *]) rfl ⟨rfl, HF.out _ _ _⟩

set_option maxRecDepth 100000 in
set_option maxHeartbeats 4000000 in
theorem com_fell (p g cap : Nat) (x y : St) (Q I : Int) (t : ByteArray) (K : Int) (B : Bool) (inc : Nat) (d : ByteArray) (E : Int) (w : World) (hx : CodeAt w p g cap x)
    (hn : ∀ w, CodeAt w p g cap x → Calls Tryd.prog 28 #[.pointer (some ⟨p, 0, none⟩)] w fun e w' => e = .returned (.tuple #[.agg #[.int .u32 Q, .int .u16 I, .string t], .int .i64 K, .bool B]) ∧ Below w.heap.size w w')
    (hd : d.size ≤ 64) (hq1 : Q + 1 ≤ 4294967295) (hq0 : 0 ≤ Q) (hl : ¬ (x.l.length : Int) < 148)
    (hP : ∀ w, CodeAt w p g cap x → Calls Tryd.prog 34 #[.pointer (some ⟨p, 0, none⟩), .int .i64 K, .agg #[.int .u32 (Q + 1), .int .u16 inc, .string d]] w (PutEnd p g cap E y w)) (hE : ¬ E = 0) :
    Calls Tryd.prog 27 #[.pointer (some ⟨p, 0, none⟩), .int .u16 inc, .string d] w (ComEnd p g cap (.agg #[.int .u32 0, .int .u16 0, .string ⟨#[]⟩]) E y w) := by
  have hp := hx.plt
  have hg := hx.glt
  have HX := Lib.hid hx
  have HN := Lib.hid hn
  have hd2 : (d.size : Int) ≤ 64 := by omega
  clear hd
  have HP := Lib.hid hP
  have hw : IntKind.u32.wrap (Q + 1) = Q + 1 := IntWalk.u32_in _ (by omega)
  clear hP
  clear hx hn
  go_enter Tryd.func27, Tryd.ntmps27
  have hL := (Below.refl w.heap.size w).alloc (Nat.le_refl _) (Obj.cells #[Value.int IntKind.u32 0, Value.int IntKind.u16 0, Value.string { data := #[] }] 39)
  have hz := BoxAt.new w (.int .u32 0) (.int .u16 0) (.string ⟨#[]⟩) 39
  have HZ := Lib.hid (⟨only_of (p := p) (g := g) hL, hz, HX.out.below hL hp hg⟩ : _ ∧ _ ∧ _)
  clear hL hz HX
  go_wp2_with fail
  obtain ⟨hL, hz, hx⟩ := HZ.out
  clear HZ
  generalize w.alloc (Obj.cells #[Value.int IntKind.u32 0, Value.int IntKind.u16 0, Value.string { data := #[] }] 39) = W0 at *
  generalize hNN : w.heap.size = N at *
  have HNN := Lib.hid hNN
  clear hNN
  refine (HN.out _ hx).mono ?_
  rintro e w1 ⟨rfl, hb1⟩
  have hz1 := hz.below hb1
  have hL1 := hL.trans (only_of hb1)
  have hx1 := hx.below hb1 hx.plt hx.glt
  have hlt : N < w1.heap.size := hz1.lt
  clear hb1 hz hL hx HN
  have hal := (Below.refl w1.heap.size w1).alloc (Nat.le_refl _) (Obj.cells #[Value.int IntKind.u32 Q, Value.int IntKind.u16 I, Value.string t] 39)
  have hr1 := BoxAt.new w1 (.int .u32 Q) (.int .u16 I) (.string t) 39
  have HZ := Lib.hid (⟨hz1.below hal, hL1.trans (only_of hal), hr1, hx1.below hal hx1.plt hx1.glt⟩ : _ ∧ _ ∧ _ ∧ _)
  clear hz1 hL1 hal hr1 hx1
  go_wp2_with fail
  obtain ⟨hz, hL, hr, hx⟩ := HZ.out
  clear HZ
  generalize w1.alloc (Obj.cells #[Value.int IntKind.u32 Q, Value.int IntKind.u16 I, Value.string t] 39) = W1 at *
  generalize w1.heap.size = b at *
  refine (Sto.len_any p g cap x _ hx).mono ?_
  rintro e w2 ⟨rfl, rfl⟩
  go_wp2_with fail
  refine (size_any _).mono ?_
  rintro e w2 ⟨rfl, rfl⟩
  have r0 := hr.c0
  have hal := (Below.refl W1.heap.size W1).alloc (Nat.le_refl _) (Obj.cells #[Value.int IntKind.u32 (Q + 1), Value.int IntKind.u16 inc, Value.string d] 39)
  have hr3 := BoxAt.new W1 (.int .u32 (Q + 1)) (.int .u16 inc) (.string d) 39
  have HZ := Lib.hid (⟨hz.below hal, hL.trans (only_of hal), hr3, hx.below hal hx.plt hx.glt, Nat.lt_trans hlt hr.lt⟩ : _ ∧ _ ∧ _ ∧ _ ∧ _)
  clear hz hL hal hr3 hx hr
  go_wp2_with fail
  obtain ⟨hz, hL, hr, hx, hlt3⟩ := HZ.out
  clear HZ r0
  generalize W1.alloc (Obj.cells #[Value.int IntKind.u32 (Q + 1), Value.int IntKind.u16 inc, Value.string d] 39) = W3 at *
  generalize W1.heap.size = c at *
  refine (HP.out _ hx).mono ?_
  rintro e w4 ⟨rfl, hx4, ho4⟩
  have hz4 := hz.only ho4 (by omega) (by omega)
  have hr4 := hr.only ho4 (by omega) (by omega)
  have hL4 := hL.trans ho4
  have hcl : c < w4.heap.size := hr4.lt
  have q0 := hr4.c0
  have q1 := hr4.c1
  have q2 := hr4.c2
  have z0 := hz4.c0
  have z1 := hz4.c1
  have z2 := hz4.c2
  have z3 := hz4.f0
  have z4 := hz4.f1
  have z5 := hz4.f2
  have HF := Lib.hid (fun a b c => fin_set hx4 hL4 hp hg HNN.out a b c)
  clear hz hL hx hr hz4 hr4 hL4 hx4 ho4 HP
  go_wp2
  exact bodyPost_ret (v := .tuple #[.agg #[.int .u32 0, .int .u16 0, .string ⟨#[]⟩], .int .i64 E]) (by simp [results, Tryd.results27, go_sem, *]) rfl ⟨rfl, HF.out _ _ _⟩

set_option maxRecDepth 100000 in
set_option maxHeartbeats 4000000 in
theorem com_done (p g cap : Nat) (x y : St) (Q I : Int) (t : ByteArray) (K : Int) (B : Bool) (inc : Nat) (d : ByteArray) (w : World) (hx : CodeAt w p g cap x)
    (hn : ∀ w, CodeAt w p g cap x → Calls Tryd.prog 28 #[.pointer (some ⟨p, 0, none⟩)] w fun e w' => e = .returned (.tuple #[.agg #[.int .u32 Q, .int .u16 I, .string t], .int .i64 K, .bool B]) ∧ Below w.heap.size w w')
    (hd : d.size ≤ 64) (hq1 : Q + 1 ≤ 4294967295) (hq0 : 0 ≤ Q) (hl : ¬ (x.l.length : Int) < 148)
    (hP : ∀ w, CodeAt w p g cap x → Calls Tryd.prog 34 #[.pointer (some ⟨p, 0, none⟩), .int .i64 K, .agg #[.int .u32 (Q + 1), .int .u16 inc, .string d]] w (PutEnd p g cap 0 y w)) :
    Calls Tryd.prog 27 #[.pointer (some ⟨p, 0, none⟩), .int .u16 inc, .string d] w (ComEnd p g cap (.agg #[.int .u32 (Q + 1), .int .u16 inc, .string d]) 0 y w) := by
  have hp := hx.plt
  have hg := hx.glt
  have HX := Lib.hid hx
  have HN := Lib.hid hn
  have hd2 : (d.size : Int) ≤ 64 := by omega
  clear hd
  have HP := Lib.hid hP
  have hw : IntKind.u32.wrap (Q + 1) = Q + 1 := IntWalk.u32_in _ (by omega)
  clear hP
  clear hx hn
  go_enter Tryd.func27, Tryd.ntmps27
  have hL := (Below.refl w.heap.size w).alloc (Nat.le_refl _) (Obj.cells #[Value.int IntKind.u32 0, Value.int IntKind.u16 0, Value.string { data := #[] }] 39)
  have hz := BoxAt.new w (.int .u32 0) (.int .u16 0) (.string ⟨#[]⟩) 39
  have HZ := Lib.hid (⟨only_of (p := p) (g := g) hL, hz, HX.out.below hL hp hg⟩ : _ ∧ _ ∧ _)
  clear hL hz HX
  go_wp2_with fail
  obtain ⟨hL, hz, hx⟩ := HZ.out
  clear HZ
  generalize w.alloc (Obj.cells #[Value.int IntKind.u32 0, Value.int IntKind.u16 0, Value.string { data := #[] }] 39) = W0 at *
  generalize hNN : w.heap.size = N at *
  have HNN := Lib.hid hNN
  clear hNN
  refine (HN.out _ hx).mono ?_
  rintro e w1 ⟨rfl, hb1⟩
  have hz1 := hz.below hb1
  have hL1 := hL.trans (only_of hb1)
  have hx1 := hx.below hb1 hx.plt hx.glt
  have hlt : N < w1.heap.size := hz1.lt
  clear hb1 hz hL hx HN
  have hal := (Below.refl w1.heap.size w1).alloc (Nat.le_refl _) (Obj.cells #[Value.int IntKind.u32 Q, Value.int IntKind.u16 I, Value.string t] 39)
  have hr1 := BoxAt.new w1 (.int .u32 Q) (.int .u16 I) (.string t) 39
  have HZ := Lib.hid (⟨hz1.below hal, hL1.trans (only_of hal), hr1, hx1.below hal hx1.plt hx1.glt⟩ : _ ∧ _ ∧ _ ∧ _)
  clear hz1 hL1 hal hr1 hx1
  go_wp2_with fail
  obtain ⟨hz, hL, hr, hx⟩ := HZ.out
  clear HZ
  generalize w1.alloc (Obj.cells #[Value.int IntKind.u32 Q, Value.int IntKind.u16 I, Value.string t] 39) = W1 at *
  generalize w1.heap.size = b at *
  refine (Sto.len_any p g cap x _ hx).mono ?_
  rintro e w2 ⟨rfl, rfl⟩
  go_wp2_with fail
  refine (size_any _).mono ?_
  rintro e w2 ⟨rfl, rfl⟩
  have r0 := hr.c0
  have hal := (Below.refl W1.heap.size W1).alloc (Nat.le_refl _) (Obj.cells #[Value.int IntKind.u32 (Q + 1), Value.int IntKind.u16 inc, Value.string d] 39)
  have hr3 := BoxAt.new W1 (.int .u32 (Q + 1)) (.int .u16 inc) (.string d) 39
  have HZ := Lib.hid (⟨hz.below hal, hL.trans (only_of hal), hr3, hx.below hal hx.plt hx.glt, Nat.lt_trans hlt hr.lt⟩ : _ ∧ _ ∧ _ ∧ _ ∧ _)
  clear hz hL hal hr3 hx hr
  go_wp2_with fail
  obtain ⟨hz, hL, hr, hx, hlt3⟩ := HZ.out
  clear HZ r0
  generalize W1.alloc (Obj.cells #[Value.int IntKind.u32 (Q + 1), Value.int IntKind.u16 inc, Value.string d] 39) = W3 at *
  generalize W1.heap.size = c at *
  refine (HP.out _ hx).mono ?_
  rintro e w4 ⟨rfl, hx4, ho4⟩
  have hz4 := hz.only ho4 (by omega) (by omega)
  have hr4 := hr.only ho4 (by omega) (by omega)
  have hL4 := hL.trans ho4
  have hcl : c < w4.heap.size := hr4.lt
  have q0 := hr4.c0
  have q1 := hr4.c1
  have q2 := hr4.c2
  have z0 := hz4.c0
  have z1 := hz4.c1
  have z2 := hz4.c2
  have z3 := hz4.f0
  have z4 := hz4.f1
  have z5 := hz4.f2
  have HF := Lib.hid (fun a b c => fin_set hx4 hL4 hp hg HNN.out a b c)
  clear hz hL hx hr hz4 hr4 hL4 hx4 ho4 HP
  go_wp2
  exact bodyPost_ret (v := .tuple #[.agg #[.int .u32 (Q + 1), .int .u16 inc, .string d], .int .i64 0]) (by simp [results, Tryd.results27, go_sem, *]) rfl ⟨rfl, HF.out _ _ _⟩

end Go.Proofs.YtahmngmbgbcmhaaDoor.Ret
