/-
  The code's newest slot, walked by case. Conditions: none.
-/
import Derived.Test.YtahmngmbgbcmhaaDoorRtRd
namespace Go.Proofs.YtahmngmbgbcmhaaDoor.Ret
open Go.RowKit
open Oct
open Sto (St CodeAt Only)

def CodeNew (r : Rc) (k : Int) (b : Bool) (w : World) (e : Ending) (w' : World) : Prop :=
  e = .returned (.tuple #[.agg #[.int .u32 r.q, .int .u16 r.i, .string r.d], .int .i64 k, .bool b]) ∧ Below w.heap.size w w'

theorem size_any (w : World) : Calls Tryd.prog 13 #[] w fun e w' => e = .returned (.int .i64 148) ∧ w = w' := by
  go_enter Tryd.func13, Tryd.ntmps13
  go_wp2
  go_ret
  exact ⟨rfl, rfl⟩
theorem cost_any (w : World) : Calls Tryd.prog 18 #[] w fun e w' => e = .returned (.int .i64 75) ∧ w = w' := by
  go_enter Tryd.func18, Tryd.ntmps18
  go_wp2
  go_ret
  exact ⟨rfl, rfl⟩

set_option maxRecDepth 100000 in
set_option maxHeartbeats 4000000 in
theorem newest_short (p g cap : Nat) (x : St) (w : World) (hx : CodeAt w p g cap x) (h148 : ¬ 148 ≤ x.l.length) :
    Calls Tryd.prog 28 #[.pointer (some ⟨p, 0, none⟩)] w (CodeNew Rc.zero 0 false w) := by
  have hp := hx.plt
  have hg := hx.glt
  have HX := Lib.hid hx
  have hnot : (x.l.length : Int) < 148 := by omega
  clear hx h148
  go_enter Tryd.func28, Tryd.ntmps28
  have hL := (Below.refl w.heap.size w).alloc (Nat.le_refl _) (Obj.cells #[Value.int IntKind.u32 0, Value.int IntKind.u16 0, Value.string { data := #[] }] 39)
  have hz : RecAt _ w.heap.size 0 0 ⟨#[]⟩ := RecAt.new w 0 0 ⟨#[]⟩ 39
  have HZ := Lib.hid (⟨hL, hz, HX.out.below hL hp hg⟩ : _ ∧ _ ∧ _)
  clear hL hz HX
  go_wp2_with fail
  obtain ⟨hL, hz, hx⟩ := HZ.out
  clear HZ
  generalize w.alloc (Obj.cells #[Value.int IntKind.u32 0, Value.int IntKind.u16 0, Value.string { data := #[] }] 39) = W0 at *
  generalize hNN : w.heap.size = N at *
  have HNN := Lib.hid hNN
  clear hNN hp hg
  refine (Sto.len_any p g cap x _ hx).mono ?_
  rintro e w1 ⟨rfl, rfl⟩
  go_wp2_with fail
  refine (size_any _).mono ?_
  rintro e w1 ⟨rfl, rfl⟩
  have z0 := hz.c0
  have z1 := hz.c1
  have z2 := hz.c2
  have z3 := hz.f0
  have z4 := hz.f1
  have z5 := hz.f2
  have HL := Lib.hid hL
  clear hz hL hx
  go_wp2
  exact bodyPost_ret (v := .tuple #[.agg #[.int .u32 0, .int .u16 0, .string ⟨#[]⟩], .int .i64 0, .bool false]) (by simp [results, Tryd.results28, go_sem, *]) rfl ⟨rfl, by rw [HNN.out]; exact ((HL.out.setCell (p := ⟨N, 0, none⟩) (Nat.le_refl _) _).setCell (p := ⟨N, 1, none⟩) (Nat.le_refl _) _).setCell (p := ⟨N, 2, none⟩) (Nat.le_refl _) _⟩

set_option maxRecDepth 100000 in
set_option maxHeartbeats 4000000 in
theorem newest_ff (p g cap : Nat) (x : St) (w : World) (A B : Rc) (hx : CodeAt w p g cap x) (h148 : 148 ≤ x.l.length)
    (hA : ∀ w, CodeAt w p g cap x → Calls Tryd.prog 35 #[.pointer (some ⟨p, 0, none⟩), .int .i64 0] w (SlotRead A false w))
    (hB : ∀ w, CodeAt w p g cap x → Calls Tryd.prog 35 #[.pointer (some ⟨p, 0, none⟩), .int .i64 74] w (SlotRead B false w)) :
    Calls Tryd.prog 28 #[.pointer (some ⟨p, 0, none⟩)] w (CodeNew Rc.zero 0 false w) := by
  have hp := hx.plt
  have hg := hx.glt
  have HX := Lib.hid hx
  have HA := Lib.hid hA
  have HB := Lib.hid hB
  have hnot : ¬ (x.l.length : Int) < 148 := by omega
  obtain ⟨A0, A1, A2⟩ := A
  obtain ⟨B0, B1, B2⟩ := B

  clear hx hA hB h148
  go_enter Tryd.func28, Tryd.ntmps28
  have hL := (Below.refl w.heap.size w).alloc (Nat.le_refl _) (Obj.cells #[Value.int IntKind.u32 0, Value.int IntKind.u16 0, Value.string { data := #[] }] 39)
  have hz : RecAt _ w.heap.size 0 0 ⟨#[]⟩ := RecAt.new w 0 0 ⟨#[]⟩ 39
  have HZ := Lib.hid (⟨hL, hz, HX.out.below hL hp hg⟩ : _ ∧ _ ∧ _)
  clear hL hz
  go_wp2_with fail
  obtain ⟨hL, hz, hx⟩ := HZ.out
  clear HZ
  generalize w.alloc (Obj.cells #[Value.int IntKind.u32 0, Value.int IntKind.u16 0, Value.string { data := #[] }] 39) = W0 at *
  generalize hNN : w.heap.size = N at *
  have HNN := Lib.hid hNN
  have HXN := Lib.hid (show ∀ W', Below N w W' → CodeAt W' p g cap x from fun W' h => HX.out.below h hp hg)
  clear hNN hp hg HX
  refine (Sto.len_any p g cap x _ hx).mono ?_
  rintro e w1 ⟨rfl, rfl⟩
  go_wp2_with fail
  refine (size_any _).mono ?_
  rintro e w1 ⟨rfl, rfl⟩
  go_wp2_with fail
  refine (HA.out _ hx).mono ?_
  rintro e w1 ⟨rfl, hb1⟩
  have hz1 := hz.below hb1
  have hL1 := hL.trans (hb1.mono (Nat.le_of_lt hz.lt))
  have hal := (Below.refl w1.heap.size w1).alloc (Nat.le_refl _) (Obj.cells #[Value.int IntKind.u32 A0, Value.int IntKind.u16 A1, Value.string A2] 39)
  have hr1 : RecAt _ w1.heap.size A0 A1 A2 := RecAt.new w1 A0 A1 A2 39
  have HZ := Lib.hid (⟨hz1.below hal, hL1.trans (hal.mono (Nat.le_of_lt hz1.lt)), hr1, hz1.lt⟩ : _ ∧ _ ∧ _ ∧ _)
  clear hb1 hz1 hL1 hal hr1 hz hL hx
  go_wp2_with fail
  obtain ⟨hz, hL, hr1, hlt⟩ := HZ.out
  clear HZ
  generalize w1.alloc (Obj.cells #[Value.int IntKind.u32 A0, Value.int IntKind.u16 A1, Value.string A2] 39) = W1 at *
  generalize w1.heap.size = b at *
  refine (HB.out _ (HXN.out _ hL)).mono ?_
  rintro e w2 ⟨rfl, hb2⟩
  have hz2 := hz.below hb2
  have hr2 := hr1.below hb2
  have hL2 := hL.trans (hb2.mono (Nat.le_of_lt hz.lt))
  have hrb : b < w2.heap.size := hr2.lt
  have hrz : N < w2.heap.size := hz2.lt
  have HL := Lib.hid hL2
  have z0 := hz2.c0
  have z1 := hz2.c1
  have z2 := hz2.c2
  have z3 := hz2.f0
  have z4 := hz2.f1
  have z5 := hz2.f2
  have r0 := hr2.c0
  have r1 := hr2.c1
  have r2 := hr2.c2
  clear hz2 hr2 hL2 hb2 hz hL hr1 HXN HA HB
  go_wp2
  exact bodyPost_ret (v := .tuple #[.agg #[.int .u32 0, .int .u16 0, .string ⟨#[]⟩], .int .i64 0, .bool false]) (by simp [results, Tryd.results28, go_sem, *]) rfl ⟨rfl, by rw [HNN.out]; exact (((HL.out.setCell (p := ⟨N, 0, none⟩) (Nat.le_refl _) _).setCell (p := ⟨N, 1, none⟩) (Nat.le_refl _) _).setCell (p := ⟨N, 2, none⟩) (Nat.le_refl _) _).alloc (by simp [World.setCell]; omega) _⟩

set_option maxRecDepth 100000 in
set_option maxHeartbeats 4000000 in
theorem newest_tf (p g cap : Nat) (x : St) (w : World) (A B : Rc) (hx : CodeAt w p g cap x) (h148 : 148 ≤ x.l.length)
    (hA : ∀ w, CodeAt w p g cap x → Calls Tryd.prog 35 #[.pointer (some ⟨p, 0, none⟩), .int .i64 0] w (SlotRead A true w))
    (hB : ∀ w, CodeAt w p g cap x → Calls Tryd.prog 35 #[.pointer (some ⟨p, 0, none⟩), .int .i64 74] w (SlotRead B false w)) :
    Calls Tryd.prog 28 #[.pointer (some ⟨p, 0, none⟩)] w (CodeNew A 74 true w) := by
  have hp := hx.plt
  have hg := hx.glt
  have HX := Lib.hid hx
  have HA := Lib.hid hA
  have HB := Lib.hid hB
  have hnot : ¬ (x.l.length : Int) < 148 := by omega
  obtain ⟨A0, A1, A2⟩ := A
  obtain ⟨B0, B1, B2⟩ := B

  clear hx hA hB h148
  go_enter Tryd.func28, Tryd.ntmps28
  have hL := (Below.refl w.heap.size w).alloc (Nat.le_refl _) (Obj.cells #[Value.int IntKind.u32 0, Value.int IntKind.u16 0, Value.string { data := #[] }] 39)
  have hz : RecAt _ w.heap.size 0 0 ⟨#[]⟩ := RecAt.new w 0 0 ⟨#[]⟩ 39
  have HZ := Lib.hid (⟨hL, hz, HX.out.below hL hp hg⟩ : _ ∧ _ ∧ _)
  clear hL hz
  go_wp2_with fail
  obtain ⟨hL, hz, hx⟩ := HZ.out
  clear HZ
  generalize w.alloc (Obj.cells #[Value.int IntKind.u32 0, Value.int IntKind.u16 0, Value.string { data := #[] }] 39) = W0 at *
  generalize hNN : w.heap.size = N at *
  have HNN := Lib.hid hNN
  have HXN := Lib.hid (show ∀ W', Below N w W' → CodeAt W' p g cap x from fun W' h => HX.out.below h hp hg)
  clear hNN hp hg HX
  refine (Sto.len_any p g cap x _ hx).mono ?_
  rintro e w1 ⟨rfl, rfl⟩
  go_wp2_with fail
  refine (size_any _).mono ?_
  rintro e w1 ⟨rfl, rfl⟩
  go_wp2_with fail
  refine (HA.out _ hx).mono ?_
  rintro e w1 ⟨rfl, hb1⟩
  have hz1 := hz.below hb1
  have hL1 := hL.trans (hb1.mono (Nat.le_of_lt hz.lt))
  have hal := (Below.refl w1.heap.size w1).alloc (Nat.le_refl _) (Obj.cells #[Value.int IntKind.u32 A0, Value.int IntKind.u16 A1, Value.string A2] 39)
  have hr1 : RecAt _ w1.heap.size A0 A1 A2 := RecAt.new w1 A0 A1 A2 39
  have HZ := Lib.hid (⟨hz1.below hal, hL1.trans (hal.mono (Nat.le_of_lt hz1.lt)), hr1, hz1.lt⟩ : _ ∧ _ ∧ _ ∧ _)
  clear hb1 hz1 hL1 hal hr1 hz hL hx
  go_wp2_with fail
  obtain ⟨hz, hL, hr1, hlt⟩ := HZ.out
  clear HZ
  generalize w1.alloc (Obj.cells #[Value.int IntKind.u32 A0, Value.int IntKind.u16 A1, Value.string A2] 39) = W1 at *
  generalize w1.heap.size = b at *
  refine (HB.out _ (HXN.out _ hL)).mono ?_
  rintro e w2 ⟨rfl, hb2⟩
  have hz2 := hz.below hb2
  have hr2 := hr1.below hb2
  have hL2 := hL.trans (hb2.mono (Nat.le_of_lt hz.lt))
  have hrb : b < w2.heap.size := hr2.lt
  have hrz : N < w2.heap.size := hz2.lt
  have HL := Lib.hid hL2
  have z0 := hz2.c0
  have z1 := hz2.c1
  have z2 := hz2.c2
  have z3 := hz2.f0
  have z4 := hz2.f1
  have z5 := hz2.f2
  have r0 := hr2.c0
  have r1 := hr2.c1
  have r2 := hr2.c2
  clear hz2 hr2 hL2 hb2 hz hL hr1 HXN HA HB
  go_wp2
  exact bodyPost_ret (v := .tuple #[.agg #[.int .u32 A0, .int .u16 A1, .string A2], .int .i64 74, .bool true]) (by simp [results, Tryd.results28, go_sem, *]) rfl ⟨rfl, by rw [HNN.out]; exact (((HL.out.setCell (p := ⟨N, 0, none⟩) (Nat.le_refl _) _).setCell (p := ⟨N, 1, none⟩) (Nat.le_refl _) _).setCell (p := ⟨N, 2, none⟩) (Nat.le_refl _) _).alloc (by simp [World.setCell]; omega) _⟩

set_option maxRecDepth 100000 in
set_option maxHeartbeats 4000000 in
theorem newest_ft (p g cap : Nat) (x : St) (w : World) (A B : Rc) (hx : CodeAt w p g cap x) (h148 : 148 ≤ x.l.length)
    (hA : ∀ w, CodeAt w p g cap x → Calls Tryd.prog 35 #[.pointer (some ⟨p, 0, none⟩), .int .i64 0] w (SlotRead A false w))
    (hB : ∀ w, CodeAt w p g cap x → Calls Tryd.prog 35 #[.pointer (some ⟨p, 0, none⟩), .int .i64 74] w (SlotRead B true w)) :
    Calls Tryd.prog 28 #[.pointer (some ⟨p, 0, none⟩)] w (CodeNew B 0 true w) := by
  have hp := hx.plt
  have hg := hx.glt
  have HX := Lib.hid hx
  have HA := Lib.hid hA
  have HB := Lib.hid hB
  have hnot : ¬ (x.l.length : Int) < 148 := by omega
  obtain ⟨A0, A1, A2⟩ := A
  obtain ⟨B0, B1, B2⟩ := B

  clear hx hA hB h148
  go_enter Tryd.func28, Tryd.ntmps28
  have hL := (Below.refl w.heap.size w).alloc (Nat.le_refl _) (Obj.cells #[Value.int IntKind.u32 0, Value.int IntKind.u16 0, Value.string { data := #[] }] 39)
  have hz : RecAt _ w.heap.size 0 0 ⟨#[]⟩ := RecAt.new w 0 0 ⟨#[]⟩ 39
  have HZ := Lib.hid (⟨hL, hz, HX.out.below hL hp hg⟩ : _ ∧ _ ∧ _)
  clear hL hz
  go_wp2_with fail
  obtain ⟨hL, hz, hx⟩ := HZ.out
  clear HZ
  generalize w.alloc (Obj.cells #[Value.int IntKind.u32 0, Value.int IntKind.u16 0, Value.string { data := #[] }] 39) = W0 at *
  generalize hNN : w.heap.size = N at *
  have HNN := Lib.hid hNN
  have HXN := Lib.hid (show ∀ W', Below N w W' → CodeAt W' p g cap x from fun W' h => HX.out.below h hp hg)
  clear hNN hp hg HX
  refine (Sto.len_any p g cap x _ hx).mono ?_
  rintro e w1 ⟨rfl, rfl⟩
  go_wp2_with fail
  refine (size_any _).mono ?_
  rintro e w1 ⟨rfl, rfl⟩
  go_wp2_with fail
  refine (HA.out _ hx).mono ?_
  rintro e w1 ⟨rfl, hb1⟩
  have hz1 := hz.below hb1
  have hL1 := hL.trans (hb1.mono (Nat.le_of_lt hz.lt))
  have hal := (Below.refl w1.heap.size w1).alloc (Nat.le_refl _) (Obj.cells #[Value.int IntKind.u32 A0, Value.int IntKind.u16 A1, Value.string A2] 39)
  have hr1 : RecAt _ w1.heap.size A0 A1 A2 := RecAt.new w1 A0 A1 A2 39
  have HZ := Lib.hid (⟨hz1.below hal, hL1.trans (hal.mono (Nat.le_of_lt hz1.lt)), hr1, hz1.lt⟩ : _ ∧ _ ∧ _ ∧ _)
  clear hb1 hz1 hL1 hal hr1 hz hL hx
  go_wp2_with fail
  obtain ⟨hz, hL, hr1, hlt⟩ := HZ.out
  clear HZ
  generalize w1.alloc (Obj.cells #[Value.int IntKind.u32 A0, Value.int IntKind.u16 A1, Value.string A2] 39) = W1 at *
  generalize w1.heap.size = b at *
  refine (HB.out _ (HXN.out _ hL)).mono ?_
  rintro e w2 ⟨rfl, hb2⟩
  have hz2 := hz.below hb2
  have hr2 := hr1.below hb2
  have hL2 := hL.trans (hb2.mono (Nat.le_of_lt hz.lt))
  have hrb : b < w2.heap.size := hr2.lt
  have hrz : N < w2.heap.size := hz2.lt
  have HL := Lib.hid hL2
  have z0 := hz2.c0
  have z1 := hz2.c1
  have z2 := hz2.c2
  have z3 := hz2.f0
  have z4 := hz2.f1
  have z5 := hz2.f2
  have r0 := hr2.c0
  have r1 := hr2.c1
  have r2 := hr2.c2
  clear hz2 hr2 hL2 hb2 hz hL hr1 HXN HA HB
  go_wp2
  exact bodyPost_ret (v := .tuple #[.agg #[.int .u32 B0, .int .u16 B1, .string B2], .int .i64 0, .bool true]) (by simp [results, Tryd.results28, go_sem, *]) rfl ⟨rfl, by rw [HNN.out]; exact (((HL.out.setCell (p := ⟨N, 0, none⟩) (Nat.le_refl _) _).setCell (p := ⟨N, 1, none⟩) (Nat.le_refl _) _).setCell (p := ⟨N, 2, none⟩) (Nat.le_refl _) _).alloc (by simp [World.setCell]; omega) _⟩

set_option maxRecDepth 100000 in
set_option maxHeartbeats 4000000 in
theorem newest_ttA (p g cap : Nat) (x : St) (w : World) (A B : Rc) (hx : CodeAt w p g cap x) (h148 : 148 ≤ x.l.length)
    (hA : ∀ w, CodeAt w p g cap x → Calls Tryd.prog 35 #[.pointer (some ⟨p, 0, none⟩), .int .i64 0] w (SlotRead A true w))
    (hB : ∀ w, CodeAt w p g cap x → Calls Tryd.prog 35 #[.pointer (some ⟨p, 0, none⟩), .int .i64 74] w (SlotRead B true w)) (h : B.q ≤ A.q) :
    Calls Tryd.prog 28 #[.pointer (some ⟨p, 0, none⟩)] w (CodeNew A 74 true w) := by
  have hp := hx.plt
  have hg := hx.glt
  have HX := Lib.hid hx
  have HA := Lib.hid hA
  have HB := Lib.hid hB
  have hnot : ¬ (x.l.length : Int) < 148 := by omega
  obtain ⟨A0, A1, A2⟩ := A
  obtain ⟨B0, B1, B2⟩ := B
  have hge : (B0 : Int) ≤ A0 := by have : (B0 ≤ A0) := h; omega
  clear h
  clear hx hA hB h148
  go_enter Tryd.func28, Tryd.ntmps28
  have hL := (Below.refl w.heap.size w).alloc (Nat.le_refl _) (Obj.cells #[Value.int IntKind.u32 0, Value.int IntKind.u16 0, Value.string { data := #[] }] 39)
  have hz : RecAt _ w.heap.size 0 0 ⟨#[]⟩ := RecAt.new w 0 0 ⟨#[]⟩ 39
  have HZ := Lib.hid (⟨hL, hz, HX.out.below hL hp hg⟩ : _ ∧ _ ∧ _)
  clear hL hz
  go_wp2_with fail
  obtain ⟨hL, hz, hx⟩ := HZ.out
  clear HZ
  generalize w.alloc (Obj.cells #[Value.int IntKind.u32 0, Value.int IntKind.u16 0, Value.string { data := #[] }] 39) = W0 at *
  generalize hNN : w.heap.size = N at *
  have HNN := Lib.hid hNN
  have HXN := Lib.hid (show ∀ W', Below N w W' → CodeAt W' p g cap x from fun W' h => HX.out.below h hp hg)
  clear hNN hp hg HX
  refine (Sto.len_any p g cap x _ hx).mono ?_
  rintro e w1 ⟨rfl, rfl⟩
  go_wp2_with fail
  refine (size_any _).mono ?_
  rintro e w1 ⟨rfl, rfl⟩
  go_wp2_with fail
  refine (HA.out _ hx).mono ?_
  rintro e w1 ⟨rfl, hb1⟩
  have hz1 := hz.below hb1
  have hL1 := hL.trans (hb1.mono (Nat.le_of_lt hz.lt))
  have hal := (Below.refl w1.heap.size w1).alloc (Nat.le_refl _) (Obj.cells #[Value.int IntKind.u32 A0, Value.int IntKind.u16 A1, Value.string A2] 39)
  have hr1 : RecAt _ w1.heap.size A0 A1 A2 := RecAt.new w1 A0 A1 A2 39
  have HZ := Lib.hid (⟨hz1.below hal, hL1.trans (hal.mono (Nat.le_of_lt hz1.lt)), hr1, hz1.lt⟩ : _ ∧ _ ∧ _ ∧ _)
  clear hb1 hz1 hL1 hal hr1 hz hL hx
  go_wp2_with fail
  obtain ⟨hz, hL, hr1, hlt⟩ := HZ.out
  clear HZ
  generalize w1.alloc (Obj.cells #[Value.int IntKind.u32 A0, Value.int IntKind.u16 A1, Value.string A2] 39) = W1 at *
  generalize w1.heap.size = b at *
  refine (HB.out _ (HXN.out _ hL)).mono ?_
  rintro e w2 ⟨rfl, hb2⟩
  have hz2 := hz.below hb2
  have hr2 := hr1.below hb2
  have hL2 := hL.trans (hb2.mono (Nat.le_of_lt hz.lt))
  have hrb : b < w2.heap.size := hr2.lt
  have hrz : N < w2.heap.size := hz2.lt
  have HL := Lib.hid hL2
  have z0 := hz2.c0
  have z1 := hz2.c1
  have z2 := hz2.c2
  have z3 := hz2.f0
  have z4 := hz2.f1
  have z5 := hz2.f2
  have r0 := hr2.c0
  have r1 := hr2.c1
  have r2 := hr2.c2
  clear hz2 hr2 hL2 hb2 hz hL hr1 HXN HA HB
  go_wp2
  exact bodyPost_ret (v := .tuple #[.agg #[.int .u32 A0, .int .u16 A1, .string A2], .int .i64 74, .bool true]) (by simp [results, Tryd.results28, go_sem, *]) rfl ⟨rfl, by rw [HNN.out]; exact (((HL.out.setCell (p := ⟨N, 0, none⟩) (Nat.le_refl _) _).setCell (p := ⟨N, 1, none⟩) (Nat.le_refl _) _).setCell (p := ⟨N, 2, none⟩) (Nat.le_refl _) _).alloc (by simp [World.setCell]; omega) _⟩

set_option maxRecDepth 100000 in
set_option maxHeartbeats 4000000 in
theorem newest_ttB (p g cap : Nat) (x : St) (w : World) (A B : Rc) (hx : CodeAt w p g cap x) (h148 : 148 ≤ x.l.length)
    (hA : ∀ w, CodeAt w p g cap x → Calls Tryd.prog 35 #[.pointer (some ⟨p, 0, none⟩), .int .i64 0] w (SlotRead A true w))
    (hB : ∀ w, CodeAt w p g cap x → Calls Tryd.prog 35 #[.pointer (some ⟨p, 0, none⟩), .int .i64 74] w (SlotRead B true w)) (h : ¬ B.q ≤ A.q) :
    Calls Tryd.prog 28 #[.pointer (some ⟨p, 0, none⟩)] w (CodeNew B 0 true w) := by
  have hp := hx.plt
  have hg := hx.glt
  have HX := Lib.hid hx
  have HA := Lib.hid hA
  have HB := Lib.hid hB
  have hnot : ¬ (x.l.length : Int) < 148 := by omega
  obtain ⟨A0, A1, A2⟩ := A
  obtain ⟨B0, B1, B2⟩ := B
  have hge : ¬ (B0 : Int) ≤ A0 := by have : ¬ (B0 ≤ A0) := h; omega
  clear h
  clear hx hA hB h148
  go_enter Tryd.func28, Tryd.ntmps28
  have hL := (Below.refl w.heap.size w).alloc (Nat.le_refl _) (Obj.cells #[Value.int IntKind.u32 0, Value.int IntKind.u16 0, Value.string { data := #[] }] 39)
  have hz : RecAt _ w.heap.size 0 0 ⟨#[]⟩ := RecAt.new w 0 0 ⟨#[]⟩ 39
  have HZ := Lib.hid (⟨hL, hz, HX.out.below hL hp hg⟩ : _ ∧ _ ∧ _)
  clear hL hz
  go_wp2_with fail
  obtain ⟨hL, hz, hx⟩ := HZ.out
  clear HZ
  generalize w.alloc (Obj.cells #[Value.int IntKind.u32 0, Value.int IntKind.u16 0, Value.string { data := #[] }] 39) = W0 at *
  generalize hNN : w.heap.size = N at *
  have HNN := Lib.hid hNN
  have HXN := Lib.hid (show ∀ W', Below N w W' → CodeAt W' p g cap x from fun W' h => HX.out.below h hp hg)
  clear hNN hp hg HX
  refine (Sto.len_any p g cap x _ hx).mono ?_
  rintro e w1 ⟨rfl, rfl⟩
  go_wp2_with fail
  refine (size_any _).mono ?_
  rintro e w1 ⟨rfl, rfl⟩
  go_wp2_with fail
  refine (HA.out _ hx).mono ?_
  rintro e w1 ⟨rfl, hb1⟩
  have hz1 := hz.below hb1
  have hL1 := hL.trans (hb1.mono (Nat.le_of_lt hz.lt))
  have hal := (Below.refl w1.heap.size w1).alloc (Nat.le_refl _) (Obj.cells #[Value.int IntKind.u32 A0, Value.int IntKind.u16 A1, Value.string A2] 39)
  have hr1 : RecAt _ w1.heap.size A0 A1 A2 := RecAt.new w1 A0 A1 A2 39
  have HZ := Lib.hid (⟨hz1.below hal, hL1.trans (hal.mono (Nat.le_of_lt hz1.lt)), hr1, hz1.lt⟩ : _ ∧ _ ∧ _ ∧ _)
  clear hb1 hz1 hL1 hal hr1 hz hL hx
  go_wp2_with fail
  obtain ⟨hz, hL, hr1, hlt⟩ := HZ.out
  clear HZ
  generalize w1.alloc (Obj.cells #[Value.int IntKind.u32 A0, Value.int IntKind.u16 A1, Value.string A2] 39) = W1 at *
  generalize w1.heap.size = b at *
  refine (HB.out _ (HXN.out _ hL)).mono ?_
  rintro e w2 ⟨rfl, hb2⟩
  have hz2 := hz.below hb2
  have hr2 := hr1.below hb2
  have hL2 := hL.trans (hb2.mono (Nat.le_of_lt hz.lt))
  have hrb : b < w2.heap.size := hr2.lt
  have hrz : N < w2.heap.size := hz2.lt
  have HL := Lib.hid hL2
  have z0 := hz2.c0
  have z1 := hz2.c1
  have z2 := hz2.c2
  have z3 := hz2.f0
  have z4 := hz2.f1
  have z5 := hz2.f2
  have r0 := hr2.c0
  have r1 := hr2.c1
  have r2 := hr2.c2
  clear hz2 hr2 hL2 hb2 hz hL hr1 HXN HA HB
  go_wp2
  exact bodyPost_ret (v := .tuple #[.agg #[.int .u32 B0, .int .u16 B1, .string B2], .int .i64 0, .bool true]) (by simp [results, Tryd.results28, go_sem, *]) rfl ⟨rfl, by rw [HNN.out]; exact (((HL.out.setCell (p := ⟨N, 0, none⟩) (Nat.le_refl _) _).setCell (p := ⟨N, 1, none⟩) (Nat.le_refl _) _).setCell (p := ⟨N, 2, none⟩) (Nat.le_refl _) _).alloc (by simp [World.setCell]; omega) _⟩

def newK (l : List UInt8) : Int := if 148 ≤ l.length then (goes l : Int) else 0

theorem newest_any (p g cap : Nat) (x : St) (w : World) (hx : CodeAt w p g cap x) :
    Calls Tryd.prog 28 #[.pointer (some ⟨p, 0, none⟩)] w (CodeNew (loadR x.l) (newK x.l) (loadB x.l) w) := by
  by_cases h : 148 ≤ x.l.length
  · have hA := fun w hx => slot_any p g cap x 0 0 w hx rfl (by omega)
    have hB := fun w hx => slot_any p g cap x 74 74 w hx rfl (by omega)
    rw [List.drop_zero] at hA
    have e1 : loadR x.l = newR x.l := if_pos h
    have e2 : newK x.l = (goes x.l : Int) := if_pos h
    have e3 : loadB x.l = decide (0 ≤ newI x.l) := by simp [loadB, h]
    rw [e1, e2, e3]
    unfold goes newI newR
    generalize hA' : x.l.take 74 = LA at *
    generalize hB' : (x.l.drop 74).take 74 = LB at *
    unfold codeV at hA hB
    generalize wholeV LA = VA at *
    generalize wholeV LB = VB at *
    generalize wholeB LA = a at *
    generalize wholeB LB = b at *
    cases a <;> cases b
    · exact newest_ff p g cap x w _ _ hx h hA hB
    · exact newest_ft p g cap x w _ _ hx h hA hB
    · exact newest_tf p g cap x w _ _ hx h hA hB
    · by_cases hq : VB.q ≤ VA.q
      · have i1 : pickI true true VA.q VB.q = 0 := by simp [pickI, hq]
        have i2 : pickR true true VA VB = VA := by simp [pickR, hq]
        rw [i1, i2]
        exact newest_ttA p g cap x w _ _ hx h hA hB hq
      · have i1 : pickI true true VA.q VB.q = 1 := by simp [pickI, hq]
        have i2 : pickR true true VA VB = VB := by simp [pickR, hq]
        rw [i1, i2]
        exact newest_ttB p g cap x w _ _ hx h hA hB hq
  · have e1 : loadR x.l = Rc.zero := if_neg h
    have e2 : newK x.l = 0 := if_neg h
    have e3 : loadB x.l = false := by simp [loadB, h]
    rw [e1, e2, e3]
    exact newest_short p g cap x w hx h

theorem load_any (p g cap : Nat) (x : St) (w : World) (hx : CodeAt w p g cap x) :
    Calls Tryd.prog 15 #[.pointer (some ⟨p, 0, none⟩)] w (Loaded x w) := by
  have hp := hx.plt
  have hg := hx.glt
  have HX := Lib.hid hx
  have HN := Lib.hid (fun w hx => newest_any p g cap x w hx)
  unfold Loaded
  generalize loadR x.l = A at *
  generalize loadB x.l = B at *
  generalize newK x.l = K at *
  obtain ⟨A0, A1, A2⟩ := A
  clear hx
  go_enter Tryd.func15, Tryd.ntmps15
  have hL := (Below.refl w.heap.size w).alloc (Nat.le_refl _) (Obj.cells #[Value.int IntKind.u32 0, Value.int IntKind.u16 0, Value.string { data := #[] }] 39)
  have hz : RecAt _ w.heap.size 0 0 ⟨#[]⟩ := RecAt.new w 0 0 ⟨#[]⟩ 39
  have HZ := Lib.hid (⟨hL, hz, HX.out.below hL hp hg⟩ : _ ∧ _ ∧ _)
  clear hL hz HX
  go_wp2_with fail
  obtain ⟨hL, hz, hx⟩ := HZ.out
  clear HZ
  generalize w.alloc (Obj.cells #[Value.int IntKind.u32 0, Value.int IntKind.u16 0, Value.string { data := #[] }] 39) = W0 at *
  generalize hNN : w.heap.size = N at *
  have HNN := Lib.hid hNN
  clear hNN hp hg
  refine (HN.out _ hx).mono ?_
  rintro e w2 ⟨rfl, hb2⟩
  have hz2 := hz.below hb2
  have hL2 := hL.trans (hb2.mono (Nat.le_of_lt hz.lt))
  have hrz : N < w2.heap.size := hz2.lt
  have HL := Lib.hid hL2
  have z0 := hz2.c0
  have z1 := hz2.c1
  have z2 := hz2.c2
  have z3 := hz2.f0
  have z4 := hz2.f1
  have z5 := hz2.f2
  clear hz2 hL2 hb2 hz hL HN hx
  go_wp2
  exact bodyPost_ret (v := .tuple #[.agg #[.int .u32 A0, .int .u16 A1, .string A2], .bool B]) (by simp [results, Tryd.results15, go_sem, *]) rfl ⟨rfl, by rw [HNN.out]; exact (((HL.out.setCell (p := ⟨N, 0, none⟩) (Nat.le_refl _) _).setCell (p := ⟨N, 1, none⟩) (Nat.le_refl _) _).setCell (p := ⟨N, 2, none⟩) (Nat.le_refl _) _).alloc (by simp [World.setCell]; omega) _⟩

end Go.Proofs.YtahmngmbgbcmhaaDoor.Ret
