/-
  The check that each law of layer 7 makes first, walked: it returns true, where the calls answer as is asked. Conditions: that.
-/
import Derived.Test.YtahmngmbgbcmhaaDoorRtWays
namespace Go.Proofs.YtahmngmbgbcmhaaDoor.Ret
open Go.RowKit
open Oct
open Sto (St CodeAt Only)

/-- What a boot, and a commit, of a store that is free leave, whose newest record is R. -/
def BootOk (p g cap : Nat) (len n : Nat) (R : Rc) (q i : Int) (w : World) (e : Ending) (w' : World) : Prop :=
  ∃ l', e = .returned (.tuple #[.agg #[.int .u32 q, .int .u16 i, .string R.d], .int .i64 0]) ∧ CodeAt w' p g cap ⟨l', true, none, n + 75⟩ ∧ newR l' = ⟨R.q + 1, R.i + 1, R.d⟩ ∧ 0 ≤ newI l' ∧ l'.length = len ∧ Only p g w w'
def CommitOk (p g cap : Nat) (len n inc : Nat) (d : ByteArray) (R : Rc) (w : World) (e : Ending) (w' : World) : Prop :=
  ∃ l', e = .returned (.int .i64 0) ∧ CodeAt w' p g cap ⟨l', true, none, n + 75⟩ ∧ newR l' = ⟨R.q + 1, inc, d⟩ ∧ 0 ≤ newI l' ∧ l'.length = len ∧ Only p g w w'

theorem fine_free {l : List UInt8} {u : Bool} {n : Nat} (h : n ≤ 1000000) : Fine ⟨l, u, none, n⟩ := ⟨h, fun k hk => by cases hk⟩

theorem boot_step (C : Code) (p g cap : Nat) (l : List UInt8) (n : Nat) (R : Rc) (w : World) (hx : CodeAt w p g cap ⟨l, true, none, n⟩) (hR : newR l = R) (hl : 148 ≤ l.length) (hi : R.i ≠ 65535) (hq : R.q ≠ 4294967295) (hn : n ≤ 1000000) (q i : Int) (eq : q = ((R.q + 1 : Nat) : Int)) (ei : i = ((R.i + 1 : Nat) : Int)) :
    Calls Tryd.prog 19 #[.pointer (some ⟨p, 0, none⟩)] w (BootOk p g cap l.length n R q i w) :=
  (C.boot p g cap _ w hx (fine_free hn)).mono fun e w' ⟨he, hx', ho⟩ => by
    subst hR
    obtain ⟨h1, h2⟩ := next_boot (inc := 0) (d := ⟨#[]⟩) hl hi hq
    obtain ⟨l', a1, a2, a3, a4, a5⟩ := cm_free (n := n) (inc := 0) hl (by decide) h1
    have hb : btR ⟨l, true, none, n⟩ = ⟨(newR l).q + 1, (newR l).i + 1, (newR l).d⟩ := by
      unfold btR
      rw [if_pos a1]
      exact h2
    rw [a1, hb] at he
    subst eq ei
    rw [a2] at hx'
    rw [h2] at a4
    exact ⟨l', he, hx', a4, a5, a3, ho⟩

theorem commit_step (C : Code) (p g cap : Nat) (l : List UInt8) (n inc : Nat) (d : ByteArray) (R : Rc) (w : World) (hx : CodeAt w p g cap ⟨l, true, none, n⟩) (hR : newR l = R) (hl : 148 ≤ l.length) (hq : R.q ≠ 4294967295) (hn : n ≤ 1000000) (hd : d.size ≤ 64) (hinc : (inc : Int) ≤ 65535) :
    Calls Tryd.prog 14 #[.pointer (some ⟨p, 0, none⟩), .int .u16 inc, .string d] w (CommitOk p g cap l.length n inc d R w) :=
  (C.commit p g cap _ inc d w hx hinc (by unfold maxLen; omega) (fine_free hn)).mono fun e w' ⟨he, hx', ho⟩ => by
    subst hR
    obtain ⟨h1, h2⟩ := next_commit (inc := inc) hl hd hq
    obtain ⟨l', a1, a2, a3, a4, a5⟩ := cm_free (n := n) (inc := inc) hl hinc h1
    rw [a1] at he
    rw [a2] at hx'
    rw [h2] at a4
    exact ⟨l', he, hx', a4, a5, a3, ho⟩

theorem load_step (C : Code) (p g cap : Nat) (x : St) (R : Rc) (w : World) (hx : CodeAt w p g cap x) (hR : newR x.l = R) (hl : 148 ≤ x.l.length) (hI : 0 ≤ newI x.l) (q i : Int) (eq : q = (R.q : Int)) (ei : i = (R.i : Int)) :
    Calls Tryd.prog 15 #[.pointer (some ⟨p, 0, none⟩)] w fun e w' => e = .returned (.tuple #[.agg #[.int .u32 q, .int .u16 i, .string R.d], .bool true]) ∧ Below w.heap.size w w' :=
  (C.load p g cap x w hx).mono fun e w' ⟨he, hb⟩ => by
    have h1 : loadR x.l = R := by unfold loadR; rw [if_pos hl]; exact hR
    have h2 : loadB x.l = true := by unfold loadB; simp [hl, hI]
    rw [h1, h2] at he
    subst eq ei
    exact ⟨he, hb⟩

set_option maxRecDepth 100000 in
set_option maxHeartbeats 4000000 in
theorem awake_true (C : Code) (w : World) : Calls Tryd.prog 7 #[] w fun e w' => e = .returned (.bool true) ∧ Below w.heap.size w w' := by
  have CC := Lib.hid C
  clear C
  go_enter Tryd.func7, Tryd.ntmps7
  go_wp2_with fail
  refine (CC.out.size _).mono ?_
  rintro e w0 ⟨rfl, rfl⟩
  go_wp2_with fail
  refine (Sto.new_any 148 148 (by decide) _).mono ?_
  rintro e w1 ⟨p, g, cap, rfl, hx1, hp, hg, hb1⟩
  have hb1s := hb1.size
  go_wp2_with fail
  refine (boot_step CC.out p g cap _ 0 ⟨0, 0, ⟨#[]⟩⟩ _ hx1 (zeros_none 148).2 (by rw [Sto.zeros_length]; exact Nat.le_refl _) (by decide) (by decide) (by decide) 1 1 rfl rfl).mono ?_
  rintro e w2 ⟨l2, rfl, hx2, hr2, hi2, hn2, ho2⟩
  rw [Sto.zeros_length] at hn2
  have hb2 := hb1.trans (ho2.below hp hg hb1.size)
  have hb2s := hb2.size
  clear hx1 ho2 hb1
  have hp2 := hx2.plt
  have hg2 := hx2.glt
  have hal := (Below.refl w2.heap.size w2).alloc (Nat.le_refl _) (Obj.cells #[Value.int IntKind.u32 1, Value.int IntKind.u16 1, Value.string { data := #[] }] 39)
  have HZ := Lib.hid (⟨hx2.below hal hp2 hg2, hb2.trans (hal.mono hb2s)⟩ : _ ∧ _)
  have HR2 := Lib.hid hr2
  have HN2 := Lib.hid hn2
  clear hx2 hal hb2 hr2 hn2 hi2
  go_wp2_with fail
  obtain ⟨hx3, hb3⟩ := HZ.out
  clear HZ
  generalize w2.alloc (Obj.cells #[Value.int IntKind.u32 1, Value.int IntKind.u16 1, Value.string { data := #[] }] 39) = W2 at *
  refine (commit_step CC.out p g cap l2 _ 1 ⟨#[120, 121]⟩ ⟨1, 1, ⟨#[]⟩⟩ _ hx3 HR2.out (by rw [HN2.out]; exact Nat.le_refl _) (by decide) (by decide) (by decide) (by decide)).mono ?_
  rintro e w4 ⟨l4, rfl, hx4, hr4, hi4, hn4, ho4⟩
  rw [HN2.out] at hn4
  have hb4 := hb3.trans (ho4.below hp hg hb3.size)
  have HR4 := Lib.hid hr4
  have HN4 := Lib.hid hn4
  clear hx3 hb3 ho4 hr4 hn4 hi4 HR2 HN2
  go_wp2_with fail
  refine (boot_step CC.out p g cap l4 _ ⟨2, 1, ⟨#[120, 121]⟩⟩ _ hx4 HR4.out (by rw [HN4.out]; exact Nat.le_refl _) (by decide) (by decide) (by decide) 3 2 rfl rfl).mono ?_
  rintro e w5 ⟨l5, rfl, hx5, hr5, hi5, hn5, ho5⟩
  rw [HN4.out] at hn5
  have hb5 := hb4.trans (ho5.below hp hg hb4.size)
  have hb5s := hb5.size
  have hp5 := hx5.plt
  have hg5 := hx5.glt
  have hal := (Below.refl w5.heap.size w5).alloc (Nat.le_refl _) (Obj.cells #[Value.int IntKind.u32 3, Value.int IntKind.u16 2, Value.string { data := #[120, 121] }] 39)
  have hra : RecAt _ w5.heap.size 3 2 ⟨#[120, 121]⟩ := RecAt.new w5 3 2 ⟨#[120, 121]⟩ 39
  have HZ := Lib.hid (⟨hx5.below hal hp5 hg5, hb5.trans (hal.mono hb5s), hra⟩ : _ ∧ _ ∧ _)
  have HR5 := Lib.hid hr5
  have HN5 := Lib.hid hn5
  have HI5 := Lib.hid hi5
  clear hx4 hb4 ho5 hx5 hal hra hb5 hr5 hn5 hi5 HR4 HN4
  go_wp2_with fail
  obtain ⟨hx6, hb6, hr6⟩ := HZ.out
  clear HZ
  generalize w5.alloc (Obj.cells #[Value.int IntKind.u32 3, Value.int IntKind.u16 2, Value.string { data := #[120, 121] }] 39) = W5 at *
  generalize w5.heap.size = b5 at *
  refine (load_step CC.out p g cap _ ⟨3, 2, ⟨#[120, 121]⟩⟩ _ hx6 HR5.out (by rw [HN5.out]; exact Nat.le_refl _) HI5.out 3 2 rfl rfl).mono ?_
  rintro e w7 ⟨rfl, hb7⟩
  have hr7 := hr6.below hb7
  have hb8 := hb6.trans (hb7.mono hb6.size)
  have hal := (Below.refl w7.heap.size w7).alloc (Nat.le_refl _) (Obj.cells #[Value.int IntKind.u32 3, Value.int IntKind.u16 2, Value.string { data := #[120, 121] }] 39)
  have hr8 := hr7.below hal
  have r0 : (w7.alloc (Obj.cells #[Value.int IntKind.u32 3, Value.int IntKind.u16 2, Value.string { data := #[120, 121] }] 39)).cell? ⟨b5, 0, none⟩ = some (.int .u32 3) := hr8.c0
  have r1 : (w7.alloc (Obj.cells #[Value.int IntKind.u32 3, Value.int IntKind.u16 2, Value.string { data := #[120, 121] }] 39)).cell? ⟨b5, 1, none⟩ = some (.int .u16 2) := hr8.c1
  have r2 := hr8.c2
  have HB := Lib.hid (hb8.trans (hal.mono hb8.size))
  clear hx6 hb6 hr6 hb7 hr7 hb8 hal hr8 HR5 HN5 HI5
  go_wp2_with fail
  refine (CC.out.cost _).mono ?_
  rintro e w9 ⟨rfl, rfl⟩
  go_wp2_with fail
  go_ret
  exact ⟨rfl, HB.out⟩

end Go.Proofs.YtahmngmbgbcmhaaDoor.Ret
