/-
  What is asked of a store of records' calls, and what the law makes of it: its bytes, and whether what is loaded is the document's, walked. Conditions: the calls answer so.
-/
import Derived.Test.YtahmngmbgbcmhaaDoorRtFacts
namespace Go.Proofs.YtahmngmbgbcmhaaDoor.Ret
open Go.RowKit
open Oct
open Sto (St CodeAt Only)

/-- What Load tells of a store's bytes. -/
def loadB (l : List UInt8) : Bool := decide (148 ≤ l.length) && decide (0 ≤ newI l)
def loadR (l : List UInt8) : Rc := if 148 ≤ l.length then newR l else Rc.zero
/-- The error of a commit, or a boot; the store behind it; what a boot tells. -/
def cmE (x : St) (boot : Bool) (inc : Nat) (d : ByteArray) : Int :=
  if nextE x.l boot d ≠ 0 then nextE x.l boot d else threeE x (goes x.l) (slot (nextR x.l boot inc d))
def cmX (x : St) (boot : Bool) (inc : Nat) (d : ByteArray) : St :=
  if nextE x.l boot d ≠ 0 then x else three x (goes x.l) (slot (nextR x.l boot inc d))
def btR (x : St) : Rc := if cmE x true 0 ⟨#[]⟩ = 0 then nextR x.l true 0 ⟨#[]⟩ else Rc.zero

/-- A store that has written few bytes, and is armed for a number. -/
structure Fine (x : St) : Prop where
  n : x.n ≤ 1000000
  arm : ∀ k, x.arm = some k → k ≤ 9223372036854775807

def Loaded (x : St) (w : World) (e : Ending) (w' : World) : Prop :=
  e = .returned (.tuple #[.agg #[.int .u32 (loadR x.l).q, .int .u16 (loadR x.l).i, .string (loadR x.l).d], .bool (loadB x.l)]) ∧ Below w.heap.size w w'
def Committed (p g cap : Nat) (x : St) (inc : Nat) (d : ByteArray) (w : World) (e : Ending) (w' : World) : Prop :=
  e = .returned (.int .i64 (cmE x false inc d)) ∧ CodeAt w' p g cap (cmX x false inc d) ∧ Only p g w w'
def Booted (p g cap : Nat) (x : St) (w : World) (e : Ending) (w' : World) : Prop :=
  e = .returned (.tuple #[.agg #[.int .u32 (btR x).q, .int .u16 (btR x).i, .string (btR x).d], .int .i64 (cmE x true 0 ⟨#[]⟩)]) ∧ CodeAt w' p g cap (cmX x true 0 ⟨#[]⟩) ∧ Only p g w w'

/-- What is asked of the code. -/
structure Code : Prop where
  load : ∀ (p g cap : Nat) (x : St) (w : World), CodeAt w p g cap x → Calls Tryd.prog 15 #[.pointer (some ⟨p, 0, none⟩)] w (Loaded x w)
  commit : ∀ (p g cap : Nat) (x : St) (inc : Nat) (d : ByteArray) (w : World), CodeAt w p g cap x → (inc : Int) ≤ 65535 → d.size ≤ maxLen → Fine x →
    Calls Tryd.prog 14 #[.pointer (some ⟨p, 0, none⟩), .int .u16 inc, .string d] w (Committed p g cap x inc d w)
  boot : ∀ (p g cap : Nat) (x : St) (w : World), CodeAt w p g cap x → Fine x → Calls Tryd.prog 19 #[.pointer (some ⟨p, 0, none⟩)] w (Booted p g cap x w)
  size : ∀ w : World, Calls Tryd.prog 13 #[] w fun e w' => e = .returned (.int .i64 148) ∧ w = w'
  cost : ∀ w : World, Calls Tryd.prog 18 #[] w fun e w' => e = .returned (.int .i64 75) ∧ w = w'

theorem few_of {w : World} {p g cap : Nat} {x : St} (h : CodeAt w p g cap x) : x.l.length ≤ 1000 := by
  obtain ⟨y, h, -⟩ := h
  exact h.few

set_option maxHeartbeats 800000 in
theorem bytes_of (p g cap : Nat) (x : St) (w : World) (hx : CodeAt w p g cap x) :
    Calls Tryd.prog 21 #[.pointer (some ⟨p, 0, none⟩)] w fun e w' => e = .returned (.string (S x.l)) ∧ w = w' := by
  go_enter Tryd.func21, Tryd.ntmps21
  go_wp2_with fail
  refine (Sto.len_any p g cap x _ hx).mono ?_
  rintro e w1 ⟨rfl, rfl⟩
  go_wp2_with fail
  refine (Sto.read_all p g cap x x.l.length _ hx rfl).mono ?_
  rintro e w1 ⟨rfl, rfl⟩
  go_wp2_with fail
  go_ret
  exact ⟨rfl, rfl⟩

set_option maxRecDepth 100000 in
set_option maxHeartbeats 2000000 in
theorem load_true (C : Code) (p g cap : Nat) (x : St) (w : World) (hx : CodeAt w p g cap x) :
    Calls Tryd.prog 10 #[.pointer (some ⟨p, 0, none⟩)] w fun e w' => e = .returned (.bool true) ∧ Below w.heap.size w w' := by
  have hfw := few_of hx
  have hpl := hx.plt
  have hgl := hx.glt
  have HX := Lib.hid hx
  have HC := Lib.hid (fun w hx => C.load p g cap x w hx)
  have hsz : (S x.l).size = x.l.length := S_size x.l
  clear hx
  by_cases h148 : 148 ≤ x.l.length
  · have HN := Lib.hid (fun w => rnewest_any (S x.l) w (by rw [hsz]; exact h148))
    rw [S_list] at HN
    have hR : loadR x.l = newR x.l := if_pos h148
    have hB : loadB x.l = decide (0 ≤ newI x.l) := by simp [loadB, h148]
    replace HC : Hid (∀ w, CodeAt w p g cap x → Calls Tryd.prog 15 #[.pointer (some ⟨p, 0, none⟩)] w fun e w' => e = .returned (.tuple #[.agg #[.int .u32 (loadR x.l).q, .int .u16 (loadR x.l).i, .string (loadR x.l).d], .bool (loadB x.l)]) ∧ Below w.heap.size w w') := HC
    rw [hR, hB] at HC
    replace HN : Hid (∀ w : World, Calls Tryd.prog 26 #[.string (S x.l)] w fun e w' => e = .returned (.tuple #[.int .i64 (newI x.l), .agg #[.int .u32 ((newR x.l).q : Int), .int .u16 ((newR x.l).i : Int), .string (newR x.l).d]]) ∧ Below w.heap.size w w') := HN
    clear hR hB
    generalize newI x.l = I at *
    generalize newR x.l = R at *
    have hnot : ¬ ((S x.l).size : Int) < 148 := by omega
    go_enter Tryd.func10, Tryd.ntmps10
    go_wp2_with fail
    refine (HC.out _ HX.out).mono ?_
    rintro e w1 ⟨rfl, hb1⟩
    have hal := (Below.refl w1.heap.size w1).alloc (Nat.le_refl _) (Obj.cells #[Value.int IntKind.u32 R.q, Value.int IntKind.u16 R.i, Value.string R.d] 39)
    have hr1 : RecAt _ w1.heap.size R.q R.i R.d := RecAt.new w1 R.q R.i R.d 39
    have hb2 := hb1.trans (hal.mono hb1.size)
    have HZ := Lib.hid (⟨hr1, hb2, HX.out.below hb2 hpl hgl⟩ : _ ∧ _ ∧ _)
    clear hal hr1 hb2 hb1
    go_wp2_with fail
    obtain ⟨hr1, hb2, hx2⟩ := HZ.out
    clear HZ
    generalize w1.alloc (Obj.cells #[Value.int IntKind.u32 R.q, Value.int IntKind.u16 R.i, Value.string R.d] 39) = W1 at *
    generalize w1.heap.size = b at *
    refine (bytes_of p g cap x _ hx2).mono ?_
    rintro e w2 ⟨rfl, rfl⟩
    go_wp2_with fail
    refine (HN.out _).mono ?_
    rintro e w3 ⟨rfl, hb3⟩
    have hr3 := hr1.below hb3
    have hb4 := hb2.trans (hb3.mono hb2.size)
    have hr4 := hr3.below ((Below.refl w3.heap.size w3).alloc (Nat.le_refl _) (Obj.cells #[Value.int IntKind.u32 R.q, Value.int IntKind.u16 R.i, Value.string R.d] 39))
    have r0 := hr4.c0
    have r1 := hr4.c1
    have r2 := hr4.c2
    have hne : b ≠ w3.heap.size := by have := hr3.lt; omega
    have hbs := hb4.size
    clear hr4
    clear hr1 hr3 hb2 hb3 hx2
    have HB := Lib.hid (hb4.alloc hbs (Obj.cells #[Value.int IntKind.u32 R.q, Value.int IntKind.u16 R.i, Value.string R.d] 39))
    clear hb4
    go_wp2
    go_ret
    exact ⟨by simp, HB.out⟩
  · have hR : loadR x.l = Rc.zero := if_neg h148
    have hB : loadB x.l = false := by simp [loadB, h148]
    replace HC : Hid (∀ w, CodeAt w p g cap x → Calls Tryd.prog 15 #[.pointer (some ⟨p, 0, none⟩)] w fun e w' => e = .returned (.tuple #[.agg #[.int .u32 (loadR x.l).q, .int .u16 (loadR x.l).i, .string (loadR x.l).d], .bool (loadB x.l)]) ∧ Below w.heap.size w w') := HC
    rw [hR, hB] at HC
    replace HC : Hid (∀ w, CodeAt w p g cap x → Calls Tryd.prog 15 #[.pointer (some ⟨p, 0, none⟩)] w fun e w' => e = .returned (.tuple #[.agg #[.int .u32 0, .int .u16 0, .string ⟨#[]⟩], .bool false]) ∧ Below w.heap.size w w') := HC
    clear hR hB
    have hnot : ((S x.l).size : Int) < 148 := by omega
    go_enter Tryd.func10, Tryd.ntmps10
    go_wp2_with fail
    refine (HC.out _ HX.out).mono ?_
    rintro e w1 ⟨rfl, hb1⟩
    have hal := (Below.refl w1.heap.size w1).alloc (Nat.le_refl _) (Obj.cells #[Value.int IntKind.u32 0, Value.int IntKind.u16 0, Value.string { data := #[] }] 39)
    have hr1 : RecAt _ w1.heap.size 0 0 ⟨#[]⟩ := RecAt.new w1 0 0 ⟨#[]⟩ 39
    have hb2 := hb1.trans (hal.mono hb1.size)
    have HZ := Lib.hid (⟨hr1, hb2, HX.out.below hb2 hpl hgl⟩ : _ ∧ _ ∧ _)
    clear hal hr1 hb2 hb1
    go_wp2_with fail
    obtain ⟨hr1, hb2, hx2⟩ := HZ.out
    clear HZ
    generalize w1.alloc (Obj.cells #[Value.int IntKind.u32 0, Value.int IntKind.u16 0, Value.string { data := #[] }] 39) = W1 at *
    generalize w1.heap.size = b at *
    refine (bytes_of p g cap x _ hx2).mono ?_
    rintro e w2 ⟨rfl, rfl⟩
    have r0 := hr1.c0
    have r1 := hr1.c1
    have r2 := hr1.c2
    go_wp2
    go_ret
    exact ⟨by simp, hb2⟩

end Go.Proofs.YtahmngmbgbcmhaaDoor.Ret
