/-
  What is asked of the code's calls on programs as texts; awake, walked. Conditions: that the calls answer as is asked.
-/
import Derived.Test.YtpnjhodpbjhmcaaGreatDoorIlSpl
import Derived.BigQuiet
import Derived.Deep.QuietTactic
namespace Go.Proofs.YtpnjhodpbjhmcaaGreatDoor.Il
open Go.RowKit
open Go.Proofs.YtpnjhodpbjhmcaaGreatDoor.Ic

def codeOf : Except (Nat × Nat) (List In) → List In
  | .ok l => l
  | .error _ => []
def errOf : Except (Nat × Nat) (List In) → Nat
  | .ok _ => 0
  | .error e => e.1
def lineOf : Except (Nat × Nat) (List In) → Nat
  | .ok _ => 0
  | .error e => e.2
/-- What is printed, or nothing. -/
def prtL (l : List In) : Bs := if printsB l then printL l else []
/-- What Assemble answers. -/
def Asms (t : Bs) (w : World) (e : Ending) (w' : World) : Prop :=
  ∃ ao cap, e = .returned (.tuple #[.slice ao (codeOf (asmB t)).length cap, .int .i64 (errOf (asmB t) : Nat), .int .i64 (lineOf (asmB t) : Nat)]) ∧ Lies w' w'.heap.size ao (codeOf (asmB t)) ∧ (codeOf (asmB t)).length ≤ 200 ∧ Below w.heap.size w w'

/-- What is asked of the code. -/
structure Code (B : Base) : Prop where
  op : ∀ (N : Nat) (s : Bs) (w : World), B.E N w → N ≤ w.heap.size → s.length ≤ 60 → Calls Tryz.prog 9 #[.string (S s)] w (Tells (.tuple #[.int .i64 (opOf s : Nat), .bool (decide (0 < opOf s))]) w)
  right : ∀ (N : Nat) (i : In) (w : World), B.E N w → N ≤ w.heap.size → FitI i → Calls Tryz.prog 11 #[insV i] w (Tells (.bool (rightI i)) w)
  spell : ∀ (N : Nat) (i : In) (w : World), B.E N w → N ≤ w.heap.size → FitI i → Calls Tryz.prog 10 #[insV i] w (Tells (.string (S (spellL i))) w)
  asm : ∀ (N : Nat) (t : Bs) (w : World), B.E N w → N ≤ w.heap.size → t.length ≤ 4000 → Calls Tryz.prog 7 #[.string (S t)] w (Asms t w)
/-- What is asked of the code's Print. -/
structure CodeP (B : Base) : Prop where
  print : ∀ (N : Nat) (ao : Option Addr) (cap : Nat) (l : List In) (w : World), B.E N w → N ≤ w.heap.size → Lies w w.heap.size ao l → FitL l → l.length ≤ 60 → Calls Tryz.prog 5 #[.slice ao l.length cap] w (Tells (.tuple #[.string (S (prtL l)), .bool (printsB l)]) w)

def text0 : Bs := [86, 65, 82, 32, 103, 111, 32, 65, 84, 32, 37, 73, 48, 58, 66, 79, 79, 76, 10, 76, 68, 32, 103, 111, 32, 59, 32, 102, 114, 111, 109, 32, 119, 105, 116, 104, 111, 117, 116, 10, 83, 84, 32, 37, 81, 48, 58, 66, 79, 79, 76]
theorem asm0 : asmB text0 = .ok [⟨1, 1, 1, 0, 0⟩, ⟨3, 1, 2, 0, 0⟩] := by rfl
theorem spell0 : spellL ⟨3, 1, 2, 0, 0⟩ = [83, 84, 32, 37, 81, 48, 58, 66, 79, 79, 76] := by
  have h : Lib.decDigits 0 = [48] := by rw [dec_lt 0 (by omega)]; rfl
  have hr : rightI ⟨3, 1, 2, 0, 0⟩ = true := by decide
  unfold spellL
  rw [hr, if_pos rfl]
  show joinW [opName 3, areaL 2 0 ++ 58 :: nmI 1] = _
  unfold areaL
  rw [show (0 : Int).toNat = 0 by rfl, h]
  rfl

set_option maxRecDepth 100000 in
set_option maxHeartbeats 4000000 in
theorem awake_any {B : Base} (C : Code B) {N : Nat} {w0 : World} (w : World) (hc : Cur B N w0 w) : Calls Tryz.prog 4 #[] w (Tells (.bool true) w) := by
  have hA := C.asm N text0 w hc.e hc.size (by decide)
  unfold Asms at hA
  rw [asm0] at hA
  have HA : Hid (Calls Tryz.prog 7 #[.string ⟨#[86, 65, 82, 32, 103, 111, 32, 65, 84, 32, 37, 73, 48, 58, 66, 79, 79, 76, 10, 76, 68, 32, 103, 111, 32, 59, 32, 102, 114, 111, 109, 32, 119, 105, 116, 104, 111, 117, 116, 10, 83, 84, 32, 37, 81, 48, 58, 66, 79, 79, 76]⟩] w fun e w' => ∃ ao cap, e = .returned (.tuple #[.slice ao 2 cap, .int .i64 0, .int .i64 0]) ∧ Lies w' w'.heap.size ao [⟨1, 1, 1, 0, 0⟩, ⟨3, 1, 2, 0, 0⟩] ∧ Below w.heap.size w w') :=
    hA.mono fun e w' ⟨ao, cap, h1, h2, _, h3⟩ => ⟨ao, cap, h1, h2, h3⟩
  have HO : Hid (∀ W, Cur B N w0 W → Calls Tryz.prog 9 #[.string ⟨#[65, 78, 68, 78]⟩] W (Tells (.tuple #[.int .i64 10, .bool true]) W)) := fun W hW => C.op N [65, 78, 68, 78] W hW.e hW.size (by decide)
  have HS : Hid (∀ W, Cur B N w0 W → Calls Tryz.prog 10 #[.agg #[.int .i64 3, .int .i64 1, .int .i64 2, .int .i64 0, .int .i64 0]] W (Tells (.string ⟨#[83, 84, 32, 37, 81, 48, 58, 66, 79, 79, 76]⟩) W)) := fun W hW => by
    have := C.spell N ⟨3, 1, 2, 0, 0⟩ W hW.e hW.size ⟨by constructor <;> decide, by constructor <;> decide, by constructor <;> decide, by constructor <;> decide, by constructor <;> decide⟩
    rw [spell0] at this
    exact this
  have HC := Lib.hid hc
  clear hA hc C
  go_enter Tryz.func4, Tryz.ntmps4
  go_wp2_with fail
  refine HA.out.mono ?_
  rintro e w1 ⟨ao, cap, rfl, hl, hb1⟩
  have HC1 := Lib.hid (HC.out.next hb1)
  obtain ⟨b, o, rfl, hlt, hI⟩ := hl (by simp)
  have hI0 := hI 0 _ rfl
  have hI1 := hI 1 _ rfl
  simp only [Nat.zero_mul, Nat.add_zero, Nat.one_mul] at hI0 hI1
  replace hI0 := Lib.hid hI0
  replace hI1 := Lib.hid hI1
  clear hl hI
  replace hb1 := Lib.hid hb1
  go_wp2_with fail
  refine (HO.out _ HC1.out).mono ?_
  rintro e w2 ⟨rfl, hb2⟩
  have HC2 := Lib.hid (HC1.out.next hb2)
  obtain ⟨a0, a1, a2, a3, a4⟩ := hI0.out
  obtain ⟨b0, b1, b2, b3, b4⟩ := hI1.out
  have hk : ∀ {k : Nat} {v : Value}, w1.cell? ⟨b, k, none⟩ = some v → w2.cell? ⟨b, k, none⟩ = some v := fun h => kept_cell hb2 h
  replace a0 := hk a0
  replace a1 := hk a1
  replace a2 := hk a2
  replace a3 := hk a3
  replace a4 := hk a4
  replace b0 := hk b0
  replace b1 := hk b1
  replace b2 := hk b2
  replace b3 := hk b3
  replace b4 := hk b4
  have hb3 := Lib.hid (hb1.out.trans (hb2.mono hb1.out.size))
  clear hk hb2 hb1 hI0 hI1 HC1 HC
  go_wp2_with fail
  refine (HS.out _ HC2.out).mono ?_
  rintro e w3 ⟨rfl, hb4⟩
  have hb5 := Lib.hid (hb3.out.trans (hb4.mono hb3.out.size))
  clear hb4
  go_wp2
  go_ret
  exact ⟨by simp, hb5.out⟩

end Go.Proofs.YtpnjhodpbjhmcaaGreatDoor.Il
