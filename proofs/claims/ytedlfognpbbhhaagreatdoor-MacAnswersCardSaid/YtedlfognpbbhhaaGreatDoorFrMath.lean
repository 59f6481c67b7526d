/-
  Frames as numbers, and which may be. Conditions: none.
-/
import Derived.Test.YtedlfognpbbhhaaGreatDoorRows
import Derived.WalkKit
import Derived.WalkSpells
import Derived.WalkLawsBesides
import Derived.Lib.Hide
import Derived.Below
import Derived.BigQuiet
import Derived.Deep.QuietTactic
import Derived.StillTailTactics
import Derived.Deep.WholeRow
import Derived.Deep.MidRow
import Derived.Deep.RegionHeld3
import Derived.RegionTactic
import Derived.Deep.Cut
import Derived.Lib.Strings
namespace Go.Proofs.YtedlfognpbbhhaaGreatDoor.Frm
open Go.RowKit

/-- A frame's numbers. -/
structure Fr where
  kind : Int
  src : Nat
  dst : Nat
  sinc : Nat
  dinc : Nat
  ec : Nat
  ea : Nat
  ei : Nat
  hop : Nat
  hc : Nat
  ha : Nat
  hi : Nat
  wants : Bool
  blk : Nat
  vinc : Nat
  vseq : Nat
  part : Nat
  parts : Nat
  bytes : ByteArray

/-- They are such as their kinds hold. -/
def Fr.fit (f : Fr) : Prop := (f.src : Int) ≤ 255 ∧ (f.dst : Int) ≤ 255 ∧ (f.sinc : Int) ≤ 65535 ∧ (f.dinc : Int) ≤ 65535 ∧ (f.ec : Int) ≤ 65535 ∧ (f.ea : Int) ≤ 255 ∧ (f.ei : Int) ≤ 65535 ∧ (f.hop : Int) ≤ 65535 ∧ (f.hc : Int) ≤ 65535 ∧ (f.ha : Int) ≤ 255 ∧ (f.hi : Int) ≤ 65535 ∧ (f.blk : Int) ≤ 255 ∧ (f.vinc : Int) ≤ 65535 ∧ (f.vseq : Int) ≤ 4294967295 ∧ (f.part : Int) ≤ 255 ∧ (f.parts : Int) ≤ 255 ∧ f.bytes.size ≤ maxLen

/-- A frame without what its kind does not have. -/
def own (f : Fr) : Fr :=
  if f.kind = 4 then ⟨f.kind, f.src, 0, f.sinc, 0, f.ec, f.ea, f.ei, f.hop, 0, 0, 0, false, f.blk, f.vinc, f.vseq, f.part, f.parts, f.bytes⟩
  else if f.kind = 3 then ⟨f.kind, f.src, f.dst, f.sinc, f.dinc, f.ec, f.ea, f.ei, f.hop, f.hc, f.ha, f.hi, f.wants, 0, 0, 0, 0, 0, ⟨#[]⟩⟩
  else ⟨f.kind, f.src, f.dst, f.sinc, f.dinc, f.ec, f.ea, f.ei, f.hop, 0, 0, 0, false, 0, 0, 0, 0, 0, ⟨#[]⟩⟩

/-- What is asked of Data alone. -/
def dataOk (f : Fr) : Prop := f.blk < 16 ∧ f.part < f.parts ∧ f.parts ≤ 4 ∧ 0 < f.bytes.size ∧ f.bytes.size ≤ 16
/-- It may be. -/
def Rt (f : Fr) : Prop := 1 ≤ f.kind ∧ f.kind ≤ 5 ∧ f = own f ∧ f.src < 32 ∧ f.dst < 32 ∧ f.ea < 32 ∧ f.ha < 32 ∧ (f.kind = 4 → dataOk f)

end Go.Proofs.YtedlfognpbbhhaaGreatDoor.Frm
