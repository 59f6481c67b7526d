/-
  Plain facts on records and their slots: no program is named here. Conditions: none.
-/
import Derived.Test.YtahmngmbgbcmhaaDoorOctEyeMath
import Derived.Test.YtahmngmbgbcmhaaDoorStMath
import Derived.Test.YtahmngmbgbcmhaaDoorMath
namespace Go.Proofs.YtahmngmbgbcmhaaDoor.Ret
open Oct

/-- A record. -/
structure Rc where
  q : Nat
  i : Nat
  d : ByteArray

/-- Its numbers are of their kinds, its data is short. -/
structure Rc.Ok (r : Rc) : Prop where
  q : (r.q : Int) ≤ 4294967295
  i : (r.i : Int) ≤ 65535
  d : r.d.size ≤ 64

def Rc.zero : Rc := ⟨0, 0, ⟨#[]⟩⟩
theorem Rc.zero_ok : Rc.zero.Ok := ⟨by decide, by decide, by decide⟩

/-- A slot's bytes behind the mark, up to the end of Data; and filled up. -/
def pre (r : Rc) : List UInt8 := be r.q 4 ++ be r.i 2 ++ be r.d.size 1 ++ r.d.data.toList
def body (r : Rc) : List UInt8 := pre r ++ List.replicate (71 - (pre r).length) 0

theorem pre_length (r : Rc) : (pre r).length = 7 + r.d.size := by
  simp [pre, be_length]; omega
theorem body_length {r : Rc} (h : r.d.size ≤ 64) : (body r).length = 71 := by
  rw [body, List.length_append, List.length_replicate, pre_length]; omega

/-- A text with its sum behind it, as bytes. -/
def sealL (l : List UInt8) : List UInt8 := l ++ [UInt8.ofNat ((Sums.more 0xFFFF#16 l).toNat / 256), UInt8.ofNat ((Sums.more 0xFFFF#16 l).toNat % 256)]
theorem sealL_length (l : List UInt8) : (sealL l).length = l.length + 2 := by simp [sealL]

/-- A slot's bytes behind the mark. -/
def slot (r : Rc) : List UInt8 := sealL (body r)
theorem slot_length {r : Rc} (h : r.d.size ≤ 64) : (slot r).length = 73 := by rw [slot, sealL_length, body_length h]

/-- The record of a slot's bytes behind the mark. -/
def recOf (l : List UInt8) : Rc := ⟨num (l.take 4), num ((l.drop 4).take 2), S ((l.drop 7).take (num ((l.drop 6).take 1)))⟩

theorem num_one (c : UInt8) : num [c] = c.toNat := by simp [num, numOf]
theorem take_one (l : List UInt8) (h : 6 < l.length) : num ((l.drop 6).take 1) = (l.getD 6 0).toNat := by
  rw [List.drop_eq_getElem_cons h, List.take_succ_cons, List.take_zero, num_one]
  simp [List.getD_eq_getElem?_getD, h]

/-- What a slot of 74 bytes holds: the record that is read of it; is it whole? -/
def wholeV (l : List UInt8) : Rc := if (l.getD 0 0).toNat ≠ 165 ∨ 64 < (l.getD 7 0).toNat then Rc.zero else recOf (l.drop 1)
def wholeB (l : List UInt8) : Bool := if (l.getD 0 0).toNat ≠ 165 ∨ 64 < (l.getD 7 0).toNat then false else decide (slot (recOf (l.drop 1)) = l.drop 1)

theorem recOf_ok {l : List UInt8} (hl : l.length = 73) (h : (l.getD 6 0).toNat ≤ 64) : (recOf l).Ok := by
  refine ⟨?_, ?_, ?_⟩
  · have := num_lt (l.take 4)
    rw [List.length_take, hl] at this
    show (num (l.take 4) : Int) ≤ _
    have e : (256 : Nat) ^ (min 4 73) = 4294967296 := by decide
    omega
  · have := num_lt ((l.drop 4).take 2)
    rw [List.length_take, List.length_drop, hl] at this
    show (num ((l.drop 4).take 2) : Int) ≤ _
    have e : (256 : Nat) ^ (min 2 (73 - 4)) = 65536 := by decide
    omega
  · show (S _).size ≤ 64
    rw [S_size, List.length_take, take_one l (by omega)]
    omega

theorem wholeV_ok {l : List UInt8} (hl : l.length = 74) : (wholeV l).Ok := by
  unfold wholeV
  split
  · exact Rc.zero_ok
  · rename_i h
    refine recOf_ok (by rw [List.length_drop, hl]) ?_
    have : (l.drop 1).getD 6 0 = l.getD 7 0 := by simp [List.getD_eq_getElem?_getD]
    rw [this]
    omega

/-- Of two slots, whole or not, the newest (-1: none is whole), and its record. -/
def pickI (x y : Bool) (a b : Nat) : Int := if (x && (!y || decide (b ≤ a))) = true then 0 else if y = true then 1 else -1
def pickR (x y : Bool) (a b : Rc) : Rc := if (x && (!y || decide (b.q ≤ a.q))) = true then a else if y = true then b else Rc.zero
def newI (l : List UInt8) : Int := pickI (wholeB (l.take 74)) (wholeB ((l.drop 74).take 74)) (wholeV (l.take 74)).q (wholeV ((l.drop 74).take 74)).q
def newR (l : List UInt8) : Rc := pickR (wholeB (l.take 74)) (wholeB ((l.drop 74).take 74)) (wholeV (l.take 74)) (wholeV ((l.drop 74).take 74))

theorem newR_ok {l : List UInt8} (hl : 148 ≤ l.length) : (newR l).Ok := by
  unfold newR pickR
  split
  · exact wholeV_ok (by rw [List.length_take]; omega)
  · split
    · exact wholeV_ok (by rw [List.length_take, List.length_drop]; omega)
    · exact Rc.zero_ok

end Go.Proofs.YtahmngmbgbcmhaaDoor.Ret
