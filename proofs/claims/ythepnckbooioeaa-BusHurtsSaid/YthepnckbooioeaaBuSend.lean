/-
  The reference's bus: Send, walked. Conditions: none.
-/
import Derived.Test.YthepnckbooioeaaBuPut
import Derived.Test.YthepnckbooioeaaMemRefs
namespace Go.Proofs.Ythepnckbooioeaa.Bus
open Go.RowKit

def sentP (src : Int) (s : ByteArray) : Pc := ⟨s, src.toNat, Mem.woB 4294967295#32 src, false⟩
def sendX (x : Bs) (src : Int) (s : ByteArray) : Bs := if sendB src s then addX x (sentP src s) else x
def sendE (x : Bs) (src : Int) (s : ByteArray) : Int := if sendB src s then addE x else 1

set_option maxRecDepth 100000 in
set_option maxHeartbeats 4000000 in
theorem rSend_any (b : Nat) (ms : List Nat) (x : Bs) (src : Int) (s : ByteArray) (w : World) (hx : RefAt w b ms x) :
    Calls Try.prog 23 #[.pointer (some ⟨b, 0, none⟩), .int .i64 src, .string s] w (Done refFace b ms (.int .i64 (sendE x src s)) (sendX x src s) w) := by
  unfold sendE sendX
  by_cases hs : 0 ≤ src ∧ src ≤ 31 ∧ 1 ≤ s.size ∧ s.size ≤ 255
  · have hb : sendB src s = true := by simpa [sendB] using hs
    rw [if_pos hb, if_pos hb]
    obtain ⟨h1, h2, h3, h4⟩ := hs
    obtain ⟨a, rfl⟩ : ∃ a : Nat, src = a := ⟨src.toNat, by omega⟩
    have t1 : ¬ (a : Int) < 0 := by omega
    have t2 : ¬ (31 : Int) < a := by omega
    have t3 : ¬ (s.size : Int) < 1 := by omega
    have t4 : ¬ (255 : Int) < s.size := by omega
    have HW := Lib.hid (show Calls Try.prog 38 #[.int .u32 4294967295, .int .i64 a] w fun e w' => e = .returned (.int .u32 ((Mem.woB 4294967295#32 a).toNat : Int)) ∧ Below w.heap.size w w' from Mem.rWithout_any 4294967295#32 a w)
    have HA := Lib.hid (fun (w1 : World) (hb : Below w.heap.size w w1) => radd_any b ms x (sentP a s) w1 (Face.below (F := refFace) hx hb) h4)
    unfold sentP at *
    simp only [Int.toNat_natCast] at *
    clear hx hb
    go_enter Try.func23, Try.ntmps23
    go_wp2_with fail
    refine HW.out.mono ?_
    rintro e w1 ⟨rfl, hb1⟩
    go_wp2_with fail
    refine (HA.out w1 hb1).mono ?_
    rintro e w2 hd
    obtain ⟨rfl, ns, q1, q2, q3⟩ := Done.after hb1 hd
    clear hd
    go_wp2
    go_ret
    exact ⟨rfl, ns, q1, q2, q3⟩
  · have hb : sendB src s = false := by simpa [sendB] using hs
    simp only [hb, if_false, Bool.false_eq_true]
    have HX := Lib.hid hx
    clear hx hb
    go_enter Try.func23, Try.ntmps23
    by_cases c1 : src < 0
    · go_wp2
      go_ret
      exact Done.same (F := refFace) HX.out (Below.refl _ _)
    · by_cases c2 : (31 : Int) < src
      · go_wp2
        go_ret
        exact Done.same (F := refFace) HX.out (Below.refl _ _)
      · by_cases c3 : (s.size : Int) < 1
        · go_wp2
          go_ret
          exact Done.same (F := refFace) HX.out (Below.refl _ _)
        · have c4 : (255 : Int) < s.size := by omega
          go_wp2
          go_ret
          exact Done.same (F := refFace) HX.out (Below.refl _ _)

end Go.Proofs.Ythepnckbooioeaa.Bus
