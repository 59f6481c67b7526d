/-
  The laws' arguments, opened: two bytes, and acts. Conditions: none.
-/
import Derived.Test.YtkokhmjcpnoklaaStApart
import Derived.Deep.Slices
import Derived.Deep.Fields
import Derived.ChangeSame
import Derived.ProofKit
import Derived.OpenShut
import Derived.ShutString
import Derived.ChangeOld
import Derived.Carry
namespace Go.Proofs.Ytkokhmjcpnoklaa.Sto
open Go.RowKit Go.ChangeShapes Go.WideShapes Go.Deep

theorem u8_nat {z : Int} (h : (Lit.int .u8 z).wf = true) : ∃ n : Nat, z = n ∧ (n : Int) ≤ 255 := by
  simp [Lit.wf, IntKind.min, IntKind.max, IntKind.signed, IntKind.bits] at h
  exact ⟨z.toNat, by omega, by omega⟩
theorem i64_bd {z : Int} (h : (Lit.int .i64 z).wf = true) : -9223372036854775808 ≤ z ∧ z ≤ 9223372036854775807 := by
  simp [Lit.wf, IntKind.min, IntKind.max, IntKind.signed, IntKind.bits] at h
  omega
theorem cPair : Try.prog.cellsOf 40 = 2 := by kernel_rfl
theorem cellsU8 : Try.prog.cellsOf 5 = 1 := by kernel_rfl
theorem agg_of {cs : Array Value} {l : List Value} (h : (Value.agg cs).cells.toList = l) : Value.agg cs = .agg l.toArray := by
  have h' : cs.toList = l := h
  subst h'
  rfl
theorem some_of_lt {α : Type} {l : List α} {i : Nat} (h : i < l.length) : ∃ x, l[i]? = some x := ⟨l[i], List.getElem?_eq_getElem h⟩

section
variable {H : Type} {enc : TypeId × Value → H} {w : World} {base : Nat} {spare : Nat → Bool} {held : Bool}
theorem cells_pair {fuel : Nat} {cs : List Value} {x : DataW H × List MemPlace} (h : DataW.trod enc Try.prog w base spare held fuel 40 cs = some x) :
    ∃ a b : Nat, (a : Int) ≤ 255 ∧ (b : Int) ≤ 255 ∧ cs = [.int .u8 a, .int .u8 b] := by
  obtain ⟨ys, n, rfl, hx, hlen, hyl, hf⟩ := DataW.trod_array Try.underlying40 h
  rw [cPair] at hlen
  obtain ⟨y0, e0⟩ := some_of_lt (l := ys) (i := 0) (by rw [hyl]; decide)
  obtain ⟨y1, e1⟩ := some_of_lt (l := ys) (i := 1) (by rw [hyl]; decide)
  obtain ⟨z0, h0, -, w0⟩ := DataW.trod_int Try.underlying5 ((hf 0 (by decide)).trans e0)
  obtain ⟨z1, h1, -, w1⟩ := DataW.trod_int Try.underlying5 ((hf 1 (by decide)).trans e1)
  rw [cellsU8] at h0 h1
  obtain ⟨a, rfl, ha⟩ := u8_nat w0
  obtain ⟨b, rfl, hb⟩ := u8_nat w1
  refine ⟨a, b, ha, hb, ?_⟩
  match cs, hlen with
  | [v0, v1], _ =>
    simp at h0 h1
    rw [h0, h1]
variable {v : Value} {d : DataW H} {p : List MemPlace}
theorem open_pair {b : Nat} (hv : Value.okWide Try.prog w .any b 40 v) (h : DataW.Trod enc Try.prog w base spare held 40 v d p) :
    ∃ x y : Nat, (x : Int) ≤ 255 ∧ (y : Int) ≤ 255 ∧ v = .agg #[.int .u8 x, .int .u8 y] := by
  unfold Value.okWide at hv
  rw [Try.underlying40] at hv
  obtain ⟨cs, rfl, -, -⟩ := hv
  obtain ⟨n, h⟩ := h
  obtain ⟨a, c, ha, hb, hc⟩ := cells_pair h
  exact ⟨a, c, ha, hb, agg_of hc⟩
end

end Go.Proofs.Ytkokhmjcpnoklaa.Sto
