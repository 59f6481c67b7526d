/-
  Arguments of the laws of layer 11, opened: arrays of numbers. Conditions: none.
-/
import Derived.Test.YtkjijeogkemgoaaIcCode
import Derived.ChangeSame
import Derived.ProofKit
import Derived.OpenShut
import Derived.ShutString
import Derived.ChangeOld
import Derived.Carry
namespace Go.Proofs.Ytkjijeogkemgoaa.Ic
open Go.RowKit Go.ChangeShapes Go.WideShapes

theorem u8_nat {z : Int} (h : (Lit.int .u8 z).wf = true) : ∃ n : Nat, z = n ∧ (n : Int) ≤ 255 := by
  simp [Lit.wf, IntKind.min, IntKind.max, IntKind.signed, IntKind.bits] at h
  exact ⟨z.toNat, by omega, by omega⟩
theorem i64_bd {z : Int} (h : (Lit.int .i64 z).wf = true) : I64 z := by
  simp [Lit.wf, IntKind.min, IntKind.max, IntKind.signed, IntKind.bits] at h
  unfold I64
  omega
theorem some_of_lt {α : Type} {l : List α} {i : Nat} (h : i < l.length) : ∃ x, l[i]? = some x := ⟨l[i], List.getElem?_eq_getElem h⟩
theorem agg_of {cs : Array Value} {l : List Value} (h : (Value.agg cs).cells.toList = l) : Value.agg cs = .agg l.toArray := by
  have h' : cs.toList = l := h
  subst h'
  rfl
theorem Try.ic_one_int64 : Try.prog.cellsOf 2 = 1 := by kernel_rfl
theorem Try.ic_one_int : Try.prog.cellsOf 3 = 1 := by kernel_rfl
theorem Try.ic_one_uint8 : Try.prog.cellsOf 5 = 1 := by kernel_rfl
section
variable {H : Type} {enc : TypeId × Value → H} {w : World} {base : Nat} {spare : Nat → Bool} {held : Bool} {v : Value} {d : DataW H} {p : List MemPlace}
theorem Try.ic_ctwo64 : Try.prog.cellsOf 30 = 2 := by kernel_rfl
theorem cells_two64 {fuel : Nat} {cs : List Value} {x : DataW H × List MemPlace} (h : DataW.trod enc Try.prog w base spare held fuel 30 cs = some x) :
    ∃ a0 a1 : Int, I64 a0 ∧ I64 a1 ∧ cs = [.int .i64 a0, .int .i64 a1] := by
  obtain ⟨ys, n, rfl, hx, hlen, hyl, hf⟩ := DataW.trod_array Try.underlying30 h
  rw [Try.ic_ctwo64] at hlen
  obtain ⟨y0, e0⟩ := some_of_lt (l := ys) (i := 0) (by rw [hyl]; decide)
  obtain ⟨y1, e1⟩ := some_of_lt (l := ys) (i := 1) (by rw [hyl]; decide)
  obtain ⟨z0, h0, -, w0⟩ := DataW.trod_int Try.underlying2 ((hf 0 (by decide)).trans e0)
  obtain ⟨z1, h1, -, w1⟩ := DataW.trod_int Try.underlying2 ((hf 1 (by decide)).trans e1)
  rw [Try.ic_one_int64] at h0 h1
  refine ⟨z0, z1, i64_bd w0, i64_bd w1, ?_⟩
  match cs, hlen with
  | [v0, v1], _ =>
    simp at h0 h1
    rw [h0, h1]
theorem open_two64 {b : Nat} (hv : Value.okWide Try.prog w .any b 30 v) (h : DataW.Trod enc Try.prog w base spare held 30 v d p) :
    ∃ a0 a1 : Int, I64 a0 ∧ I64 a1 ∧ v = .agg #[.int .i64 a0, .int .i64 a1] := by
  unfold Value.okWide at hv
  rw [Try.underlying30] at hv
  obtain ⟨cs, rfl, -, -⟩ := hv
  obtain ⟨n, h⟩ := h
  obtain ⟨a0, a1, q0, q1, hc⟩ := cells_two64 h
  exact ⟨a0, a1, q0, q1, agg_of hc⟩
theorem Try.ic_ctwo : Try.prog.cellsOf 38 = 2 := by kernel_rfl
theorem cells_two {fuel : Nat} {cs : List Value} {x : DataW H × List MemPlace} (h : DataW.trod enc Try.prog w base spare held fuel 38 cs = some x) :
    ∃ a0 a1 : Int, I64 a0 ∧ I64 a1 ∧ cs = [.int .i64 a0, .int .i64 a1] := by
  obtain ⟨ys, n, rfl, hx, hlen, hyl, hf⟩ := DataW.trod_array Try.underlying38 h
  rw [Try.ic_ctwo] at hlen
  obtain ⟨y0, e0⟩ := some_of_lt (l := ys) (i := 0) (by rw [hyl]; decide)
  obtain ⟨y1, e1⟩ := some_of_lt (l := ys) (i := 1) (by rw [hyl]; decide)
  obtain ⟨z0, h0, -, w0⟩ := DataW.trod_int Try.underlying3 ((hf 0 (by decide)).trans e0)
  obtain ⟨z1, h1, -, w1⟩ := DataW.trod_int Try.underlying3 ((hf 1 (by decide)).trans e1)
  rw [Try.ic_one_int] at h0 h1
  refine ⟨z0, z1, i64_bd w0, i64_bd w1, ?_⟩
  match cs, hlen with
  | [v0, v1], _ =>
    simp at h0 h1
    rw [h0, h1]
theorem open_two {b : Nat} (hv : Value.okWide Try.prog w .any b 38 v) (h : DataW.Trod enc Try.prog w base spare held 38 v d p) :
    ∃ a0 a1 : Int, I64 a0 ∧ I64 a1 ∧ v = .agg #[.int .i64 a0, .int .i64 a1] := by
  unfold Value.okWide at hv
  rw [Try.underlying38] at hv
  obtain ⟨cs, rfl, -, -⟩ := hv
  obtain ⟨n, h⟩ := h
  obtain ⟨a0, a1, q0, q1, hc⟩ := cells_two h
  exact ⟨a0, a1, q0, q1, agg_of hc⟩
theorem Try.ic_ctwou : Try.prog.cellsOf 47 = 2 := by kernel_rfl
theorem cells_twou {fuel : Nat} {cs : List Value} {x : DataW H × List MemPlace} (h : DataW.trod enc Try.prog w base spare held fuel 47 cs = some x) :
    ∃ a0 a1 : Nat, a0 < 256 ∧ a1 < 256 ∧ cs = [.int .u8 a0, .int .u8 a1] := by
  obtain ⟨ys, n, rfl, hx, hlen, hyl, hf⟩ := DataW.trod_array Try.underlying47 h
  rw [Try.ic_ctwou] at hlen
  obtain ⟨y0, e0⟩ := some_of_lt (l := ys) (i := 0) (by rw [hyl]; decide)
  obtain ⟨y1, e1⟩ := some_of_lt (l := ys) (i := 1) (by rw [hyl]; decide)
  obtain ⟨z0, h0, -, w0⟩ := DataW.trod_int Try.underlying5 ((hf 0 (by decide)).trans e0)
  obtain ⟨z1, h1, -, w1⟩ := DataW.trod_int Try.underlying5 ((hf 1 (by decide)).trans e1)
  rw [Try.ic_one_uint8] at h0 h1
  obtain ⟨a0, rfl, ha0⟩ := u8_nat w0
  obtain ⟨a1, rfl, ha1⟩ := u8_nat w1
  refine ⟨a0, a1, by omega, by omega, ?_⟩
  match cs, hlen with
  | [v0, v1], _ =>
    simp at h0 h1
    rw [h0, h1]
theorem open_twou {b : Nat} (hv : Value.okWide Try.prog w .any b 47 v) (h : DataW.Trod enc Try.prog w base spare held 47 v d p) :
    ∃ a0 a1 : Nat, a0 < 256 ∧ a1 < 256 ∧ v = .agg #[.int .u8 a0, .int .u8 a1] := by
  unfold Value.okWide at hv
  rw [Try.underlying47] at hv
  obtain ⟨cs, rfl, -, -⟩ := hv
  obtain ⟨n, h⟩ := h
  obtain ⟨a0, a1, q0, q1, hc⟩ := cells_twou h
  exact ⟨a0, a1, q0, q1, agg_of hc⟩
theorem Try.ic_cthree64 : Try.prog.cellsOf 49 = 3 := by kernel_rfl
theorem cells_three64 {fuel : Nat} {cs : List Value} {x : DataW H × List MemPlace} (h : DataW.trod enc Try.prog w base spare held fuel 49 cs = some x) :
    ∃ a0 a1 a2 : Int, I64 a0 ∧ I64 a1 ∧ I64 a2 ∧ cs = [.int .i64 a0, .int .i64 a1, .int .i64 a2] := by
  obtain ⟨ys, n, rfl, hx, hlen, hyl, hf⟩ := DataW.trod_array Try.underlying49 h
  rw [Try.ic_cthree64] at hlen
  obtain ⟨y0, e0⟩ := some_of_lt (l := ys) (i := 0) (by rw [hyl]; decide)
  obtain ⟨y1, e1⟩ := some_of_lt (l := ys) (i := 1) (by rw [hyl]; decide)
  obtain ⟨y2, e2⟩ := some_of_lt (l := ys) (i := 2) (by rw [hyl]; decide)
  obtain ⟨z0, h0, -, w0⟩ := DataW.trod_int Try.underlying2 ((hf 0 (by decide)).trans e0)
  obtain ⟨z1, h1, -, w1⟩ := DataW.trod_int Try.underlying2 ((hf 1 (by decide)).trans e1)
  obtain ⟨z2, h2, -, w2⟩ := DataW.trod_int Try.underlying2 ((hf 2 (by decide)).trans e2)
  rw [Try.ic_one_int64] at h0 h1 h2
  refine ⟨z0, z1, z2, i64_bd w0, i64_bd w1, i64_bd w2, ?_⟩
  match cs, hlen with
  | [v0, v1, v2], _ =>
    simp at h0 h1 h2
    rw [h0, h1, h2]
theorem open_three64 {b : Nat} (hv : Value.okWide Try.prog w .any b 49 v) (h : DataW.Trod enc Try.prog w base spare held 49 v d p) :
    ∃ a0 a1 a2 : Int, I64 a0 ∧ I64 a1 ∧ I64 a2 ∧ v = .agg #[.int .i64 a0, .int .i64 a1, .int .i64 a2] := by
  unfold Value.okWide at hv
  rw [Try.underlying49] at hv
  obtain ⟨cs, rfl, -, -⟩ := hv
  obtain ⟨n, h⟩ := h
  obtain ⟨a0, a1, a2, q0, q1, q2, hc⟩ := cells_three64 h
  exact ⟨a0, a1, a2, q0, q1, q2, agg_of hc⟩
end

end Go.Proofs.Ytkjijeogkemgoaa.Ic
