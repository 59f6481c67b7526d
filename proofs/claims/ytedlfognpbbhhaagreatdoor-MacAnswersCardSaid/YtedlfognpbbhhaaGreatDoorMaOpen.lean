/-
  What the rows' listed variable gives the walks, one start at which it lies so, and an argument that is a frame, opened. Conditions: none.
-/
import Derived.Test.YtedlfognpbbhhaaGreatDoorRows
import Derived.Test.YtedlfognpbbhhaaGreatDoorMaBase
import Derived.Stop.LaidErr
import Derived.LaidLaws
import Derived.Lib.LaidTab
import Derived.ChangeSame
import Derived.ProofKit
import Derived.OpenShut
import Derived.ShutString
import Derived.ChangeOld
import Derived.Carry
namespace Go.Proofs.YtedlfognpbbhhaaGreatDoor.Ma
open Go.RowKit Go.ChangeShapes Go.WideShapes
open Go.Proofs.YtedlfognpbbhhaaGreatDoor.Epo (Ep)
open Go.Proofs.YtedlfognpbbhhaaGreatDoor.Mem (Tz)
open Go.Proofs.YtedlfognpbbhhaaGreatDoor.Frm (Fr)

theorem Tryz.gTzT : (Tryz.prog.globals[0]?).map (·.type) = some 138 := by kernel_rfl
theorem Tryz.cellsTz : Tryz.prog.cellsOf 138 = 32 := by kernel_rfl
theorem Tryz.cellsU8 : Tryz.prog.cellsOf 5 = 1 := by kernel_rfl
def tzTab : List Int := [0, 1, 28, 2, 29, 14, 24, 3, 30, 22, 20, 15, 25, 17, 4, 8, 31, 27, 13, 23, 21, 19, 16, 7, 26, 12, 18, 6, 11, 5, 10, 9]
theorem tzTab_eq : tzTab = Lib.deBruijn32tab.map fun n : Nat => (n : Int) := by decide
theorem env_of_laid {W : World} (h : laidMet Tryz.prog Rows.macMineRow.laid W) : Tz W := by
  have ht : Lib.TabIs Tryz.prog W "math/bits.deBruijn32tab" .u8 tzTab :=
    Lib.tabIs_of_head Mem.Tryz.gTz Tryz.gTzT Tryz.underlying138 Tryz.underlying5 Tryz.cellsU8 Tryz.cellsTz h
  intro j hj
  unfold Lib.TabIs at ht
  have h0 := World.var?_cell Mem.Tryz.gTz ht j
  rw [h0, tzTab_eq]
  have hl : Lib.deBruijn32tab.length = 32 := by decide
  simp [hl, hj]

/-! ### One start that fits -/
def litsOf {H : Type} : DataW H → List Value
  | .agg l => l.map fun d => match d with | .lit (.int k z) => .int k z | _ => undef
  | _ => []
def lay (g : Nat) (cs : Array Value) (h : Array Obj) : Array Obj := h.modify g fun
  | .cells _ t frozen => .cells cs t frozen
  | o => o
noncomputable def laidWorld (os : Os) : World :=
  let w0 := World.holding Tryz.prog os ⟨#[], #[], []⟩
  { w0 with heap := lay 0 (litsOf (H := Unit) Rows.laid_math_bits_deBruijn32tab).toArray w0.heap }
theorem laidWorld_met (os : Os) (args : Array Value) : laidMet Tryz.prog Rows.macMineRow.laid ((laidWorld os).forCall (fun _ _ => 0) ⟨#[], args, []⟩).memory :=
  laidMet_of_run' 8 (by kernel_rfl) (by kernel_rfl)

/-! ### An argument that is a frame -/
theorem u16_nat {z : Int} (h : (Lit.int .u16 z).wf = true) : ∃ n : Nat, z = n ∧ (n : Int) ≤ 65535 := by
  simp [Lit.wf, IntKind.min, IntKind.max, IntKind.signed, IntKind.bits] at h
  exact ⟨z.toNat, by omega, by omega⟩
theorem u8_nat {z : Int} (h : (Lit.int .u8 z).wf = true) : ∃ n : Nat, z = n ∧ (n : Int) ≤ 255 := by
  simp [Lit.wf, IntKind.min, IntKind.max, IntKind.signed, IntKind.bits] at h
  exact ⟨z.toNat, by omega, by omega⟩
theorem u32_nat {z : Int} (h : (Lit.int .u32 z).wf = true) : ∃ n : Nat, z = n ∧ (n : Int) ≤ 4294967295 := by
  simp [Lit.wf, IntKind.min, IntKind.max, IntKind.signed, IntKind.bits] at h
  exact ⟨z.toNat, by omega, by omega⟩
theorem Tryz.c38 : Tryz.prog.cellsOf 38 = 19 := by kernel_rfl
theorem Tryz.c36 : Tryz.prog.cellsOf 36 = 2 := by kernel_rfl
theorem Tryz.c33 : Tryz.prog.cellsOf 33 = 3 := by kernel_rfl
theorem Tryz.c34 : Tryz.prog.cellsOf 34 = 1 := by kernel_rfl
theorem Tryz.c22 : Tryz.prog.cellsOf 22 = 1 := by kernel_rfl
theorem Tryz.c9 : Tryz.prog.cellsOf 9 = 1 := by kernel_rfl
theorem Tryz.c5 : Tryz.prog.cellsOf 5 = 1 := by kernel_rfl
theorem Tryz.c4 : Tryz.prog.cellsOf 4 = 1 := by kernel_rfl
theorem Tryz.c3 : Tryz.prog.cellsOf 3 = 1 := by kernel_rfl
theorem agg_of {cs : Array Value} {l : List Value} (h : (Value.agg cs).cells.toList = l) : Value.agg cs = .agg l.toArray := by
  have h' : cs.toList = l := h
  subst h'
  rfl
theorem some_of_lt {α : Type} {l : List α} {i : Nat} (h : i < l.length) : ∃ x, l[i]? = some x := ⟨l[i], List.getElem?_eq_getElem h⟩
section
variable {H : Type} {enc : TypeId × Value → H} {w : World} {base : Nat} {spare : Nat → Bool} {held : Bool}
set_option maxRecDepth 100000 in
theorem cells_epoch {fuel : Nat} {cs : List Value} {x : DataW H × List MemPlace} (h : DataW.trod enc Tryz.prog w base spare held fuel 33 cs = some x) :
    ∃ e : Ep, ((e.c : Int) ≤ 65535 ∧ (e.a : Int) ≤ 255 ∧ (e.i : Int) ≤ 65535) ∧ cs = [.int .u16 e.c, .int .u8 e.a, .int .u16 e.i] := by
  obtain ⟨ys, n, rfl, hx, hlen, hyl, hf⟩ := DataW.trod_struct Tryz.underlying33 h
  rw [Tryz.c33] at hlen
  obtain ⟨y0, e0⟩ := some_of_lt (l := ys) (i := 0) (by rw [hyl]; decide)
  obtain ⟨y1, e1⟩ := some_of_lt (l := ys) (i := 1) (by rw [hyl]; decide)
  obtain ⟨y2, e2⟩ := some_of_lt (l := ys) (i := 2) (by rw [hyl]; decide)
  obtain ⟨z0, h0, -, w0⟩ := DataW.trod_int Tryz.underlying22 ((hf 0 _ rfl).trans e0)
  have k0 : (cs.drop 0).take 1 = _ := h0
  obtain ⟨c, rfl, bc⟩ := u16_nat w0
  obtain ⟨z1, h1, -, w1⟩ := DataW.trod_int Tryz.underlying5 ((hf 1 _ rfl).trans e1)
  have k1 : (cs.drop 1).take 1 = _ := h1
  obtain ⟨a, rfl, ba⟩ := u8_nat w1
  obtain ⟨z2, h2, -, w2⟩ := DataW.trod_int Tryz.underlying22 ((hf 2 _ rfl).trans e2)
  have k2 : (cs.drop 2).take 1 = _ := h2
  obtain ⟨i, rfl, bi⟩ := u16_nat w2
  refine ⟨⟨c, a, i⟩, ⟨bc, ba, bi⟩, ?_⟩
  match cs, hlen with
  | [v0, v1, v2], _ =>
    simp at k0 k1 k2
    simp [*]
set_option maxRecDepth 100000 in
theorem cells_version {fuel : Nat} {cs : List Value} {x : DataW H × List MemPlace} (h : DataW.trod enc Tryz.prog w base spare held fuel 36 cs = some x) :
    ∃ i s : Nat, (i : Int) ≤ 65535 ∧ (s : Int) ≤ 4294967295 ∧ cs = [.int .u16 i, .int .u32 s] := by
  obtain ⟨ys, n, rfl, hx, hlen, hyl, hf⟩ := DataW.trod_struct Tryz.underlying36 h
  rw [Tryz.c36] at hlen
  obtain ⟨y0, e0⟩ := some_of_lt (l := ys) (i := 0) (by rw [hyl]; decide)
  obtain ⟨y1, e1⟩ := some_of_lt (l := ys) (i := 1) (by rw [hyl]; decide)
  obtain ⟨z0, h0, -, w0⟩ := DataW.trod_int Tryz.underlying22 ((hf 0 _ rfl).trans e0)
  have k0 : (cs.drop 0).take 1 = _ := h0
  obtain ⟨i, rfl, bi⟩ := u16_nat w0
  obtain ⟨z1, h1, -, w1⟩ := DataW.trod_int Tryz.underlying34 ((hf 1 _ rfl).trans e1)
  have k1 : (cs.drop 1).take 1 = _ := h1
  obtain ⟨s, rfl, bs⟩ := u32_nat w1
  refine ⟨i, s, bi, bs, ?_⟩
  match cs, hlen with
  | [v0, v1], _ =>
    simp at k0 k1
    simp [*]
set_option maxRecDepth 100000 in
theorem cells_frame {fuel : Nat} {cs : List Value} {x : DataW H × List MemPlace} (h : DataW.trod enc Tryz.prog w base spare held fuel 38 cs = some x) :
    ∃ f : Fr, f.fit ∧ cs = [.int .i64 f.kind, .int .u8 f.src, .int .u8 f.dst, .int .u16 f.sinc, .int .u16 f.dinc, .int .u16 f.ec, .int .u8 f.ea, .int .u16 f.ei, .int .u16 f.hop, .int .u16 f.hc, .int .u8 f.ha, .int .u16 f.hi, .bool f.wants, .int .u8 f.blk, .int .u16 f.vinc, .int .u32 f.vseq, .int .u8 f.part, .int .u8 f.parts, .string f.bytes] := by
  obtain ⟨ys, n, rfl, hx, hlen, hyl, hf⟩ := DataW.trod_struct Tryz.underlying38 h
  rw [Tryz.c38] at hlen
  obtain ⟨y0, e0⟩ := some_of_lt (l := ys) (i := 0) (by rw [hyl]; decide)
  obtain ⟨y1, e1⟩ := some_of_lt (l := ys) (i := 1) (by rw [hyl]; decide)
  obtain ⟨y2, e2⟩ := some_of_lt (l := ys) (i := 2) (by rw [hyl]; decide)
  obtain ⟨y3, e3⟩ := some_of_lt (l := ys) (i := 3) (by rw [hyl]; decide)
  obtain ⟨y4, e4⟩ := some_of_lt (l := ys) (i := 4) (by rw [hyl]; decide)
  obtain ⟨y5, e5⟩ := some_of_lt (l := ys) (i := 5) (by rw [hyl]; decide)
  obtain ⟨y6, e6⟩ := some_of_lt (l := ys) (i := 6) (by rw [hyl]; decide)
  obtain ⟨y7, e7⟩ := some_of_lt (l := ys) (i := 7) (by rw [hyl]; decide)
  obtain ⟨y8, e8⟩ := some_of_lt (l := ys) (i := 8) (by rw [hyl]; decide)
  obtain ⟨y9, e9⟩ := some_of_lt (l := ys) (i := 9) (by rw [hyl]; decide)
  obtain ⟨y10, e10⟩ := some_of_lt (l := ys) (i := 10) (by rw [hyl]; decide)
  obtain ⟨y11, e11⟩ := some_of_lt (l := ys) (i := 11) (by rw [hyl]; decide)
  obtain ⟨y12, e12⟩ := some_of_lt (l := ys) (i := 12) (by rw [hyl]; decide)
  obtain ⟨y13, e13⟩ := some_of_lt (l := ys) (i := 13) (by rw [hyl]; decide)
  obtain ⟨z0, h0, -, w0⟩ := DataW.trod_int Tryz.underlying3 ((hf 0 _ rfl).trans e0)
  have k0 : (cs.drop 0).take 1 = _ := h0
  obtain ⟨z1, h1, -, w1⟩ := DataW.trod_int Tryz.underlying5 ((hf 1 _ rfl).trans e1)
  have k1 : (cs.drop 1).take 1 = _ := h1
  obtain ⟨src, rfl, bsrc⟩ := u8_nat w1
  obtain ⟨z2, h2, -, w2⟩ := DataW.trod_int Tryz.underlying5 ((hf 2 _ rfl).trans e2)
  have k2 : (cs.drop 2).take 1 = _ := h2
  obtain ⟨dst, rfl, bdst⟩ := u8_nat w2
  obtain ⟨z3, h3, -, w3⟩ := DataW.trod_int Tryz.underlying22 ((hf 3 _ rfl).trans e3)
  have k3 : (cs.drop 3).take 1 = _ := h3
  obtain ⟨sinc, rfl, bsinc⟩ := u16_nat w3
  obtain ⟨z4, h4, -, w4⟩ := DataW.trod_int Tryz.underlying22 ((hf 4 _ rfl).trans e4)
  have k4 : (cs.drop 4).take 1 = _ := h4
  obtain ⟨dinc, rfl, bdinc⟩ := u16_nat w4
  obtain ⟨p5, q5, h5⟩ := cells_epoch ((hf 5 _ rfl).trans e5)
  have k5 : (cs.drop 5).take 3 = _ := h5
  obtain ⟨z6, h6, -, w6⟩ := DataW.trod_int Tryz.underlying22 ((hf 6 _ rfl).trans e6)
  have k6 : (cs.drop 8).take 1 = _ := h6
  obtain ⟨hop, rfl, bhop⟩ := u16_nat w6
  obtain ⟨p7, q7, h7⟩ := cells_epoch ((hf 7 _ rfl).trans e7)
  have k7 : (cs.drop 9).take 3 = _ := h7
  obtain ⟨b8, h8, -⟩ := DataW.trod_bool Tryz.underlying4 ((hf 8 _ rfl).trans e8)
  have k8 : (cs.drop 12).take 1 = _ := h8
  obtain ⟨z9, h9, -, w9⟩ := DataW.trod_int Tryz.underlying5 ((hf 9 _ rfl).trans e9)
  have k9 : (cs.drop 13).take 1 = _ := h9
  obtain ⟨blk, rfl, bblk⟩ := u8_nat w9
  obtain ⟨p10, p10', q10, q10', h10⟩ := cells_version ((hf 10 _ rfl).trans e10)
  have k10 : (cs.drop 14).take 2 = _ := h10
  obtain ⟨z11, h11, -, w11⟩ := DataW.trod_int Tryz.underlying5 ((hf 11 _ rfl).trans e11)
  have k11 : (cs.drop 16).take 1 = _ := h11
  obtain ⟨part, rfl, bpart⟩ := u8_nat w11
  obtain ⟨z12, h12, -, w12⟩ := DataW.trod_int Tryz.underlying5 ((hf 12 _ rfl).trans e12)
  have k12 : (cs.drop 17).take 1 = _ := h12
  obtain ⟨parts, rfl, bparts⟩ := u8_nat w12
  obtain ⟨s13, h13, -, w13⟩ := DataW.trod_string Tryz.underlying9 ((hf 13 _ rfl).trans e13)
  have k13 : (cs.drop 18).take 1 = _ := h13
  refine ⟨⟨z0, src, dst, sinc, dinc, p5.c, p5.a, p5.i, hop, p7.c, p7.a, p7.i, b8, blk, p10, p10', part, parts, s13⟩, ⟨bsrc, bdst, bsinc, bdinc, q5.1, q5.2.1, q5.2.2, bhop, q7.1, q7.2.1, q7.2.2, bblk, q10, q10', bpart, bparts, w13⟩, ?_⟩
  match cs, hlen with
  | [v0, v1, v2, v3, v4, v5, v6, v7, v8, v9, v10, v11, v12, v13, v14, v15, v16, v17, v18], _ =>
    simp at k0 k1 k2 k3 k4 k5 k6 k7 k8 k9 k10 k11 k12 k13
    simp [*]

set_option maxRecDepth 100000 in
theorem open_frame {v : Value} {d : DataW H} {p : List MemPlace} {b : Nat} (hv : Value.okWide Tryz.prog w .any b 38 v) (h : DataW.Trod enc Tryz.prog w base spare held 38 v d p) :
    ∃ f : Fr, f.fit ∧ v = .agg (frA f) := by
  unfold Value.okWide at hv
  rw [Tryz.underlying38] at hv
  obtain ⟨cs, rfl, -, -⟩ := hv
  obtain ⟨n, h⟩ := h
  obtain ⟨f, hf, hc⟩ := cells_frame h
  exact ⟨f, hf, agg_of hc⟩
end
end Go.Proofs.YtedlfognpbbhhaaGreatDoor.Ma
