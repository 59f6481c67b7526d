/-
  The law VmReads, walked: it returns true. Conditions: none.
-/
import Derived.Test.YtbjmdehfdnpljaaVmTwx
import Derived.Deep.DeepCutAuto
namespace Go.Proofs.Ytbjmdehfdnpljaa.Vm
open Go.RowKit
open Go.Proofs.Ytbjmdehfdnpljaa.Il hiding Next S S_size S_app S_inj S_list
open Go.Proofs.Ytbjmdehfdnpljaa.Ic Go.Proofs.Ytbjmdehfdnpljaa.Ve
open Oct

/-- What the law's first calls leave as it is: the program's instructions, and both areas given. -/
structure Fw (w W : World) (ao : Option Addr) (c : List In) (I Q M R I' Q' M' R' : Bs) : Prop where
  at_ : At w W ao c
  i : B4 W w.heap.size (.string (S I)) (.string (S Q)) (.string (S M)) (.string (S R))
  o : B4 W (w.heap.size + 1) (.string (S I')) (.string (S Q')) (.string (S M')) (.string (S R'))
section
variable {w W W' : World} {ao : Option Addr} {c : List In} {I Q M R I' Q' M' R' : Bs}
theorem Fw.next (h : Fw w W ao c I Q M R I' Q' M' R') (hb : Below W.heap.size W W') : Fw w W' ao c I Q M R I' Q' M' R' := ⟨h.at_.next hb, h.i.kept hb, h.o.kept hb⟩
theorem Fw.first (hI : Lies w w.heap.size ao c) : Fw w ((w.alloc (.cells #[.string (S I), .string (S Q), .string (S M), .string (S R)] 32)).alloc (.cells #[.string (S I'), .string (S Q'), .string (S M'), .string (S R')] 32)) ao c I Q M R I' Q' M' R' := by
  have h1 : B4 _ _ _ _ _ _ := four_new w (.string (S I)) (.string (S Q)) (.string (S M)) (.string (S R)) 32
  have h2 : B4 _ _ _ _ _ _ := four_new (w.alloc (.cells #[.string (S I), .string (S Q), .string (S M), .string (S R)] 32)) (.string (S I')) (.string (S Q')) (.string (S M')) (.string (S R')) 32
  rw [show (w.alloc (.cells #[.string (S I), .string (S Q), .string (S M), .string (S R)] 32)).heap.size = w.heap.size + 1 by simp] at h2
  exact ⟨((At.first hI).next (one_S _ _ _)).next (one_S _ _ _), h1.kept (one_S _ _ _), h2⟩
end
/-- What the law's first calls leave as it is: the program's instructions, both areas given, the program, which bytes are read and written. -/
structure Rq (w W : World) (ao : Option Addr) (c : List In) (I Q M R I' Q' M' R' : Bs) (N pb : Nat) (v : Value) (rb wb ib ob : Nat) : Prop where
  at_ : At w W ao c
  i : B4 W ib (.string (S I)) (.string (S Q)) (.string (S M)) (.string (S R))
  o : B4 W ob (.string (S I')) (.string (S Q')) (.string (S M')) (.string (S R'))
  p : PAt W N pb v c
  rd : B4 W rb (.int .u64 ((useB false c 0 : Nat) : Int)) (.int .u64 ((useB false c 1 : Nat) : Int)) (.int .u64 ((useB false c 2 : Nat) : Int)) (.int .u64 ((useB false c 3 : Nat) : Int))
  wr : B4 W wb (.int .u64 ((useB true c 0 : Nat) : Int)) (.int .u64 ((useB true c 1 : Nat) : Int)) (.int .u64 ((useB true c 2 : Nat) : Int)) (.int .u64 ((useB true c 3 : Nat) : Int))
section
variable {w V W W' : World} {ao : Option Addr} {c : List In} {I Q M R I' Q' M' R' : Bs} {N pb rb wb ib ob : Nat} {v : Value}
theorem Rq.next (h : Rq w W ao c I Q M R I' Q' M' R' N pb v rb wb ib ob) (hb : Below W.heap.size W W') : Rq w W' ao c I Q M R I' Q' M' R' N pb v rb wb ib ob :=
  ⟨h.at_.next hb, h.i.kept hb, h.o.kept hb, h.p.kept hb, h.rd.kept hb, h.wr.kept hb⟩
theorem Rq.io (h : Rq w V ao c I Q M R I' Q' M' R' N pb v rb wb ib ob) (hb : Below V.heap.size V W) :
  (W.cell? ⟨ib, 0, none⟩ = some (.string (S I)) ∧ W.cell? ⟨ib, 1, none⟩ = some (.string (S Q)) ∧ W.cell? ⟨ib, 2, none⟩ = some (.string (S M)) ∧ W.cell? ⟨ib, 3, none⟩ = some (.string (S R))) ∧
  (W.cell? ⟨ob, 0, none⟩ = some (.string (S I')) ∧ W.cell? ⟨ob, 1, none⟩ = some (.string (S Q')) ∧ W.cell? ⟨ob, 2, none⟩ = some (.string (S M')) ∧ W.cell? ⟨ob, 3, none⟩ = some (.string (S R'))) := ⟨(h.next hb).i, (h.next hb).o⟩
/-- Behind both rows. -/
def Rq2 (w W : World) (ao : Option Addr) (c : List In) (I Q M R I' Q' M' R' : Bs) (N pb : Nat) (v : Value) (rb wb ib ob a b : Nat) : Prop :=
  Rq w W ao c I Q M R I' Q' M' R' N pb v rb wb ib ob ∧ B4 W a (.string (S (fitL I))) (.string (S (fitL Q))) (.string (S (fitL M))) (.string (S (fitL R))) ∧ B4 W b (.string (S (fitL I'))) (.string (S (fitL Q'))) (.string (S (fitL M'))) (.string (S (fitL R')))
theorem Rq.two {a b : Nat} (h : Rq w V ao c I Q M R I' Q' M' R' N pb v rb wb ib ob) (h2 : Two V W a b (.string (S (fitL I))) (.string (S (fitL Q))) (.string (S (fitL M))) (.string (S (fitL R))) (.string (S (fitL I'))) (.string (S (fitL Q'))) (.string (S (fitL M'))) (.string (S (fitL R')))) : Rq2 w W ao c I Q M R I' Q' M' R' N pb v rb wb ib ob a b :=
  ⟨h.next h2.bel, h2.fst, h2.snd⟩
theorem Rq2.next {a b : Nat} (h : Rq2 w W ao c I Q M R I' Q' M' R' N pb v rb wb ib ob a b) (hb : Below W.heap.size W W') : Rq2 w W' ao c I Q M R I' Q' M' R' N pb v rb wb ib ob a b := ⟨h.1.next hb, h.2.1.kept hb, h.2.2.kept hb⟩
end
theorem Rq.first {w W : World} {ao : Option Addr} {c : List In} {I Q M R I' Q' M' R' : Bs} {N pb : Nat} {v : Value} (h : Fw w W ao c I Q M R I' Q' M' R') (hp : PAt W N pb v c) :
    Rq w ((W.alloc (.cells #[.int .u64 ((useB false c 0 : Nat) : Int), .int .u64 ((useB false c 1 : Nat) : Int), .int .u64 ((useB false c 2 : Nat) : Int), .int .u64 ((useB false c 3 : Nat) : Int)] 47)).alloc (.cells #[.int .u64 ((useB true c 0 : Nat) : Int), .int .u64 ((useB true c 1 : Nat) : Int), .int .u64 ((useB true c 2 : Nat) : Int), .int .u64 ((useB true c 3 : Nat) : Int)] 47)) ao c I Q M R I' Q' M' R' N pb v W.heap.size (W.heap.size + 1) w.heap.size (w.heap.size + 1) := by
  have o1 := one_S W #[.int .u64 ((useB false c 0 : Nat) : Int), .int .u64 ((useB false c 1 : Nat) : Int), .int .u64 ((useB false c 2 : Nat) : Int), .int .u64 ((useB false c 3 : Nat) : Int)] 47
  have o2 := one_S (W.alloc (.cells #[.int .u64 ((useB false c 0 : Nat) : Int), .int .u64 ((useB false c 1 : Nat) : Int), .int .u64 ((useB false c 2 : Nat) : Int), .int .u64 ((useB false c 3 : Nat) : Int)] 47)) #[.int .u64 ((useB true c 0 : Nat) : Int), .int .u64 ((useB true c 1 : Nat) : Int), .int .u64 ((useB true c 2 : Nat) : Int), .int .u64 ((useB true c 3 : Nat) : Int)] 47
  have n1 : B4 _ _ _ _ _ _ := four_new W (.int .u64 ((useB false c 0 : Nat) : Int)) (.int .u64 ((useB false c 1 : Nat) : Int)) (.int .u64 ((useB false c 2 : Nat) : Int)) (.int .u64 ((useB false c 3 : Nat) : Int)) 47
  have n2 : B4 _ _ _ _ _ _ := four_new (W.alloc (.cells #[.int .u64 ((useB false c 0 : Nat) : Int), .int .u64 ((useB false c 1 : Nat) : Int), .int .u64 ((useB false c 2 : Nat) : Int), .int .u64 ((useB false c 3 : Nat) : Int)] 47)) (.int .u64 ((useB true c 0 : Nat) : Int)) (.int .u64 ((useB true c 1 : Nat) : Int)) (.int .u64 ((useB true c 2 : Nat) : Int)) (.int .u64 ((useB true c 3 : Nat) : Int)) 47
  rw [show (W.alloc (.cells #[.int .u64 ((useB false c 0 : Nat) : Int), .int .u64 ((useB false c 1 : Nat) : Int), .int .u64 ((useB false c 2 : Nat) : Int), .int .u64 ((useB false c 3 : Nat) : Int)] 47)).heap.size = W.heap.size + 1 by simp] at n2
  have h2 := (h.next o1).next o2
  have p2 := (hp.kept o1).kept o2
  exact ⟨h2.at_, h2.i, h2.o, p2, n1.kept o2, n2⟩
/-- What lies there behind both runs. -/
structure Re (P : World → Prop) (W : World) (sb sc tb tc : Nat) (x0 x1 x2 x3 y0 y1 y2 y3 : ByteArray) (T Z : Nat) (KD VA : Int) : Prop where
  p : P W
  i1 : B4 W sb (.string x0) (.string x1) (.string x2) (.string x3)
  s1 : B4 W sc (.int .i64 ((T : Nat) : Int)) (.int .i64 ((Z : Nat) : Int)) (.int .i64 KD) (.int .i64 VA)
  i2 : B4 W tb (.string y0) (.string y1) (.string y2) (.string y3)
  s2 : B4 W tc (.int .i64 ((T : Nat) : Int)) (.int .i64 ((Z : Nat) : Int)) (.int .i64 KD) (.int .i64 VA)
section
variable {P : World → Prop} {V W W' : World} {sb sc tb tc a b : Nat} {x0 x1 x2 x3 y0 y1 y2 y3 : ByteArray} {T Z : Nat} {KD VA : Int}
theorem Re.next (hp : ∀ W W', P W → Below W.heap.size W W' → P W') (h : Re P W sb sc tb tc x0 x1 x2 x3 y0 y1 y2 y3 T Z KD VA) (hb : Below W.heap.size W W') : Re P W' sb sc tb tc x0 x1 x2 x3 y0 y1 y2 y3 T Z KD VA :=
  ⟨hp _ _ h.p hb, h.i1.kept hb, h.s1.kept hb, h.i2.kept hb, h.s2.kept hb⟩
theorem Re.io (h : Re P V sb sc tb tc x0 x1 x2 x3 y0 y1 y2 y3 T Z KD VA) (hb : Below V.heap.size V W) :
  (W.cell? ⟨sb, 0, none⟩ = some (.string x0) ∧ W.cell? ⟨sb, 1, none⟩ = some (.string x1) ∧ W.cell? ⟨sb, 2, none⟩ = some (.string x2) ∧ W.cell? ⟨sb, 3, none⟩ = some (.string x3)) ∧
  (W.cell? ⟨tb, 0, none⟩ = some (.string y0) ∧ W.cell? ⟨tb, 1, none⟩ = some (.string y1) ∧ W.cell? ⟨tb, 2, none⟩ = some (.string y2) ∧ W.cell? ⟨tb, 3, none⟩ = some (.string y3)) := ⟨h.i1.kept hb, h.i2.kept hb⟩
theorem Re.two (hp : ∀ W W', P W → Below W.heap.size W W' → P W') (h : Re P V sb sc tb tc x0 x1 x2 x3 y0 y1 y2 y3 T Z KD VA) (h2 : Two V W a b (.string x0) (.string x1) (.string x2) (.string x3) (.string y0) (.string y1) (.string y2) (.string y3)) :
  Re P W sb sc tb tc x0 x1 x2 x3 y0 y1 y2 y3 T Z KD VA ∧ B4 W a (.string x0) (.string x1) (.string x2) (.string x3) ∧ B4 W b (.string y0) (.string y1) (.string y2) (.string y3) := ⟨h.next hp h2.bel, h2.fst, h2.snd⟩
end
/-- What comes behind a region. -/
def behind (n : Nat) : Code → Option Code
  | .seq (.region k _ _) r => if k = n then some r else behind n r
  | .seq a b => match behind n a with
    | some r => some r
    | none => behind n b
  | .block _ c => behind n c
  | .scope c => behind n c
  | _ => none
noncomputable def rest9 : Code := (Try.f6.body.bind (behind 9)).getD .skip
noncomputable def rest25 : Code := (Try.f6.body.bind (behind 25)).getD .skip
set_option maxRecDepth 1000000 in
set_option maxHeartbeats 16000000 in
theorem reads_tail2 (w : World) (c : List In) (ao : Option Addr) (cap : Nat) (I Q M R I' Q' M' R' : Bs) (N pb : Nat) (v : Value) (rb wb ib ob a b : Nat) (m sb sc tb tc a' b' : Nat) (x0 x1 x2 x3 y0 y1 y2 y3 n0 n1 n2 n3 : Bs) (T Z : Nat) (KD VA : Int) (U0 U1 U2 U3 : Nat)
    (HOr : Hid (∀ j, bits .or .u64 ((useB false c j : Nat) : Int) ((useB true c j : Nat) : Int) = ((useB false c j ||| useB true c j : Nat) : Int)))
    (HUl : Hid (∀ j, useB false c j ||| useB true c j < 18446744073709551616))
    (HUs : Hid (U0 = useB false c 0 ||| useB true c 0 ∧ U1 = useB false c 1 ||| useB true c 1 ∧ U2 = useB false c 2 ||| useB true c 2 ∧ U3 = useB false c 3 ||| useB true c 3))
    (Hlt : Hid (∀ (bb : Bool) (j : Nat), useB bb c j < 18446744073709551616))
    (HX : Hid (∀ j i, (useB false c j ||| useB true c j).testBit i = true → byA [x0, x1, x2, x3] j i = byA [y0, y1, y2, y3] j i))
    (HY : Hid (∀ j i, (useB true c j).testBit i = false → byA [y0, y1, y2, y3] j i = byA [n0, n1, n2, n3] j i))
    (HL : Hid ((x0.length = 64 ∧ x1.length = 64 ∧ x2.length = 64 ∧ x3.length = 64) ∧ (y0.length = 64 ∧ y1.length = 64 ∧ y2.length = 64 ∧ y3.length = 64) ∧ n0.length = 64 ∧ n1.length = 64 ∧ n2.length = 64 ∧ n3.length = 64))
    (HWF : Hid ((Lit.int .i64 ((T : Nat) : Int)).wf = true ∧ (Lit.int .i64 ((Z : Nat) : Int)).wf = true ∧ (Lit.int .i64 KD).wf = true ∧ (Lit.int .i64 VA).wf = true))
    (wc : World) (HF : Hid (Re (fun W => Rq2 w W ao c I Q M R I' Q' M' R' N pb v rb wb ib ob a b ∧ Mx W m (S n0) (S n1) (S n2) (S n3)) wc sb sc tb tc (S x0) (S x1) (S x2) (S x3) (S y0) (S y1) (S y2) (S y3) T Z KD VA ∧ B4 wc a' (.string (S x0)) (.string (S x1)) (.string (S x2)) (.string (S x3)) ∧ B4 wc b' (.string (S y0)) (.string (S y1)) (.string (S y2)) (.string (S y3))))
    (c3 c6 c8 c9 c15 c16 c17 c24 c25 c26 c27 c28 c29 c30 c31 c32 c33 c34 c35 c36 c37 c38 c39 c40 c41 c42 c43 c44 c45 c46 c47 c48 c49 c50 c51 c52 c53 c54 c55 c56 c57 c58 c59 c60 c61 c62 c63 c64 c65 c66 c67 c68 c69 c70 c71 c72 c73 c74 c75 c76 c77 c78 c79 c80 c81 c82 c83 c84 c85 c86 c87 c88 c89 c90 c91 c92 c93 c94 c95 c96 c97 c98 c99 c100 c101 c102 c103 c104 c105 c106 c107 c108 c109 c110 c111 c112 c113 c114 c115 c116 c117 c118 c119 c120 c121 c122 c123 c124 c125 c126 c127 c128 c129 c130 c131 c132 c133 c134 c135 c136 c137 c138 c139 c140 c141 c142 c143 c144 c145 c146 c147 c148 c149 c150 c151 c152 c153 c154 c155 c156 : Value) :
    Code.wp Try.prog rest25 (bodyPost Try.prog Try.f6 (Tells (.bool true) w)) ⟨#[.slice ao c.length cap, .agg #[.string (S I), .string (S Q), .string (S M), .string (S R)], .agg #[.string (S I'), .string (S Q'), .string (S M'), .string (S R')], c3, .pointer (some ⟨ib, 0, none⟩), .pointer (some ⟨ob, 0, none⟩), c6, .pointer (some ⟨pb, 0, none⟩), c8, c9, .pointer (some ⟨rb, 0, none⟩), .pointer (some ⟨wb, 0, none⟩), .pointer (some ⟨a, 0, none⟩), .pointer (some ⟨b, 0, none⟩), .pointer (some ⟨m, 0, none⟩), c15, c16, c17, .pointer (some ⟨sb, 0, none⟩), .pointer (some ⟨sc, 0, none⟩), .pointer (some ⟨tb, 0, none⟩), .pointer (some ⟨tc, 0, none⟩), .pointer (some ⟨a', 0, none⟩), .pointer (some ⟨b', 0, none⟩), c24, c25, c26, c27, c28, c29, c30, c31, c32, c33, c34, c35, c36, c37, c38, c39, c40, c41, c42, c43, c44, c45, c46, c47, c48, c49, c50, c51, c52, c53, c54, c55, c56, c57, c58, c59, c60, c61, c62, c63, c64, c65, c66, c67, c68, c69, c70, c71, c72, c73, c74, c75, c76, c77, c78, c79, c80, c81, c82, c83, c84, c85, c86, c87, c88, c89, c90, c91, c92, c93, c94, c95, c96, c97, c98, c99, c100, c101, c102, c103, c104, c105, c106, c107, c108, c109, c110, c111, c112, c113, c114, c115, c116, c117, c118, c119, c120, c121, c122, c123, c124, c125, c126, c127, c128, c129, c130, c131, c132, c133, c134, c135, c136, c137, c138, c139, c140, c141, c142, c143, c144, c145, c146, c147, c148, c149, c150, c151, c152, c153, c154, c155, c156], []⟩ wc := by
  conv => arg 2; whnf
  obtain ⟨o0, hc0, hl0, hb0⟩ := comp_ex (useB true c 0) (Hlt.out _ _)
  obtain ⟨o1, hc1, hl1, hb1⟩ := comp_ex (useB true c 1) (Hlt.out _ _)
  obtain ⟨o2, hc2, hl2, hb2⟩ := comp_ex (useB true c 2) (Hlt.out _ _)
  obtain ⟨o3, hc3, hl3, hb3⟩ := comp_ex (useB true c 3) (Hlt.out _ _)
  have hX0 := (fun W => lsame_q x0 y0 (useB false c 0 ||| useB true c 0) W HL.out.1.1 HL.out.2.1.1 (HUl.out 0) (fun i hi ht => HX.out 0 i ht))
  rw [← HUs.out.1] at hX0
  have HX0 := Lib.hid hX0
  have HY0 := Lib.hid (fun W => lsame_q y0 n0 o0 W HL.out.2.1.1 HL.out.2.2.1 hl0 (fun i hi ht => HY.out 0 i (hb0 i hi ht)))
  have hco0 := comp_u hc0
  have hX1 := (fun W => lsame_q x1 y1 (useB false c 1 ||| useB true c 1) W HL.out.1.2.1 HL.out.2.1.2.1 (HUl.out 1) (fun i hi ht => HX.out 1 i ht))
  rw [← HUs.out.2.1] at hX1
  have HX1 := Lib.hid hX1
  have HY1 := Lib.hid (fun W => lsame_q y1 n1 o1 W HL.out.2.1.2.1 HL.out.2.2.2.1 hl1 (fun i hi ht => HY.out 1 i (hb1 i hi ht)))
  have hco1 := comp_u hc1
  have hX2 := (fun W => lsame_q x2 y2 (useB false c 2 ||| useB true c 2) W HL.out.1.2.2.1 HL.out.2.1.2.2.1 (HUl.out 2) (fun i hi ht => HX.out 2 i ht))
  rw [← HUs.out.2.2.1] at hX2
  have HX2 := Lib.hid hX2
  have HY2 := Lib.hid (fun W => lsame_q y2 n2 o2 W HL.out.2.1.2.2.1 HL.out.2.2.2.2.1 hl2 (fun i hi ht => HY.out 2 i (hb2 i hi ht)))
  have hco2 := comp_u hc2
  have hX3 := (fun W => lsame_q x3 y3 (useB false c 3 ||| useB true c 3) W HL.out.1.2.2.2 HL.out.2.1.2.2.2 (HUl.out 3) (fun i hi ht => HX.out 3 i ht))
  rw [← HUs.out.2.2.2] at hX3
  have HX3 := Lib.hid hX3
  have HY3 := Lib.hid (fun W => lsame_q y3 n3 o3 W HL.out.2.1.2.2.2 HL.out.2.2.2.2.2 hl3 (fun i hi ht => HY.out 3 i (hb3 i hi ht)))
  have hco3 := comp_u hc3
  have HCo := Lib.hid (⟨hco0, hco1, hco2, hco3⟩ : _ ∧ _ ∧ _ ∧ _)
  clear hc0 hc1 hc2 hc3 hl0 hl1 hl2 hl3 hb0 hb1 hb2 hb3 hco0 hco1 hco2 hco3 hX0 hX1 hX2 hX3 HX HY HL Hlt HUl
  obtain ⟨⟨⟨⟨⟨-, -, -, -, rd, wr_⟩, -, -⟩, mx⟩, -, s1, -, s2⟩, av, bv⟩ := HF.out
  have hbel := Lib.hid HF.out.1.p.1.1.at_.below
  have Hrd := Lib.hid rd
  have Hwr := Lib.hid wr_
  have Hmx := Lib.hid mx.cells
  have Hs1 := Lib.hid s1
  have Hs2 := Lib.hid s2
  have Hav := Lib.hid av
  have Hbv := Lib.hid bv
  clear rd wr_ mx s1 s2 av bv HF
  go_wp2
  go_loopw [121] (fun i W => ∃ (k d : Nat), k ≤ 4 ∧ i = .int .i64 k ∧ W = wc.drewN d) (fun i _ => 4 - (intOf i).toNat)
  case atStart => exact ⟨0, 0, by omega, rfl, rfl⟩
  case round =>
    obtain ⟨k, d, hk, rfl, rfl⟩ := hrel
    obtain rfl | rfl | rfl | rfl | rfl : k = 0 ∨ k = 1 ∨ k = 2 ∨ k = 3 ∨ k = 4 := by omega
    · simp only [show ((0 : Nat) : Int) = 0 from rfl]
      have av := Hav.out.1
      have bv := Hbv.out.1
      have r_ := Hrd.out.1
      have w_ := Hwr.out.1
      have m_ := Hmx.out.1
      have hor := HOr.out 0
      rw [← HUs.out.1] at hor
      have hco := HCo.out.1
      go_wp2_with fail
      go_quiet ((go_at_call 19; (try rw [hco]); first | with_reducible exact quiet_two (HX0.out _) | with_reducible exact quiet_two (HY0.out _)))
      go_wp2
      exact ⟨⟨1, d + nq, by omega, rfl, rfl⟩, by decide⟩
    · simp only [show ((1 : Nat) : Int) = 1 from rfl]
      have av := Hav.out.2.1
      have bv := Hbv.out.2.1
      have r_ := Hrd.out.2.1
      have w_ := Hwr.out.2.1
      have m_ := Hmx.out.2.1
      have hor := HOr.out 1
      rw [← HUs.out.2.1] at hor
      have hco := HCo.out.2.1
      go_wp2_with fail
      go_quiet ((go_at_call 19; (try rw [hco]); first | with_reducible exact quiet_two (HX1.out _) | with_reducible exact quiet_two (HY1.out _)))
      go_wp2
      exact ⟨⟨2, d + nq, by omega, rfl, rfl⟩, by decide⟩
    · simp only [show ((2 : Nat) : Int) = 2 from rfl]
      have av := Hav.out.2.2.1
      have bv := Hbv.out.2.2.1
      have r_ := Hrd.out.2.2.1
      have w_ := Hwr.out.2.2.1
      have m_ := Hmx.out.2.2.1
      have hor := HOr.out 2
      rw [← HUs.out.2.2.1] at hor
      have hco := HCo.out.2.2.1
      go_wp2_with fail
      go_quiet ((go_at_call 19; (try rw [hco]); first | with_reducible exact quiet_two (HX2.out _) | with_reducible exact quiet_two (HY2.out _)))
      go_wp2
      exact ⟨⟨3, d + nq, by omega, rfl, rfl⟩, by decide⟩
    · simp only [show ((3 : Nat) : Int) = 3 from rfl]
      have av := Hav.out.2.2.2
      have bv := Hbv.out.2.2.2
      have r_ := Hrd.out.2.2.2
      have w_ := Hwr.out.2.2.2
      have m_ := Hmx.out.2.2.2
      have hor := HOr.out 3
      rw [← HUs.out.2.2.2] at hor
      have hco := HCo.out.2.2.2
      go_wp2_with fail
      go_quiet ((go_at_call 19; (try rw [hco]); first | with_reducible exact quiet_two (HX3.out _) | with_reducible exact quiet_two (HY3.out _)))
      go_wp2
      exact ⟨⟨4, d + nq, by omega, rfl, rfl⟩, by decide⟩
    · simp only [show ((4 : Nat) : Int) = 4 from rfl]
      obtain ⟨s0, s1, s2, s3⟩ := Hs1.out
      obtain ⟨t0, t1, t2, t3⟩ := Hs2.out
      have hsc := scan_same (T : Nat) (Z : Nat) KD VA HWF.out.1 HWF.out.2.1 HWF.out.2.2.1 HWF.out.2.2.2
      have hgs := Try.guardScan
      go_wp2_with fail
      go_ret
      exact ⟨rfl, hbel.out.trans ⟨rfl, rfl, rfl, Nat.le_refl _, fun _ _ => rfl⟩⟩
end Go.Proofs.Ytbjmdehfdnpljaa.Vm

namespace Go.Proofs.Ytbjmdehfdnpljaa.Vm
open Go.RowKit
open Go.Proofs.Ytbjmdehfdnpljaa.Il hiding Next S S_size S_app S_inj S_list
open Go.Proofs.Ytbjmdehfdnpljaa.Ic Go.Proofs.Ytbjmdehfdnpljaa.Ve
open Oct

set_option maxRecDepth 1000000 in
set_option maxHeartbeats 32000000 in
theorem reads_tail1 (w : World) (c : List In) (ao : Option Addr) (cap : Nat) (I Q M R I' Q' M' R' : Bs) (N pb : Nat) (v : Value) (rb wb ib ob a b : Nat) (l : List Ah) (h : allB c = .ok l) (h120 : (c.length : Int) ≤ 120)
    (HAl : Hid (∀ (a b c d : Bs) W, Calls Try.prog 17 #[.agg #[.string (S a), .string (S b), .string (S c), .string (S d)]] W (Tells (.agg #[.string (S a), .string (S b), .string (S c), .string (S d)]) W)))
    (wc : World) (HR : Hid (Rq2 w wc ao c I Q M R I' Q' M' R' N pb v rb wb ib ob a b))
    (c3 c6 c8 c9 c14 c15 c16 c17 c18 c19 c20 c21 c22 c23 c24 c25 c26 c27 c28 c29 c30 c31 c32 c33 c34 c35 c36 c37 c38 c39 c40 c41 c42 c43 c44 c45 c46 c47 c48 c49 c50 c51 c52 c53 c54 c55 c56 c57 c58 c59 c60 c61 c62 c63 c64 c65 c66 c67 c68 c69 c70 c71 c72 c73 c74 c75 c76 c77 c78 c79 c80 c81 c82 c83 c84 c85 c86 c87 c88 c89 c90 c91 c92 c93 c94 c95 c96 c97 c98 c99 c100 c101 c102 c103 c104 c105 c106 c107 c108 c109 c110 c111 c112 c113 c114 c115 c116 c117 c118 c119 c120 c121 c122 c123 c124 c125 c126 c127 c128 c129 c130 c131 c132 c133 c134 c135 c136 c137 c138 c139 c140 c141 c142 c143 c144 c145 c146 c147 c148 c149 c150 c151 c152 c153 c154 c155 c156 : Value) :
    Code.wp Try.prog rest9 (bodyPost Try.prog Try.f6 (Tells (.bool true) w)) ⟨#[.slice ao c.length cap, .agg #[.string (S I), .string (S Q), .string (S M), .string (S R)], .agg #[.string (S I'), .string (S Q'), .string (S M'), .string (S R')], c3, .pointer (some ⟨ib, 0, none⟩), .pointer (some ⟨ob, 0, none⟩), c6, .pointer (some ⟨pb, 0, none⟩), c8, c9, .pointer (some ⟨rb, 0, none⟩), .pointer (some ⟨wb, 0, none⟩), .pointer (some ⟨a, 0, none⟩), .pointer (some ⟨b, 0, none⟩), c14, c15, c16, c17, c18, c19, c20, c21, c22, c23, c24, c25, c26, c27, c28, c29, c30, c31, c32, c33, c34, c35, c36, c37, c38, c39, c40, c41, c42, c43, c44, c45, c46, c47, c48, c49, c50, c51, c52, c53, c54, c55, c56, c57, c58, c59, c60, c61, c62, c63, c64, c65, c66, c67, c68, c69, c70, c71, c72, c73, c74, c75, c76, c77, c78, c79, c80, c81, c82, c83, c84, c85, c86, c87, c88, c89, c90, c91, c92, c93, c94, c95, c96, c97, c98, c99, c100, c101, c102, c103, c104, c105, c106, c107, c108, c109, c110, c111, c112, c113, c114, c115, c116, c117, c118, c119, c120, c121, c122, c123, c124, c125, c126, c127, c128, c129, c130, c131, c132, c133, c134, c135, c136, c137, c138, c139, c140, c141, c142, c143, c144, c145, c146, c147, c148, c149, c150, c151, c152, c153, c154, c155, c156], []⟩ wc := by
  have hmi : (c.length : Int) ≤ 9223372036854775807 := by omega
  conv => arg 2; whnf
  have hlt : ∀ (bb : Bool) (j : Nat), useB bb c j < 18446744073709551616 := fun bb j => by have := (use_lt bb c j).2; omega
  have hmm := Lib.hid (show Mx (wc.alloc (.cells #[.string ⟨#[]⟩, .string ⟨#[]⟩, .string ⟨#[]⟩, .string ⟨#[]⟩] 44)) wc.heap.size ⟨#[]⟩ ⟨#[]⟩ ⟨#[]⟩ ⟨#[]⟩ from heap_alloc_new wc _)
  have HB0 := Lib.hid (one_S wc #[.string ⟨#[]⟩, .string ⟨#[]⟩, .string ⟨#[]⟩, .string ⟨#[]⟩] 44)
  go_wp2
  generalize hmz : wc.heap.size = m at *
  obtain ⟨U0, hU0⟩ : ∃ U, U = useB false c 0 ||| useB true c 0 := ⟨_, rfl⟩
  obtain ⟨U1, hU1⟩ : ∃ U, U = useB false c 1 ||| useB true c 1 := ⟨_, rfl⟩
  obtain ⟨U2, hU2⟩ : ∃ U, U = useB false c 2 ||| useB true c 2 := ⟨_, rfl⟩
  obtain ⟨U3, hU3⟩ : ∃ U, U = useB false c 3 ||| useB true c 3 := ⟨_, rfl⟩
  have hor : ∀ j, bits .or .u64 ((useB false c j : Nat) : Int) ((useB true c j : Nat) : Int) = ((useB false c j ||| useB true c j : Nat) : Int) := fun j => u64_or_nat _ _ (hlt _ _) (hlt _ _)
  have hUl : ∀ j, useB false c j ||| useB true c j < 18446744073709551616 := fun j => Nat.or_lt_two_pow (n := 64) (hlt _ _) (hlt _ _)
  have HOr := Lib.hid hor
  have HUl := Lib.hid hUl
  have HUs := Lib.hid (⟨hU0, hU1, hU2, hU3⟩ : _ ∧ _ ∧ _ ∧ _)
  have Hlt := Lib.hid hlt
  clear hor hUl hlt hU0 hU1 hU2 hU3
  go_loopw [60] (fun i W => ∃ k : Nat, k ≤ 4 ∧ i = .int .i64 k ∧ Hid (Below m wc W) ∧ Hid (k = 0 → Mx W m ⟨#[]⟩ ⟨#[]⟩ ⟨#[]⟩ ⟨#[]⟩) ∧ Hid (k = 1 → Mx W m (S (mixL U0 (fitL I) (fitL I') 64)) ⟨#[]⟩ ⟨#[]⟩ ⟨#[]⟩) ∧ Hid (k = 2 → Mx W m (S (mixL U0 (fitL I) (fitL I') 64)) (S (mixL U1 (fitL Q) (fitL Q') 64)) ⟨#[]⟩ ⟨#[]⟩) ∧ Hid (k = 3 → Mx W m (S (mixL U0 (fitL I) (fitL I') 64)) (S (mixL U1 (fitL Q) (fitL Q') 64)) (S (mixL U2 (fitL M) (fitL M') 64)) ⟨#[]⟩) ∧ Hid (k = 4 → Mx W m (S (mixL U0 (fitL I) (fitL I') 64)) (S (mixL U1 (fitL Q) (fitL Q') 64)) (S (mixL U2 (fitL M) (fitL M') 64)) (S (mixL U3 (fitL R) (fitL R') 64)))) (fun i _ => 4 - (intOf i).toNat)
  case atStart => exact ⟨0, by omega, rfl, HB0, Lib.hid (fun _ => hmm.out), Lib.hid (fun h => by cases h), Lib.hid (fun h => by cases h), Lib.hid (fun h => by cases h), Lib.hid (fun h => by cases h)⟩
  case round =>
    obtain ⟨k, hk, rfl, hB, h0, h1, h2, h3, h4⟩ := hrel
    clear HB0 hmm
    have HW := Lib.hid (HR.out.next (hmz ▸ hB.out))
    obtain ⟨⟨-, -, -, -, rd, wr_⟩, Av, Bv⟩ := HW.out
    obtain rfl | rfl | rfl | rfl | rfl : k = 0 ∨ k = 1 ∨ k = 2 ∨ k = 3 ∨ k = 4 := by omega
    · have HM := Lib.hid (h0.out rfl)
      clear h0 h1 h2 h3 h4
      simp only [show ((0 : Nat) : Int) = 0 from rfl]
      have r0 := rd.1
      have w0_ := wr_.1
      have av := Av.1
      have bv := Bv.1
      have hmlt := HM.out.lt
      have hcv := fun W => Lib.run_convert_string_bytes (P := Try.prog) W 9 50 5 (S (fitL I')) Try.underlying9 Try.underlying50 Try.underlying5
      have hz1 : (S (fitL I')).size = 64 := by rw [S_size, fit_len]
      have hz2 : (S (fitL I)).size = 64 := by rw [S_size, fit_len]
      have hor := HOr.out 0
      rw [← HUs.out.1] at hor
      have hUl := HUl.out 0
      rw [← HUs.out.1] at hUl
      have hBl := bytes_below wr (S (fitL I'))
      have HRow := Lib.hid (show Below wr.heap.size wr (Lib.bytesWorld wr 5 (S (fitL I'))) ∧ RowB (Lib.bytesWorld wr 5 (S (fitL I'))) wr.heap.size (mixL U0 (fitL I) (fitL I') 0) from ⟨hBl, by rw [mix_zero _ _ (fit_len _)]; exact bytes_row wr _⟩)
      clear hBl rd wr_ Av Bv
      have r0' := Lib.hid r0
      have w0' := Lib.hid w0_
      have av' := Lib.hid av
      go_wp2
      clear av r0 w0_ bv hcv hor
      go_loopw [69] (fun i W => ∃ q : Nat, q ≤ 64 ∧ i = .int .i64 q ∧ Hid (Below wr.heap.size wr W ∧ RowB W wr.heap.size (mixL U0 (fitL I) (fitL I') q))) (fun i _ => 64 - (intOf i).toNat)
      case atStart => exact ⟨0, by omega, rfl, HRow⟩
      case round =>
        obtain ⟨q, hq, rfl, hP⟩ := hrel
        clear HRow
        have hml := mix_len U0 (fitL I) (fitL I') q
        by_cases hq64 : q < 64
        · have e1 : decide ((q : Int) < 64) = true := by simp; omega
          have r0 := kept_cell hP.out.1 r0'.out
          have w0_ := kept_cell hP.out.1 w0'.out
          have av := kept_cell hP.out.1 av'.out
          have hor := HOr.out 0
          rw [← HUs.out.1] at hor
          have hbk := bit_u64 U0 q hUl
          obtain ⟨rc, rf⟩ := hP.out.2 q (by rw [hml]; exact hq64)
          cases hbt : U0.testBit q
          · rw [hbt] at hbk
            have hn := mix_no (fitL I) (fitL I') hbt
            rw [← hn] at hP
            clear hn hbt
            go_wp2_with fail
            go_quiet (fail)
            have hP1 := Lib.hid (show Below _ _ (wr.drewN nq) ∧ RowB (wr.drewN nq) _ (mixL U0 (fitL I) (fitL I') (q + 1)) from ⟨hP.out.1.trans (below_drewN _ _ _), hP.out.2⟩)
            clear hP
            go_wp2
            go_roundw
            case rel => exact ⟨q + 1, by omega, by go_num, hP1⟩
            case measure => simp [intOf]; omega
          · rw [hbt] at hbk
            have hy := mix_yes (fitL I) (fitL I') hq64 hbt
            have e2 : (S (fitL I))[q]'(by rw [hz2]; exact hq64) = (fitL I).getD q 0 := by rw [List.getD_eq_getElem?_getD, List.getElem?_eq_getElem (by rw [fit_len]; exact hq64)]; rfl
            have HY := Lib.hid hy
            clear hy hbt
            go_wp2_with fail
            go_quiet (fail)
            go_wp2
            exact ⟨⟨q + 1, by omega, by go_num, Lib.hid ⟨(hP.out.1.trans (below_drewN _ _ _)).setCell (Nat.le_refl _) _, by rw [HY.out]; exact RowB.put (w := wr.drewN nq) hP.out.2 (by rw [hml]; exact hq64) _⟩⟩, by simp [intOf]; omega⟩
        · obtain rfl : q = 64 := by omega
          have hks := fun cap => conv_row wr _ cap hml hP.out.2
          have HMw := Lib.hid (HM.out.kept hP.out.1 hmlt)
          have mc := HMw.out.cells.1
          have mf := free_heap HMw.out 0
          have HB2 := Lib.hid (hB.out.trans (hP.out.1.mono (Nat.le_of_lt hmlt)))
          clear hP hml
          go_wp2
          go_roundw
          case rel => exact ⟨1, by omega, rfl, Lib.hid (HB2.out.setCell (Nat.le_refl _) _), Lib.hid (fun h => by cases h), Lib.hid (fun _ => HMw.out.set0 _), Lib.hid (fun h => by cases h), Lib.hid (fun h => by cases h), Lib.hid (fun h => by cases h)⟩
          case measure => decide
    · have HM := Lib.hid (h1.out rfl)
      clear h0 h1 h2 h3 h4
      simp only [show ((1 : Nat) : Int) = 1 from rfl]
      have r1 := rd.2.1
      have w1_ := wr_.2.1
      have av := Av.2.1
      have bv := Bv.2.1
      have hmlt := HM.out.lt
      have hcv := fun W => Lib.run_convert_string_bytes (P := Try.prog) W 9 50 5 (S (fitL Q')) Try.underlying9 Try.underlying50 Try.underlying5
      have hz1 : (S (fitL Q')).size = 64 := by rw [S_size, fit_len]
      have hz2 : (S (fitL Q)).size = 64 := by rw [S_size, fit_len]
      have hor := HOr.out 1
      rw [← HUs.out.2.1] at hor
      have hUl := HUl.out 1
      rw [← HUs.out.2.1] at hUl
      have hBl := bytes_below wr (S (fitL Q'))
      have HRow := Lib.hid (show Below wr.heap.size wr (Lib.bytesWorld wr 5 (S (fitL Q'))) ∧ RowB (Lib.bytesWorld wr 5 (S (fitL Q'))) wr.heap.size (mixL U1 (fitL Q) (fitL Q') 0) from ⟨hBl, by rw [mix_zero _ _ (fit_len _)]; exact bytes_row wr _⟩)
      clear hBl rd wr_ Av Bv
      have r1' := Lib.hid r1
      have w1' := Lib.hid w1_
      have av' := Lib.hid av
      go_wp2
      clear av r1 w1_ bv hcv hor
      go_loopw [69] (fun i W => ∃ q : Nat, q ≤ 64 ∧ i = .int .i64 q ∧ Hid (Below wr.heap.size wr W ∧ RowB W wr.heap.size (mixL U1 (fitL Q) (fitL Q') q))) (fun i _ => 64 - (intOf i).toNat)
      case atStart => exact ⟨0, by omega, rfl, HRow⟩
      case round =>
        obtain ⟨q, hq, rfl, hP⟩ := hrel
        clear HRow
        have hml := mix_len U1 (fitL Q) (fitL Q') q
        by_cases hq64 : q < 64
        · have e1 : decide ((q : Int) < 64) = true := by simp; omega
          have r1 := kept_cell hP.out.1 r1'.out
          have w1_ := kept_cell hP.out.1 w1'.out
          have av := kept_cell hP.out.1 av'.out
          have hor := HOr.out 1
          rw [← HUs.out.2.1] at hor
          have hbk := bit_u64 U1 q hUl
          obtain ⟨rc, rf⟩ := hP.out.2 q (by rw [hml]; exact hq64)
          cases hbt : U1.testBit q
          · rw [hbt] at hbk
            have hn := mix_no (fitL Q) (fitL Q') hbt
            rw [← hn] at hP
            clear hn hbt
            go_wp2_with fail
            go_quiet (fail)
            have hP1 := Lib.hid (show Below _ _ (wr.drewN nq) ∧ RowB (wr.drewN nq) _ (mixL U1 (fitL Q) (fitL Q') (q + 1)) from ⟨hP.out.1.trans (below_drewN _ _ _), hP.out.2⟩)
            clear hP
            go_wp2
            go_roundw
            case rel => exact ⟨q + 1, by omega, by go_num, hP1⟩
            case measure => simp [intOf]; omega
          · rw [hbt] at hbk
            have hy := mix_yes (fitL Q) (fitL Q') hq64 hbt
            have e2 : (S (fitL Q))[q]'(by rw [hz2]; exact hq64) = (fitL Q).getD q 0 := by rw [List.getD_eq_getElem?_getD, List.getElem?_eq_getElem (by rw [fit_len]; exact hq64)]; rfl
            have HY := Lib.hid hy
            clear hy hbt
            go_wp2_with fail
            go_quiet (fail)
            go_wp2
            exact ⟨⟨q + 1, by omega, by go_num, Lib.hid ⟨(hP.out.1.trans (below_drewN _ _ _)).setCell (Nat.le_refl _) _, by rw [HY.out]; exact RowB.put (w := wr.drewN nq) hP.out.2 (by rw [hml]; exact hq64) _⟩⟩, by simp [intOf]; omega⟩
        · obtain rfl : q = 64 := by omega
          have hks := fun cap => conv_row wr _ cap hml hP.out.2
          have HMw := Lib.hid (HM.out.kept hP.out.1 hmlt)
          have mc := HMw.out.cells.2.1
          have mf := free_heap HMw.out 1
          have HB2 := Lib.hid (hB.out.trans (hP.out.1.mono (Nat.le_of_lt hmlt)))
          clear hP hml
          go_wp2
          go_roundw
          case rel => exact ⟨2, by omega, rfl, Lib.hid (HB2.out.setCell (Nat.le_refl _) _), Lib.hid (fun h => by cases h), Lib.hid (fun h => by cases h), Lib.hid (fun _ => HMw.out.set1 _), Lib.hid (fun h => by cases h), Lib.hid (fun h => by cases h)⟩
          case measure => decide
    · have HM := Lib.hid (h2.out rfl)
      clear h0 h1 h2 h3 h4
      simp only [show ((2 : Nat) : Int) = 2 from rfl]
      have r2 := rd.2.2.1
      have w2_ := wr_.2.2.1
      have av := Av.2.2.1
      have bv := Bv.2.2.1
      have hmlt := HM.out.lt
      have hcv := fun W => Lib.run_convert_string_bytes (P := Try.prog) W 9 50 5 (S (fitL M')) Try.underlying9 Try.underlying50 Try.underlying5
      have hz1 : (S (fitL M')).size = 64 := by rw [S_size, fit_len]
      have hz2 : (S (fitL M)).size = 64 := by rw [S_size, fit_len]
      have hor := HOr.out 2
      rw [← HUs.out.2.2.1] at hor
      have hUl := HUl.out 2
      rw [← HUs.out.2.2.1] at hUl
      have hBl := bytes_below wr (S (fitL M'))
      have HRow := Lib.hid (show Below wr.heap.size wr (Lib.bytesWorld wr 5 (S (fitL M'))) ∧ RowB (Lib.bytesWorld wr 5 (S (fitL M'))) wr.heap.size (mixL U2 (fitL M) (fitL M') 0) from ⟨hBl, by rw [mix_zero _ _ (fit_len _)]; exact bytes_row wr _⟩)
      clear hBl rd wr_ Av Bv
      have r2' := Lib.hid r2
      have w2' := Lib.hid w2_
      have av' := Lib.hid av
      go_wp2
      clear av r2 w2_ bv hcv hor
      go_loopw [69] (fun i W => ∃ q : Nat, q ≤ 64 ∧ i = .int .i64 q ∧ Hid (Below wr.heap.size wr W ∧ RowB W wr.heap.size (mixL U2 (fitL M) (fitL M') q))) (fun i _ => 64 - (intOf i).toNat)
      case atStart => exact ⟨0, by omega, rfl, HRow⟩
      case round =>
        obtain ⟨q, hq, rfl, hP⟩ := hrel
        clear HRow
        have hml := mix_len U2 (fitL M) (fitL M') q
        by_cases hq64 : q < 64
        · have e1 : decide ((q : Int) < 64) = true := by simp; omega
          have r2 := kept_cell hP.out.1 r2'.out
          have w2_ := kept_cell hP.out.1 w2'.out
          have av := kept_cell hP.out.1 av'.out
          have hor := HOr.out 2
          rw [← HUs.out.2.2.1] at hor
          have hbk := bit_u64 U2 q hUl
          obtain ⟨rc, rf⟩ := hP.out.2 q (by rw [hml]; exact hq64)
          cases hbt : U2.testBit q
          · rw [hbt] at hbk
            have hn := mix_no (fitL M) (fitL M') hbt
            rw [← hn] at hP
            clear hn hbt
            go_wp2_with fail
            go_quiet (fail)
            have hP1 := Lib.hid (show Below _ _ (wr.drewN nq) ∧ RowB (wr.drewN nq) _ (mixL U2 (fitL M) (fitL M') (q + 1)) from ⟨hP.out.1.trans (below_drewN _ _ _), hP.out.2⟩)
            clear hP
            go_wp2
            go_roundw
            case rel => exact ⟨q + 1, by omega, by go_num, hP1⟩
            case measure => simp [intOf]; omega
          · rw [hbt] at hbk
            have hy := mix_yes (fitL M) (fitL M') hq64 hbt
            have e2 : (S (fitL M))[q]'(by rw [hz2]; exact hq64) = (fitL M).getD q 0 := by rw [List.getD_eq_getElem?_getD, List.getElem?_eq_getElem (by rw [fit_len]; exact hq64)]; rfl
            have HY := Lib.hid hy
            clear hy hbt
            go_wp2_with fail
            go_quiet (fail)
            go_wp2
            exact ⟨⟨q + 1, by omega, by go_num, Lib.hid ⟨(hP.out.1.trans (below_drewN _ _ _)).setCell (Nat.le_refl _) _, by rw [HY.out]; exact RowB.put (w := wr.drewN nq) hP.out.2 (by rw [hml]; exact hq64) _⟩⟩, by simp [intOf]; omega⟩
        · obtain rfl : q = 64 := by omega
          have hks := fun cap => conv_row wr _ cap hml hP.out.2
          have HMw := Lib.hid (HM.out.kept hP.out.1 hmlt)
          have mc := HMw.out.cells.2.2.1
          have mf := free_heap HMw.out 2
          have HB2 := Lib.hid (hB.out.trans (hP.out.1.mono (Nat.le_of_lt hmlt)))
          clear hP hml
          go_wp2
          go_roundw
          case rel => exact ⟨3, by omega, rfl, Lib.hid (HB2.out.setCell (Nat.le_refl _) _), Lib.hid (fun h => by cases h), Lib.hid (fun h => by cases h), Lib.hid (fun h => by cases h), Lib.hid (fun _ => HMw.out.set2 _), Lib.hid (fun h => by cases h)⟩
          case measure => decide
    · have HM := Lib.hid (h3.out rfl)
      clear h0 h1 h2 h3 h4
      simp only [show ((3 : Nat) : Int) = 3 from rfl]
      have r3 := rd.2.2.2
      have w3_ := wr_.2.2.2
      have av := Av.2.2.2
      have bv := Bv.2.2.2
      have hmlt := HM.out.lt
      have hcv := fun W => Lib.run_convert_string_bytes (P := Try.prog) W 9 50 5 (S (fitL R')) Try.underlying9 Try.underlying50 Try.underlying5
      have hz1 : (S (fitL R')).size = 64 := by rw [S_size, fit_len]
      have hz2 : (S (fitL R)).size = 64 := by rw [S_size, fit_len]
      have hor := HOr.out 3
      rw [← HUs.out.2.2.2] at hor
      have hUl := HUl.out 3
      rw [← HUs.out.2.2.2] at hUl
      have hBl := bytes_below wr (S (fitL R'))
      have HRow := Lib.hid (show Below wr.heap.size wr (Lib.bytesWorld wr 5 (S (fitL R'))) ∧ RowB (Lib.bytesWorld wr 5 (S (fitL R'))) wr.heap.size (mixL U3 (fitL R) (fitL R') 0) from ⟨hBl, by rw [mix_zero _ _ (fit_len _)]; exact bytes_row wr _⟩)
      clear hBl rd wr_ Av Bv
      have r3' := Lib.hid r3
      have w3' := Lib.hid w3_
      have av' := Lib.hid av
      go_wp2
      clear av r3 w3_ bv hcv hor
      go_loopw [69] (fun i W => ∃ q : Nat, q ≤ 64 ∧ i = .int .i64 q ∧ Hid (Below wr.heap.size wr W ∧ RowB W wr.heap.size (mixL U3 (fitL R) (fitL R') q))) (fun i _ => 64 - (intOf i).toNat)
      case atStart => exact ⟨0, by omega, rfl, HRow⟩
      case round =>
        obtain ⟨q, hq, rfl, hP⟩ := hrel
        clear HRow
        have hml := mix_len U3 (fitL R) (fitL R') q
        by_cases hq64 : q < 64
        · have e1 : decide ((q : Int) < 64) = true := by simp; omega
          have r3 := kept_cell hP.out.1 r3'.out
          have w3_ := kept_cell hP.out.1 w3'.out
          have av := kept_cell hP.out.1 av'.out
          have hor := HOr.out 3
          rw [← HUs.out.2.2.2] at hor
          have hbk := bit_u64 U3 q hUl
          obtain ⟨rc, rf⟩ := hP.out.2 q (by rw [hml]; exact hq64)
          cases hbt : U3.testBit q
          · rw [hbt] at hbk
            have hn := mix_no (fitL R) (fitL R') hbt
            rw [← hn] at hP
            clear hn hbt
            go_wp2_with fail
            go_quiet (fail)
            have hP1 := Lib.hid (show Below _ _ (wr.drewN nq) ∧ RowB (wr.drewN nq) _ (mixL U3 (fitL R) (fitL R') (q + 1)) from ⟨hP.out.1.trans (below_drewN _ _ _), hP.out.2⟩)
            clear hP
            go_wp2
            go_roundw
            case rel => exact ⟨q + 1, by omega, by go_num, hP1⟩
            case measure => simp [intOf]; omega
          · rw [hbt] at hbk
            have hy := mix_yes (fitL R) (fitL R') hq64 hbt
            have e2 : (S (fitL R))[q]'(by rw [hz2]; exact hq64) = (fitL R).getD q 0 := by rw [List.getD_eq_getElem?_getD, List.getElem?_eq_getElem (by rw [fit_len]; exact hq64)]; rfl
            have HY := Lib.hid hy
            clear hy hbt
            go_wp2_with fail
            go_quiet (fail)
            go_wp2
            exact ⟨⟨q + 1, by omega, by go_num, Lib.hid ⟨(hP.out.1.trans (below_drewN _ _ _)).setCell (Nat.le_refl _) _, by rw [HY.out]; exact RowB.put (w := wr.drewN nq) hP.out.2 (by rw [hml]; exact hq64) _⟩⟩, by simp [intOf]; omega⟩
        · obtain rfl : q = 64 := by omega
          have hks := fun cap => conv_row wr _ cap hml hP.out.2
          have HMw := Lib.hid (HM.out.kept hP.out.1 hmlt)
          have mc := HMw.out.cells.2.2.2
          have mf := free_heap HMw.out 3
          have HB2 := Lib.hid (hB.out.trans (hP.out.1.mono (Nat.le_of_lt hmlt)))
          clear hP hml
          go_wp2
          go_roundw
          case rel => exact ⟨4, by omega, rfl, Lib.hid (HB2.out.setCell (Nat.le_refl _) _), Lib.hid (fun h => by cases h), Lib.hid (fun h => by cases h), Lib.hid (fun h => by cases h), Lib.hid (fun h => by cases h), Lib.hid (fun _ => HMw.out.set3 _)⟩
          case measure => decide
    · have hM4 := h4.out rfl
      rw [HUs.out.1, HUs.out.2.1, HUs.out.2.2.1, HUs.out.2.2.2] at hM4
      clear h0 h1 h2 h3 h4
      simp only [show ((4 : Nat) : Int) = 4 from rfl]
      obtain ⟨p7, hG⟩ := run_any c l h 7
      obtain ⟨x0, x1, x2, x3, y0, y1, y2, y3, T, Z, KD, VA, hxl, hyl, e1, e2, hwf, hx, hy⟩ := two_runs h (by omega) p7 I Q M R I' Q' M' R'
      have hG1 := fun W N pb v h => hG I Q M R W N pb v h
      have hG2 := fun W N pb v h => hG (mixL (useB false c 0 ||| useB true c 0) (fitL I) (fitL I') 64) (mixL (useB false c 1 ||| useB true c 1) (fitL Q) (fitL Q') 64) (mixL (useB false c 2 ||| useB true c 2) (fitL M) (fitL M') 64) (mixL (useB false c 3 ||| useB true c 3) (fitL R) (fitL R') 64) W N pb v h
      rw [e1] at hG1
      simp only [fit_64 (mix_len _ _ _ _)] at hG2
      rw [e2] at hG2
      unfold imgV at hG1 hG2
      have hml0 := mix_len (useB false c 0 ||| useB true c 0) (fitL I) (fitL I') 64
      have hml1 := mix_len (useB false c 1 ||| useB true c 1) (fitL Q) (fitL Q') 64
      have hml2 := mix_len (useB false c 2 ||| useB true c 2) (fitL M) (fitL M') 64
      have hml3 := mix_len (useB false c 3 ||| useB true c 3) (fitL R) (fitL R') 64
      clear hG e1 e2
      generalize mixL (useB false c 0 ||| useB true c 0) (fitL I) (fitL I') 64 = n0 at *
      generalize mixL (useB false c 1 ||| useB true c 1) (fitL Q) (fitL Q') 64 = n1 at *
      generalize mixL (useB false c 2 ||| useB true c 2) (fitL M) (fitL M') 64 = n2 at *
      generalize mixL (useB false c 3 ||| useB true c 3) (fitL R) (fitL R') 64 = n3 at *
      have HG1 := Lib.hid hG1
      have HG2 := Lib.hid hG2
      have HM := Lib.hid hM4
      have HX := Lib.hid hx
      have HY := Lib.hid hy
      have HL := Lib.hid (⟨hxl, hyl, hml0, hml1, hml2, hml3⟩ : _ ∧ _ ∧ _ ∧ _ ∧ _ ∧ _)
      have HWF := Lib.hid hwf
      clear hG1 hG2 hM4 hx hy hxl hyl hml0 hml1 hml2 hml3 hwf h
      obtain ⟨⟨-, ⟨i0, i1, i2, i3⟩, -, -, -, -⟩, -, -⟩ := HW.out
      go_wp2_with fail
      have hpr := Lib.hid HW.out.1.p
      with_reducible refine (HG1.out _ _ _ _ hpr.out).mono ?_
      rintro e w7 ⟨rfl, hb1⟩
      have HW7 := Lib.hid (HW.out.next hb1)
      have HM7 := Lib.hid (HM.out.kept hb1 HM.out.lt)
      clear hb1 HW HM i0 i1 i2 i3
      have two7 := box_two w7 #[.string (S x0), .string (S x1), .string (S x2), .string (S x3)] #[.int .i64 (T : Nat), .int .i64 (Z : Nat), .int .i64 KD, .int .i64 VA] 32 34
      have tw7 := Tw.new (w := w7) (W := w7) (s0 := S x0) (s1 := S x1) (s2 := S x2) (s3 := S x3) (i0 := (T : Nat)) (i1 := (Z : Nat)) (i2 := KD) (i3 := VA) (Below.refl _ _)
      have HI8 := Lib.hid (show B4 _ w7.heap.size _ _ _ _ from ⟨tw7.c0, tw7.c1, tw7.c2, tw7.c3⟩)
      have HS8 := Lib.hid (show B4 _ (w7.heap.size + 1) _ _ _ _ from ⟨tw7.d0, tw7.d1, tw7.d2, tw7.d3⟩)
      have HW8 := Lib.hid (HW7.out.next two7)
      have HM8 := Lib.hid (HM7.out.kept two7 HM7.out.lt)
      have hc8 := HM8.out.cells
      obtain ⟨mc0, mc1, mc2, mc3⟩ := hc8
      have hmlt := HM7.out.lt
      clear tw7 two7 HW7
      generalize hsb : w7.heap.size = sb at *
      go_wp2_with fail
      have hpr := Lib.hid HW8.out.1.p
      with_reducible refine (HG2.out _ _ _ _ hpr.out).mono ?_
      rintro e w9 ⟨rfl, hb1⟩
      have HW9 := Lib.hid (HW8.out.next hb1)
      have HM9 := Lib.hid (HM8.out.kept hb1 HM8.out.lt)
      have HI9 := Lib.hid (HI8.out.kept hb1)
      have HS9 := Lib.hid (HS8.out.kept hb1)
      clear hb1 HW8 HM8 HI8 HS8 hpr HM7 mc0 mc1 mc2 mc3 hmlt HG1 HG2
      generalize sb + 1 = sc at *
      have two9 := box_two w9 #[.string (S y0), .string (S y1), .string (S y2), .string (S y3)] #[.int .i64 (T : Nat), .int .i64 (Z : Nat), .int .i64 KD, .int .i64 VA] 32 34
      have tw9 := Tw.new (w := w9) (W := w9) (s0 := S y0) (s1 := S y1) (s2 := S y2) (s3 := S y3) (i0 := (T : Nat)) (i1 := (Z : Nat)) (i2 := KD) (i3 := VA) (Below.refl _ _)
      have HP : Hid (∀ W W', (Rq2 w W ao c I Q M R I' Q' M' R' N pb v rb wb ib ob a b ∧ Mx W m (S n0) (S n1) (S n2) (S n3)) → Below W.heap.size W W' → (Rq2 w W' ao c I Q M R I' Q' M' R' N pb v rb wb ib ob a b ∧ Mx W' m (S n0) (S n1) (S n2) (S n3))) := Lib.hid (fun W W' h hb => ⟨h.1.next hb, h.2.kept hb h.2.lt⟩)
      have HE := Lib.hid (show Re (fun W => Rq2 w W ao c I Q M R I' Q' M' R' N pb v rb wb ib ob a b ∧ Mx W m (S n0) (S n1) (S n2) (S n3)) _ sb sc w9.heap.size (w9.heap.size + 1) (S x0) (S x1) (S x2) (S x3) (S y0) (S y1) (S y2) (S y3) T Z KD VA from ⟨HP.out _ _ ⟨HW9.out, HM9.out⟩ two9, HI9.out.kept two9, HS9.out.kept two9, ⟨tw9.c0, tw9.c1, tw9.c2, tw9.c3⟩, ⟨tw9.d0, tw9.d1, tw9.d2, tw9.d3⟩⟩)
      clear HW9 HM9 HI9 HS9 two9 tw9
      go_upto_region 25 with fail
      generalize (w9.alloc (.cells #[.string (S y0), .string (S y1), .string (S y2), .string (S y3)] 32)).alloc (.cells #[.int .i64 (T : Nat), .int .i64 (Z : Nat), .int .i64 KD, .int .i64 VA] 34) = W10 at *
      generalize w9.heap.size + 1 = tc at *
      generalize w9.heap.size = tb at *
      go_cut [22, 23] (fun s22 s23 wx => ∃ a' b', s22 = .pointer (some ⟨a', 0, none⟩) ∧ s23 = .pointer (some ⟨b', 0, none⟩) ∧ Hid (Re (fun W => Rq2 w W ao c I Q M R I' Q' M' R' N pb v rb wb ib ob a b ∧ Mx W m (S n0) (S n1) (S n2) (S n3)) wx sb sc tb tc (S x0) (S x1) (S x2) (S x3) (S y0) (S y1) (S y2) (S y3) T Z KD VA ∧ B4 wx a' (.string (S x0)) (.string (S x1)) (.string (S x2)) (.string (S x3)) ∧ B4 wx b' (.string (S y0)) (.string (S y1)) (.string (S y2)) (.string (S y3))))
      case first =>
        have hZ := Lib.hid (Zs.drew0 W10)
        go_region_held3 (fun W' => (W'.cell? ⟨sb, 0, none⟩ = some (.string (S x0)) ∧ W'.cell? ⟨sb, 1, none⟩ = some (.string (S x1)) ∧ W'.cell? ⟨sb, 2, none⟩ = some (.string (S x2)) ∧ W'.cell? ⟨sb, 3, none⟩ = some (.string (S x3))) ∧ (W'.cell? ⟨tb, 0, none⟩ = some (.string (S y0)) ∧ W'.cell? ⟨tb, 1, none⟩ = some (.string (S y1)) ∧ W'.cell? ⟨tb, 2, none⟩ = some (.string (S y2)) ∧ W'.cell? ⟨tb, 3, none⟩ = some (.string (S y3))))
          (((with_reducible refine Re.io HE.out ?_); (first | with_reducible exact Zs.bel hZ.out | with_reducible exact bel1 hZ.out _ _ | with_reducible exact bel2 hZ.out _ _ _ _ | with_reducible exact belD1 W10 _ _ | with_reducible exact belD2 W10 _ _ _ _ | with_reducible exact belS hZ.out _ _ _ _ | with_reducible exact belS' hZ.out _ _ _ _ | with_reducible exact belS1 hZ.out _ _ _ _ _ _ | with_reducible exact Two.bel (two_set hZ.out) | with_reducible exact Two.bel (two_set' hZ.out))))
          ((go_at_call 17; (with_reducible refine (HAl.out _ _ _ _ _).mono ?_); rintro e w20 ⟨rfl, hb20⟩; (first | (with_reducible have hZ2 := Lib.hid (Zs.call hZ.out hb20)) | (with_reducible have hZ2 := Lib.hid (Zs.call (Zs.alloc hZ.out) hb20)) | (with_reducible have hZ2 := Lib.hid (Zs.call (Zs.alloc2 hZ.out) hb20)) | (with_reducible have hZ2 := Lib.hid (Zs.call (Zs.d2 W10) hb20)) | (with_reducible have hZ2 := Lib.hid (Zs.call (Zs.d1 W10) hb20))); (first | ((with_reducible have hY := Zs.nm2 hZ2.out); clear hZ2; obtain ⟨bb, aa, eb, ea, hY⟩ := hY; (try rw [← eb]); (try rw [← ea]); clear eb ea; have hZ2 := Lib.hid hY; clear hY; have hY := Zs.two hZ2.out; obtain ⟨⟨⟨q0, q1, q2, q3⟩, ⟨f0, f1, f2, f3⟩, ql⟩, ⟨⟨v0, v1, v2, v3⟩, ⟨g0, g1, g2, g3⟩, vl⟩, hn1, hn2⟩ := hY) | ((with_reducible have hY := Zs.nm1 hZ2.out); clear hZ2; obtain ⟨aa, ea, hY⟩ := hY; (try rw [← ea]); clear ea; have hZ2 := Lib.hid hY; clear hY; have hY := Zs.one hZ2.out; obtain ⟨⟨q0, q1, q2, q3⟩, ⟨f0, f1, f2, f3⟩, ql⟩ := hY) | skip); clear hb20 hZ; have hZ := hZ2; clear hZ2))
        all_goals
          go_wp2
          go_meet
          refine ⟨_, _, rfl, rfl, Lib.hid (Re.two HP.out HE.out ?_)⟩
          first
            | with_reducible exact two_nn hZ.out
            | with_reducible exact two_nn' hZ.out
            | with_reducible exact two_sn hZ.out
            | with_reducible exact two_ns hZ.out
            | with_reducible exact two_set hZ.out
            | with_reducible exact two_set' hZ.out
      case rest =>
        obtain ⟨a', b', rfl, rfl, HF⟩ := hcut
        exact (‹∀ (a : Act) (w_1 : World), Code.wp Try.prog _ (bodyPost Try.prog Try.f6 (Tells (.bool true) w)) a w_1 → _›) _ _ (reads_tail2 w c ao cap I Q M R I' Q' M' R' N pb v rb wb ib ob a b m sb sc tb tc a' b' x0 x1 x2 x3 y0 y1 y2 y3 n0 n1 n2 n3 T Z KD VA U0 U1 U2 U3 HOr HUl HUs Hlt HX HY HL HWF _ HF _ _ _ _ _ _ _ _ _ _ _ _ _ _ _ _ _ _ _ _ _ _ _ _ _ _ _ _ _ _ _ _ _ _ _ _ _ _ _ _ _ _ _ _ _ _ _ _ _ _ _ _ _ _ _ _ _ _ _ _ _ _ _ _ _ _ _ _ _ _ _ _ _ _ _ _ _ _ _ _ _ _ _ _ _ _ _ _ _ _ _ _ _ _ _ _ _ _ _ _ _ _ _ _ _ _ _ _ _ _ _ _ _ _ _ _ _ _ _ _ _ _ _ _ _ _ _ _ _ _ _ _ _ _ _ _ _ _ _ _)
end Go.Proofs.Ytbjmdehfdnpljaa.Vm

namespace Go.Proofs.Ytbjmdehfdnpljaa.Vm
open Go.RowKit
open Go.Proofs.Ytbjmdehfdnpljaa.Il hiding Next S S_size S_app S_inj S_list
open Go.Proofs.Ytbjmdehfdnpljaa.Ic Go.Proofs.Ytbjmdehfdnpljaa.Ve
open Oct

set_option maxRecDepth 100000 in
set_option maxHeartbeats 32000000 in
theorem reads_main (c : List In) (ao : Option Addr) (cap : Nat) (I Q M R I' Q' M' R' : Bs) (w : World) (hI : Lies w w.heap.size ao c) (hF : FitL c) (h120 : (c.length : Int) ≤ 120) (hcap : ao = none → cap = 0)
    (hsm : smallB I Q M R = true) (hso : smallB I' Q' M' R' = true) (l : List Ah) (h : allB c = .ok l) :
    Calls Try.prog 6 #[.slice ao c.length cap, imgV I Q M R, imgV I' Q' M' R'] w (Tells (.bool true) w) := by
  have hm : c.length ≤ maxLen := by unfold maxLen; omega
  have HA := Lib.hid (Fw.first (I := I) (Q := Q) (M := M) (R := R) (I' := I') (Q' := Q') (M' := M') (R' := R') hI)
  have hmi : (c.length : Int) ≤ 9223372036854775807 := by omega
  have HSm := fun W => cSmall_any I Q M R W
  have HSo := fun W => cSmall_any I' Q' M' R' W
  rw [hsm] at HSm
  rw [hso] at HSo
  unfold imgV at *
  replace HSm := Lib.hid HSm
  replace HSo := Lib.hid HSo
  have hz : (chkB c).1 = 0 := by rw [chk_ok h]
  have HL := Lib.hid (fun W (h : At w W ao c) => load_ok c ao cap W h.lies hF hcap (by omega) hz)
  have HB1 := fun W (h : At w W ao c) => rBytes_any false c ao cap W h.lies hF hm
  have HB2 := fun W (h : At w W ao c) => rBytes_any true c ao cap W h.lies hF hm
  unfold u4V at HB1 HB2
  replace HB1 := Lib.hid HB1
  replace HB2 := Lib.hid HB2
  have HT1 := fun W => cFit_any I Q M R W
  have HT2 := fun W => cFit_any I' Q' M' R' W
  have HAl := fun (a b c d : Bs) W => lall_any a b c d W
  unfold imgV at HT1 HT2 HAl
  replace HT1 := Lib.hid HT1
  replace HT2 := Lib.hid HT2
  replace HAl := Lib.hid HAl
  clear hsm hso hz hI hcap
  go_enter Try.func6, Try.ntmps6
  go_wp2_with fail
  with_reducible refine (wake_any _).mono ?_
  rintro e w1 ⟨rfl, hb1⟩
  have HA1 := Lib.hid (HA.out.next hb1)
  obtain ⟨-, ⟨i0, i1, i2, i3⟩, -⟩ := HA1.out
  clear hb1 HA
  go_wp2_with fail
  with_reducible refine (HSm.out _).mono ?_
  rintro e w2 ⟨rfl, hb1⟩
  have HA2 := Lib.hid (HA1.out.next hb1)
  clear hb1 HA1 i0 i1 i2 i3
  obtain ⟨-, -, ⟨i0, i1, i2, i3⟩⟩ := HA2.out
  go_wp2_with fail
  with_reducible refine (HSo.out _).mono ?_
  rintro e w3 ⟨rfl, hb1⟩
  have HA3 := Lib.hid (HA2.out.next hb1)
  clear hb1 HA2 i0 i1 i2 i3
  go_wp2_with fail
  with_reducible refine (HL.out _ HA3.out.at_).mono ?_
  rintro e w4 ⟨pb, v, rfl, hP, hb1⟩
  have HA4 := Lib.hid (HA3.out.next hb1)
  have HP4 := Lib.hid hP
  clear hb1 HA3 hP
  generalize hN : w3.heap.size = N at *
  go_wp2_with fail
  with_reducible refine (HB1.out _ HA4.out.at_).mono ?_
  rintro e w5 ⟨rfl, hb1⟩
  have HA5 := Lib.hid (HA4.out.next hb1)
  have HP5 := Lib.hid (HP4.out.kept hb1)
  clear hb1 HA4 HP4
  go_wp2_with fail
  with_reducible refine (HB2.out _ HA5.out.at_).mono ?_
  rintro e w6 ⟨rfl, hb1⟩
  have HA6 := Lib.hid (HA5.out.next hb1)
  have HP6 := Lib.hid (HP5.out.kept hb1)
  clear hb1 HA5 HP5
  go_upto_region 9 with fail
  have HQ := Lib.hid (Rq.first HA6.out HP6.out)
  generalize (w6.alloc (.cells #[.int .u64 ((useB false c 0 : Nat) : Int), .int .u64 ((useB false c 1 : Nat) : Int), .int .u64 ((useB false c 2 : Nat) : Int), .int .u64 ((useB false c 3 : Nat) : Int)] 47)).alloc (.cells #[.int .u64 ((useB true c 0 : Nat) : Int), .int .u64 ((useB true c 1 : Nat) : Int), .int .u64 ((useB true c 2 : Nat) : Int), .int .u64 ((useB true c 3 : Nat) : Int)] 47) = W8 at *
  generalize w6.heap.size + 1 = wb at *
  generalize w6.heap.size = rb at *
  generalize w.heap.size + 1 = ob at *
  generalize w.heap.size = ib at *
  clear HA6 HP6 HSm HSo HL HB1 HB2
  go_cut [12, 13] (fun s12 s13 wx => ∃ a b, s12 = .pointer (some ⟨a, 0, none⟩) ∧ s13 = .pointer (some ⟨b, 0, none⟩) ∧ Hid (Rq2 w wx ao c I Q M R I' Q' M' R' N pb v rb wb ib ob a b))
  case first =>
    have hZ := Lib.hid (Zs.drew0 W8)
    go_region_held3 (fun W' => (W'.cell? ⟨ib, 0, none⟩ = some (.string (S I)) ∧ W'.cell? ⟨ib, 1, none⟩ = some (.string (S Q)) ∧ W'.cell? ⟨ib, 2, none⟩ = some (.string (S M)) ∧ W'.cell? ⟨ib, 3, none⟩ = some (.string (S R))) ∧ (W'.cell? ⟨ob, 0, none⟩ = some (.string (S I')) ∧ W'.cell? ⟨ob, 1, none⟩ = some (.string (S Q')) ∧ W'.cell? ⟨ob, 2, none⟩ = some (.string (S M')) ∧ W'.cell? ⟨ob, 3, none⟩ = some (.string (S R'))))
      (((with_reducible refine Rq.io HQ.out ?_); (first | with_reducible exact Zs.bel hZ.out | with_reducible exact bel1 hZ.out _ _ | with_reducible exact bel2 hZ.out _ _ _ _ | with_reducible exact belD1 W8 _ _ | with_reducible exact belD2 W8 _ _ _ _ | with_reducible exact belS hZ.out _ _ _ _ | with_reducible exact belS' hZ.out _ _ _ _ | with_reducible exact belS1 hZ.out _ _ _ _ _ _ | with_reducible exact Two.bel (two_set hZ.out) | with_reducible exact Two.bel (two_set' hZ.out))))
      ((first
        | (go_at_call 13; (first | with_reducible refine (HT1.out _).mono ?_ | with_reducible refine (HT2.out _).mono ?_); rintro e w20 ⟨rfl, hb20⟩; (first | (with_reducible have hZ2 := Lib.hid (Zs.call hZ.out hb20)) | (with_reducible have hZ2 := Lib.hid (Zs.call (Zs.alloc hZ.out) hb20)) | (with_reducible have hZ2 := Lib.hid (Zs.call (Zs.alloc2 hZ.out) hb20)) | (with_reducible have hZ2 := Lib.hid (Zs.call (Zs.d2 W8) hb20)) | (with_reducible have hZ2 := Lib.hid (Zs.call (Zs.d1 W8) hb20))); (first | ((with_reducible have hY := Zs.nm2 hZ2.out); clear hZ2; obtain ⟨bb, aa, eb, ea, hY⟩ := hY; (try rw [← eb]); (try rw [← ea]); clear eb ea; have hZ2 := Lib.hid hY; clear hY; have hY := Zs.two hZ2.out; obtain ⟨⟨⟨q0, q1, q2, q3⟩, ⟨f0, f1, f2, f3⟩, ql⟩, ⟨⟨v0, v1, v2, v3⟩, ⟨g0, g1, g2, g3⟩, vl⟩, hn1, hn2⟩ := hY) | ((with_reducible have hY := Zs.nm1 hZ2.out); clear hZ2; obtain ⟨aa, ea, hY⟩ := hY; (try rw [← ea]); clear ea; have hZ2 := Lib.hid hY; clear hY; have hY := Zs.one hZ2.out; obtain ⟨⟨q0, q1, q2, q3⟩, ⟨f0, f1, f2, f3⟩, ql⟩ := hY) | skip); clear hb20 hZ; have hZ := hZ2; clear hZ2)
        | (go_at_call 17; (with_reducible refine (HAl.out _ _ _ _ _).mono ?_); rintro e w20 ⟨rfl, hb20⟩; (first | (with_reducible have hZ2 := Lib.hid (Zs.call hZ.out hb20)) | (with_reducible have hZ2 := Lib.hid (Zs.call (Zs.alloc hZ.out) hb20)) | (with_reducible have hZ2 := Lib.hid (Zs.call (Zs.alloc2 hZ.out) hb20)) | (with_reducible have hZ2 := Lib.hid (Zs.call (Zs.d2 W8) hb20)) | (with_reducible have hZ2 := Lib.hid (Zs.call (Zs.d1 W8) hb20))); (first | ((with_reducible have hY := Zs.nm2 hZ2.out); clear hZ2; obtain ⟨bb, aa, eb, ea, hY⟩ := hY; (try rw [← eb]); (try rw [← ea]); clear eb ea; have hZ2 := Lib.hid hY; clear hY; have hY := Zs.two hZ2.out; obtain ⟨⟨⟨q0, q1, q2, q3⟩, ⟨f0, f1, f2, f3⟩, ql⟩, ⟨⟨v0, v1, v2, v3⟩, ⟨g0, g1, g2, g3⟩, vl⟩, hn1, hn2⟩ := hY) | ((with_reducible have hY := Zs.nm1 hZ2.out); clear hZ2; obtain ⟨aa, ea, hY⟩ := hY; (try rw [← ea]); clear ea; have hZ2 := Lib.hid hY; clear hY; have hY := Zs.one hZ2.out; obtain ⟨⟨q0, q1, q2, q3⟩, ⟨f0, f1, f2, f3⟩, ql⟩ := hY) | skip); clear hb20 hZ; have hZ := hZ2; clear hZ2)))
    all_goals
      go_wp2
      go_meet
      refine ⟨_, _, rfl, rfl, Lib.hid (Rq.two HQ.out ?_)⟩
      first
        | with_reducible exact two_nn hZ.out
        | with_reducible exact two_nn' hZ.out
        | with_reducible exact two_sn hZ.out
        | with_reducible exact two_ns hZ.out
        | with_reducible exact two_set hZ.out
        | with_reducible exact two_set' hZ.out
  case rest =>
    obtain ⟨a, b, rfl, rfl, HR⟩ := hcut
    exact (‹∀ (a : Act) (w_1 : World), Code.wp Try.prog _ (bodyPost Try.prog Try.f6 (Tells (.bool true) w)) a w_1 → _›) _ _ (reads_tail1 w c ao cap I Q M R I' Q' M' R' N pb v rb wb ib ob a b l h h120 HAl _ HR _ _ _ _ _ _ _ _ _ _ _ _ _ _ _ _ _ _ _ _ _ _ _ _ _ _ _ _ _ _ _ _ _ _ _ _ _ _ _ _ _ _ _ _ _ _ _ _ _ _ _ _ _ _ _ _ _ _ _ _ _ _ _ _ _ _ _ _ _ _ _ _ _ _ _ _ _ _ _ _ _ _ _ _ _ _ _ _ _ _ _ _ _ _ _ _ _ _ _ _ _ _ _ _ _ _ _ _ _ _ _ _ _ _ _ _ _ _ _ _ _ _ _ _ _ _ _ _ _ _ _ _ _ _ _ _ _ _ _ _ _ _ _ _ _ _ _)
end Go.Proofs.Ytbjmdehfdnpljaa.Vm

namespace Go.Proofs.Ytbjmdehfdnpljaa.Vm
open Go.RowKit
open Go.Proofs.Ytbjmdehfdnpljaa.Il hiding Next S S_size S_app S_inj S_list
open Go.Proofs.Ytbjmdehfdnpljaa.Ic Go.Proofs.Ytbjmdehfdnpljaa.Ve
open Oct

set_option maxRecDepth 100000 in
set_option maxHeartbeats 8000000 in
theorem reads_walk (c : List In) (ao : Option Addr) (cap : Nat) (I Q M R I' Q' M' R' : Bs) (w : World) (hI : Lies w w.heap.size ao c) (hF : FitL c) (hm : c.length ≤ maxLen) (hcap : ao = none → cap = 0) :
    Calls Try.prog 6 #[.slice ao c.length cap, imgV I Q M R, imgV I' Q' M' R'] w (Tells (.bool true) w) := by
  have HA := Lib.hid (Fw.first (I := I) (Q := Q) (M := M) (R := R) (I' := I') (Q' := Q') (M' := M') (R' := R') hI)
  have hmi : (c.length : Int) ≤ 9223372036854775807 := by unfold maxLen at hm; omega
  have HSm := Lib.hid (fun W => cSmall_any I Q M R W)
  have HSo := Lib.hid (fun W => cSmall_any I' Q' M' R' W)
  unfold imgV at *
  by_cases h120 : (120 : Int) < c.length
  · clear hcap hI hF hm
    go_enter Try.func6, Try.ntmps6
    go_wp2_with fail
    with_reducible refine (wake_any _).mono ?_
    rintro e w1 ⟨rfl, hb1⟩
    have HA1 := Lib.hid (HA.out.next hb1)
    clear hb1 HA
    go_wp2
    go_ret
    exact ⟨rfl, HA1.out.at_.below⟩
  · cases hsm : smallB I Q M R
    · rw [hsm] at HSm
      clear hcap hI hF hm
      go_enter Try.func6, Try.ntmps6
      go_wp2_with fail
      with_reducible refine (wake_any _).mono ?_
      rintro e w1 ⟨rfl, hb1⟩
      have HA1 := Lib.hid (HA.out.next hb1)
      obtain ⟨-, ⟨i0, i1, i2, i3⟩, -⟩ := HA1.out
      clear hb1 HA
      go_wp2_with fail
      with_reducible refine (HSm.out _).mono ?_
      rintro e w2 ⟨rfl, hb1⟩
      have HA2 := Lib.hid (HA1.out.next hb1)
      clear hb1 HA1
      go_wp2
      go_ret
      exact ⟨rfl, HA2.out.at_.below⟩
    · rw [hsm] at HSm
      cases hso : smallB I' Q' M' R'
      · rw [hso] at HSo
        clear hcap hI hF hm
        go_enter Try.func6, Try.ntmps6
        go_wp2_with fail
        with_reducible refine (wake_any _).mono ?_
        rintro e w1 ⟨rfl, hb1⟩
        have HA1 := Lib.hid (HA.out.next hb1)
        obtain ⟨-, ⟨i0, i1, i2, i3⟩, -⟩ := HA1.out
        clear hb1 HA
        go_wp2_with fail
        with_reducible refine (HSm.out _).mono ?_
        rintro e w2 ⟨rfl, hb1⟩
        have HA2 := Lib.hid (HA1.out.next hb1)
        clear hb1 HA1 i0 i1 i2 i3
        obtain ⟨-, -, ⟨i0, i1, i2, i3⟩⟩ := HA2.out
        go_wp2_with fail
        with_reducible refine (HSo.out _).mono ?_
        rintro e w3 ⟨rfl, hb1⟩
        have HA3 := Lib.hid (HA2.out.next hb1)
        clear hb1 HA2
        go_wp2
        go_ret
        exact ⟨rfl, HA3.out.at_.below⟩
      · rw [hso] at HSo
        rcases all_cases c with ⟨r, k, h, hr, hr2, hk2⟩ | ⟨l, h, hw, hl, h200⟩
        · have hck := chk_err h
          have HL := Lib.hid (fun W (h : At w W ao c) => load_no c ao cap W h.lies hF (by omega) (by rw [hck]; dsimp only; omega))
          rw [hck] at HL
          dsimp only at HL
          have hrb : ((r : Int) != 0) = true := by simp; omega
          clear h hr hck hcap hI hF hm
          go_enter Try.func6, Try.ntmps6
          go_wp2_with fail
          with_reducible refine (wake_any _).mono ?_
          rintro e w1 ⟨rfl, hb1⟩
          have HA1 := Lib.hid (HA.out.next hb1)
          obtain ⟨-, ⟨i0, i1, i2, i3⟩, -⟩ := HA1.out
          clear hb1 HA
          go_wp2_with fail
          with_reducible refine (HSm.out _).mono ?_
          rintro e w2 ⟨rfl, hb1⟩
          have HA2 := Lib.hid (HA1.out.next hb1)
          clear hb1 HA1 i0 i1 i2 i3
          obtain ⟨-, -, ⟨i0, i1, i2, i3⟩⟩ := HA2.out
          go_wp2_with fail
          with_reducible refine (HSo.out _).mono ?_
          rintro e w3 ⟨rfl, hb1⟩
          have HA3 := Lib.hid (HA2.out.next hb1)
          clear hb1 HA2 i0 i1 i2 i3
          go_wp2_with fail
          with_reducible refine (HL.out _ HA3.out.at_).mono ?_
          rintro e w4 ⟨rfl, hb1⟩
          have HA4 := Lib.hid (HA3.out.next hb1)
          clear hb1 HA3
          go_wp2
          go_ret
          exact ⟨rfl, HA4.out.at_.below⟩
        · exact reads_main c ao cap I Q M R I' Q' M' R' w hI hF (by omega) hcap hsm hso l h

end Go.Proofs.Ytbjmdehfdnpljaa.Vm
