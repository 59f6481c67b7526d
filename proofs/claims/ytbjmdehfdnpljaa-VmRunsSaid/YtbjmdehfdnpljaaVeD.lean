/-
  Which bytes a program touches: plain facts. Conditions: as each states.
-/
import Derived.Test.YtbjmdehfdnpljaaVeC
import Derived.Deep.RegionHeld3
namespace Go.Proofs.Ytbjmdehfdnpljaa.Ve
open Go.RowKit
open Go.Proofs.Ytbjmdehfdnpljaa.Il hiding Next
open Go.Proofs.Ytbjmdehfdnpljaa.Ic hiding I64

def sizeI (i : In) : Nat := if i.op = 34 ∨ i.op = 35 then 5 else if i.op = 36 then 1 else szI i.kd
def maskI (i : In) : Nat := (2 ^ sizeI i - 1) * 2 ^ i.pl.toNat
theorem mask_wrap (s p : Nat) (h : p + s ≤ 64) : IntKind.u64.wrap (((2 ^ s - 1 : Nat) : Int) * 2 ^ p) = (((2 ^ s - 1) * 2 ^ p : Nat) : Int) := by
  have h1 : (2 ^ s - 1) * 2 ^ p < 2 ^ 64 := by
    have h2 : 2 ^ s * 2 ^ p ≤ 2 ^ 64 := by
      rw [← Nat.pow_add]
      exact Nat.pow_le_pow_right (by decide) (by omega)
    have h3 : 0 < 2 ^ s := Nat.two_pow_pos s
    have h4 : 0 < 2 ^ p := Nat.two_pow_pos p
    have h5 : (2 ^ s - 1) * 2 ^ p < 2 ^ s * 2 ^ p := Nat.mul_lt_mul_of_pos_right (by omega) h4
    omega
  have e : ((2 ^ s - 1 : Nat) : Int) * 2 ^ p = (((2 ^ s - 1) * 2 ^ p : Nat) : Int) := by
    rw [Int.natCast_mul, Int.natCast_pow]; rfl
  rw [e, IntKind.wrap_u64]
  generalize (2 ^ s - 1) * 2 ^ p = z at *
  have : (2 : Nat) ^ 64 = 18446744073709551616 := by decide
  omega
theorem mask_one (p : Nat) (h : p + 1 ≤ 64) : IntKind.u64.wrap ((2 : Int) ^ p) = (((2 ^ 1 - 1) * 2 ^ p : Nat) : Int) := by
  have h2 := mask_wrap 1 p h
  rwa [show ((2 ^ 1 - 1 : Nat) : Int) * 2 ^ p = 2 ^ p by simp] at h2
theorem mask_lt (s p : Nat) (h : p + s ≤ 64) : (2 ^ s - 1) * 2 ^ p < 18446744073709551616 := by
  have h2 : 2 ^ s * 2 ^ p ≤ 2 ^ 64 := by
    rw [← Nat.pow_add]
    exact Nat.pow_le_pow_right (by decide) (by omega)
  have h3 : 0 < 2 ^ s := Nat.two_pow_pos s
  have h4 : 0 < 2 ^ p := Nat.two_pow_pos p
  have h5 : (2 ^ s - 1) * 2 ^ p < 2 ^ s * 2 ^ p := Nat.mul_lt_mul_of_pos_right (by omega) h4
  have : (2 : Nat) ^ 64 = 18446744073709551616 := by decide
  omega
section
variable (kd ar n : Int) (p : Nat) (w : World)

end
theorem right_size {i : In} (h : rightI i = true) (ha : i.ar ≠ 0) : 1 ≤ i.ar ∧ i.ar ≤ 4 ∧ i.pl = (i.pl.toNat : Nat) ∧ i.pl.toNat + sizeI i ≤ 64 ∧ sizeI i ≤ 5 ∧ 1 ≤ sizeI i ∧ i.op ≤ 36 := by
  obtain ⟨h1, h4, h0, h⟩ := right_area h ha
  have ho := (right_op ‹_›).2
  have h4' : szI i.kd ≤ 4 := Ic.sz_le i.kd
  have hk : i.op < 34 → szI i.kd ≠ 0 := by
    intro hlt
    cases right_way ‹rightI i = true› with
    | lit _ h2 => exact absurd h2 ha
    | get _ _ _ ht => unfold thereB at ht; rw [decide_eq_true_iff] at ht; exact ht.1
    | put _ _ _ ht => unfold thereB at ht; rw [decide_eq_true_iff] at ht; exact ht.1
    | jump _ _ h2 => exact absurd h2 ha
    | bare _ _ h2 => exact absurd h2 ha
    | close _ _ h2 => exact absurd h2 ha
    | conv _ _ h2 => exact absurd h2 ha
    | opens _ _ h2 => exact absurd h2 ha
    | timer h => omega
    | trig h => omega
  unfold sizeI
  refine ⟨h1, h4, by omega, ?_, ?_, ?_, ho⟩
  · split
    · omega
    · split <;> omega
  · split
    · omega
    · split <;> omega
  · split
    · omega
    · split
      · omega
      · have := hk (by omega); omega
theorem sz_vals (k : Int) (h : szI k ≠ 0) : szI k = 1 ∨ szI k = 2 ∨ szI k = 4 := by
  unfold szI at *
  split
  · exact .inl rfl
  · split
    · exact .inr (.inl rfl)
    · split
      · exact .inr (.inr rfl)
      · rename_i h1 h2 h3; rw [if_neg h1, if_neg h2, if_neg h3] at h; exact absurd rfl h
end Go.Proofs.Ytbjmdehfdnpljaa.Ve

namespace Go.Proofs.Ytbjmdehfdnpljaa.Ve
open Go.RowKit
open Go.Proofs.Ytbjmdehfdnpljaa.Il hiding Next
open Go.Proofs.Ytbjmdehfdnpljaa.Ic hiding I64

/-! ### Plain: the bytes of each area -/
def countB (wr : Bool) (a : Ah) (x : In) (j : Nat) : Bool := a.on && decide (x.ar = j + 1) && usesB wr x.op
/-- Of area j + 1 what the first k instructions ask for. -/
def accB (wr : Bool) (c : List In) (l : List Ah) : Nat → Nat → Nat
  | 0, _ => 0
  | k + 1, j => match c[k]? with
    | none => accB wr c l k j
    | some x => if countB wr (gt l k) x j then accB wr c l k j ||| maskI x else accB wr c l k j
def useB (wr : Bool) (c : List In) (j : Nat) : Nat := match allB c with
  | .error _ => 0
  | .ok l => accB wr c l c.length j
theorem acc_next {wr : Bool} {c : List In} {l : List Ah} {k : Nat} {x : In} (hx : c[k]? = some x) (j : Nat) : accB wr c l (k + 1) j = if countB wr (gt l k) x j then accB wr c l k j ||| maskI x else accB wr c l k j := by
  show (match c[k]? with | none => accB wr c l k j | some x => if countB wr (gt l k) x j then accB wr c l k j ||| maskI x else accB wr c l k j) = _
  rw [hx]
theorem run_right {c : List In} : ∀ {k : Nat} {l : List Ah}, runB c k = .ok l → ∀ (j : Nat) (x : In), j < k → c[j]? = some x → rightI x = true
  | 0, _, _, j, _, hj, _ => by omega
  | k + 1, l, h, j, x, hj, hx => by
    cases h0 : runB c k with
    | error e0 => rw [run_error 1 h0] at h; cases h
    | ok l0 =>
      by_cases e : j = k
      · subst e
        cases hr : rightI x with
        | true => rfl
        | false =>
          have hs := step_wrong (k := j) (n := c.length) (l := l0) hr
          have := run_stop h0 hx (by rw [hs]; simp)
          rw [h] at this
          cases this
      · exact run_right h0 j x (by omega) hx
theorem acc_lt {wr : Bool} {c : List In} {l : List Ah} (hr : ∀ (j : Nat) (x : In), c[j]? = some x → rightI x = true) (j : Nat) : ∀ k, accB wr c l k j < 18446744073709551616
  | 0 => by unfold accB; omega
  | k + 1 => by
    have ih := acc_lt (wr := wr) (l := l) hr j k
    cases hx : c[k]? with
    | none => unfold accB; rw [hx]; exact ih
    | some x =>
      rw [acc_next hx]
      split
      · next hc =>
        unfold countB at hc
        simp only [Bool.and_eq_true, decide_eq_true_eq] at hc
        have ha := right_size (hr k x hx) (by omega)
        have hm : maskI x < 18446744073709551616 := mask_lt _ _ ha.2.2.2.1
        exact Nat.or_lt_two_pow (n := 64) ih hm
      · exact ih
theorem right_all {c : List In} {l : List Ah} (h : allB c = .ok l) : ∀ (j : Nat) (x : In), c[j]? = some x → rightI x = true := fun j x hx =>
  run_right (all_ok h).2.1 j x (List.getElem?_eq_some_iff.1 hx).1 hx

/-! ### Four numbers in memory -/
structure U4 (W : World) (p : Nat) (f : Nat → Nat) : Prop where
  cell : ∀ j, j < 4 → W.cell? ⟨p, j, none⟩ = some (.int .u64 (f j : Nat))
  free : ∀ j, j < 4 → W.frozen? ⟨p, j, none⟩ = false
section
variable {W W' : World} {p : Nat} {f f' : Nat → Nat}
theorem U4.lt (h : U4 W p f) : p < W.heap.size := World.block_lt_of_cell? W _ (h.cell 0 (by omega))
theorem U4.kept (h : U4 W p f) (hb : Below W.heap.size W W') : U4 W' p f :=
  ⟨fun j hj => kept_cell hb (h.cell j hj), fun j hj => (World.frozen?_of_block (hb.block p h.lt)).trans (h.free j hj)⟩
theorem U4.drew (h : U4 W p f) : U4 W.drew p f := ⟨h.cell, h.free⟩
theorem U4.set (h : U4 W p f) {q : Nat} (hq : q < 4) {v : Nat} (hf : ∀ j, j < 4 → f' j = if j = q then v else f j) : U4 (W.setCell ⟨p, q, none⟩ (.int .u64 (v : Nat))) p f' := by
  refine ⟨fun j hj => ?_, fun j hj => by rw [World.frozen?_setCell]; exact h.free j hj⟩
  rw [hf j hj]
  by_cases e : j = q
  · subst e
    rw [if_pos rfl]
    exact World.cell?_setCell_same' _ _ _ (by rw [h.cell j hj]; rfl)
  · rw [if_neg e, World.cell?_setCell_other _ _ _ _ (by intro e2; injection e2 with _ e3; exact e e3.symm)]
    exact h.cell j hj
theorem U4.other (h : U4 W p f) {b j : Nat} (hne : p ≠ b) (v : Value) : U4 (W.setCell ⟨b, j, none⟩ v) p f := by
  refine ⟨fun i hi => ?_, fun i hi => by rw [World.frozen?_setCell]; exact h.free i hi⟩
  rw [World.cell?_setCell_other _ _ _ _ (by intro e2; injection e2 with e3 _; exact hne e3.symm)]
  exact h.cell i hi
theorem U4.new (W : World) (t : TypeId) : U4 (W.alloc (.cells #[.int .u64 0, .int .u64 0, .int .u64 0, .int .u64 0] t)) W.heap.size (fun _ => 0) := by
  refine ⟨fun j hj => ?_, fun j _ => World.frozen?_alloc_new _ _ _ _⟩
  rw [World.cell?_alloc_new]
  match j, hj with
  | 0, _ => rfl
  | 1, _ => rfl
  | 2, _ => rfl
  | 3, _ => rfl
theorem U4.at (h : U4 W p f) (hf : ∀ j, j < 4 → f' j = f j) : U4 W p f' := ⟨fun j hj => by rw [hf j hj]; exact h.cell j hj, h.free⟩
end
def u4V (f : Nat → Nat) : Value := .agg #[.int .u64 (f 0 : Nat), .int .u64 (f 1 : Nat), .int .u64 (f 2 : Nat), .int .u64 (f 3 : Nat)]
/-- How far touched has come. -/
structure Tc (w W : World) (h n : Nat) (l : List Ah) (f : Nat → Nat) : Prop where
  kinds : W.ownsRow (w.heap.size + 2) 3 1 (.slice (some ⟨h, 0, none⟩) n n) n (kindsV l n)
  used : U4 W (w.heap.size + 1) f
  res : U4 W w.heap.size (fun _ => 0)
  below : Below w.heap.size w W
/-- .. with an instruction of its own. -/
structure Tq (w W : World) (h n : Nat) (l : List Ah) (f : Nat → Nat) (b : Nat) (x : In) : Prop where
  tc : Tc w W h n l f
  ins : W.rangeAt b 0 (insC x)
section
variable {w W W' : World} {h n b q v : Nat} {l : List Ah} {f f' : Nat → Nat} {x : In}
theorem Tc.size (t : Tc w W h n l f) : w.heap.size + 1 < W.heap.size := t.used.lt
theorem Tc.kept (t : Tc w W h n l f) (hb : Below W.heap.size W W') : Tc w W' h n l f :=
  ⟨World.ownsRow.kept t.kinds (only_bel hb none) (.inr (by simp [Value.ownBlock])), t.used.kept hb, t.res.kept hb, t.below.trans (hb.mono t.below.size)⟩
theorem Tc.drew (t : Tc w W h n l f) : Tc w W.drew h n l f := ⟨t.kinds.drew, t.used.drew, t.res.drew, t.below.drew⟩
theorem Tc.put (t : Tc w W h n l f) (hq : q < 4) (hf : ∀ j, j < 4 → f' j = if j = q then v else f j) : Tc w (W.setCell ⟨w.heap.size + 1, q, none⟩ (.int .u64 (v : Nat))) h n l f' :=
  ⟨World.ownsRow.kept t.kinds (only_setv W _ _ _) (.inr (fun e => by have := World.ownsRow.lt t.kinds h rfl; simp [Value.ownBlock] at e; omega)), t.used.set hq hf, t.res.other (by omega) _, t.below.setCell (by show w.heap.size ≤ w.heap.size + 1; omega) _⟩
theorem Tc.with (t : Tc w W h n l f) (x : In) : Tq w (W.alloc (.cells (insC x).toArray 54)) h n l f W.heap.size x :=
  ⟨t.kept ((Below.refl _ _).alloc (Nat.le_refl _) _), range_new _ _ _⟩
theorem Tq.next (t : Tq w W h n l f b x) (hb : Below W.heap.size W W') : Tq w W' h n l f b x := ⟨t.tc.kept hb, range_below t.ins hb⟩
theorem Tq.drew (t : Tq w W h n l f b x) : Tq w W.drew h n l f b x := ⟨t.tc.drew, t.ins⟩
theorem Tq.cells (t : Tq w W h n l f b x) (hq : q < 4) : W.cell? ⟨b, 0, none⟩ = some (.int .i64 x.op) ∧ W.cell? ⟨b, 1, none⟩ = some (.int .i64 x.kd) ∧ W.cell? ⟨b, 2, none⟩ = some (.int .i64 x.ar) ∧ W.cell? ⟨b, 3, none⟩ = some (.int .i64 x.pl) ∧ W.cell? ⟨b, 4, none⟩ = some (.int .i64 x.n) ∧ W.cell? ⟨w.heap.size + 1, q, none⟩ = some (.int .u64 (f q : Nat)) ∧ W.frozen? ⟨w.heap.size + 1, q, none⟩ = false :=
  ⟨t.ins 0 _ rfl, t.ins 1 _ rfl, t.ins 2 _ rfl, t.ins 3 _ rfl, t.ins 4 _ rfl, t.tc.used.cell q hq, t.tc.used.free q hq⟩
end
/-- A world that is written out is forgotten, but for a fact. -/
theorem world_cut {G : World → Prop} {w : World} (F : World → Prop) (h : F w) (k : ∀ W, F W → G W) : G w := k w h
theorem kinds_at {l : List Ah} {n k : Nat} (h : k < n) : (kindsV l n)[k]? = some (.int .i64 (kindB (gt l k))) := by
  rw [← kindsK_all, kindsK_at h, if_pos h]
theorem kind_on {a : Ah} (ha : Wf a) : (kindB a != -1) = a.on := by
  unfold kindB
  have := ha.kd
  cases a.on
  · rfl
  · rw [if_pos rfl, bne_iff_ne]; omega
theorem acc_skip {wr : Bool} {c : List In} {l : List Ah} {k : Nat} {x : In} (hx : c[k]? = some x) (h : (gt l k).on = false ∨ x.ar = 0 ∨ usesB wr x.op = false) (j : Nat) : accB wr c l (k + 1) j = accB wr c l k j := by
  rw [acc_next hx, if_neg]
  unfold countB
  rcases h with h | h | h
  · rw [h]; simp
  · rw [h, decide_eq_false (by omega)]; simp
  · rw [h]; simp
theorem acc_put {wr : Bool} {c : List In} {l : List Ah} {k q : Nat} {x : In} (hx : c[k]? = some x) (h1 : (gt l k).on = true) (h2 : x.ar = q + 1) (h3 : usesB wr x.op = true) (j : Nat) : accB wr c l (k + 1) j = if j = q then accB wr c l k q ||| maskI x else accB wr c l k j := by
  rw [acc_next hx]
  unfold countB
  rw [h1, h3, h2]
  by_cases e : j = q
  · subst e
    rw [if_pos rfl, if_pos (by simp)]
  · rw [if_neg e, if_neg (by simp; omega)]
theorem result_u4 {fn : Func} {p : Tmp} (h : fn.results = #[.cell p 47]) (tmps : Array Value) (W : World) (b : Nat) (f : Nat → Nat)
    (hp : tmps.getD p undef = .pointer (some ⟨b, 0, none⟩)) (hu : U4 W b f) : (results fn tmps).run Try.prog W = .ok (u4V f) W := by
  have hp' : tmps[p]?.getD undef = .pointer (some ⟨b, 0, none⟩) := by simpa using hp
  have hl := run_loadVar_mid (P := Try.prog) W b 0 47 [.int .u64 (f 0 : Nat), .int .u64 (f 1 : Nat), .int .u64 (f 2 : Nat), .int .u64 (f 3 : Nat)] _ (fun j v hv => by
    rw [Nat.zero_add]
    match j with
    | 0 => injection hv with hv; subst hv; exact hu.cell 0 (by omega)
    | 1 => injection hv with hv; subst hv; exact hu.cell 1 (by omega)
    | 2 => injection hv with hv; subst hv; exact hu.cell 2 (by omega)
    | 3 => injection hv with hv; subst hv; exact hu.cell 3 (by omega)
    | j + 4 => simp at hv) Try.underlying47 rfl (by kernel_rfl)
  simp [results, h, hp', asAddr, hl, u4V]
theorem u4_four {W : World} {b : Nat} {f g : Nat → Nat} (h : U4 W b g) (v0 v1 v2 v3 : Int) (e0 : v0 = (f 0 : Nat)) (e1 : v1 = (f 1 : Nat)) (e2 : v2 = (f 2 : Nat)) (e3 : v3 = (f 3 : Nat)) :
    U4 ((((W.setCell ⟨b, 0, none⟩ (.int .u64 v0)).setCell ⟨b, 1, none⟩ (.int .u64 v1)).setCell ⟨b, 2, none⟩ (.int .u64 v2)).setCell ⟨b, 3, none⟩ (.int .u64 v3)) b f := by
  subst e0 e1 e2 e3
  have h0 := h.set (q := 0) (by omega) (v := f 0) (f' := fun j => if j = 0 then f 0 else g j) (fun _ _ => rfl)
  have h1 := h0.set (q := 1) (by omega) (v := f 1) (f' := fun j => if j = 1 then f 1 else if j = 0 then f 0 else g j) (fun _ _ => rfl)
  have h2 := h1.set (q := 2) (by omega) (v := f 2) (f' := fun j => if j = 2 then f 2 else if j = 1 then f 1 else if j = 0 then f 0 else g j) (fun _ _ => rfl)
  exact h2.set (q := 3) (by omega) (v := f 3) (fun j hj => by
    by_cases e3 : j = 3
    · rw [if_pos e3, e3]
    rw [if_neg e3]
    by_cases e2 : j = 2
    · rw [if_pos e2, e2]
    rw [if_neg e2]
    by_cases e1 : j = 1
    · rw [if_pos e1, e1]
    rw [if_neg e1]
    by_cases e0 : j = 0
    · rw [if_pos e0, e0]
    omega)
theorem below_four {N b : Nat} {W0 W : World} (hb : N ≤ b) (h : Below N W0 W) (v0 v1 v2 v3 : Value) :
    Below N W0 ((((W.setCell ⟨b, 0, none⟩ v0).setCell ⟨b, 1, none⟩ v1).setCell ⟨b, 2, none⟩ v2).setCell ⟨b, 3, none⟩ v3) :=
  (((h.setCell (p := ⟨b, 0, none⟩) hb v0).setCell (p := ⟨b, 1, none⟩) hb v1).setCell (p := ⟨b, 2, none⟩) hb v2).setCell (p := ⟨b, 3, none⟩) hb v3

end Go.Proofs.Ytbjmdehfdnpljaa.Ve
