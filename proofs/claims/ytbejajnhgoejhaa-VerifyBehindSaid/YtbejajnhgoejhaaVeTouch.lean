/-
  The landed verify's touched, Writes and Reads, walked: which bytes a program writes and reads. Conditions: numbers that an int holds.
-/
import Derived.Test.YtbejajnhgoejhaaVeBytes
import Derived.Deep.RegionHeld3
namespace Go.Proofs.Ytbejajnhgoejhaa.Ve
open Go.RowKit
open Go.Proofs.Ytbejajnhgoejhaa.Il hiding Next
open Go.Proofs.Ytbejajnhgoejhaa.Ic

/-! ### Plain: the bytes of each area -/
def countB (wr : Bool) (a : Ah) (x : In) (j : Nat) : Bool := a.on && decide (x.ar = j + 1) && usesB wr x.op
/-- Of area j + 1 what the first k instructions ask for. -/
def accB (wr : Bool) (c : List In) (l : List Ah) : Nat → Nat → Nat
  | 0, _ => 0
  | k + 1, j => match c[k]? with
    | none => accB wr c l k j
    | some x => if countB wr (gt l k) x j then accB wr c l k j ||| maskI x else accB wr c l k j
def useB (wr : Bool) (c : List In) (j : Nat) : Nat := match allB c with
  | .error _ => 0
  | .ok l => accB wr c l c.length j
theorem acc_next {wr : Bool} {c : List In} {l : List Ah} {k : Nat} {x : In} (hx : c[k]? = some x) (j : Nat) : accB wr c l (k + 1) j = if countB wr (gt l k) x j then accB wr c l k j ||| maskI x else accB wr c l k j := by
  show (match c[k]? with | none => accB wr c l k j | some x => if countB wr (gt l k) x j then accB wr c l k j ||| maskI x else accB wr c l k j) = _
  rw [hx]
theorem run_right {c : List In} : ∀ {k : Nat} {l : List Ah}, runB c k = .ok l → ∀ (j : Nat) (x : In), j < k → c[j]? = some x → rightI x = true
  | 0, _, _, j, _, hj, _ => by omega
  | k + 1, l, h, j, x, hj, hx => by
    cases h0 : runB c k with
    | error e0 => rw [run_error 1 h0] at h; cases h
    | ok l0 =>
      by_cases e : j = k
      · subst e
        cases hr : rightI x with
        | true => rfl
        | false =>
          have hs := step_wrong (k := j) (n := c.length) (l := l0) hr
          have := run_stop h0 hx (by rw [hs]; simp)
          rw [h] at this
          cases this
      · exact run_right h0 j x (by omega) hx
theorem acc_lt {wr : Bool} {c : List In} {l : List Ah} (hr : ∀ (j : Nat) (x : In), c[j]? = some x → rightI x = true) (j : Nat) : ∀ k, accB wr c l k j < 18446744073709551616
  | 0 => by unfold accB; omega
  | k + 1 => by
    have ih := acc_lt (wr := wr) (l := l) hr j k
    cases hx : c[k]? with
    | none => unfold accB; rw [hx]; exact ih
    | some x =>
      rw [acc_next hx]
      split
      · next hc =>
        unfold countB at hc
        simp only [Bool.and_eq_true, decide_eq_true_eq] at hc
        have ha := right_size (hr k x hx) (by omega)
        have hm : maskI x < 18446744073709551616 := mask_lt _ _ ha.2.2.2.1
        exact Nat.or_lt_two_pow (n := 64) ih hm
      · exact ih
theorem right_all {c : List In} {l : List Ah} (h : allB c = .ok l) : ∀ (j : Nat) (x : In), c[j]? = some x → rightI x = true := fun j x hx =>
  run_right (all_ok h).2.1 j x (List.getElem?_eq_some_iff.1 hx).1 hx

/-! ### Four numbers in memory -/
structure U4 (W : World) (p : Nat) (f : Nat → Nat) : Prop where
  cell : ∀ j, j < 4 → W.cell? ⟨p, j, none⟩ = some (.int .u64 (f j : Nat))
  free : ∀ j, j < 4 → W.frozen? ⟨p, j, none⟩ = false
section
variable {W W' : World} {p : Nat} {f f' : Nat → Nat}
theorem U4.lt (h : U4 W p f) : p < W.heap.size := World.block_lt_of_cell? W _ (h.cell 0 (by omega))
theorem U4.kept (h : U4 W p f) (hb : Below W.heap.size W W') : U4 W' p f :=
  ⟨fun j hj => kept_cell hb (h.cell j hj), fun j hj => (World.frozen?_of_block (hb.block p h.lt)).trans (h.free j hj)⟩
theorem U4.drew (h : U4 W p f) : U4 W.drew p f := ⟨h.cell, h.free⟩
theorem U4.set (h : U4 W p f) {q : Nat} (hq : q < 4) {v : Nat} (hf : ∀ j, j < 4 → f' j = if j = q then v else f j) : U4 (W.setCell ⟨p, q, none⟩ (.int .u64 (v : Nat))) p f' := by
  refine ⟨fun j hj => ?_, fun j hj => by rw [World.frozen?_setCell]; exact h.free j hj⟩
  rw [hf j hj]
  by_cases e : j = q
  · subst e
    rw [if_pos rfl]
    exact World.cell?_setCell_same' _ _ _ (by rw [h.cell j hj]; rfl)
  · rw [if_neg e, World.cell?_setCell_other _ _ _ _ (by intro e2; injection e2 with _ e3; exact e e3.symm)]
    exact h.cell j hj
theorem U4.other (h : U4 W p f) {b j : Nat} (hne : p ≠ b) (v : Value) : U4 (W.setCell ⟨b, j, none⟩ v) p f := by
  refine ⟨fun i hi => ?_, fun i hi => by rw [World.frozen?_setCell]; exact h.free i hi⟩
  rw [World.cell?_setCell_other _ _ _ _ (by intro e2; injection e2 with e3 _; exact hne e3.symm)]
  exact h.cell i hi
theorem U4.new (W : World) (t : TypeId) : U4 (W.alloc (.cells #[.int .u64 0, .int .u64 0, .int .u64 0, .int .u64 0] t)) W.heap.size (fun _ => 0) := by
  refine ⟨fun j hj => ?_, fun j _ => World.frozen?_alloc_new _ _ _ _⟩
  rw [World.cell?_alloc_new]
  match j, hj with
  | 0, _ => rfl
  | 1, _ => rfl
  | 2, _ => rfl
  | 3, _ => rfl
theorem U4.at (h : U4 W p f) (hf : ∀ j, j < 4 → f' j = f j) : U4 W p f' := ⟨fun j hj => by rw [hf j hj]; exact h.cell j hj, h.free⟩
end
def u4V (f : Nat → Nat) : Value := .agg #[.int .u64 (f 0 : Nat), .int .u64 (f 1 : Nat), .int .u64 (f 2 : Nat), .int .u64 (f 3 : Nat)]
/-- How far touched has come. -/
structure Tc (w W : World) (h n : Nat) (l : List Ah) (f : Nat → Nat) : Prop where
  kinds : W.ownsRow (w.heap.size + 2) 3 1 (.slice (some ⟨h, 0, none⟩) n n) n (kindsV l n)
  used : U4 W (w.heap.size + 1) f
  res : U4 W w.heap.size (fun _ => 0)
  below : Below w.heap.size w W
/-- .. with an instruction of its own. -/
structure Tq (w W : World) (h n : Nat) (l : List Ah) (f : Nat → Nat) (b : Nat) (x : In) : Prop where
  tc : Tc w W h n l f
  ins : W.rangeAt b 0 (insC x)
section
variable {w W W' : World} {h n b q v : Nat} {l : List Ah} {f f' : Nat → Nat} {x : In}
theorem Tc.size (t : Tc w W h n l f) : w.heap.size + 1 < W.heap.size := t.used.lt
theorem Tc.kept (t : Tc w W h n l f) (hb : Below W.heap.size W W') : Tc w W' h n l f :=
  ⟨World.ownsRow.kept t.kinds (only_bel hb none) (.inr (by simp [Value.ownBlock])), t.used.kept hb, t.res.kept hb, t.below.trans (hb.mono t.below.size)⟩
theorem Tc.drew (t : Tc w W h n l f) : Tc w W.drew h n l f := ⟨t.kinds.drew, t.used.drew, t.res.drew, t.below.drew⟩
theorem Tc.put (t : Tc w W h n l f) (hq : q < 4) (hf : ∀ j, j < 4 → f' j = if j = q then v else f j) : Tc w (W.setCell ⟨w.heap.size + 1, q, none⟩ (.int .u64 (v : Nat))) h n l f' :=
  ⟨World.ownsRow.kept t.kinds (only_setv W _ _ _) (.inr (fun e => by have := World.ownsRow.lt t.kinds h rfl; simp [Value.ownBlock] at e; omega)), t.used.set hq hf, t.res.other (by omega) _, t.below.setCell (by show w.heap.size ≤ w.heap.size + 1; omega) _⟩
theorem Tc.with (t : Tc w W h n l f) (x : In) : Tq w (W.alloc (.cells (insC x).toArray 41)) h n l f W.heap.size x :=
  ⟨t.kept ((Below.refl _ _).alloc (Nat.le_refl _) _), range_new _ _ _⟩
theorem Tq.next (t : Tq w W h n l f b x) (hb : Below W.heap.size W W') : Tq w W' h n l f b x := ⟨t.tc.kept hb, range_below t.ins hb⟩
theorem Tq.drew (t : Tq w W h n l f b x) : Tq w W.drew h n l f b x := ⟨t.tc.drew, t.ins⟩
theorem Tq.cells (t : Tq w W h n l f b x) (hq : q < 4) : W.cell? ⟨b, 0, none⟩ = some (.int .i64 x.op) ∧ W.cell? ⟨b, 1, none⟩ = some (.int .i64 x.kd) ∧ W.cell? ⟨b, 2, none⟩ = some (.int .i64 x.ar) ∧ W.cell? ⟨b, 3, none⟩ = some (.int .i64 x.pl) ∧ W.cell? ⟨b, 4, none⟩ = some (.int .i64 x.n) ∧ W.cell? ⟨w.heap.size + 1, q, none⟩ = some (.int .u64 (f q : Nat)) ∧ W.frozen? ⟨w.heap.size + 1, q, none⟩ = false :=
  ⟨t.ins 0 _ rfl, t.ins 1 _ rfl, t.ins 2 _ rfl, t.ins 3 _ rfl, t.ins 4 _ rfl, t.tc.used.cell q hq, t.tc.used.free q hq⟩
end
/-- A world that is written out is forgotten, but for a fact. -/
theorem world_cut {G : World → Prop} {w : World} (F : World → Prop) (h : F w) (k : ∀ W, F W → G W) : G w := k w h
theorem kinds_at {l : List Ah} {n k : Nat} (h : k < n) : (kindsV l n)[k]? = some (.int .i64 (kindB (gt l k))) := by
  rw [← kindsK_all, kindsK_at h, if_pos h]
theorem kind_on {a : Ah} (ha : Wf a) : (kindB a != -1) = a.on := by
  unfold kindB
  have := ha.kd
  cases a.on
  · rfl
  · rw [if_pos rfl, bne_iff_ne]; omega
theorem acc_skip {wr : Bool} {c : List In} {l : List Ah} {k : Nat} {x : In} (hx : c[k]? = some x) (h : (gt l k).on = false ∨ x.ar = 0 ∨ usesB wr x.op = false) (j : Nat) : accB wr c l (k + 1) j = accB wr c l k j := by
  rw [acc_next hx, if_neg]
  unfold countB
  rcases h with h | h | h
  · rw [h]; simp
  · rw [h, decide_eq_false (by omega)]; simp
  · rw [h]; simp
theorem acc_put {wr : Bool} {c : List In} {l : List Ah} {k q : Nat} {x : In} (hx : c[k]? = some x) (h1 : (gt l k).on = true) (h2 : x.ar = q + 1) (h3 : usesB wr x.op = true) (j : Nat) : accB wr c l (k + 1) j = if j = q then accB wr c l k q ||| maskI x else accB wr c l k j := by
  rw [acc_next hx]
  unfold countB
  rw [h1, h3, h2]
  by_cases e : j = q
  · subst e
    rw [if_pos rfl, if_pos (by simp)]
  · rw [if_neg e, if_neg (by simp; omega)]
theorem result_u4 {fn : Func} {p : Tmp} (h : fn.results = #[.cell p 37]) (tmps : Array Value) (W : World) (b : Nat) (f : Nat → Nat)
    (hp : tmps.getD p undef = .pointer (some ⟨b, 0, none⟩)) (hu : U4 W b f) : (results fn tmps).run Try.prog W = .ok (u4V f) W := by
  have hp' : tmps[p]?.getD undef = .pointer (some ⟨b, 0, none⟩) := by simpa using hp
  have hl := run_loadVar_mid (P := Try.prog) W b 0 37 [.int .u64 (f 0 : Nat), .int .u64 (f 1 : Nat), .int .u64 (f 2 : Nat), .int .u64 (f 3 : Nat)] _ (fun j v hv => by
    rw [Nat.zero_add]
    match j with
    | 0 => injection hv with hv; subst hv; exact hu.cell 0 (by omega)
    | 1 => injection hv with hv; subst hv; exact hu.cell 1 (by omega)
    | 2 => injection hv with hv; subst hv; exact hu.cell 2 (by omega)
    | 3 => injection hv with hv; subst hv; exact hu.cell 3 (by omega)
    | j + 4 => simp at hv) Try.underlying37 rfl (by kernel_rfl)
  simp [results, h, hp', asAddr, hl, u4V]
theorem u4_four {W : World} {b : Nat} {f g : Nat → Nat} (h : U4 W b g) (v0 v1 v2 v3 : Int) (e0 : v0 = (f 0 : Nat)) (e1 : v1 = (f 1 : Nat)) (e2 : v2 = (f 2 : Nat)) (e3 : v3 = (f 3 : Nat)) :
    U4 ((((W.setCell ⟨b, 0, none⟩ (.int .u64 v0)).setCell ⟨b, 1, none⟩ (.int .u64 v1)).setCell ⟨b, 2, none⟩ (.int .u64 v2)).setCell ⟨b, 3, none⟩ (.int .u64 v3)) b f := by
  subst e0 e1 e2 e3
  have h0 := h.set (q := 0) (by omega) (v := f 0) (f' := fun j => if j = 0 then f 0 else g j) (fun _ _ => rfl)
  have h1 := h0.set (q := 1) (by omega) (v := f 1) (f' := fun j => if j = 1 then f 1 else if j = 0 then f 0 else g j) (fun _ _ => rfl)
  have h2 := h1.set (q := 2) (by omega) (v := f 2) (f' := fun j => if j = 2 then f 2 else if j = 1 then f 1 else if j = 0 then f 0 else g j) (fun _ _ => rfl)
  exact h2.set (q := 3) (by omega) (v := f 3) (fun j hj => by
    by_cases e3 : j = 3
    · rw [if_pos e3, e3]
    rw [if_neg e3]
    by_cases e2 : j = 2
    · rw [if_pos e2, e2]
    rw [if_neg e2]
    by_cases e1 : j = 1
    · rw [if_pos e1, e1]
    rw [if_neg e1]
    by_cases e0 : j = 0
    · rw [if_pos e0, e0]
    omega)
theorem below_four {N b : Nat} {W0 W : World} (hb : N ≤ b) (h : Below N W0 W) (v0 v1 v2 v3 : Value) :
    Below N W0 ((((W.setCell ⟨b, 0, none⟩ v0).setCell ⟨b, 1, none⟩ v1).setCell ⟨b, 2, none⟩ v2).setCell ⟨b, 3, none⟩ v3) :=
  (((h.setCell (p := ⟨b, 0, none⟩) hb v0).setCell (p := ⟨b, 1, none⟩) hb v1).setCell (p := ⟨b, 2, none⟩) hb v2).setCell (p := ⟨b, 3, none⟩) hb v3

set_option maxRecDepth 100000 in
set_option maxHeartbeats 8000000 in
theorem touched_writes (c : List In) (ao : Option Addr) (cap : Nat) (w : World) (hI : Lies w w.heap.size ao c) (hF : FitL c) (hm : c.length ≤ maxLen) :
    Calls Try.prog 17 #[.slice ao c.length cap, .func (Fn.func 18) #[] #[]] w (Tells (u4V (useB true c)) w) := by
  have HI := Lib.hid hI
  have HD := Lib.hid (fun op W => cWrites_any op W)
  obtain ⟨ws, hws⟩ : ∃ ws : Bool, ws = true := ⟨_, rfl⟩
  rw [← hws] at HD ⊢
  clear hws
  have hb2 : Below w.heap.size w ((w.alloc (.cells #[.int .u64 0, .int .u64 0, .int .u64 0, .int .u64 0] 37)).alloc (.cells #[.int .u64 0, .int .u64 0, .int .u64 0, .int .u64 0] 37)) := box_two _ _ _ _ _
  have hs2 : ((w.alloc (.cells #[.int .u64 0, .int .u64 0, .int .u64 0, .int .u64 0] 37)).alloc (.cells #[.int .u64 0, .int .u64 0, .int .u64 0, .int .u64 0] 37)).heap.size = w.heap.size + 2 := by simp
  have hu1 := U4.new (w.alloc (.cells #[.int .u64 0, .int .u64 0, .int .u64 0, .int .u64 0] 37)) 37
  rw [show (w.alloc (.cells #[.int .u64 0, .int .u64 0, .int .u64 0, .int .u64 0] 37)).heap.size = w.heap.size + 1 by simp] at hu1
  have hu0 := (U4.new w 37).kept ((Below.refl _ _).alloc (Nat.le_refl _) (.cells #[.int .u64 0, .int .u64 0, .int .u64 0, .int .u64 0] 37))
  have HC := Lib.hid (cKinds_any c ao cap _ ((hI.below hb2).more (by rw [hs2]; omega)) hF hm)
  unfold KindsOf at HC
  rw [hs2] at HC
  have H0 := Lib.hid (⟨hu0, hu1, hb2, hs2⟩ : _ ∧ _ ∧ _ ∧ _)
  clear hu0 hu1 hb2 hs2 hI
  rcases all_cases c with ⟨r, k, h, -⟩ | ⟨l, h, hw, -, h200⟩
  · rw [h] at HC
    dsimp only at HC
    have HV := Lib.hid (show useB ws c = fun _ => 0 by funext j; unfold useB; rw [h])
    rw [HV.out]
    clear h hF hm
    go_enter Try.func17, Try.ntmps17
    go_wp2_with fail
    refine HC.out.mono ?_
    rintro e w1 ⟨rfl, hb⟩
    rw [← H0.out.2.2.2] at hb
    have u0 := H0.out.1.kept hb
    have u1 := H0.out.2.1.kept hb
    have HB := Lib.hid (H0.out.2.2.1.trans (hb.mono (by rw [H0.out.2.2.2]; omega)))
    have HU0 := Lib.hid u0
    have a0 := u0.cell 0 (by omega)
    have a1 := u0.cell 1 (by omega)
    have a2 := u0.cell 2 (by omega)
    have a3 := u0.cell 3 (by omega)
    have f0 := u0.free 0 (by omega)
    have f1 := u0.free 1 (by omega)
    have f2 := u0.free 2 (by omega)
    have f3 := u0.free 3 (by omega)
    have b0 := u1.cell 0 (by omega)
    have b1 := u1.cell 1 (by omega)
    have b2 := u1.cell 2 (by omega)
    have b3 := u1.cell 3 (by omega)
    clear hb u0 u1
    go_wp2
    go_loopw [18] (fun i wr => i = .int .i64 0 ∧ wr = w1) (fun i _ => 0)
    case atStart => exact ⟨rfl, rfl⟩
    case round =>
      obtain ⟨rfl, rfl⟩ := hrel
      go_wp2
      refine bodyPost_ret (v := u4V fun _ => 0) (result_u4 Try.results17 _ _ _ (fun _ => 0) rfl (u4_four HU0.out _ _ _ _ rfl rfl rfl rfl)) rfl ⟨rfl, below_four (Nat.le_refl _) HB.out _ _ _ _⟩
  · rw [h] at HC
    dsimp only at HC
    obtain ⟨n, hn⟩ : ∃ n, n = c.length := ⟨_, rfl⟩
    have HV := Lib.hid (show useB ws c = accB ws c l n by funext j; unfold useB; rw [h, hn])
    rw [HV.out]
    have HRi := Lib.hid (right_all h)
    have HW := Lib.hid hw
    have HN := Lib.hid hn
    rw [← hn] at HC ⊢
    have hn2 : (n : Int) ≤ 200 := by omega
    clear h hF hm hw hn h200
    go_enter Try.func17, Try.ntmps17
    go_wp2_with fail
    refine HC.out.mono ?_
    rintro e w1 ⟨g, rfl, hk, hb⟩
    have T0 := Lib.hid (show Tc w w1 g n l (accB ws c l 0) from ⟨hk, by
        rw [← H0.out.2.2.2] at hb
        exact (H0.out.2.1.kept hb).at (fun _ _ => rfl), by
        rw [← H0.out.2.2.2] at hb
        exact H0.out.1.kept hb, H0.out.2.2.1.trans (hb.mono (by omega))⟩)
    clear hk hb HC H0
    go_wp2
    go_loopw [18] (fun i W => ∃ (k : Nat), (k : Int) ≤ n ∧ i = .int .i64 k ∧ Hid (Tc w W g n l (accB ws c l k))) (fun i _ => n - (intOf i).toNat)
    case atStart => exact ⟨0, by omega, rfl, T0⟩
    case round =>
      obtain ⟨k, hk, rfl, hS⟩ := hrel
      clear T0
      by_cases hlt : (k : Int) < n
      · have hkn : k < n := by omega
        have kk := World.ownsRow.cellAt hS.out.kinds k (by omega)
        rw [kinds_at hkn] at kk
        have hko := kind_on (HW.out k)
        obtain ⟨x, hx⟩ : ∃ x, c[k]? = some x := ⟨_, List.getElem?_eq_getElem (by rw [← HN.out]; omega)⟩
        have HX := Lib.hid hx
        obtain ⟨b, o, rfl, -, hIt⟩ := (HI.out.below hS.out.below) (by rw [← HN.out]; omega)
        obtain ⟨y0, y1, y2, y3, y4⟩ := hIt k x hx
        have HT := Lib.hid (hS.out.with x)
        unfold insC at HT
        have Hkk := Lib.hid hkn
        generalize kindB (gt l k) = kb at *
        clear hIt hx hkn
        cases hon : (gt l k).on
        · rw [hon] at hko
          have HT2 := Lib.hid (show Tc w _ g n l (accB ws c l (k + 1)) from by
            have := HT.out.tc
            rw [show accB ws c l k = accB ws c l (k + 1) from funext fun j => (acc_skip HX.out (.inl hon) j).symm] at this
            exact this)
          clear hon hS HT
          go_wp2
          go_roundw
          case rel => exact ⟨k + 1, by omega, by go_num, HT2⟩
          case measure => simp [intOf]; omega
        · rw [hon] at hko
          have Hon := Lib.hid hon
          clear hon
          by_cases ha : x.ar = 0
          · have hab : (x.ar != 0) = false := by simpa using ha
            have HT2 := Lib.hid (show Tc w _ g n l (accB ws c l (k + 1)) from by
              have := HT.out.tc
              rw [show accB ws c l k = accB ws c l (k + 1) from funext fun j => (acc_skip HX.out (.inr (.inl ha)) j).symm] at this
              exact this)
            clear hS HT ha
            go_wp2
            go_roundw
            case rel => exact ⟨k + 1, by omega, by go_num, HT2⟩
            case measure => simp [intOf]; omega
          · have hab : (x.ar != 0) = true := by simpa using ha
            have hrs := Lib.hid (right_size (HRi.out k x HX.out) ha)
            obtain ⟨q, hq⟩ : ∃ q : Nat, x.ar = (q : Int) + 1 := ⟨(x.ar - 1).toNat, by have := hrs.out; omega⟩
            have hq4 : (q : Int) < 4 := by have := hrs.out; omega
            replace hq := Lib.hid hq
            have HDx := Lib.hid (fun W => HD.out x.op W)
            go_wp2_with fail
            refine (HDx.out _).mono ?_
            rintro e w2 ⟨rfl, rfl⟩
            cases hu : usesB ws x.op
            · have HT2 := Lib.hid (show Tc w _ g n l (accB ws c l (k + 1)) from by
                have := HT.out.tc
                rw [show accB ws c l k = accB ws c l (k + 1) from funext fun j => (acc_skip HX.out (.inr (.inr hu)) j).symm] at this
                exact this)
              clear hu hS HT ha hrs hq HDx
              go_wp2
              go_roundw
              case rel => exact ⟨k + 1, by omega, by go_num, HT2⟩
              case measure => simp [intOf]; omega
            · have HA := Lib.hid (acc_put (wr := ws) (l := l) HX.out Hon.out hq.out hu)
              have HBy := Lib.hid (fun W => cBytesOf_any x W (HRi.out k x HX.out) ha)
              have hml : maskI x < 18446744073709551616 := mask_lt _ _ hrs.out.2.2.2.1
              have hal := acc_lt (wr := ws) (l := l) HRi.out q k
              have hor := bits_or_u64_nat (accB ws c l k q) (maskI x) hal hml
              have HQ4 := Lib.hid (show q < 4 by omega)
              have hsub : IntKind.i64.wrap ((q : Int) + 1 - 1) = q := by rw [IntKind.wrap_i64]; omega
              unfold insV at HBy
              obtain ⟨op, kd, ar, pl, nn⟩ := x
              replace hq := hq.out
              dsimp only at hq HT HBy y0 y1 y2 y3 y4 hab ha hu HDx
              subst hq
              generalize maskI ⟨op, kd, (q : Int) + 1, pl, nn⟩ = M at *
              obtain ⟨A, hA⟩ : ∃ A, A = accB ws c l k q := ⟨_, rfl⟩
              have HAA := Lib.hid hA
              rw [← hA] at hor HA
              clear hml hal hu ha hrs hS HDx hA
              go_wp2
              refine world_cut (G := fun W => Code.wp _ _ _ _ W) (fun W => Tq w W g n l (accB ws c l k) wr.heap.size ⟨op, kd, (q : Int) + 1, pl, nn⟩) HT.out ?_
              rintro W hT0
              have hT := hT0.drew
              clear HT hT0 y0 y1 y2 y3 y4 kk
              generalize wr.heap.size = z at *
              have hq0 : (0 : Int) ≤ q := by omega
              have hwq : IntKind.i64.wrap (q : Int) = q := by rw [IntKind.wrap_i64]; omega
              obtain ⟨x0, x1, x2, x3, x4, x5, x6⟩ := hT.cells HQ4.out
              dsimp only at x0 x1 x2 x3 x4
              rw [← HAA.out] at x5
              replace hT := Lib.hid hT
              go_region_with (go_at_call 28; (with_reducible refine (HBy.out _).mono ?_); rintro e w3 ⟨rfl, hb3⟩; have hT3 := Lib.hid (hT.out.next hb3); obtain ⟨z0, z1, z2, z3, z4, z5, z6⟩ := hT3.out.cells HQ4.out; dsimp only at z0 z1 z2 z3 z4; rw [← HAA.out] at z5)
              all_goals
                have HT2 := Lib.hid (hT3.out.tc.put HQ4.out (v := A ||| M) (fun j _ => HA.out j))
                clear hT hT3 hb3 x0 x1 x2 x3 x4 x5 x6 z0 z1 z2 z3 z4 z5 z6 HA HAA hor
                go_wp2
                go_roundw
                case rel => exact ⟨k + 1, by omega, by go_num, HT2⟩
                case measure => simp [intOf]; omega
      · obtain rfl : k = n := by omega
        have u0 := hS.out.res
        have u1 := hS.out.used
        have HU0 := Lib.hid u0
        have HB := Lib.hid hS.out.below
        have a0 := u0.cell 0 (by omega)
        have a1 := u0.cell 1 (by omega)
        have a2 := u0.cell 2 (by omega)
        have a3 := u0.cell 3 (by omega)
        have f0 := u0.free 0 (by omega)
        have f1 := u0.free 1 (by omega)
        have f2 := u0.free 2 (by omega)
        have f3 := u0.free 3 (by omega)
        have b0 := u1.cell 0 (by omega)
        have b1 := u1.cell 1 (by omega)
        have b2 := u1.cell 2 (by omega)
        have b3 := u1.cell 3 (by omega)
        clear u0 u1 hS
        go_wp2
        refine bodyPost_ret (v := u4V (accB ws c l k)) (result_u4 Try.results17 _ _ _ (accB ws c l k) rfl (u4_four HU0.out _ _ _ _ rfl rfl rfl rfl)) rfl ⟨rfl, below_four (Nat.le_refl _) HB.out _ _ _ _⟩
set_option maxRecDepth 100000 in
set_option maxHeartbeats 8000000 in
theorem touched_reads (c : List In) (ao : Option Addr) (cap : Nat) (w : World) (hI : Lies w w.heap.size ao c) (hF : FitL c) (hm : c.length ≤ maxLen) :
    Calls Try.prog 17 #[.slice ao c.length cap, .func (Fn.func 20) #[] #[]] w (Tells (u4V (useB false c)) w) := by
  have HI := Lib.hid hI
  have HD := Lib.hid (fun op W => cReads_any op W)
  obtain ⟨ws, hws⟩ : ∃ ws : Bool, ws = false := ⟨_, rfl⟩
  rw [← hws] at HD ⊢
  clear hws
  have hb2 : Below w.heap.size w ((w.alloc (.cells #[.int .u64 0, .int .u64 0, .int .u64 0, .int .u64 0] 37)).alloc (.cells #[.int .u64 0, .int .u64 0, .int .u64 0, .int .u64 0] 37)) := box_two _ _ _ _ _
  have hs2 : ((w.alloc (.cells #[.int .u64 0, .int .u64 0, .int .u64 0, .int .u64 0] 37)).alloc (.cells #[.int .u64 0, .int .u64 0, .int .u64 0, .int .u64 0] 37)).heap.size = w.heap.size + 2 := by simp
  have hu1 := U4.new (w.alloc (.cells #[.int .u64 0, .int .u64 0, .int .u64 0, .int .u64 0] 37)) 37
  rw [show (w.alloc (.cells #[.int .u64 0, .int .u64 0, .int .u64 0, .int .u64 0] 37)).heap.size = w.heap.size + 1 by simp] at hu1
  have hu0 := (U4.new w 37).kept ((Below.refl _ _).alloc (Nat.le_refl _) (.cells #[.int .u64 0, .int .u64 0, .int .u64 0, .int .u64 0] 37))
  have HC := Lib.hid (cKinds_any c ao cap _ ((hI.below hb2).more (by rw [hs2]; omega)) hF hm)
  unfold KindsOf at HC
  rw [hs2] at HC
  have H0 := Lib.hid (⟨hu0, hu1, hb2, hs2⟩ : _ ∧ _ ∧ _ ∧ _)
  clear hu0 hu1 hb2 hs2 hI
  rcases all_cases c with ⟨r, k, h, -⟩ | ⟨l, h, hw, -, h200⟩
  · rw [h] at HC
    dsimp only at HC
    have HV := Lib.hid (show useB ws c = fun _ => 0 by funext j; unfold useB; rw [h])
    rw [HV.out]
    clear h hF hm
    go_enter Try.func17, Try.ntmps17
    go_wp2_with fail
    refine HC.out.mono ?_
    rintro e w1 ⟨rfl, hb⟩
    rw [← H0.out.2.2.2] at hb
    have u0 := H0.out.1.kept hb
    have u1 := H0.out.2.1.kept hb
    have HB := Lib.hid (H0.out.2.2.1.trans (hb.mono (by rw [H0.out.2.2.2]; omega)))
    have HU0 := Lib.hid u0
    have a0 := u0.cell 0 (by omega)
    have a1 := u0.cell 1 (by omega)
    have a2 := u0.cell 2 (by omega)
    have a3 := u0.cell 3 (by omega)
    have f0 := u0.free 0 (by omega)
    have f1 := u0.free 1 (by omega)
    have f2 := u0.free 2 (by omega)
    have f3 := u0.free 3 (by omega)
    have b0 := u1.cell 0 (by omega)
    have b1 := u1.cell 1 (by omega)
    have b2 := u1.cell 2 (by omega)
    have b3 := u1.cell 3 (by omega)
    clear hb u0 u1
    go_wp2
    go_loopw [18] (fun i wr => i = .int .i64 0 ∧ wr = w1) (fun i _ => 0)
    case atStart => exact ⟨rfl, rfl⟩
    case round =>
      obtain ⟨rfl, rfl⟩ := hrel
      go_wp2
      refine bodyPost_ret (v := u4V fun _ => 0) (result_u4 Try.results17 _ _ _ (fun _ => 0) rfl (u4_four HU0.out _ _ _ _ rfl rfl rfl rfl)) rfl ⟨rfl, below_four (Nat.le_refl _) HB.out _ _ _ _⟩
  · rw [h] at HC
    dsimp only at HC
    obtain ⟨n, hn⟩ : ∃ n, n = c.length := ⟨_, rfl⟩
    have HV := Lib.hid (show useB ws c = accB ws c l n by funext j; unfold useB; rw [h, hn])
    rw [HV.out]
    have HRi := Lib.hid (right_all h)
    have HW := Lib.hid hw
    have HN := Lib.hid hn
    rw [← hn] at HC ⊢
    have hn2 : (n : Int) ≤ 200 := by omega
    clear h hF hm hw hn h200
    go_enter Try.func17, Try.ntmps17
    go_wp2_with fail
    refine HC.out.mono ?_
    rintro e w1 ⟨g, rfl, hk, hb⟩
    have T0 := Lib.hid (show Tc w w1 g n l (accB ws c l 0) from ⟨hk, by
        rw [← H0.out.2.2.2] at hb
        exact (H0.out.2.1.kept hb).at (fun _ _ => rfl), by
        rw [← H0.out.2.2.2] at hb
        exact H0.out.1.kept hb, H0.out.2.2.1.trans (hb.mono (by omega))⟩)
    clear hk hb HC H0
    go_wp2
    go_loopw [18] (fun i W => ∃ (k : Nat), (k : Int) ≤ n ∧ i = .int .i64 k ∧ Hid (Tc w W g n l (accB ws c l k))) (fun i _ => n - (intOf i).toNat)
    case atStart => exact ⟨0, by omega, rfl, T0⟩
    case round =>
      obtain ⟨k, hk, rfl, hS⟩ := hrel
      clear T0
      by_cases hlt : (k : Int) < n
      · have hkn : k < n := by omega
        have kk := World.ownsRow.cellAt hS.out.kinds k (by omega)
        rw [kinds_at hkn] at kk
        have hko := kind_on (HW.out k)
        obtain ⟨x, hx⟩ : ∃ x, c[k]? = some x := ⟨_, List.getElem?_eq_getElem (by rw [← HN.out]; omega)⟩
        have HX := Lib.hid hx
        obtain ⟨b, o, rfl, -, hIt⟩ := (HI.out.below hS.out.below) (by rw [← HN.out]; omega)
        obtain ⟨y0, y1, y2, y3, y4⟩ := hIt k x hx
        have HT := Lib.hid (hS.out.with x)
        unfold insC at HT
        have Hkk := Lib.hid hkn
        generalize kindB (gt l k) = kb at *
        clear hIt hx hkn
        cases hon : (gt l k).on
        · rw [hon] at hko
          have HT2 := Lib.hid (show Tc w _ g n l (accB ws c l (k + 1)) from by
            have := HT.out.tc
            rw [show accB ws c l k = accB ws c l (k + 1) from funext fun j => (acc_skip HX.out (.inl hon) j).symm] at this
            exact this)
          clear hon hS HT
          go_wp2
          go_roundw
          case rel => exact ⟨k + 1, by omega, by go_num, HT2⟩
          case measure => simp [intOf]; omega
        · rw [hon] at hko
          have Hon := Lib.hid hon
          clear hon
          by_cases ha : x.ar = 0
          · have hab : (x.ar != 0) = false := by simpa using ha
            have HT2 := Lib.hid (show Tc w _ g n l (accB ws c l (k + 1)) from by
              have := HT.out.tc
              rw [show accB ws c l k = accB ws c l (k + 1) from funext fun j => (acc_skip HX.out (.inr (.inl ha)) j).symm] at this
              exact this)
            clear hS HT ha
            go_wp2
            go_roundw
            case rel => exact ⟨k + 1, by omega, by go_num, HT2⟩
            case measure => simp [intOf]; omega
          · have hab : (x.ar != 0) = true := by simpa using ha
            have hrs := Lib.hid (right_size (HRi.out k x HX.out) ha)
            obtain ⟨q, hq⟩ : ∃ q : Nat, x.ar = (q : Int) + 1 := ⟨(x.ar - 1).toNat, by have := hrs.out; omega⟩
            have hq4 : (q : Int) < 4 := by have := hrs.out; omega
            replace hq := Lib.hid hq
            have HDx := Lib.hid (fun W => HD.out x.op W)
            go_wp2_with fail
            refine (HDx.out _).mono ?_
            rintro e w2 ⟨rfl, rfl⟩
            cases hu : usesB ws x.op
            · have HT2 := Lib.hid (show Tc w _ g n l (accB ws c l (k + 1)) from by
                have := HT.out.tc
                rw [show accB ws c l k = accB ws c l (k + 1) from funext fun j => (acc_skip HX.out (.inr (.inr hu)) j).symm] at this
                exact this)
              clear hu hS HT ha hrs hq HDx
              go_wp2
              go_roundw
              case rel => exact ⟨k + 1, by omega, by go_num, HT2⟩
              case measure => simp [intOf]; omega
            · have HA := Lib.hid (acc_put (wr := ws) (l := l) HX.out Hon.out hq.out hu)
              have HBy := Lib.hid (fun W => cBytesOf_any x W (HRi.out k x HX.out) ha)
              have hml : maskI x < 18446744073709551616 := mask_lt _ _ hrs.out.2.2.2.1
              have hal := acc_lt (wr := ws) (l := l) HRi.out q k
              have hor := bits_or_u64_nat (accB ws c l k q) (maskI x) hal hml
              have HQ4 := Lib.hid (show q < 4 by omega)
              have hsub : IntKind.i64.wrap ((q : Int) + 1 - 1) = q := by rw [IntKind.wrap_i64]; omega
              unfold insV at HBy
              obtain ⟨op, kd, ar, pl, nn⟩ := x
              replace hq := hq.out
              dsimp only at hq HT HBy y0 y1 y2 y3 y4 hab ha hu HDx
              subst hq
              generalize maskI ⟨op, kd, (q : Int) + 1, pl, nn⟩ = M at *
              obtain ⟨A, hA⟩ : ∃ A, A = accB ws c l k q := ⟨_, rfl⟩
              have HAA := Lib.hid hA
              rw [← hA] at hor HA
              clear hml hal hu ha hrs hS HDx hA
              go_wp2
              refine world_cut (G := fun W => Code.wp _ _ _ _ W) (fun W => Tq w W g n l (accB ws c l k) wr.heap.size ⟨op, kd, (q : Int) + 1, pl, nn⟩) HT.out ?_
              rintro W hT0
              have hT := hT0.drew
              clear HT hT0 y0 y1 y2 y3 y4 kk
              generalize wr.heap.size = z at *
              have hq0 : (0 : Int) ≤ q := by omega
              have hwq : IntKind.i64.wrap (q : Int) = q := by rw [IntKind.wrap_i64]; omega
              obtain ⟨x0, x1, x2, x3, x4, x5, x6⟩ := hT.cells HQ4.out
              dsimp only at x0 x1 x2 x3 x4
              rw [← HAA.out] at x5
              replace hT := Lib.hid hT
              go_region_with (go_at_call 28; (with_reducible refine (HBy.out _).mono ?_); rintro e w3 ⟨rfl, hb3⟩; have hT3 := Lib.hid (hT.out.next hb3); obtain ⟨z0, z1, z2, z3, z4, z5, z6⟩ := hT3.out.cells HQ4.out; dsimp only at z0 z1 z2 z3 z4; rw [← HAA.out] at z5)
              all_goals
                have HT2 := Lib.hid (hT3.out.tc.put HQ4.out (v := A ||| M) (fun j _ => HA.out j))
                clear hT hT3 hb3 x0 x1 x2 x3 x4 x5 x6 z0 z1 z2 z3 z4 z5 z6 HA HAA hor
                go_wp2
                go_roundw
                case rel => exact ⟨k + 1, by omega, by go_num, HT2⟩
                case measure => simp [intOf]; omega
      · obtain rfl : k = n := by omega
        have u0 := hS.out.res
        have u1 := hS.out.used
        have HU0 := Lib.hid u0
        have HB := Lib.hid hS.out.below
        have a0 := u0.cell 0 (by omega)
        have a1 := u0.cell 1 (by omega)
        have a2 := u0.cell 2 (by omega)
        have a3 := u0.cell 3 (by omega)
        have f0 := u0.free 0 (by omega)
        have f1 := u0.free 1 (by omega)
        have f2 := u0.free 2 (by omega)
        have f3 := u0.free 3 (by omega)
        have b0 := u1.cell 0 (by omega)
        have b1 := u1.cell 1 (by omega)
        have b2 := u1.cell 2 (by omega)
        have b3 := u1.cell 3 (by omega)
        clear u0 u1 hS
        go_wp2
        refine bodyPost_ret (v := u4V (accB ws c l k)) (result_u4 Try.results17 _ _ _ (accB ws c l k) rfl (u4_four HU0.out _ _ _ _ rfl rfl rfl rfl)) rfl ⟨rfl, below_four (Nat.le_refl _) HB.out _ _ _ _⟩

set_option maxRecDepth 100000 in
set_option maxHeartbeats 4000000 in
theorem cWritesOf_any (c : List In) (ao : Option Addr) (cap : Nat) (w : World) (hI : Lies w w.heap.size ao c) (hF : FitL c) (hm : c.length ≤ maxLen) :
    Calls Try.prog 10 #[.slice ao c.length cap] w (Tells (u4V (useB true c)) w) := by
  have hb1 : Below w.heap.size w (w.alloc (.cells #[.int .u64 0, .int .u64 0, .int .u64 0, .int .u64 0] 37)) := (Below.refl _ _).alloc (Nat.le_refl _) _
  have HC := Lib.hid (touched_writes c ao cap (w.alloc (.cells #[.int .u64 0, .int .u64 0, .int .u64 0, .int .u64 0] 37)) ((hI.below hb1).more (by simp)) hF hm)
  have HU := Lib.hid (U4.new w 37)
  have HB := Lib.hid hb1
  generalize useB true c = f at *
  clear hI hF hm hb1
  unfold u4V at HC ⊢
  go_enter Try.func10, Try.ntmps10
  go_wp2_with fail
  refine HC.out.mono ?_
  rintro e w1 ⟨rfl, hb⟩
  have u0 := HU.out.kept hb
  have HU0 := Lib.hid u0
  have HB1 := Lib.hid (HB.out.trans (hb.mono HB.out.size))
  have a0 := u0.cell 0 (by omega)
  have a1 := u0.cell 1 (by omega)
  have a2 := u0.cell 2 (by omega)
  have a3 := u0.cell 3 (by omega)
  have f0 := u0.free 0 (by omega)
  have f1 := u0.free 1 (by omega)
  have f2 := u0.free 2 (by omega)
  have f3 := u0.free 3 (by omega)
  clear hb u0
  go_wp2
  refine bodyPost_ret (v := u4V f) (result_u4 Try.results10 _ _ _ f rfl (u4_four HU0.out _ _ _ _ rfl rfl rfl rfl)) rfl ⟨rfl, below_four (Nat.le_refl _) HB1.out _ _ _ _⟩
set_option maxRecDepth 100000 in
set_option maxHeartbeats 4000000 in
theorem cReadsOf_any (c : List In) (ao : Option Addr) (cap : Nat) (w : World) (hI : Lies w w.heap.size ao c) (hF : FitL c) (hm : c.length ≤ maxLen) :
    Calls Try.prog 12 #[.slice ao c.length cap] w (Tells (u4V (useB false c)) w) := by
  have hb1 : Below w.heap.size w (w.alloc (.cells #[.int .u64 0, .int .u64 0, .int .u64 0, .int .u64 0] 37)) := (Below.refl _ _).alloc (Nat.le_refl _) _
  have HC := Lib.hid (touched_reads c ao cap (w.alloc (.cells #[.int .u64 0, .int .u64 0, .int .u64 0, .int .u64 0] 37)) ((hI.below hb1).more (by simp)) hF hm)
  have HU := Lib.hid (U4.new w 37)
  have HB := Lib.hid hb1
  generalize useB false c = f at *
  clear hI hF hm hb1
  unfold u4V at HC ⊢
  go_enter Try.func12, Try.ntmps12
  go_wp2_with fail
  refine HC.out.mono ?_
  rintro e w1 ⟨rfl, hb⟩
  have u0 := HU.out.kept hb
  have HU0 := Lib.hid u0
  have HB1 := Lib.hid (HB.out.trans (hb.mono HB.out.size))
  have a0 := u0.cell 0 (by omega)
  have a1 := u0.cell 1 (by omega)
  have a2 := u0.cell 2 (by omega)
  have a3 := u0.cell 3 (by omega)
  have f0 := u0.free 0 (by omega)
  have f1 := u0.free 1 (by omega)
  have f2 := u0.free 2 (by omega)
  have f3 := u0.free 3 (by omega)
  clear hb u0
  go_wp2
  refine bodyPost_ret (v := u4V f) (result_u4 Try.results12 _ _ _ f rfl (u4_four HU0.out _ _ _ _ rfl rfl rfl rfl)) rfl ⟨rfl, below_four (Nat.le_refl _) HB1.out _ _ _ _⟩
end Go.Proofs.Ytbejajnhgoejhaa.Ve
