/-
  The reference's numbers of epochs and marks, walked. Conditions: numbers such as their kinds hold.
-/
import Derived.Test.YtedlfognpbbhhaaGreatDoorEpCmp
namespace Go.Proofs.YtedlfognpbbhhaaGreatDoor.Epo
open Go.RowKit

set_option maxRecDepth 100000 in
set_option maxHeartbeats 1000000 in
theorem num_any (x : Ep) (hx : x.fit) (w : World) : Calls Tryz.prog 19 #[.agg #[.int .u16 x.c, .int .u8 x.a, .int .u16 x.i]] w fun e w' => e = .returned (.int .u64 (numE x)) ∧ Below w.heap.size w w' := by
  obtain ⟨h1, h2, h3⟩ := hx
  have w1 : IntKind.u64.wrap ((x.c : Int) * 256) = (x.c : Int) * 256 := by rw [IntKind.wrap_u64]; omega
  have w2 : IntKind.u64.wrap ((x.c : Int) * 256 + x.a) = (x.c : Int) * 256 + x.a := by rw [IntKind.wrap_u64]; omega
  have w3 : IntKind.u64.wrap (((x.c : Int) * 256 + x.a) * 65536) = ((x.c : Int) * 256 + x.a) * 65536 := by rw [IntKind.wrap_u64]; omega
  have w4 : IntKind.u64.wrap (((x.c : Int) * 256 + x.a) * 65536 + x.i) = ((x.c : Int) * 256 + x.a) * 65536 + x.i := by rw [IntKind.wrap_u64]; omega
  have w5 : IntKind.u64.wrap (x.c : Int) = x.c := by rw [IntKind.wrap_u64]; omega
  have w6 : IntKind.u64.wrap (x.a : Int) = x.a := by rw [IntKind.wrap_u64]; omega
  have w7 : IntKind.u64.wrap (x.i : Int) = x.i := by rw [IntKind.wrap_u64]; omega
  have e : (((x.c : Int) * 256 + x.a) * 65536 + x.i) = (numE x : Int) := by unfold numE; simp
  have HE := Lib.hid e
  clear e
  go_enter Tryz.func19, Tryz.ntmps19
  go_wp2
  go_ret
  exact ⟨ret_int HE.out, (Below.refl _ _).alloc (Nat.le_refl _) _⟩

/-- One argument's own block. -/
def Box (w W : World) (b : Nat) (c : List Value) : Prop :=
  w.heap.size ≤ b ∧ b < W.heap.size ∧ (∀ k v, c[k]? = some v → W.cell? ⟨b, k, none⟩ = some v) ∧ Below w.heap.size w W
theorem box_mk (w : World) (c : List Value) (t : TypeId) : Box w (w.alloc (.cells c.toArray t)) w.heap.size c :=
  ⟨Nat.le_refl _, by simp, fun k v h => box_cell _ _ _ _ _ (by simpa using h), (Below.refl _ _).alloc (Nat.le_refl _) _⟩

/-- What a call that makes memory leaves of a cell that lay there. -/
theorem kept_cell {W W' : World} (hb : Below W.heap.size W W') {b k : Nat} {v : Value} (hc : W.cell? ⟨b, k, none⟩ = some v) : W'.cell? ⟨b, k, none⟩ = some v :=
  (hb.cell (p := ⟨b, k, none⟩) (World.block_lt_of_cell? W ⟨b, k, none⟩ hc)).trans hc

/-- A mark as one number. -/
def numM (x : Ep) (h : Nat) : Nat := numE x * 65536 + h

set_option maxRecDepth 100000 in
set_option maxHeartbeats 1000000 in
theorem mark_any (x : Ep) (h : Nat) (hx : x.fit) (hh : h ≤ 65535) (w : World) : Calls Tryz.prog 18 #[.agg #[.int .u16 x.c, .int .u8 x.a, .int .u16 x.i, .int .u16 h]] w fun e w' => e = .returned (.int .u64 (numM x h)) ∧ Below w.heap.size w w' := by
  have hle := numE_le x hx
  have w3 : IntKind.u64.wrap ((numE x : Int) * 65536) = (numE x : Int) * 65536 := by rw [IntKind.wrap_u64]; omega
  have w4 : IntKind.u64.wrap ((numE x : Int) * 65536 + h) = (numE x : Int) * 65536 + h := by rw [IntKind.wrap_u64]; omega
  have w7 : IntKind.u64.wrap (h : Int) = h := by rw [IntKind.wrap_u64]; omega
  have e : (numE x : Int) * 65536 + h = (numM x h : Int) := by unfold numM; simp
  have HE := Lib.hid e
  have HF := Lib.hid hx
  clear e hle hx
  have HB := Lib.hid (box_mk w [.int .u16 x.c, .int .u8 x.a, .int .u16 x.i, .int .u16 h] 43)
  go_enter Tryz.func18, Tryz.ntmps18
  go_wp2_with fail
  obtain ⟨W, HW⟩ : ∃ W, Hid (W = (w.alloc (.cells [.int .u16 x.c, .int .u8 x.a, .int .u16 x.i, .int .u16 h].toArray 43))) := ⟨_, Lib.hid rfl⟩
  rw [← HW.out] at HB
  rw [← HW.out]
  have hlt := HB.out.2.1
  have c5 := HB.out.2.2.1
  have hbel := HB.out.2.2.2
  have x0 := c5 0 _ rfl
  have x1 := c5 1 _ rfl
  have x2 := c5 2 _ rfl
  have x3 := c5 3 _ rfl
  clear c5 HB HW
  generalize hN : w.heap.size = N at *
  go_region_held3 (fun W' => W'.cell? ⟨N, 0, none⟩ = some (.int .u16 x.c) ∧ W'.cell? ⟨N, 1, none⟩ = some (.int .u8 x.a) ∧ W'.cell? ⟨N, 2, none⟩ = some (.int .u16 x.i) ∧ W'.cell? ⟨N, 3, none⟩ = some (.int .u16 h)) (go_keep)
    (first | (go_at_call 19; refine (num_any x HF.out _).mono ?_; rintro e w1 ⟨rfl, hb1⟩; have y0 := kept_cell hb1 x0; have y1 := kept_cell hb1 x1; have y2 := kept_cell hb1 x2; have y3 := kept_cell hb1 x3))
  go_wp2
  go_ret
  exact ⟨ret_int HE.out, by rw [hN]; exact hbel.drew.trans (hb1.mono (Nat.le_of_lt hlt))⟩

end Go.Proofs.YtedlfognpbbhhaaGreatDoor.Epo
