/-
  Compare, bit, count: walked. Conditions: as each states.
-/
import Derived.Test.YtbfjimbffpkkhaaPaOps
namespace Go.Proofs.Ytbfjimbffpkkhaa.Pa
open Go.RowKit

abbrev verV (i s : Nat) : Value := .agg #[.int .u16 i, .int .u32 s]
structure Vers (w : World) (b i s j t : Nat) (W : World) : Prop where
  cells : W.cell? ⟨b, 0, none⟩ = some (.int .u16 i) ∧ W.cell? ⟨b, 1, none⟩ = some (.int .u32 s) ∧ W.cell? ⟨b + 1, 0, none⟩ = some (.int .u16 j) ∧ W.cell? ⟨b + 1, 1, none⟩ = some (.int .u32 t)
  bel : Below w.heap.size w W
theorem Vers.drew {w W : World} {b i s j t : Nat} (h : Vers w b i s j t W) : Vers w b i s j t W.drew := ⟨h.cells, h.bel.drew⟩
theorem Vers.alloc {w W : World} {b i s j t : Nat} (h : Vers w b i s j t W) (o : Obj) : Vers w b i s j t (W.alloc o) :=
  have hb : Below W.heap.size W (W.alloc o) := (Below.refl _ _).alloc (Nat.le_refl _) o
  ⟨⟨kept_own hb h.cells.1, kept_own hb h.cells.2.1, kept_own hb h.cells.2.2.1, kept_own hb h.cells.2.2.2⟩, h.bel.trans (hb.mono h.bel.size)⟩
/-- The world at hand, known by what holds of it alone. -/
theorem world_cut {G : World → Prop} {W0 : World} (T : World → Prop) (h0 : T W0) (h : ∀ W, T W → G W) : G W0 := h W0 h0
theorem two_cells (W : World) (a b : Value) (t : TypeId) : (W.alloc (.cells #[a, b] t)).cell? ⟨W.heap.size, 0, none⟩ = some a ∧ (W.alloc (.cells #[a, b] t)).cell? ⟨W.heap.size, 1, none⟩ = some b := by
  constructor <;> (rw [World.cell?_alloc_new]; rfl)

set_option maxRecDepth 100000 in
set_option maxHeartbeats 4000000 in
theorem cCompare (i s j t : Nat) (w : World) : Calls Try.prog 38 #[verV i s, verV j t] w (Tells (.int .i64 (cmpV i s j t)) w) := by
  unfold verV
  have hP : Vers w w.heap.size i s j t ((w.alloc (.cells #[.int .u16 i, .int .u32 s] 31)).alloc (.cells #[.int .u16 j, .int .u32 t] 31)) := by
    refine ⟨⟨?_, ?_, ?_, ?_⟩, ((Below.refl _ _).alloc (Nat.le_refl _) _).alloc (by simp) _⟩
    · exact kept_own (one_S _ _ _) (two_cells w _ _ _).1
    · exact kept_own (one_S _ _ _) (two_cells w _ _ _).2
    · simp
    · simp
  have HP := Lib.hid hP
  clear hP
  go_enter Try.func38, Try.ntmps38
  go_wp2
  refine world_cut (G := fun W => Code.wp _ _ _ _ W) (fun W => Vers w w.heap.size i s j t W) (by exact HP.out) ?_
  rintro W hP0
  have hP1 := hP0.drew
  have HQ := Lib.hid hP0
  clear hP0 HP
  generalize w.heap.size = b at *
  go_region_held3 (fun W' => W'.cell? ⟨b, 0, none⟩ = some (.int .u16 i) ∧ W'.cell? ⟨b, 1, none⟩ = some (.int .u32 s) ∧ W'.cell? ⟨b + 1, 0, none⟩ = some (.int .u16 j) ∧ W'.cell? ⟨b + 1, 1, none⟩ = some (.int .u32 t)) (first | exact hP1.cells | exact (hP1.alloc _).cells | exact (hP1.alloc _).drew.cells)
    ((first
      | (go_at_call 46; (with_reducible refine (cCmp16 _ _ _).mono ?_); rintro e w1 ⟨rfl, rfl⟩)
      | (go_at_call 47; (with_reducible refine (cCmp32 _ _ _).mono ?_); rintro e w1 ⟨rfl, rfl⟩)
      | (go_at_call 45; (refine (cOr (cmpI i j) (cmpI s t) (cmpV i s j t) _ _ rfl (by simp) (by simp)).mono ?_); rintro e w1 ⟨rfl, rfl⟩)))
  go_wp2
  go_ret
  exact ⟨rfl, (HQ.out.alloc _).drew.bel⟩

set_option maxRecDepth 100000 in
set_option maxHeartbeats 2000000 in
theorem cBit (f : Fr) (w : World) (hp : f.part ≤ 3) : Calls Try.prog 41 #[.agg (frA f)] w (Tells (.int .u8 ((2 ^ f.part : Nat) : Int)) w) := by
  have x16 := frA_16 f
  have hb := Lib.hid (one_S w (frA f) 33)
  generalize frA f = X at *
  generalize f.part = k at *
  rcases (by omega : k = 0 ∨ k = 1 ∨ k = 2 ∨ k = 3) with rfl | rfl | rfl | rfl
  all_goals
    clear hp
    simp only [show ((0 : Nat) : Int) = 0 from rfl, show ((1 : Nat) : Int) = 1 from rfl, show ((2 : Nat) : Int) = 2 from rfl, show ((3 : Nat) : Int) = 3 from rfl] at x16
    go_enter Try.func41, Try.ntmps41
    go_wp2
    go_ret
    exact ⟨rfl, hb.out⟩

set_option maxRecDepth 100000 in
set_option maxHeartbeats 2000000 in
theorem cCount (b n : Nat) (g : Gl) (w : World) (hg : GAt w b n g) (hl : g.came.length ≤ 8) : Calls Try.prog 42 #[.pointer (some ⟨b, 0, none⟩)] w (fun e w' => e = .returned (.int .i64 (cntB g.came : Nat)) ∧ w = w') := by
  have c3 := hg.c3
  have hm : maskB g.came ≤ 255 := by
    have h1 := mask_lt g.came
    have h2 : 2 ^ g.came.length ≤ 2 ^ 8 := Nat.pow_le_pow_right (by omega) hl
    omega
  have HP := Lib.hid (cOnes (maskB g.came) hm w)
  rw [pop_mask _ hl] at HP
  clear hg hm hl
  generalize maskB g.came = m at *
  generalize cntB g.came = c at *
  go_enter Try.func42, Try.ntmps42
  go_wp2_with fail
  refine (HP.out).mono ?_
  rintro e w1 ⟨rfl, rfl⟩
  go_wp2
  go_ret
  exact ⟨rfl, rfl⟩
end Go.Proofs.Ytbfjimbffpkkhaa.Pa
