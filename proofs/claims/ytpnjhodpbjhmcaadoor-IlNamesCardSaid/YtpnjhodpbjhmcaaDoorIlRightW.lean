/-
  The law IlRight, walked: it returns true. Conditions: that the calls answer as is asked.
-/
import Derived.Test.YtpnjhodpbjhmcaaDoorIlCode
import Derived.Deep.RegionHeld3
namespace Go.Proofs.YtpnjhodpbjhmcaaDoor.Il
open Go.RowKit
open Go.Proofs.YtpnjhodpbjhmcaaDoor.Ic

/-- An instruction in a block of the law's own. -/
structure Box1 (B : Base) (N : Nat) (w0 w : World) (b : Nat) (i : In) : Prop where
  cur : Cur B N w0 w
  c0 : w.cell? ⟨b, 0, none⟩ = some (.int .i64 i.op)
  c1 : w.cell? ⟨b, 1, none⟩ = some (.int .i64 i.kd)
  c2 : w.cell? ⟨b, 2, none⟩ = some (.int .i64 i.ar)
  c3 : w.cell? ⟨b, 3, none⟩ = some (.int .i64 i.pl)
  c4 : w.cell? ⟨b, 4, none⟩ = some (.int .i64 i.n)
theorem Box1.next {B : Base} {N b : Nat} {w0 w w' : World} {i : In} (h : Box1 B N w0 w b i) (hb : Below w.heap.size w w') : Box1 B N w0 w' b i :=
  ⟨h.cur.next hb, kept_cell hb h.c0, kept_cell hb h.c1, kept_cell hb h.c2, kept_cell hb h.c3, kept_cell hb h.c4⟩
theorem Box1.new {B : Base} {N : Nat} {w0 w : World} (h : Cur B N w0 w) (i : In) (t : TypeId) : Box1 B N w0 (w.alloc (.cells #[.int .i64 i.op, .int .i64 i.kd, .int .i64 i.ar, .int .i64 i.pl, .int .i64 i.n] t)) w.heap.size i := by
  obtain ⟨hc, -⟩ := one_box w #[.int .i64 i.op, .int .i64 i.kd, .int .i64 i.ar, .int .i64 i.pl, .int .i64 i.n] t
  exact ⟨h.alloc _, hc 0 _ rfl, hc 1 _ rfl, hc 2 _ rfl, hc 3 _ rfl, hc 4 _ rfl⟩
def Hold (B : Base) (N : Nat) (w0 w : World) : Prop := Cur B N w0 w
@[simp] theorem Hold_drew (B : Base) (N : Nat) (w0 w : World) : Hold B N w0 w.drew = Hold B N w0 w := propext ⟨fun h => h.next ⟨rfl, rfl, rfl, Nat.le_refl _, fun _ _ => rfl⟩, fun h => h.next (Below.refl _ _).drew⟩

set_option maxRecDepth 100000 in
set_option maxHeartbeats 8000000 in
theorem right_walk {B : Base} (C : Code B) (i : In) (s : ByteArray) (w : World) (hE : B.E w.heap.size w) (hi : FitI i) : Calls Tryd.prog 3 #[insV i, .string s] w (Tells (.bool true) w) := by
  obtain ⟨l, rfl⟩ : ∃ l, s = S l := ⟨s.data.toList, (S_list s).symm⟩
  have CC := Lib.hid C
  have hsz := S_size l
  have HB := Lib.hid (Box1.new (Cur.first hE) i 23)
  obtain ⟨N, hN⟩ : ∃ N, w.heap.size = N := ⟨_, rfl⟩
  unfold Tells
  rw [hN] at HB ⊢
  have HR : Hid (∀ W, Hold B N w W → Calls Tryd.prog 9 #[insV i] W (Tells (.bool (rightI i)) W)) := fun W hW => C.right N i W hW.e hW.size hi
  have HS : Hid (∀ W, Hold B N w W → Calls Tryd.prog 11 #[insV i] W (Tells (.string (S (spellL i))) W)) := fun W hW => C.spell N i W hW.e hW.size hi
  have HR2 := Lib.hid (fun W => rright_any i hi.2.2.2.1 W)
  have HS2 := Lib.hid (fun W => rspell_any i hi.2.2.2.1 W)
  have he : ((S (spellL i)).toList == (S (spellL i)).toList) = true := by simp
  have hm : opOf l ≤ 36 := by
    unfold opOf
    split
    · omega
    · cases hf : (List.range 37).find? fun k => decide (namesL.getD k [] = l) with
      | none => simp
      | some k => have := List.mem_of_find?_eq_some hf; simp at this ⊢; omega
  unfold insV at HR HS HR2 HS2 ⊢
  generalize rightI i = rt at *
  generalize S (spellL i) = sp at *
  clear C hE hi
  by_cases hl : l.length ≤ 60
  · have hl2 : ¬ (60 : Int) < l.length := by omega
    have HO : Hid (∀ W, Hold B N w W → Calls Tryd.prog 7 #[.string (S l)] W (Tells (.tuple #[.int .i64 (opOf l : Nat), .bool (decide (0 < opOf l))]) W)) := fun W hW => CC.out.op N l W hW.e hW.size hl
    have HO2 := Lib.hid (fun W => rOp_any l W)
    generalize hq : decide (0 < opOf l) = q at *
    replace hq := Lib.hid hq
    generalize opOf l = o at *
    go_enter Tryd.func3, Tryd.ntmps3
    go_wp2_with fail
    refine (awake_any CC.out _ HB.out.cur).mono ?_
    rintro e w1 ⟨rfl, hb1⟩
    have HB1 := Lib.hid (HB.out.next hb1)
    clear hb1 HB
    go_wp2_with fail
    refine (HO.out _ HB1.out.cur).mono ?_
    rintro e w2 ⟨rfl, hb2⟩
    have HB2 := Lib.hid (HB1.out.next hb2)
    clear hb2 HB1
    go_wp2_with fail
    refine (HO2.out _).mono ?_
    rintro e w3 ⟨rfl, hb3⟩
    have HB3 := HB2.out.next hb3
    obtain ⟨hcur, x0, x1, x2, x3, x4⟩ := HB3
    have hH : Hold B N w w3 := hcur
    clear hb3 HB2 hcur
    go_wp2_with fail
    go_region_held3 (fun W' => W'.cell? ⟨N, 0, none⟩ = some (.int .i64 i.op) ∧ W'.cell? ⟨N, 1, none⟩ = some (.int .i64 i.kd) ∧ W'.cell? ⟨N, 2, none⟩ = some (.int .i64 i.ar) ∧ W'.cell? ⟨N, 3, none⟩ = some (.int .i64 i.pl) ∧ W'.cell? ⟨N, 4, none⟩ = some (.int .i64 i.n) ∧ Hold B N w W') (go_keep)
      (first
        | (go_at_call 9; have hS := ‹_ ∧ _ ∧ _ ∧ _ ∧ _ ∧ Hold _ _ _ _›; (with_reducible refine (HR.out _ hS.2.2.2.2.2).mono ?_); rintro e w4 ⟨rfl, hb4⟩; have y0 := kept_cell hb4 hS.1; have y1 := kept_cell hb4 hS.2.1; have y2 := kept_cell hb4 hS.2.2.1; have y3 := kept_cell hb4 hS.2.2.2.1; have y4 := kept_cell hb4 hS.2.2.2.2.1; have y5 : Hold B N w w4 := Cur.next hS.2.2.2.2.2 hb4)
        | (go_at_call 10; have hS := ‹_ ∧ _ ∧ _ ∧ _ ∧ _ ∧ Hold _ _ _ _›; (with_reducible refine (HR2.out _).mono ?_); rintro e w5 ⟨rfl, hb4⟩; have y0 := kept_cell hb4 hS.1; have y1 := kept_cell hb4 hS.2.1; have y2 := kept_cell hb4 hS.2.2.1; have y3 := kept_cell hb4 hS.2.2.2.1; have y4 := kept_cell hb4 hS.2.2.2.2.1; have y5 : Hold B N w w5 := Cur.next hS.2.2.2.2.2 hb4)
        | (go_at_call 11; have hS := ‹_ ∧ _ ∧ _ ∧ _ ∧ _ ∧ Hold _ _ _ _›; (with_reducible refine (HS.out _ hS.2.2.2.2.2).mono ?_); rintro e w6 ⟨rfl, hb4⟩; have y0 := kept_cell hb4 hS.1; have y1 := kept_cell hb4 hS.2.1; have y2 := kept_cell hb4 hS.2.2.1; have y3 := kept_cell hb4 hS.2.2.2.1; have y4 := kept_cell hb4 hS.2.2.2.2.1; have y5 : Hold B N w w6 := Cur.next hS.2.2.2.2.2 hb4)
        | (go_at_call 12; have hS := ‹_ ∧ _ ∧ _ ∧ _ ∧ _ ∧ Hold _ _ _ _›; (with_reducible refine (HS2.out _).mono ?_); rintro e w7 ⟨rfl, hb4⟩; have y0 := kept_cell hb4 hS.1; have y1 := kept_cell hb4 hS.2.1; have y2 := kept_cell hb4 hS.2.2.1; have y3 := kept_cell hb4 hS.2.2.2.1; have y4 := kept_cell hb4 hS.2.2.2.2.1; have y5 : Hold B N w w7 := Cur.next hS.2.2.2.2.2 hb4))
    all_goals
      have HY := Lib.hid y5
      clear x0 x1 x2 x3 x4 y0 y1 y2 y3 y4 y5 hS
      go_wp2
      go_ret
      exact ⟨by simp [hq.out], HY.out.below⟩
  · have hl2 : (60 : Int) < l.length := by omega
    go_enter Tryd.func3, Tryd.ntmps3
    go_wp2_with fail
    refine (awake_any CC.out _ HB.out.cur).mono ?_
    rintro e w1 ⟨rfl, hb1⟩
    have HB1 := Lib.hid (HB.out.next hb1)
    clear hb1 HB
    go_wp2
    go_ret
    exact ⟨by simp, HB1.out.cur.below⟩

end Go.Proofs.YtpnjhodpbjhmcaaDoor.Il
