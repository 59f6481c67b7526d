/-
  The law IlRight, walked: it returns true. Conditions: that the calls answer as is asked.
-/
import Derived.Test.YtpnjhodpbjhmcaaGreatDoorIlCode
import Derived.Deep.RegionHeld3
namespace Go.Proofs.YtpnjhodpbjhmcaaGreatDoor.Il
open Go.RowKit
open Go.Proofs.YtpnjhodpbjhmcaaGreatDoor.Ic

/-- An instruction in a block of the law's own. -/
structure Box1 (B : Base) (N : Nat) (w0 w : World) (b : Nat) (i : In) : Prop where
  cur : Cur B N w0 w
  c0 : w.cell? ⟨b, 0, none⟩ = some (.int .i64 i.op)
  c1 : w.cell? ⟨b, 1, none⟩ = some (.int .i64 i.kd)
  c2 : w.cell? ⟨b, 2, none⟩ = some (.int .i64 i.ar)
  c3 : w.cell? ⟨b, 3, none⟩ = some (.int .i64 i.pl)
  c4 : w.cell? ⟨b, 4, none⟩ = some (.int .i64 i.n)
theorem Box1.next {B : Base} {N b : Nat} {w0 w w' : World} {i : In} (h : Box1 B N w0 w b i) (hb : Below w.heap.size w w') : Box1 B N w0 w' b i :=
  ⟨h.cur.next hb, kept_cell hb h.c0, kept_cell hb h.c1, kept_cell hb h.c2, kept_cell hb h.c3, kept_cell hb h.c4⟩
theorem Box1.new {B : Base} {N : Nat} {w0 w : World} (h : Cur B N w0 w) (i : In) (t : TypeId) : Box1 B N w0 (w.alloc (.cells #[.int .i64 i.op, .int .i64 i.kd, .int .i64 i.ar, .int .i64 i.pl, .int .i64 i.n] t)) w.heap.size i := by
  obtain ⟨hc, -⟩ := one_box w #[.int .i64 i.op, .int .i64 i.kd, .int .i64 i.ar, .int .i64 i.pl, .int .i64 i.n] t
  exact ⟨h.alloc _, hc 0 _ rfl, hc 1 _ rfl, hc 2 _ rfl, hc 3 _ rfl, hc 4 _ rfl⟩
def Hold (B : Base) (N : Nat) (w0 w : World) : Prop := Cur B N w0 w
@[simp] theorem Hold_drew (B : Base) (N : Nat) (w0 w : World) : Hold B N w0 w.drew = Hold B N w0 w := propext ⟨fun h => h.next ⟨rfl, rfl, rfl, Nat.le_refl _, fun _ _ => rfl⟩, fun h => h.next (Below.refl _ _).drew⟩

end Go.Proofs.YtpnjhodpbjhmcaaGreatDoor.Il
