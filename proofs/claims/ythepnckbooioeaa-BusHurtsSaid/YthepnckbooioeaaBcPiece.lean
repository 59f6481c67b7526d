/-
  The landed bus: Piece, unhurt, walked. Conditions: none.
-/
import Derived.Test.YthepnckbooioeaaBcKth
import Derived.Test.YthepnckbooioeaaBuCode
namespace Go.Proofs.Ythepnckbooioeaa.Bus
open Go.RowKit

/-- The kth piece's address, in any world in which the bus lies still. -/
theorem cKth_near {b : Nat} {ms : List Nat} {x : Bs} {k g c : Nat} {w W : World} (hx : RefAt w b ms x) (hk : k < x.l.length) (c0 : w.cell? ⟨b, 0, none⟩ = some (.slice (some ⟨g, 0, none⟩) x.l.length c)) (hb : Below w.heap.size w W) :
    Calls Try.prog 29 #[.pointer (some ⟨b, 0, none⟩), .int .i64 k] W fun e w' => e = .returned (.pointer (some ⟨g, k * 4, none⟩)) ∧ W = w' :=
  cKth_some b ms x k g c W (Face.below (F := refFace) hx hb) hk ((World.cell?_of_block (a := ⟨b, 0, none⟩) (hb.block b (World.block_lt_of_cell? w ⟨b, 0, none⟩ c0))).trans c0)

set_option maxRecDepth 100000 in
set_option maxHeartbeats 4000000 in
theorem cPiece_some (b : Nat) (ms : List Nat) (x : Bs) (k : Nat) (w : World) (hx : RefAt w b ms x) (hk : k < x.l.length) :
    Calls Try.prog 14 #[.pointer (some ⟨b, 0, none⟩), .int .i64 k] w (Tells (.tuple #[x.l[k].val, .bool true]) w) := by
  obtain ⟨g, c, c0, hgm, hgb, hf, q0, q1, q2, q3⟩ := hx.piece k hk
  have hgl : g < w.heap.size := World.block_lt_of_cell? w ⟨g, k * 4, none⟩ q0
  have HK := Lib.hid (fun (W : World) (hb : Below w.heap.size w W) => cKth_near (W := W) hx hk c0 hb)
  clear hx hf hgm hgb c0
  unfold Pc.val
  generalize x.l[k] = p at *
  go_enter Try.func14, Try.ntmps14
  go_wp2_with fail
  refine (HK.out _ ((Below.refl _ _).alloc (Nat.le_refl _) _)).mono ?_
  rintro e w1 ⟨rfl, rfl⟩
  go_wp2
  refine bodyPost_ret (v := .tuple #[.agg #[.string p.b, .int .i64 p.src, .int .u32 (p.to.toNat : Int), .bool p.hurt], .bool true]) (by simp [results, Try.results14, go_sem]) rfl ?_
  exact ⟨rfl, (Below.refl _ _).alloc (Nat.le_refl _) _⟩

set_option maxRecDepth 100000 in
set_option maxHeartbeats 4000000 in
theorem cPiece_none (b : Nat) (ms : List Nat) (x : Bs) (k : Int) (w : World) (hx : RefAt w b ms x) (hk : thereB x k = false) :
    Calls Try.prog 14 #[.pointer (some ⟨b, 0, none⟩), .int .i64 k] w (Tells (.tuple #[Pc.zero.val, .bool false]) w) := by
  have HK := Lib.hid (fun (W : World) (hb : Below w.heap.size w W) => cKth_none b ms x k W (Face.below (F := refFace) hx hb) hk)
  clear hx hk
  go_enter Try.func14, Try.ntmps14
  go_wp2_with fail
  refine (HK.out _ ((Below.refl _ _).alloc (Nat.le_refl _) _)).mono ?_
  rintro e w1 ⟨rfl, rfl⟩
  go_wp2
  refine bodyPost_ret (v := .tuple #[Pc.zero.val, .bool false]) (by simp [results, Try.results14, go_sem, Pc.zero, Pc.val]) rfl ?_
  exact ⟨rfl, (Below.refl _ _).alloc (Nat.le_refl _) _⟩

theorem cPiece_any (b : Nat) (ms : List Nat) (x : Bs) (k : Int) (w : World) (hx : RefAt w b ms x) :
    Calls Try.prog 14 #[.pointer (some ⟨b, 0, none⟩), .int .i64 k] w (Tells (.tuple #[(shownP x k).val, .bool (thereB x k)]) w) := by
  unfold shownP
  by_cases ht : thereB x k = true
  · obtain ⟨n, rfl, hn⟩ := there_nat ht
    rw [if_pos ht, ht, Int.toNat_natCast, show pieceOf x n = x.l[n] from getD_lt _ _ hn]
    exact cPiece_some b ms x n w hx hn
  · replace ht : thereB x k = false := by simpa using ht
    rw [if_neg (by simp [ht]), ht]
    exact cPiece_none b ms x k w hx ht

set_option maxRecDepth 100000 in
set_option maxHeartbeats 4000000 in
/-- The kth piece's address, if it wasn't hurt. -/
theorem cUnhurt_some (b : Nat) (ms : List Nat) (x : Bs) (k g c : Nat) (w : World) (hx : RefAt w b ms x) (hk : k < x.l.length) (c0 : w.cell? ⟨b, 0, none⟩ = some (.slice (some ⟨g, 0, none⟩) x.l.length c))
    (q3 : w.cell? ⟨g, k * 4 + 3, none⟩ = some (.bool x.l[k].hurt)) :
    Calls Try.prog 35 #[.pointer (some ⟨b, 0, none⟩), .int .i64 k] w fun e w' => e = .returned (if x.l[k].hurt then .tuple #[.pointer none, .int .i64 11] else .tuple #[.pointer (some ⟨g, k * 4, none⟩), .int .i64 0]) ∧ w = w' := by
  have HK := Lib.hid (cKth_some b ms x k g c w hx hk c0)
  clear hx c0
  generalize x.l[k] = p at *
  by_cases hh : p.hurt = true
  · rw [hh] at q3
    rw [if_pos hh]
    clear hh
    go_enter Try.func35, Try.ntmps35
    go_wp2_with fail
    refine HK.out.mono ?_
    rintro e w1 ⟨rfl, rfl⟩
    go_wp2
    refine bodyPost_ret (v := .tuple #[.pointer none, .int .i64 11]) (by simp [results, Try.results35, go_sem]) rfl ?_
    exact ⟨rfl, rfl⟩
  · rw [if_neg hh]
    replace hh : p.hurt = false := by simpa using hh
    rw [hh] at q3
    clear hh
    go_enter Try.func35, Try.ntmps35
    go_wp2_with fail
    refine HK.out.mono ?_
    rintro e w1 ⟨rfl, rfl⟩
    go_wp2
    refine bodyPost_ret (v := .tuple #[.pointer (some ⟨g, k * 4, none⟩), .int .i64 0]) (by simp [results, Try.results35, go_sem]) rfl ?_
    exact ⟨rfl, rfl⟩
set_option maxRecDepth 100000 in
set_option maxHeartbeats 4000000 in
theorem cUnhurt_none (b : Nat) (ms : List Nat) (x : Bs) (k : Int) (w : World) (hx : RefAt w b ms x) (hk : thereB x k = false) :
    Calls Try.prog 35 #[.pointer (some ⟨b, 0, none⟩), .int .i64 k] w fun e w' => e = .returned (.tuple #[.pointer none, .int .i64 1]) ∧ w = w' := by
  have HK := Lib.hid (cKth_none b ms x k w hx hk)
  clear hx hk
  go_enter Try.func35, Try.ntmps35
  go_wp2_with fail
  refine HK.out.mono ?_
  rintro e w1 ⟨rfl, rfl⟩
  go_wp2
  refine bodyPost_ret (v := .tuple #[.pointer none, .int .i64 1]) (by simp [results, Try.results35, go_sem]) rfl ?_
  exact ⟨rfl, rfl⟩

end Go.Proofs.Ythepnckbooioeaa.Bus
