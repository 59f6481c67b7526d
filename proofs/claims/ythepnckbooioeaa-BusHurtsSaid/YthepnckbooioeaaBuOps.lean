/-
  The reference's bus: add whole, There, Drop, Twice, walked. Conditions: none.
-/
import Derived.Test.YthepnckbooioeaaBuOut
namespace Go.Proofs.Ythepnckbooioeaa.Bus
open Go.RowKit

/-- Nothing has turned. -/
theorem Done.same {F : Face} {w w' : World} {p : Nat} {ms : List Nat} {x : Bs} {v : Value} (h : F.At w p ms x) (hb : Below w.heap.size w w') : Done F p ms v x w (.returned v) w' :=
  ⟨rfl, ms, Face.below h hb, OnlyL.of_below hb, fun _ hj => .inl hj⟩
/-- A call that has turned it, behind one that made memory alone. -/
theorem Done.after {F : Face} {w w1 w2 : World} {p : Nat} {ms : List Nat} {x : Bs} {v : Value} {e : Ending} (hb : Below w.heap.size w w1) (h : Done F p ms v x w1 e w2) : Done F p ms v x w e w2 := by
  obtain ⟨rfl, ns, h1, h2, h3⟩ := h
  refine ⟨rfl, ns, h1, ((OnlyL.of_below hb).trans h2 (fun j hj => .inl hj)), fun j hj => (h3 j hj).imp id (fun hle => Nat.le_trans hb.size hle)⟩

theorem radd_any (b : Nat) (ms : List Nat) (x : Bs) (p : Pc) (w : World) (hx : RefAt w b ms x) (hp : p.b.size ≤ 255) :
    Calls Try.prog 37 #[.pointer (some ⟨b, 0, none⟩), .agg #[.string p.b, .int .i64 p.src, .int .u32 (p.to.toNat : Int), .bool p.hurt]] w (Done refFace b ms (.int .i64 (addE x)) (addX x p) w) := by
  unfold addE addX
  by_cases hl : x.l.length = 64
  · rw [if_pos hl, if_pos hl]; exact radd_full b ms x p w hx hl
  · rw [if_neg hl, if_neg hl]; exact radd_more b ms x p w hx hp hl

theorem RefAt.head {w : World} {b : Nat} {ms : List Nat} {x : Bs} (h : RefAt w b ms x) : ∃ A c, w.cell? ⟨b, 0, none⟩ = some (.slice A x.l.length c) := by
  obtain ⟨v, rfl, c0, c1, f0, f1, ho, hne, hok⟩ := h
  rcases ho.2 with ⟨rfl, h0⟩ | ⟨g, cap, cur, rfl, _⟩
  · exact ⟨none, 0, by rw [c0, h0]⟩
  · exact ⟨_, _, c0⟩
/-- The kth piece lies there. -/
theorem RefAt.piece {w : World} {b : Nat} {ms : List Nat} {x : Bs} (h : RefAt w b ms x) (k : Nat) (hk : k < x.l.length) : ∃ g c, w.cell? ⟨b, 0, none⟩ = some (.slice (some ⟨g, 0, none⟩) x.l.length c) ∧ g ∈ ms ∧ g ≠ b ∧
    (∀ j, w.frozen? ⟨g, j, none⟩ = false) ∧ w.cell? ⟨g, k * 4, none⟩ = some (.string x.l[k].b) ∧ w.cell? ⟨g, k * 4 + 1, none⟩ = some (.int .i64 x.l[k].src) ∧ w.cell? ⟨g, k * 4 + 2, none⟩ = some (.int .u32 (x.l[k].to.toNat : Int)) ∧ w.cell? ⟨g, k * 4 + 3, none⟩ = some (.bool x.l[k].hurt) := by
  obtain ⟨v, rfl, c0, c1, f0, f1, ho, hne, hok⟩ := h
  obtain ⟨g, c, rfl⟩ : ∃ g cp, v = .slice (some ⟨g, 0, none⟩) x.l.length cp := by
    rcases ho.2 with ⟨rfl, h0⟩ | ⟨g, cap, cur, rfl, _⟩
    · omega
    · exact ⟨g, cap, rfl⟩
  exact ⟨g, c, c0, by simp [Value.ownBlock], fun e => hne (by simp [Value.ownBlock, e]), World.ownsRow.frozenAt ho, cells_of ho rfl hk⟩

theorem there_pos {x : Bs} {k : Int} (h : thereB x k = true) : 0 ≤ k ∧ k < x.l.length := by simpa [thereB] using h
theorem there_nat {x : Bs} {k : Int} (h : thereB x k = true) : ∃ n : Nat, k = n ∧ n < x.l.length := ⟨k.toNat, by have := there_pos h; omega, by have := there_pos h; omega⟩

set_option maxRecDepth 100000 in
set_option maxHeartbeats 4000000 in
theorem rThere_any (b : Nat) (ms : List Nat) (x : Bs) (k : Int) (w : World) (hx : RefAt w b ms x) :
    Calls Try.prog 39 #[.pointer (some ⟨b, 0, none⟩), .int .i64 k] w fun e w' => e = .returned (.bool (thereB x k)) ∧ w = w' := by
  obtain ⟨A, c, c0⟩ := hx.head
  clear hx
  go_enter Try.func39, Try.ntmps39
  by_cases h0 : 0 ≤ k
  · have hv : thereB x k = decide (k < x.l.length) := by simp [thereB, h0]
    rw [hv]
    go_wp2
    go_ret
    exact ⟨rfl, rfl⟩
  · have hv : thereB x k = false := by simp [thereB, h0]
    rw [hv]
    go_wp2
    go_ret
    exact ⟨rfl, rfl⟩

def dropX (x : Bs) (k : Int) : Bs := if thereB x k then lessX x k.toNat else x
def dropE (x : Bs) (k : Int) : Int := if thereB x k then 0 else 1
set_option maxRecDepth 100000 in
set_option maxHeartbeats 4000000 in
theorem rDrop_any (b : Nat) (ms : List Nat) (x : Bs) (k : Int) (w : World) (hx : RefAt w b ms x) :
    Calls Try.prog 25 #[.pointer (some ⟨b, 0, none⟩), .int .i64 k] w (Done refFace b ms (.int .i64 (dropE x k)) (dropX x k) w) := by
  have HT := Lib.hid (rThere_any b ms x k w hx)
  unfold dropE dropX
  by_cases ht : thereB x k = true
  · obtain ⟨n, rfl, hn⟩ := there_nat ht
    rw [if_pos ht, if_pos ht]
    have HO := Lib.hid (rwithout_any b ms x n w hx hn)
    have HR := HT.out
    rw [ht] at HR
    replace HR := Lib.hid HR
    clear hx HT
    go_enter Try.func25, Try.ntmps25
    go_wp2_with fail
    refine HR.out.mono ?_
    rintro e w1 ⟨rfl, rfl⟩
    go_wp2_with fail
    refine HO.out.mono ?_
    rintro e w2 ⟨rfl, ns, h1, h2, h3⟩
    go_wp2
    go_ret
    exact ⟨rfl, ns, h1, h2, h3⟩
  · replace ht : thereB x k = false := by simpa using ht
    rw [if_neg (by simp [ht]), if_neg (by simp [ht])]
    have HR := HT.out
    rw [ht] at HR
    replace HR := Lib.hid HR
    have HX := Lib.hid hx
    clear hx HT
    go_enter Try.func25, Try.ntmps25
    go_wp2_with fail
    refine HR.out.mono ?_
    rintro e w1 ⟨rfl, rfl⟩
    go_wp2
    go_ret
    exact Done.same (F := refFace) HX.out (Below.refl _ _)

def twiceX (x : Bs) (k : Int) : Bs := if thereB x k then addX x (pieceOf x k.toNat) else x
def twiceE (x : Bs) (k : Int) : Int := if thereB x k then addE x else 1
set_option maxRecDepth 100000 in
set_option maxHeartbeats 4000000 in
theorem rTwice_any (b : Nat) (ms : List Nat) (x : Bs) (k : Int) (w : World) (hx : RefAt w b ms x) :
    Calls Try.prog 26 #[.pointer (some ⟨b, 0, none⟩), .int .i64 k] w (Done refFace b ms (.int .i64 (twiceE x k)) (twiceX x k) w) := by
  have HT := Lib.hid (rThere_any b ms x k w hx)
  unfold twiceE twiceX
  by_cases ht : thereB x k = true
  · obtain ⟨n, rfl, hn⟩ := there_nat ht
    rw [if_pos ht, if_pos ht]
    have hni : (n : Int) < (x.l.length : Int) := by omega
    obtain ⟨g, c, c0, -, -, -, q0, q1, q2, q3⟩ := hx.piece n hn
    have HO := Lib.hid (radd_any b ms x x.l[n] w hx ((refFace.ok hx).small _ (List.getElem_mem hn)))
    have HP : pieceOf x (n : Int).toNat = x.l[n] := getD_lt _ _ hn
    rw [HP]
    have HR := HT.out
    rw [ht] at HR
    replace HR := Lib.hid HR
    clear hx HT HP
    go_enter Try.func26, Try.ntmps26
    go_wp2_with fail
    refine HR.out.mono ?_
    rintro e w1 ⟨rfl, rfl⟩
    go_wp2_with fail
    refine HO.out.mono ?_
    rintro e w2 ⟨rfl, ns, h1, h2, h3⟩
    go_wp2
    go_ret
    exact ⟨rfl, ns, h1, h2, h3⟩
  · replace ht : thereB x k = false := by simpa using ht
    rw [if_neg (by simp [ht]), if_neg (by simp [ht])]
    have HR := HT.out
    rw [ht] at HR
    replace HR := Lib.hid HR
    have HX := Lib.hid hx
    clear hx HT
    go_enter Try.func26, Try.ntmps26
    go_wp2_with fail
    refine HR.out.mono ?_
    rintro e w1 ⟨rfl, rfl⟩
    go_wp2
    go_ret
    exact Done.same (F := refFace) HX.out (Below.refl _ _)

end Go.Proofs.Ythepnckbooioeaa.Bus
