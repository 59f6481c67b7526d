/-
  The landed bus: Drop, Twice, Send, walked. Conditions: none.
-/
import Derived.Test.YthepnckbooioeaaBcDel
import Derived.Test.YthepnckbooioeaaBcPiece
namespace Go.Proofs.Ythepnckbooioeaa.Bus
open Go.RowKit

/-- One less: the row's new head is stored. -/
theorem drop_fin {w W : World} {b g c k : Nat} {ms : List Nat} {x : Bs} (hx : RefAt w b ms x) (hk : k < x.l.length) (c0 : w.cell? ⟨b, 0, none⟩ = some (.slice (some ⟨g, 0, none⟩) x.l.length c)) (h1 : OnlyL [g] w W)
    (ho : W.ownsRow 0 43 4 (.slice (some ⟨g, 0, none⟩) (x.l.length - 1) c) (x.l.length - 1) (flat (x.l.eraseIdx k))) (r : Value) : Done refFace b ms r (lessX x k) w (.returned r) (W.setCell ⟨b, 0, none⟩ (.slice (some ⟨g, 0, none⟩) (x.l.length - 1) c)) := by
  obtain ⟨v, rfl, d0, d1, f0, f1, hw, hne, hok⟩ := hx
  obtain rfl : v = .slice (some ⟨g, 0, none⟩) x.l.length c := by rw [d0] at c0; exact Option.some.inj c0
  have hbg : ¬ b = g := fun e => hne (by simp [Value.ownBlock, e])
  have hbw : b < w.heap.size := World.block_lt_of_cell? w ⟨b, 0, none⟩ d0
  have hb := h1.block b hbw (by simpa using hbg)
  have hl : x.l.length - 1 = (x.l.eraseIdx k).length := by rw [List.length_eraseIdx_of_lt hk]
  have hgn : (Value.slice (some ⟨g, 0, none⟩) (x.l.length - 1) c).ownBlock ≠ some b := by
    intro e
    exact hbg (by simpa [Value.ownBlock] using e.symm)
  rw [hl] at ho hgn ⊢
  have hR := RefAt.row (v := .slice (some ⟨g, 0, none⟩) (x.l.eraseIdx k).length c) ((World.cell?_of_block (a := ⟨b, 0, none⟩) hb).trans d0) ((World.cell?_of_block (a := ⟨b, 1, none⟩) hb).trans d1) ((World.frozen?_of_block (a := ⟨b, 0, none⟩) hb).trans f0) ((World.frozen?_of_block (a := ⟨b, 1, none⟩) hb).trans f1) ho hgn (less_ok hok k)
  refine ⟨rfl, _, hR, ?_, ?_⟩
  · have h2 : OnlyL (b :: (Value.slice (some ⟨g, 0, none⟩) x.l.length c).ownBlock.toList) w W :=
      ⟨h1.os, h1.tape, h1.output, h1.size, fun j hj hm => h1.block j hj (fun hin => hm (by simp at hin; subst hin; simp [Value.ownBlock]))⟩
    exact h2.trans (OnlyL.set (ms := [b]) (by simp) 0 _) (fun j hj => .inl (by simp at hj; subst hj; simp))
  · intro j hj
    exact .inl (by simpa [Value.ownBlock] using hj)

theorem at_slice {w : World} {b g c n : Nat} {ms : List Nat} {x : Bs} (hx : RefAt w b ms x) (c0 : w.cell? ⟨b, 0, none⟩ = some (.slice (some ⟨g, 0, none⟩) n c)) :
    n = x.l.length ∧ w.frozen? ⟨b, 0, none⟩ = false ∧ w.ownsRow 0 43 4 (.slice (some ⟨g, 0, none⟩) x.l.length c) x.l.length (flat x.l) := by
  obtain ⟨v, rfl, d0, d1, f0, f1, hw, hne, hok⟩ := hx
  obtain rfl : v = .slice (some ⟨g, 0, none⟩) n c := by rw [d0] at c0; exact Option.some.inj c0
  rcases hw.2 with ⟨h', _⟩ | ⟨g', cap', cur, h', _⟩
  · simp at h'
  · simp only [Value.slice.injEq, Option.some.injEq, Addr.mk.injEq, and_true] at h'
    obtain ⟨rfl, rfl, rfl⟩ := h'
    exact ⟨rfl, f0, hw⟩

set_option maxRecDepth 100000 in
set_option maxHeartbeats 4000000 in
theorem cDrop_some (b : Nat) (ms : List Nat) (x : Bs) (k : Nat) (w : World) (hx : RefAt w b ms x) (hk : k < x.l.length) :
    Calls Try.prog 17 #[.pointer (some ⟨b, 0, none⟩), .int .i64 k] w (Done refFace b ms (.int .i64 0) (lessX x k) w) := by
  obtain ⟨g, c, c0, hgm, hgb, hf, q0, q1, q2, q3⟩ := hx.piece k hk
  have h64 := (refFace.ok hx).len
  have HK := Lib.hid (cKth_some b ms x k g c w hx hk c0)
  obtain ⟨-, fz, ho⟩ := at_slice hx c0
  have HD := Lib.hid (cDelete_any g c k ((k : Int) + 1) x.l w ho hk rfl h64)
  have HC := Lib.hid (fun (W : World) (h1 : OnlyL [g] w W) => show (W.cell? ⟨b, 0, none⟩ = some (.slice (some ⟨g, 0, none⟩) x.l.length c) ∧ W.frozen? ⟨b, 0, none⟩ = false) from by
    have hb := h1.block b (World.block_lt_of_cell? w ⟨b, 0, none⟩ c0) (by simp; exact fun e => hgb e.symm)
    exact ⟨(World.cell?_of_block (a := ⟨b, 0, none⟩) hb).trans c0, (World.frozen?_of_block (a := ⟨b, 0, none⟩) hb).trans fz⟩)
  have HF := Lib.hid (fun (W : World) (h1 : OnlyL [g] w W) ho => drop_fin hx hk c0 h1 ho (.int .i64 0))
  have hb1 : (k : Int) + 1 ≤ 64 := by omega
  clear hx ho hf hgm q0 q1 q2 q3
  go_enter Try.func17, Try.ntmps17
  go_wp2_with fail
  refine HK.out.mono ?_
  rintro e w1 ⟨rfl, rfl⟩
  go_wp2_with fail
  refine HD.out.mono ?_
  rintro e w1 ⟨rfl, h1, h2⟩
  obtain ⟨y0, y1⟩ := HC.out w1 h1
  have HZ := Lib.hid (HF.out w1 h1 h2)
  clear h1 h2
  go_wp2
  go_ret
  exact HZ.out

set_option maxRecDepth 100000 in
set_option maxHeartbeats 4000000 in
theorem cDrop_none (b : Nat) (ms : List Nat) (x : Bs) (k : Int) (w : World) (hx : RefAt w b ms x) (hk : thereB x k = false) :
    Calls Try.prog 17 #[.pointer (some ⟨b, 0, none⟩), .int .i64 k] w (Done refFace b ms (.int .i64 1) x w) := by
  have HK := Lib.hid (cKth_none b ms x k w hx hk)
  have HX := Lib.hid hx
  clear hx hk
  go_enter Try.func17, Try.ntmps17
  go_wp2_with fail
  refine HK.out.mono ?_
  rintro e w1 ⟨rfl, rfl⟩
  go_wp2
  go_ret
  exact Done.same (F := refFace) HX.out (Below.refl _ _)

theorem cDrop_any (b : Nat) (ms : List Nat) (x : Bs) (k : Int) (w : World) (hx : RefAt w b ms x) :
    Calls Try.prog 17 #[.pointer (some ⟨b, 0, none⟩), .int .i64 k] w (Done refFace b ms (.int .i64 (dropE x k)) (dropX x k) w) := by
  unfold dropE dropX
  by_cases ht : thereB x k = true
  · obtain ⟨n, rfl, hn⟩ := there_nat ht
    rw [if_pos ht, if_pos ht, Int.toNat_natCast]
    exact cDrop_some b ms x n w hx hn
  · replace ht : thereB x k = false := by simpa using ht
    rw [if_neg (by simp [ht]), if_neg (by simp [ht])]
    exact cDrop_none b ms x k w hx ht

set_option maxRecDepth 100000 in
set_option maxHeartbeats 4000000 in
theorem cTwice_any (b : Nat) (ms : List Nat) (x : Bs) (k : Int) (w : World) (hx : RefAt w b ms x) :
    Calls Try.prog 19 #[.pointer (some ⟨b, 0, none⟩), .int .i64 k] w (Done refFace b ms (.int .i64 (twiceE x k)) (twiceX x k) w) := by
  unfold twiceE twiceX
  by_cases ht : thereB x k = true
  · obtain ⟨n, rfl, hn⟩ := there_nat ht
    rw [if_pos ht, if_pos ht]
    obtain ⟨g, c, c0, -, -, -, q0, q1, q2, q3⟩ := hx.piece n hn
    have HO := Lib.hid (cadd_any b ms x x.l[n] w hx ((refFace.ok hx).small _ (List.getElem_mem hn)))
    have HP : pieceOf x (n : Int).toNat = x.l[n] := getD_lt _ _ hn
    rw [HP]
    have HK := Lib.hid (cKth_some b ms x n g c w hx hn c0)
    clear hx HP ht
    go_enter Try.func19, Try.ntmps19
    go_wp2_with fail
    refine HK.out.mono ?_
    rintro e w1 ⟨rfl, rfl⟩
    go_wp2_with fail
    refine HO.out.mono ?_
    rintro e w2 ⟨rfl, ns, h1, h2, h3⟩
    go_wp2
    go_ret
    exact ⟨rfl, ns, h1, h2, h3⟩
  · replace ht : thereB x k = false := by simpa using ht
    rw [if_neg (by simp [ht]), if_neg (by simp [ht])]
    have HK := Lib.hid (cKth_none b ms x k w hx ht)
    have HX := Lib.hid hx
    clear hx ht
    go_enter Try.func19, Try.ntmps19
    go_wp2_with fail
    refine HK.out.mono ?_
    rintro e w1 ⟨rfl, rfl⟩
    go_wp2
    go_ret
    exact Done.same (F := refFace) HX.out (Below.refl _ _)

end Go.Proofs.Ythepnckbooioeaa.Bus
