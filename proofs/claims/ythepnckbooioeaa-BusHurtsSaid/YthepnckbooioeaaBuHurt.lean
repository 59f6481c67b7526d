/-
  The reference's bus: Burst, walked. Conditions: none.
-/
import Derived.Test.YthepnckbooioeaaBuGet
import Derived.Test.YthepnckbooioeaaFlipMath
namespace Go.Proofs.Ythepnckbooioeaa.Bus
open Go.RowKit

def burB (s : ByteArray) (at_ : Int) (p : BitVec 16) : ByteArray := if 0 ≤ at_ ∧ at_ < 8 * s.size then burstB s at_.toNat p else s
theorem burB_size (s : ByteArray) (at_ : Int) (p : BitVec 16) : (burB s at_ p).size = s.size := by
  unfold burB; split
  · exact burst_size s _ p
  · rfl
theorem rburst_any (s : ByteArray) (at_ : Int) (p : BitVec 16) (w : World) (hs : s.size ≤ 255) :
    Calls Try.prog 42 #[.string s, .int .i64 at_, .int .u16 (p.toNat : Int)] w fun e w' => e = .returned (.string (burB s at_ p)) ∧ Below w.heap.size w w' := by
  unfold burB
  by_cases h0 : at_ < 0
  · rw [if_neg (by omega)]
    exact rburst_out s at_ _ w h0
  · obtain ⟨a, rfl⟩ : ∃ a : Nat, at_ = a := ⟨at_.toNat, by omega⟩
    by_cases h1 : a < 8 * s.size
    · rw [if_pos (by omega), Int.toNat_natCast, ← burst_ref]
      exact rburst_in s a p w (by omega) h1
    · rw [if_neg (by omega)]
      exact rburst_past s a _ w (by omega) (by omega)

def hurP (p : Pc) (at_ : Int) (pat : BitVec 16) : Pc := ⟨burB p.b at_ pat, p.src, p.to, !decide (burB p.b at_ pat = p.b)⟩
def hurX (x : Bs) (k at_ : Int) (pat : BitVec 16) : Bs := if thereB x k && !(pieceOf x k.toNat).hurt then putX x k.toNat (hurP (pieceOf x k.toNat) at_ pat) else x
def hurE (x : Bs) (k : Int) : Int := if thereB x k then if (pieceOf x k.toNat).hurt then 11 else 0 else 1

set_option maxRecDepth 100000 in
set_option maxHeartbeats 4000000 in
theorem rBurst_any (b : Nat) (ms : List Nat) (x : Bs) (k at_ : Int) (pat : BitVec 16) (w : World) (hx : RefAt w b ms x) :
    Calls Try.prog 27 #[.pointer (some ⟨b, 0, none⟩), .int .i64 k, .int .i64 at_, .int .u16 (pat.toNat : Int)] w (Done refFace b ms (.int .i64 (hurE x k)) (hurX x k at_ pat) w) := by
  have HT := Lib.hid (rThere_any b ms x k w hx)
  unfold hurE hurX
  by_cases ht : thereB x k = true
  · obtain ⟨m, rfl, hm⟩ := there_nat ht
    have hmi : (m : Int) < (x.l.length : Int) := by omega
    obtain ⟨g, c, c0, hgm, hgb, hf, q0, q1, q2, q3⟩ := hx.piece m hm
    have hsm := (refFace.ok hx).small _ (List.getElem_mem hm)
    have hpc : pieceOf x (m : Int).toNat = x.l[m] := getD_lt _ _ hm
    have HR := HT.out
    rw [ht] at HR
    replace HR := Lib.hid HR
    rw [hpc, ht]
    have HX := Lib.hid hx
    have HG := Lib.hid hgm
    have HGB := Lib.hid hgb
    have HP2 := Lib.hid (fun (W : World) (hb : Below w.heap.size w W) (o1 o2 : Nat) (h1 : o1 < 4) (h2 : o2 < 4) (p1 p2 : Pc) (u1 u2 : Value) => (Face.below (F := refFace) hx hb).put2 ((World.cell?_of_block (a := ⟨b, 0, none⟩) (hb.block b (World.block_lt_of_cell? w ⟨b, 0, none⟩ c0))).trans c0) hgb m hm o1 o2 h1 h2 p1 p2 u1 u2)
    have HC := Lib.hid (fun (W : World) (hb : Below w.heap.size w W) => show W.cell? ⟨b, 0, none⟩ = some (.slice (some ⟨g, 0, none⟩) x.l.length c) ∧ W.cell? ⟨g, m * 4, none⟩ = some (.string x.l[m].b) ∧ W.frozen? ⟨g, m * 4, none⟩ = false ∧ W.frozen? ⟨g, m * 4 + 3, none⟩ = false ∧ W.cell? ⟨g, m * 4 + 3, none⟩ = some (.bool x.l[m].hurt) from by
      have kb := hb.block b (World.block_lt_of_cell? w ⟨b, 0, none⟩ c0)
      have kg := hb.block g (World.block_lt_of_cell? w ⟨g, m * 4, none⟩ q0)
      exact ⟨(World.cell?_of_block (a := ⟨b, 0, none⟩) kb).trans c0, (World.cell?_of_block (a := ⟨g, m * 4, none⟩) kg).trans q0, (World.frozen?_of_block (a := ⟨g, m * 4, none⟩) kg).trans (hf _), (World.frozen?_of_block (a := ⟨g, m * 4 + 3, none⟩) kg).trans (hf _), (World.cell?_of_block (a := ⟨g, m * 4 + 3, none⟩) kg).trans q3⟩)
    have HBu := Lib.hid (fun (W : World) => rburst_any x.l[m].b at_ pat W hsm)
    clear hx HT hpc hf hgm hgb
    generalize hp0 : x.l[m] = p at *
    by_cases hh : p.hurt = true
    · simp only [hh, Bool.not_true, Bool.and_false, if_true, if_false, Bool.false_eq_true]
      rw [hh] at q3
      go_enter Try.func27, Try.ntmps27
      go_wp2_with fail
      refine HR.out.mono ?_
      rintro e w1 ⟨rfl, rfl⟩
      go_wp2
      go_ret
      exact Done.same (F := refFace) HX.out (Below.refl _ _)
    · replace hh : p.hurt = false := by simpa using hh
      simp only [hh, Bool.not_false, Bool.and_true, if_true, if_false, Bool.false_eq_true]
      rw [hh] at q3
      have HS := Lib.hid (burB_size p.b at_ pat)
      have HN := Lib.hid (show hurP p at_ pat = ⟨burB p.b at_ pat, p.src, p.to, !decide (burB p.b at_ pat = p.b)⟩ from rfl)
      generalize hurP p at_ pat = z at *
      generalize burB p.b at_ pat = y at *
      have hne : (y.toList != p.b.toList) = !decide (y = p.b) := by
        by_cases he : y = p.b
        · simp [he]
        · have := str_ne he
          simp only [he, decide_false, Bool.not_false]
          simpa [bne] using this
      generalize hd : (!decide (y = p.b)) = d at *
      go_enter Try.func27, Try.ntmps27
      go_wp2_with fail
      refine HR.out.mono ?_
      rintro e w1 ⟨rfl, rfl⟩
      go_wp2_with fail
      refine (HBu.out w).mono ?_
      rintro e w1 ⟨rfl, hb1⟩
      obtain ⟨e0, e1, e2, e3, e4⟩ := HC.out w1 hb1
      have HB1 := Lib.hid hb1
      clear hb1 c0 q0 q1 q2 q3
      go_wp2_with fail
      go_still_tail 15, (by kernel_rfl)
      change wpList _ _ _ _ _ w1.drew
      have hg1 : ¬ g = b := HGB.out
      have hg2 : ¬ b = g := fun e => HGB.out e.symm
      go_wp2
      go_ret
      have hA := HP2.out w1 HB1.out 3 0 (by decide) (by decide) ⟨p.b, p.src, p.to, !(y.toList == p.b.toList)⟩ z (.bool (!(y.toList == p.b.toList))) (.string y) (by simp [cells4]) (by rw [HN.out, ← hne]; rfl) hsm (by rw [HN.out]; show y.size ≤ 255; rw [HS.out]; exact hsm)
      exact ⟨rfl, ms, hA, (((OnlyL.of_below (ms := ms) HB1.out).trans (OnlyL.set (ms := ms) (w := w1) (b := g) HG.out _ _) (fun j hj => .inl hj)).trans (OnlyL.set (ms := ms) (b := g) HG.out _ _) (fun j hj => .inl hj)).drew, fun j hj => .inl hj⟩
  · replace ht : thereB x k = false := by simpa using ht
    simp only [ht, Bool.false_and, if_false, Bool.false_eq_true]
    have HR := HT.out
    rw [ht] at HR
    replace HR := Lib.hid HR
    have HX := Lib.hid hx
    clear hx HT
    go_enter Try.func27, Try.ntmps27
    go_wp2_with fail
    refine HR.out.mono ?_
    rintro e w1 ⟨rfl, rfl⟩
    go_wp2
    go_ret
    exact Done.same (F := refFace) HX.out (Below.refl _ _)

end Go.Proofs.Ythepnckbooioeaa.Bus
