/-
  The landed bus: Cut, walked; all of its calls. Conditions: none.
-/
import Derived.Test.YthepnckbooioeaaBcHurt
import Derived.BigRegion
namespace Go.Proofs.Ythepnckbooioeaa.Bus
open Go.RowKit

set_option maxRecDepth 100000 in
set_option maxHeartbeats 4000000 in
theorem cCut_any (b : Nat) (ms : List Nat) (x : Bs) (k n : Int) (w : World) (hx : RefAt w b ms x) :
    Calls Try.prog 20 #[.pointer (some ⟨b, 0, none⟩), .int .i64 k, .int .i64 n] w (Done refFace b ms (.int .i64 (cutE x k n)) (cutX x k n) w) := by
  unfold cutE cutX
  by_cases ht : thereB x k = true
  · obtain ⟨m, rfl, hm⟩ := there_nat ht
    obtain ⟨g, c, c0, hgm, hgb, hf, q0, q1, q2, q3⟩ := hx.piece m hm
    have hsm := (refFace.ok hx).small _ (List.getElem_mem hm)
    have hpc : pieceOf x (m : Int).toNat = x.l[m] := getD_lt _ _ hm
    have HU := cUnhurt_some b ms x m g c w hx hm c0 q3
    rw [hpc, ht]
    have HX := Lib.hid hx
    have HP2 := Lib.hid (fun (o1 o2 : Nat) (h1 : o1 < 4) (h2 : o2 < 4) (p1 p2 : Pc) (u1 u2 : Value) => hx.put2 c0 hgb m hm o1 o2 h1 h2 p1 p2 u1 u2)
    have fz0 := hf (m * 4)
    have fz3 := hf (m * 4 + 3)
    have HG := Lib.hid hgm
    clear hx hpc hf hgm hgb c0 ht
    generalize hp0 : x.l[m] = p at *
    by_cases hh : p.hurt = true
    · simp only [hh, Bool.not_true, Bool.false_and, Bool.and_false, if_true, if_false, Bool.false_eq_true]
      rw [if_pos hh] at HU
      replace HU := Lib.hid HU
      clear q0 q1 q2 q3
      go_enter Try.func20, Try.ntmps20
      go_wp2_with fail
      refine HU.out.mono ?_
      rintro e w1 ⟨rfl, rfl⟩
      go_wp2
      go_ret
      exact Done.same (F := refFace) HX.out (Below.refl _ _)
    · rw [if_neg hh] at HU
      replace HU := Lib.hid HU
      replace hh : p.hurt = false := by simpa using hh
      rw [hh] at q3
      by_cases hok : 1 ≤ n ∧ n < p.b.size
      · have hc : cutOk p n = true := by simpa [cutOk] using hok
        simp only [hh, hc, Bool.not_false, Bool.and_true, if_true, if_false, Bool.false_eq_true]
        obtain ⟨a, rfl⟩ : ∃ a : Nat, n = a := ⟨n.toNat, by omega⟩
        have t1 : ¬ (a : Int) < 1 := by omega
        have t2 : ¬ (p.b.size : Int) ≤ a := by omega
        have t3 : (0 : Int) ≤ (p.b.size : Int) - a := by omega
        have t5 : a ≤ p.b.size := by omega
        obtain ⟨r, hr⟩ : ∃ r : Nat, p.b.size - a = r := ⟨_, rfl⟩
        have t4 : r ≤ p.b.size := by omega
        have t6 : IntKind.i64.wrap ((p.b.size : Int) - a) = (r : Int) := by rw [IntKind.wrap_i64]; omega
        clear hc
        go_enter Try.func20, Try.ntmps20
        go_wp2_with fail
        refine HU.out.mono ?_
        rintro e w1 ⟨rfl, rfl⟩
        go_wp2_with fail
        go_region
        all_goals
         go_wp2
         go_ret
         have hA := HP2.out 0 3 (by decide) (by decide) ⟨p.b.extract 0 r, p.src, p.to, false⟩ (cutP p a) (.string (p.b.extract 0 r)) (.bool true) (by simp [cells4]; exact hh) (by rw [show cutP p a = ⟨p.b.extract 0 r, p.src, p.to, true⟩ by unfold cutP; rw [show p.b.size - (a : Int).toNat = r from hr]]; rfl) (by rw [ByteArray.size_extract]; omega) (cut_small hsm)
         exact ⟨rfl, ms, hA, ((OnlyL.set (ms := ms) (w := w) (b := g) HG.out _ _).trans (OnlyL.set (ms := ms) (b := g) HG.out _ _) (fun j hj => .inl hj)).drew, fun j hj => .inl hj⟩
      · have hc : cutOk p n = false := by simpa [cutOk] using hok
        simp only [hh, hc, Bool.not_false, Bool.and_false, if_true, if_false, Bool.false_eq_true]
        by_cases h1 : n < 1
        · clear hc hok
          go_enter Try.func20, Try.ntmps20
          go_wp2_with fail
          refine HU.out.mono ?_
          rintro e w1 ⟨rfl, rfl⟩
          go_wp2
          go_ret
          exact Done.same (F := refFace) HX.out (Below.refl _ _)
        · have h2 : (p.b.size : Int) ≤ n := by omega
          clear hc hok
          go_enter Try.func20, Try.ntmps20
          go_wp2_with fail
          refine HU.out.mono ?_
          rintro e w1 ⟨rfl, rfl⟩
          go_wp2
          go_ret
          exact Done.same (F := refFace) HX.out (Below.refl _ _)
  · replace ht : thereB x k = false := by simpa using ht
    simp only [ht, Bool.false_and, if_false, Bool.false_eq_true]
    have HU := Lib.hid (cUnhurt_none b ms x k w hx ht)
    have HX := Lib.hid hx
    clear hx ht
    go_enter Try.func20, Try.ntmps20
    go_wp2_with fail
    refine HU.out.mono ?_
    rintro e w1 ⟨rfl, rfl⟩
    go_wp2
    go_ret
    exact Done.same (F := refFace) HX.out (Below.refl _ _)

theorem the_code : Code refFace where
  new := cNew_any
  len := cLen_any
  fault := cFault_any
  piece := fun p ms x k w hx _ => cPiece_any p ms x k w hx
  send := fun p ms x src s w hx _ _ => cSend_any p ms x src s w hx
  deliver := fun p ms x k to w hx _ _ => cDeliver_any p ms x k to w hx
  lose := fun p ms x k to w hx _ _ => cLose_any p ms x k to w hx
  drop := fun p ms x k w hx _ => cDrop_any p ms x k w hx
  twice := fun p ms x k w hx _ => cTwice_any p ms x k w hx
  burst := fun p ms x k at_ pat w hx _ ha => cBurst_any p ms x k at_ pat w hx ha.2
  cut := fun p ms x k n w hx _ _ => cCut_any p ms x k n w hx

end Go.Proofs.Ythepnckbooioeaa.Bus
