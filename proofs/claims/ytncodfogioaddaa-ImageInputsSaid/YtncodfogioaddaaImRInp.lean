/-
  The reference's Inputs, walked. Conditions: as each states.
-/
import Derived.Test.YtncodfogioaddaaImInp
import Derived.Deep.DeepCutAuto
import Derived.Deep.CutRange
namespace Go.Proofs.Ytncodfogioaddaa.Bl
open Go.RowKit

theorem AreaAt.set {W : World} {b i : Nat} {A : Bs} (h : AreaAt W b A) (hi : i < A.length) (c : UInt8) : AreaAt (W.setCell ⟨b, i, none⟩ (.int .u8 (c.toNat : Nat))) b (A.set i c) := fun j x hx => by
  rw [World.frozen?_setCell]
  by_cases e : j = i
  · subst e
    rw [List.getElem?_set_self hi] at hx
    injection hx with hx
    subst hx
    obtain ⟨h1, h2⟩ := h j _ (List.getElem?_eq_getElem hi)
    exact ⟨World.cell?_setCell_same _ _ _ h1, h2⟩
  · rw [List.getElem?_set_ne (fun h => e h.symm)] at hx
    rw [World.cell?_setCell_other _ _ _ _ (off_ne b (fun h => e h.symm))]
    exact h j x hx
theorem AreaAt.drewN {W : World} {b : Nat} {A : Bs} (h : AreaAt W b A) (n : Nat) : AreaAt (W.drewN n) b A := h
/-- The area while its byte i is under way. -/
def wayA (n : Int) (own : Bs) (l : List Spt) (vs : List Bs) (i : Nat) : Bs := bytsB n own l vs i ++ zeroA (64 - i)
theorem way_len {n : Int} {own : Bs} {l : List Spt} {vs : List Bs} {i : Nat} (h : i ≤ 64) : (wayA n own l vs i).length = 64 := by
  unfold wayA bytsB
  rw [List.length_append, List.length_map, List.length_range, zero_len]
  omega
theorem way_first (n : Int) (own : Bs) (l : List Spt) (vs : List Bs) : wayA n own l vs 0 = zeroA 64 := rfl
theorem byts_len (n : Int) (own : Bs) (l : List Spt) (vs : List Bs) (i : Nat) : (bytsB n own l vs i).length = i := by unfold bytsB; simp
theorem way_zero {n : Int} {own : Bs} {l : List Spt} {vs : List Bs} {i : Nat} (h : i < 64) : (wayA n own l vs i).set i 0 = wayA n own l vs i := by
  apply List.ext_getElem?
  intro j
  by_cases e : i = j
  · subst e
    rw [List.getElem?_set_self (by rw [way_len (by omega)]; exact h)]
    unfold wayA
    rw [List.getElem?_append_right (by rw [byts_len]; exact Nat.le_refl _), byts_len, Nat.sub_self]
    unfold zeroA
    rw [List.getElem?_replicate, if_pos (by omega)]
  · rw [List.getElem?_set_ne e]
theorem way_next {n : Int} {own : Bs} {l : List Spt} {vs : List Bs} {i : Nat} (h : i < 64) : (wayA n own l vs i).set i (byK n own l vs i (min l.length vs.length)) = wayA n own l vs (i + 1) := by
  have hz : zeroA (64 - i) = 0 :: zeroA (64 - (i + 1)) := by
    unfold zeroA
    rw [show 64 - i = (64 - (i + 1)) + 1 by omega, List.replicate_succ]
  have hb : bytsB n own l vs (i + 1) = bytsB n own l vs i ++ [byK n own l vs i (min l.length vs.length)] := by
    unfold bytsB
    rw [List.range_succ, List.map_append]
    rfl
  unfold wayA
  rw [hb, hz, List.set_append, byts_len, if_neg (by omega), Nat.sub_self, List.set_cons_zero, List.append_assoc]
  rfl
theorem way_last (n : Int) (own : Bs) (l : List Spt) (vs : List Bs) : wayA n own l vs 64 = inpB n own l vs := by
  rw [← byts_all]
  unfold wayA
  rw [Nat.sub_self]
  exact List.append_nil _

set_option maxRecDepth 100000 in
set_option maxHeartbeats 8000000 in
theorem rInputs_any (n : Int) (own : Bs) (l : List Spt) (so : Option Addr) (capS : Nat) (vs : List Bs) (ta : Option Addr) (capT : Nat) (w : World) (hI : It w w so l ta vs)
    (hl : l.length ≤ maxLen) (hvl : vs.length ≤ maxLen) (hv : ∀ (k : Nat) (x : Bs), vs[k]? = some x → x.length ≤ 100) :
    Calls Try.prog 11 #[.int .i64 n, .string (S own), .slice so l.length capS, .slice ta vs.length capT] w (Tells (.string (S (inpB n own l vs))) w) := by
  have hmk : ∀ w : World, (Instr.makeSlice 41 (.int .i64 64) (.int .i64 64)).run Try.prog w = .ok (.slice (some ⟨w.heap.size, 0, none⟩) 64 64) (w.alloc (.cells (madeCells #[.int .u8 0] 64) 5)) := mkU8 64 (by decide)
  have hll : (l.length : Int) ≤ 9223372036854775807 := by unfold maxLen at hl; omega
  have hvv : (vs.length : Int) ≤ 9223372036854775807 := by unfold maxLen at hvl; omega
  have HI := Lib.hid (hI.next (one_S w (madeCells #[.int .u8 0] 64) 5))
  have HA := Lib.hid (AreaAt.zeros (W := w) (t := 5) 64)
  rw [← way_first n own l vs] at HA
  have HW := Lib.hid (way_last n own l vs)
  have HN := Lib.hid (fun (i : Nat) (h : i < 64) => way_next (n := n) (own := own) (l := l) (vs := vs) h)
  have HZ := Lib.hid (fun (i : Nat) (h : i < 64) => way_zero (n := n) (own := own) (l := l) (vs := vs) h)
  have HL := Lib.hid (fun (i : Nat) (h : i ≤ 64) => way_len (n := n) (own := own) (l := l) (vs := vs) h)
  have HB := Lib.hid (fun (i : Nat) W => rByte_any own i W)
  have hY0 : ∀ i : Nat, byK n own l vs i 0 = if (i : Int) < n then own.getD i 0 else 0 := fun _ => rfl
  have hY : ∀ (i k : Nat), byK n own l vs i (k + 1) = if (l.getD k noS).a ≤ (i : Int) ∧ (i : Int) - (l.getD k noS).a < (vs.getD k []).length then (vs.getD k []).getD ((i : Int) - (l.getD k noS).a).toNat 0 else byK n own l vs i k := fun _ _ => rfl
  have HY0 := Lib.hid hY0
  have HY := Lib.hid hY
  obtain ⟨M, hM⟩ : ∃ M : Nat, M = min l.length vs.length := ⟨_, rfl⟩
  rw [← hM] at HN
  generalize byK n own l vs = Y at *
  generalize wayA n own l vs = G at *
  generalize inpB n own l vs = R at *
  clear hI hY0 hY
  go_enter Try.func11, Try.ntmps11
  go_wp2
  generalize hbb : w.heap.size = bb at *
  go_loopw [10] (fun i W => ∃ j : Nat, j ≤ 64 ∧ i = .int .i64 j ∧ Hid (It w W so l ta vs) ∧ Hid (AreaAt W bb (G j))) (fun i _ => 64 - (intOf i).toNat)
  case atStart => exact ⟨0, by omega, rfl, HI, HA⟩
  case round =>
    obtain ⟨j, hj, rfl, hI, hA⟩ := hrel
    clear HI HA
    by_cases hlt : j < 64
    · have e1 : decide ((j : Int) < 64) = true := by simp; omega
      have hA0 := hA.out
      have hgl := HL.out j (by omega)
      rw [← HZ.out j hlt] at hA0
      have hy0 := HY0.out j
      have HBj := Lib.hid (fun W => HB.out j W)
      have HA0 := Lib.hid hA0
      obtain ⟨D, hD⟩ : ∃ D, decide ((j : Int) < n) = D := ⟨_, rfl⟩
      clear hA hA0
      go_upto_if 19 with fail
      go_cut [] (fun wx => Hid (It w wx so l ta vs ∧ AreaAt wx bb ((G j).set j (Y j 0))))
      case first =>
        cases D
        · rw [if_neg (of_decide_eq_false hD)] at hy0
          have HQ : Hid (It w wr so l ta vs ∧ AreaAt wr bb ((G j).set j (Y j 0))) := Lib.hid ⟨hI.out, by rw [hy0]; exact HA0.out⟩
          clear hD hy0
          go_wp2
          go_meet
          exact HQ
        · rw [if_pos (of_decide_eq_true hD)] at hy0
          obtain ⟨c0, f0⟩ := HA0.out j 0 (by rw [List.getElem?_set_self (by rw [hgl]; exact hlt)])
          have hA1 := HA0.out.set (i := j) (by rw [List.length_set, hgl]; exact hlt) (Y j 0)
          rw [List.set_set] at hA1
          have HQ : Hid (It w (wr.setCell ⟨bb, j, none⟩ (.int .u8 ((Y j 0).toNat : Nat))) so l ta vs ∧ AreaAt (wr.setCell ⟨bb, j, none⟩ (.int .u8 ((Y j 0).toNat : Nat))) bb ((G j).set j (Y j 0))) := Lib.hid ⟨hI.out.turn ((Below.refl _ wr).setCell (p := ⟨bb, j, none⟩) (show w.heap.size ≤ bb by omega) _), hA1⟩
          rw [hy0] at HQ
          have HY1 := Lib.hid hy0
          clear hD hy0 hA1 hI HA0
          go_wp2_with fail
          refine (HBj.out _).mono ?_
          rintro e w1 ⟨rfl, rfl⟩
          go_wp2
          go_meet
          rw [HY1.out]
          exact HQ
      case rest =>
        have HI0 := Lib.hid hcut.out.1
        have HA1 := Lib.hid hcut.out.2
        clear hcut hI HA0 HBj hy0 hD
        go_wp2
        go_loopw [11] (fun i W => ∃ k : Nat, k ≤ M ∧ i = .int .i64 k ∧ Hid (It w W so l ta vs) ∧ Hid (AreaAt W bb ((G j).set j (Y j k)))) (fun i _ => M - (intOf i).toNat)
        case atStart => exact ⟨0, Nat.zero_le _, rfl, HI0, HA1⟩
        case round =>
          obtain ⟨k, hk, rfl, hI, hA⟩ := hrel
          clear HI0 HA1
          by_cases hkM : k < M
          · have e2 : decide ((k : Int) < (l.length : Int)) = true := by simp; omega
            have e3 : decide ((k : Int) < (vs.length : Int)) = true := by simp; omega
            obtain ⟨x, hx⟩ : ∃ x, l[k]? = some x := ⟨_, List.getElem?_eq_getElem (by omega)⟩
            obtain ⟨v, hvk⟩ : ∃ v, vs[k]? = some v := ⟨_, List.getElem?_eq_getElem (by omega)⟩
            obtain ⟨b0, o0, hso, hb0, hcs⟩ := hI.out.sp (by omega)
            obtain ⟨b1, o1, hta, hb1, hct⟩ := hI.out.tx (by omega)
            subst hso hta
            obtain ⟨c0, c1⟩ := hcs k x hx
            have t0 := hct k v hvk
            have hsz := S_size v
            have hv1 := hv k v hvk
            have hyk := HY.out j k
            rw [sget_at hx, show vs.getD k [] = v by rw [List.getD_eq_getElem?_getD, hvk]; rfl] at hyk
            obtain ⟨xb, p⟩ := x
            dsimp only at *
            have hcap1 : k < l.length := by omega
            have hcap2 : k < vs.length := by omega
            clear hcs hct hx hvk
            by_cases l1 : p ≤ (j : Int)
            · have e4 : decide (p ≤ (j : Int)) = true := decide_eq_true l1
              by_cases l2 : -10000 ≤ p
              · have e5 : decide (-10000 ≤ p) = true := decide_eq_true l2
                have hw : IntKind.i64.wrap ((j : Int) - p) = (j : Int) - p := by rw [IntKind.wrap_i64]; omega
                by_cases l3 : (j : Int) - p < v.length
                · have e6 : decide ((j : Int) - p < (v.length : Int)) = true := decide_eq_true l3
                  rw [if_pos ⟨l1, l3⟩] at hyk
                  obtain ⟨d, hd⟩ : ∃ d : Nat, (j : Int) - p = (d : Int) := ⟨((j : Int) - p).toNat, by omega⟩
                  rw [hd, Int.toNat_natCast] at hyk
                  have hdl : d < (S v).size := by rw [hsz]; omega
                  have HG := Lib.hid (S_get hdl)
                  have HYk := Lib.hid hyk
                  clear hyk l1 l2 l3 HY
                  go_wp2_with fail
                  go_quiet (fail)
                  have hA1 := hA.out.drewN nq
                  have HI1 := Lib.hid (hI.out.turn (below_drewN wr w.heap.size nq))
                  have c1' : (wr.drewN nq).cell? ⟨b0, o0 + k * 2 + 1, none⟩ = some (.int .i64 p) := c1
                  have t0' : (wr.drewN nq).cell? ⟨b1, o1 + k, none⟩ = some (.string (S v)) := t0
                  clear hA hI c0 c1 t0
                  generalize wr.drewN nq = W1 at *
                  obtain ⟨a0, f0⟩ := hA1 j _ (List.getElem?_set_self (by rw [hgl]; exact hlt))
                  have hA2 := hA1.drew.set (i := j) (by rw [List.length_set, hgl]; exact hlt) (v.getD d 0)
                  rw [List.set_set, ← HYk.out] at hA2
                  have HA2 := Lib.hid hA2
                  have HI2 := Lib.hid ((HI1.out.turn (below_draw w.heap.size W1)).turn ((Below.refl w.heap.size W1.drew).setCell (p := ⟨bb, j, none⟩) (show w.heap.size ≤ bb by omega) (.int .u8 ((v.getD d 0).toNat : Nat))))
                  rw [HYk.out] at HA2
                  clear hA2 hA1 HI1
                  go_wp2
                  go_region
                  go_wp2
                  simp only [HG.out]
                  rw [← HYk.out] at HA2 HI2 ⊢
                  exact ⟨⟨k + 1, by omega, by go_num, HI2, HA2⟩, by simp [intOf]; omega⟩
                · have e6 : decide ((j : Int) - p < (v.length : Int)) = false := decide_eq_false l3
                  rw [if_neg (fun h => l3 h.2)] at hyk
                  rw [← hyk] at hA
                  clear hyk l1 l2 l3 HY
                  go_wp2_with fail
                  go_quiet (fail)
                  go_wp2
                  exact ⟨⟨k + 1, by omega, by go_num, Lib.hid (hI.out.turn (below_drewN _ _ _)), Lib.hid (hA.out.drewN _)⟩, by simp [intOf]; omega⟩
              · have e5 : decide (-10000 ≤ p) = false := decide_eq_false l2
                rw [if_neg (fun h => by omega)] at hyk
                rw [← hyk] at hA
                clear hyk l1 l2 HY
                go_wp2_with fail
                go_quiet (fail)
                go_wp2
                exact ⟨⟨k + 1, by omega, by go_num, Lib.hid (hI.out.turn (below_drewN _ _ _)), Lib.hid (hA.out.drewN _)⟩, by simp [intOf]; omega⟩
            · have e4 : decide (p ≤ (j : Int)) = false := decide_eq_false l1
              rw [if_neg (fun h => l1 h.1)] at hyk
              rw [← hyk] at hA
              clear hyk l1 HY
              go_wp2_with fail
              go_quiet (fail)
              go_wp2
              exact ⟨⟨k + 1, by omega, by go_num, Lib.hid (hI.out.turn (below_drewN _ _ _)), Lib.hid (hA.out.drewN _)⟩, by simp [intOf]; omega⟩
          · obtain rfl : k = M := by omega
            have hA2 := hA.out
            rw [HN.out j hlt] at hA2
            have HA2 := Lib.hid hA2
            clear hA hA2
            by_cases l1 : k < l.length
            · have e2 : decide ((k : Int) < (l.length : Int)) = true := by simp; omega
              have e3 : decide ((k : Int) < (vs.length : Int)) = false := by simp; omega
              go_wp2
              go_roundw
              case rel => exact ⟨j + 1, by omega, by go_num, hI, HA2⟩
              case measure => simp [intOf]; omega
            · have e2 : decide ((k : Int) < (l.length : Int)) = false := by simp; omega
              go_wp2
              go_roundw
              case rel => exact ⟨j + 1, by omega, by go_num, hI, HA2⟩
              case measure => simp [intOf]; omega
    · have h64 : j = 64 := by omega
      have e1 : decide ((j : Int) < 64) = false := by simp; omega
      have hA2 := hA.out
      have hlen := HL.out j hj
      rw [h64, HW.out] at hA2
      rw [h64, HW.out] at hlen
      have hcv := conv_area wr (cap := 64) hA2 hlen
      have HB := Lib.hid hI.out.below
      clear hA hI hA2 hlen
      go_wp2
      go_ret
      exact ⟨rfl, HB.out⟩
end Go.Proofs.Ytncodfogioaddaa.Bl
