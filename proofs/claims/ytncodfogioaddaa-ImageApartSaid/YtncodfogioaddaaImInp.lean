/-
  Inputs: walked. Conditions: as each states.
-/
import Derived.Test.YtncodfogioaddaaImVal
namespace Go.Proofs.Ytncodfogioaddaa.Bl
open Go.RowKit

/-- A world behind a call's first one, in which spots and texts lie. -/
structure It (w W : World) (so : Option Addr) (l : List Spt) (to : Option Addr) (vs : List Bs) : Prop where
  sp : LiesS W w.heap.size so l
  tx : LiesT W w.heap.size to vs
  below : Below w.heap.size w W
section
variable {w W W' : World} {so to : Option Addr} {l : List Spt} {vs : List Bs}
theorem It.first (h : LiesS w w.heap.size so l) (k : LiesT w w.heap.size to vs) : It w w so l to vs := ⟨h, k, Below.refl _ _⟩
theorem It.turn (h : It w W so l to vs) (hb : Below w.heap.size W W') : It w W' so l to vs := ⟨h.sp.below hb, h.tx.below hb, h.below.trans hb⟩
theorem It.next (h : It w W so l to vs) (hb : Below W.heap.size W W') : It w W' so l to vs := h.turn (hb.mono h.below.size)
theorem It.self (h : It w W so l to vs) : It W W so l to vs := ⟨h.sp.more h.below.size, h.tx.more h.below.size, Below.refl _ _⟩
end
theorem world_cut {G : World → Prop} {w : World} (P : World → Prop) (h : P w) (hall : ∀ W, P W → G W) : G w := hall w h
set_option maxRecDepth 100000 in
set_option maxHeartbeats 1000000 in
theorem slice_to (g n : Nat) (hn : n ≤ 64) (W : World) :
    (Instr.sliceAt 50 (.pointer (some ⟨g, 0, none⟩)) none (some (.int .i64 (n : Int))) none).run Try.prog W = .ok (.slice (some ⟨g, 0, none⟩) n 64) W := by
  have h := run_sliceAt_array_h (P := Try.prog) W 50 ⟨g, 0, none⟩ Try.underlying50 .i64 (n : Int) (by omega) (show (n : Int) ≤ 64 by omega)
  rw [h]
  have hs : (sizeOf (Try.prog.elem 50)).run Try.prog W = .ok 1 W := by go_simp
  rw [hs]
  show Result.ok (slicedAt _ _ _ 64 1) W = _
  unfold slicedAt
  rw [Int.toNat_natCast]
  simp [Addr.add]
set_option maxRecDepth 100000 in
set_option maxHeartbeats 1000000 in
theorem slice_all (g : Nat) (W : World) :
    (Instr.sliceAt 50 (.pointer (some ⟨g, 0, none⟩)) none none none).run Try.prog W = .ok (.slice (some ⟨g, 0, none⟩) 64 64) W := by
  have h := run_sliceAt_array_all (P := Try.prog) W 50 ⟨g, 0, none⟩ Try.underlying50
  rw [h]
  have hs : (sizeOf (Try.prog.elem 50)).run Try.prog W = .ok 1 W := by go_simp
  rw [hs]
  show Result.ok (slicedAt _ 0 64 64 1) W = _
  rfl
theorem own_sets (n : Int) (own : Bs) : (zeroA 64).take 0 ++ own.take (Nat.min own.length (bringN n)) ++ (zeroA 64).drop (0 + (own.take (Nat.min own.length (bringN n))).length) = ownA n own := by
  unfold ownA zeroA
  have hm : Nat.min own.length (bringN n) = min own.length (bringN n) := rfl
  have ht : own.take (min own.length (bringN n)) = own.take (bringN n) := by
    rcases Nat.le_total own.length (bringN n) with h | h
    · rw [Nat.min_eq_left h, List.take_of_length_le (Nat.le_refl _), List.take_of_length_le h]
    · rw [Nat.min_eq_right h]
  rw [hm, ht, List.take_zero, List.nil_append, List.length_take, List.drop_replicate, Nat.zero_add]
set_option maxRecDepth 100000 in
set_option maxHeartbeats 8000000 in
theorem cInputs_any (n : Int) (own : Bs) (l : List Spt) (so : Option Addr) (capS : Nat) (vs : List Bs) (to : Option Addr) (capT : Nat) (w : World) (hI : It w w so l to vs)
    (hl : l.length ≤ maxLen) (hs : ∀ (k : Nat) (x : Spt), l[k]? = some x → I64 x.a) (hv : ∀ (k : Nat) (x : Bs), vs[k]? = some x → x.length ≤ maxLen) :
    Calls Try.prog 10 #[.int .i64 n, .string (S own), .slice so l.length capS, .slice to vs.length capT] w (Tells (.string (S (inpB n own l vs))) w) := by
  have HBr := Lib.hid (fun W => cBring n W)
  have hbl := bring_le n
  have hos := own_sets n own
  have HI := Lib.hid hI
  have hto := fun (g : Nat) W => slice_to g (bringN n) hbl W
  have hall := slice_all
  have hil := inp_len n own l vs
  unfold inpB at *
  obtain ⟨M, hM⟩ : ∃ M : Nat, M = min l.length vs.length := ⟨_, rfl⟩
  rw [← hM] at hil ⊢
  have hMi : min (l.length : Int) (vs.length : Int) = (M : Int) := by omega
  have hMl : M ≤ l.length ∧ M ≤ vs.length := by omega
  have hM2 : (M : Int) ≤ 9223372036854775807 := by unfold maxLen at hl; omega
  generalize hA0 : ownA n own = A0 at *
  have hA0l : A0.length = 64 := by rw [← hA0, own_len]
  generalize bringN n = m at *
  have hc0 := fun W (h : AreaAt W w.heap.size (zeroA 64)) => run_copy_area W 3 h (o := 0) (dLen := m) (dCap := 64) (v := own) (by rw [zero_len]; omega)
  have hs0 := fun W (h : AreaAt W w.heap.size (zeroA 64)) => h.sets (o := 0) (v := own.take (Nat.min own.length m)) (by rw [zero_len, List.length_take]; have : Nat.min own.length m = min own.length m := rfl; omega)
  rw [hos] at hs0
  have HC := Lib.hid hc0
  have HS := Lib.hid hs0
  have HA := Lib.hid (fun (k : Nat) => ar_len A0 l vs k)
  clear hc0 hs0 hos hA0 hI hl hM
  generalize own.take (Nat.min own.length m) = cut at *
  go_enter Try.func10, Try.ntmps10
  go_wp2_with fail
  refine world_cut (G := fun W => Calls _ _ _ W _) (fun W => It w W so l to vs ∧ AreaAt W w.heap.size (zeroA 64)) ⟨HI.out.next (one_S _ _ _), AreaAt.of_row (heap_alloc_new _ _) rfl⟩ ?_
  rintro W1 ⟨h1, h2⟩
  have HI1 := Lib.hid h1
  have HA1 := Lib.hid h2
  clear h1 h2 HI
  refine (HBr.out _).mono ?_
  rintro e w1 ⟨rfl, rfl⟩
  go_wp2
  rw [HC.out _ HA1.out]
  have HA2 := Lib.hid (HS.out _ HA1.out)
  have HI2 := Lib.hid (HI1.out.turn (below_sets (Nat.le_refl _) (cellsV cut) 0 W1))
  clear HA1 HI1 HC HS
  go_wp2
  generalize hbb : w.heap.size = bb at *
  generalize W1.setCells bb 0 (cellsV cut) = W2 at *
  go_loopw [21] (fun i W => ∃ k : Nat, k ≤ M ∧ i = .int .i64 k ∧ Hid (It w W so l to vs) ∧ Hid (AreaAt W bb (arN A0 l vs k))) (fun i _ => M - (intOf i).toNat)
  case atStart => exact ⟨0, Nat.zero_le _, rfl, HI2, HA2⟩
  case round =>
    obtain ⟨k, hk, rfl, hI, hA⟩ := hrel
    clear HI2 HA2
    by_cases hlt : k < M
    · have e1 : decide ((k : Int) < (M : Int)) = true := by simp; omega
      obtain ⟨x, hx⟩ : ∃ x, l[k]? = some x := ⟨_, List.getElem?_eq_getElem (by omega)⟩
      obtain ⟨v, hvk⟩ : ∃ v, vs[k]? = some v := ⟨_, List.getElem?_eq_getElem (by omega)⟩
      obtain ⟨b0, o0, rfl, hb0, hcs⟩ := hI.out.sp (by omega)
      obtain ⟨b1, o1, rfl, hb1, hct⟩ := hI.out.tx (by omega)
      obtain ⟨c0, c1⟩ := hcs k x hx
      have t0 := hct k v hvk
      have hnx : arN A0 l vs (k + 1) = putB (arN A0 l vs k) x.a v := by
        rw [arN, sget_at hx, show vs.getD k [] = v by rw [List.getD_eq_getElem?_getD, hvk]; rfl]
      have hkl : (arN A0 l vs k).length = 64 := by rw [HA.out, hA0l]
      have hP := cPut_any (arN A0 l vs k) v bb 64 x.a wr.drew hA.out.drew (by rw [hkl]; exact Nat.le_refl _) (by unfold maxLen; decide) (hs k x hx) (hv k v hvk)
      rw [hkl, ← hnx] at hP
      have HP := Lib.hid hP
      have hcap1 : k < l.length := by omega
      have hcap2 : k < vs.length := by omega
      clear hP hnx hkl hx hvk hcs hct
      go_wp2
      go_still_tail 10, (by kernel_rfl)
      change wpList _ _ _ _ _ wr.drew
      go_wp2_with fail
      refine HP.out.mono ?_
      rintro e w2 ⟨rfl, hb2, -, hA2⟩
      have HI3 := Lib.hid (hI.out.turn (show Below w.heap.size wr w2 by rw [hbb]; exact (below_draw bb wr).trans hb2))
      have HA3 := Lib.hid hA2
      clear hb2 hA2 hI hA HP
      go_wp2
      go_roundw
      case rel => exact ⟨k + 1, by omega, by go_num, HI3, HA3⟩
      case measure => simp [intOf]; omega
    · obtain rfl : k = M := by omega
      have e1 : decide ((k : Int) < (k : Int)) = false := by simp
      have hcv := conv_area wr (cap := 64) hA.out hil
      have HB := Lib.hid hI.out.below
      clear hA hI HA
      go_wp2
      go_ret
      exact ⟨rfl, HB.out⟩
end Go.Proofs.Ytncodfogioaddaa.Bl
