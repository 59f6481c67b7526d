/-
  The reference's Split: walked. Conditions: as it states.
-/
import Derived.Test.YtbfjimbffpkkhaaPaSplit
namespace Go.Proofs.Ytbfjimbffpkkhaa.Pa
open Go.RowKit

attribute [local go_sem ↓] exec_ldF exec_bsF
attribute [local go_sem] bsF_of
def frQ (f : Fr) (k : Int) (n p : Nat) (b : Bs) : Fr := { f with kind := k, part := p, parts := n, bytes := b }
structure Rw (w W : World) (N M : Nat) (f : Fr) (t : Value) (ts : List Bs) (v : Value) (l : List Fr) : Prop where
  box : ∃ k n p b, OFr W N (frQ f k n p b)
  txt : SRow (N + 1) W t ts
  tlt : ∀ g, t.ownBlock = some g → g < M
  row : FRow M W v l
  bel : Below N w W
  size : M ≤ W.heap.size
  lt : N < M
set_option maxRecDepth 100000 in
set_option maxHeartbeats 4000000 in
theorem rSplit (f : Fr) (v : Bs) (w : World) (hv : v.length ≤ 100) :
    Calls Try.prog 30 #[.agg (frA f), .string (S v)] w fun e w' => ∃ u, e = .returned u ∧ FRow w.heap.size w' u (spL f v (nP v)) ∧ Below w.heap.size w w' := by
  have hs : (S v).size = v.length := S_size v
  have hb0 := one_S w (frA f) 33
  by_cases h64 : 64 < v.length
  · have e1 : decide ((64 : Int) < (v.length : Int)) = true := by simp; omega
    have hn : nP v = 0 := by unfold nP; rw [if_neg (by omega)]
    have HE := Lib.hid (show FRow w.heap.size (w.alloc (.cells (frA f) 33)) (.slice none 0 0) (spL f v (nP v)) ∧ Below w.heap.size w (w.alloc (.cells (frA f) 33)) from ⟨by rw [hn]; exact FRow.nil _ _, hb0⟩)
    clear hb0 hn h64
    go_enter Try.func30, Try.ntmps30
    go_wp2
    go_ret
    exact ⟨_, rfl, HE.out⟩
  have e1 : decide ((64 : Int) < (v.length : Int)) = false := by simp; omega
  have hn : nP v = numN v := by unfold nP; rw [if_pos (by omega)]
  rw [hn]
  have HN := Lib.hid hn
  have hn4 : numN v ≤ 4 := by unfold numN; omega
  have hpl := pcs_len v (numN v)
  have HAl := Lib.hid (rAll_any v (w.alloc (.cells (frA f) 33)) (by omega))
  have HO := Lib.hid (OFr.new w f)
  have HB0 := Lib.hid hb0
  clear hb0 hn
  obtain ⟨i0, hi, hz0, hz1, hz2⟩ := info_parts infoFr
  have HZ := Lib.hid (⟨hi, hz0, hz1, hz2⟩ : _ ∧ _ ∧ _ ∧ _)
  clear hi hz0 hz1 hz2
  go_enter Try.func30, Try.ntmps30
  go_wp2_with fail
  refine HAl.out.mono ?_
  rintro e w1 ⟨t, rfl, ht, hb1⟩
  obtain ⟨A, c, rfl⟩ := own_form ht
  have hsz0 : (w.alloc (.cells (frA f) 33)).heap.size = w.heap.size + 1 := by simp
  rw [hsz0] at ht hb1
  have hsz1 : w.heap.size + 1 ≤ w1.heap.size := by have := hb1.size; simp at this; omega
  have HW := Lib.hid (show Rw w w1 w.heap.size w1.heap.size f (.slice A (pcsL v (numN v)).length c) (pcsL v (numN v)) (.slice none 0 0) (spL f v 0) from
    ⟨⟨f.kind, f.parts, f.part, f.bytes, (hb1.block _ (by omega)).trans HO.out⟩, ht, fun g hg => World.ownsRow.lt ht g hg |>.2, FRow.nil _ _, HB0.out.trans (hb1.mono (by omega)), Nat.le_refl _, by omega⟩)
  generalize hM : w1.heap.size = M at *
  generalize hN : w.heap.size = N at *
  clear HAl HO HB0 ht hb1 hsz0
  rw [hpl] at HW
  rw [hpl]
  go_wp2
  go_loopw [6, 7] (fun t i W => ∃ k : Nat, k ≤ numN v ∧ i = .int .i64 k ∧ Hid (Rw w W N M f (.slice A (numN v) c) (pcsL v (numN v)) t (spL f v k))) (fun _ i _ => numN v - (intOf i).toNat)
  case atStart => exact ⟨0, Nat.zero_le _, rfl, HW⟩
  case round =>
    obtain ⟨k, hk, rfl, hS⟩ := hrel
    clear HW
    obtain ⟨C, d, rfl⟩ := own_form hS.out.row
    have hlen := sp_len f v k
    by_cases hlt : k < numN v
    · have e2 : decide (k < numN v) = true := decide_eq_true hlt
      obtain ⟨k0, n0, q, b, ho⟩ := hS.out.box
      have htx := hS.out.txt
      obtain ⟨g, rfl⟩ : ∃ g, A = some ⟨g, 0, none⟩ := by
        have h : SRow (N + 1) wr (.slice A (pcsL v (numN v)).length c) (pcsL v (numN v)) := by rw [hpl]; exact htx
        exact h.form (by rw [hpl]; omega)
      have y0 : wr.cell? ⟨g, k, none⟩ = some (.string (S (pcL v k))) := by
        have h : SRow (N + 1) wr (.slice (some ⟨g, 0, none⟩) (pcsL v (numN v)).length c) (pcsL v (numN v)) := by rw [hpl]; exact htx
        have := h.cellAt (i := k) (by rw [hpl]; exact hlt)
        rw [this, List.getD_eq_getElem?_getD, pcs_at v hlt]
        rfl
      have hg := World.ownsRow.lt htx g rfl
      have x0 := ho.fr.at 0 rfl
      have x16 := ho.fr.at 16 rfl
      have x17 := ho.fr.at 17 rfl
      have x18 := ho.fr.at 18 rfl
      have f0 := ho.free 0
      have f16 := ho.free 16
      have f17 := ho.free 17
      have f18 := ho.free 18
      have hk4 : (k : Int) ≤ 255 := by omega
      have hk5 : ((numN v : Nat) : Int) ≤ 255 := by omega
      have hgN : N ≠ g := by omega
      obtain ⟨w2, hw2⟩ : ∃ w2, w2 = ((((wr.setCell ⟨N, 0, none⟩ (.int .i64 4)).setCell ⟨N, 16, none⟩ (.int .u8 (k : Nat))).setCell ⟨N, 17, none⟩ (.int .u8 (numN v : Nat))).setCell ⟨N, 18, none⟩ (.string (S (pcL v k)))) := ⟨_, rfl⟩
      have ho2 : OnlyL [N] wr w2 := by rw [hw2]; exact (((OnlyL.set (by simp) _ _).tr (OnlyL.set (by simp) _ _)).tr (OnlyL.set (by simp) _ _)).tr (OnlyL.set (by simp) _ _)
      have hO : OFr w2 N (frP f (nP v) k (pcL v k)) := by rw [hw2, HN.out]; exact (((ho.s0 4).s16 k).s17 (numN v)).s18 (pcL v k)
      have hz2 : w2.heap.size = wr.heap.size := by rw [hw2]; simp
      have hM1 := hS.out.size
      have hM2 := hS.out.lt
      have htx2 : SRow (N + 1) w2 _ _ := own_only (ms := [N]) htx ho2 (fun g' hg' => by have := own_base htx g' hg'; simp; omega)
      have hrow : FRow M w2 _ _ := FRow.only (ms := [N]) hS.out.row ho2 (fun g' hg' => by have := own_base hS.out.row g' hg'; simp; omega)
      have hld := hO.fr.ld
      have hoA : OFr (w2.alloc (.cells (frA (frP f (nP v) k (pcL v k))) 33)) N (frP f (nP v) k (pcL v k)) := hO.kept (one_S _ _ _)
      have HOA := Lib.hid hoA
      have HO := Lib.hid (World.ownsRow.alloc hrow (.cells (frA (frP f (nP v) k (pcL v k))) 33))
      have HB := Lib.hid (hS.out.bel.trans (ho2.below (N := N) (by simp) (by omega)))
      have HT := Lib.hid htx2
      have HTl := Lib.hid hS.out.tlt
      have hsp := Lib.hid (sp_next f v k)
      have HL := Lib.hid hlen
      have HBase := Lib.hid (fun g' hg' => own_base hrow g' hg')
      have hw3 := Lib.hid hw2
      have hw4 := hw2.symm
      clear hO ho hlen hrow hoA ho2 htx htx2 hw2
      go_wp2_with (at_builtin; refine wpList_append_own _ rfl (.tmp 32) (.tmp 34) 40 rfl M 33 i0 (.agg (frA fr0)) 19 64 Try.underlying40 HZ.out.1 HZ.out.2.1 HZ.out.2.2.1 HZ.out.2.2.2 rfl (by decide) _ (spL f v k).length (frs (spL f v k)) rfl HO.out ⟨wr.heap.size, 0, none⟩ 1 1 (frC (frP f (nP v) k (pcL v k))) rfl rfl (frC_new _ _ _ hz2.symm) (frA_one19 _) (by rw [HL.out]; unfold maxLen; omega) (by rw [HL.out]; omega) (by simp; omega) ?_)
      intro v1 w3 hown hgrow _
      have hS1 := Lib.hid (show Rw w w3 N M f (.slice (some ⟨g, 0, none⟩) (numN v) c) (pcsL v (numN v)) v1 (spL f v (k + 1)) from by
        have hgb : ∀ g', (Value.slice C (spL f v k).length d).ownBlock = some g' → M ≤ g' := fun g' hg' => HBase.out g' hg'
        refine ⟨⟨4, nP v, k, pcL v k, ?_⟩, ?_, HTl.out, ?_, HB.out.trans (((Below.refl _ _).alloc (by omega) _).grown hgrow (by simp; omega) (fun g' hg' => by have := hgb g' hg'; omega)), by have := hgrow.size; simp at this; omega, hM2⟩
        · exact (hgrow.block N (by simp; omega) (fun e => by have := hgb N e.symm; omega)).trans HOA.out
        · refine World.ownsRow.kept (World.ownsRow.alloc HT.out _) hgrow (.inr ?_)
          intro e
          have h1 := HTl.out g rfl
          have h2 := hgb g e.symm
          omega
        · rw [hsp.out]
          show w3.ownsRow M _ 19 v1 _ _
          rw [List.length_append, frs_app, frs_one]
          exact hown)
      clear hown hgrow
      go_wp2
      go_roundw
      case rel => exact ⟨k + 1, by omega, by go_num, hS1⟩
      case measure => simp [intOf]; omega
    · obtain rfl : k = numN v := by omega
      have e2 : decide (numN v < numN v) = false := by simp
      go_wp2
      go_ret
      exact ⟨_, rfl, hN ▸ own_mono hS.out.row (by have := hS.out.lt; omega), hN ▸ hS.out.bel⟩
end Go.Proofs.Ytbfjimbffpkkhaa.Pa
