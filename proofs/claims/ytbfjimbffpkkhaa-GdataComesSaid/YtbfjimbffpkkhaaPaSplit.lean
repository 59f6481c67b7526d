/-
  Split, the program's and the reference's: walked. Conditions: as each states.
-/
import Derived.Test.YtbfjimbffpkkhaaPaPutM
import Derived.Great.BuildSlice
namespace Go.Proofs.Ytbfjimbffpkkhaa.Pa
open Go.RowKit

/-! ### Frames in a row of the call's own -/
def frs (l : List Fr) : List Value := l.flatMap frC
theorem frs_len (l : List Fr) : (frs l).length = l.length * 19 := by
  induction l with
  | nil => rfl
  | cons x l ih =>
    show (frC x ++ frs l).length = _
    rw [List.length_append, ih, frC_len, List.length_cons]
    omega
theorem frs_app (l m : List Fr) : frs (l ++ m) = frs l ++ frs m := by simp [frs]
theorem frs_one (f : Fr) : frs [f] = frC f := by simp [frs]
theorem frs_at : ∀ {l : List Fr} {k j : Nat} {f : Fr}, l[k]? = some f → j < 19 → (frs l)[k * 19 + j]? = (frC f)[j]?
  | [], _, _, _, h, _ => by simp at h
  | x :: l, 0, j, f, h, hj => by
    injection h with h
    subst h
    show (frC x ++ frs l)[0 * 19 + j]? = _
    rw [Nat.zero_mul, Nat.zero_add, List.getElem?_append_left (by rw [frC_len]; exact hj)]
  | x :: l, k + 1, j, f, h, hj => by
    have ih := frs_at (l := l) (k := k) (f := f) (by simpa using h) hj
    show (frC x ++ frs l)[(k + 1) * 19 + j]? = _
    rw [List.getElem?_append_right (by rw [frC_len]; omega), frC_len, show (k + 1) * 19 + j - 19 = k * 19 + j by omega]
    exact ih
/-- Frames in a row of the call's own. -/
def FRow (N : Nat) (w : World) (v : Value) (l : List Fr) : Prop := w.ownsRow N 33 19 v l.length (frs l)
theorem FRow.nil (N : Nat) (w : World) : FRow N w (.slice none 0 0) [] := ⟨rfl, .inl ⟨rfl, rfl⟩⟩
theorem FRow.at {N : Nat} {w : World} {g cap : Nat} {l : List Fr} (h : FRow N w (.slice (some ⟨g, 0, none⟩) l.length cap) l) {k : Nat} {f : Fr} (hk : l[k]? = some f) : FrAt w g (k * 19) f := fun j v hv => by
  have hj : j < 19 := by
    have := (List.getElem?_eq_some_iff.1 hv).1
    rw [frC_len] at this
    exact this
  have hl := (List.getElem?_eq_some_iff.1 hk).1
  rw [World.ownsRow.cellAt (show w.ownsRow N 33 19 _ l.length (frs l) from h) _ (by omega), frs_at hk hj]
  exact hv
def fr0 : Fr := ⟨0, 0, 0, 0, 0, 0, 0, 0, 0, 0, 0, 0, false, 0, 0, 0, 0, 0, []⟩
theorem infoFr : (Try.prog.info? 33).map (fun i => (i.zero, i.size, i.bytes)) = some (some (.agg (frA fr0)), 19, 64) := by kernel_rfl
theorem only_bel {w w' : World} (h : Below w.heap.size w w') (row : Option Nat) : w.grownBy w' row := ⟨h.os, h.tape, h.output, h.size, fun i hi _ => h.block i hi⟩
theorem own_kept {w w' : World} {base n size : Nat} {e : TypeId} {v : Value} {xs : List Value} (h : w.ownsRow base e size v n xs) (hb : Below w.heap.size w w') : w'.ownsRow base e size v n xs :=
  by
  rcases h.2 with ⟨rfl, h0⟩ | ⟨g, cap, cur, rfl, hN, hg, h1, h2, h3, h4⟩
  · exact ⟨h.1, .inl ⟨rfl, h0⟩⟩
  · exact ⟨h.1, .inr ⟨g, cap, cur, rfl, hN, (hb.block g (Array.getElem?_eq_some_iff.1 hg).1).trans hg, h1, h2, h3, h4⟩⟩
theorem own_mono {w : World} {base base' n size : Nat} {e : TypeId} {v : Value} {xs : List Value} (h : w.ownsRow base e size v n xs) (hb : base' ≤ base) : w.ownsRow base' e size v n xs := by
  rcases h.2 with ⟨rfl, h0⟩ | ⟨g, cap, cur, rfl, hN, hg, h1, h2, h3, h4⟩
  · exact ⟨h.1, .inl ⟨rfl, h0⟩⟩
  · exact ⟨h.1, .inr ⟨g, cap, cur, rfl, by omega, hg, h1, h2, h3, h4⟩⟩
theorem own_only {ms : List Nat} {w w' : World} {base n size : Nat} {e : TypeId} {v : Value} {xs : List Value} (h : w.ownsRow base e size v n xs) (hb : OnlyL ms w w') (hn : ∀ g, v.ownBlock = some g → g ∉ ms) : w'.ownsRow base e size v n xs := by
  rcases h.2 with ⟨rfl, h0⟩ | ⟨g, cap, cur, rfl, hN, hg, h1, h2, h3, h4⟩
  · exact ⟨h.1, .inl ⟨rfl, h0⟩⟩
  · exact ⟨h.1, .inr ⟨g, cap, cur, rfl, hN, (hb.block g (Array.getElem?_eq_some_iff.1 hg).1 (hn g rfl)).trans hg, h1, h2, h3, h4⟩⟩
theorem FRow.kept {N : Nat} {w w' : World} {v : Value} {l : List Fr} (h : FRow N w v l) (hb : Below w.heap.size w w') : FRow N w' v l := own_kept h hb
theorem FRow.only {ms : List Nat} {N : Nat} {w w' : World} {v : Value} {l : List Fr} (h : FRow N w v l) (hb : OnlyL ms w w') (hn : ∀ g, v.ownBlock = some g → g ∉ ms) : FRow N w' v l := own_only h hb hn
noncomputable def bsF (parts : Array (Nat × Value)) (W : World) : Result Next := (do pure (Next.value (← Instr.buildSlice 40 1 parts)) : Sem Next).run Try.prog W
theorem exec_bsF (ρ : Operand → Value) (d : Option Tmp) (ps : Array (Nat × Operand)) (t : TypeId) (pos : String) (af : _) (g : _) (W : World) :
    (execOp ρ ⟨d, .buildSlice 40 1 ps, t, pos, af, g⟩).run Try.prog W = bsF (ps.map fun x => (x.1, ρ x.2)) W := rfl
theorem bsF_of (f : Fr) (W : World) : bsF #[(0, .agg (frA f))] W = .ok (.value (.slice (some ⟨W.heap.size, 0, none⟩) 1 1)) (W.alloc (.cells (frA f) 33)) := by
  obtain ⟨i0, hi, hz0, hz1, hz2⟩ := info_parts infoFr
  have h := Go.run_buildSlice (P := Try.prog) W 40 33 1 #[(0, .agg (frA f))] (frA f) i0 _ Try.underlying40 hi hz0 (by rw [hz1]; decide) (by rw [hz1]; decide) (by rw [hz1]; kernel_rfl)
  unfold bsF
  rw [Sem.run_bind, h]
  rfl

/-! ### A frame in a block that may be written -/
def OFr (W : World) (B : Nat) (f : Fr) : Prop := W.heap[B]? = some (.cells (frA f) 33 (0, 0))
section
variable {W W' : World} {B : Nat} {f : Fr}
theorem OFr.new (W : World) (f : Fr) : OFr (W.alloc (.cells (frA f) 33)) W.heap.size f := heap_alloc_new _ _
theorem OFr.fr (h : OFr W B f) : FrAt W B 0 f := fun j v hv => by
  rw [Nat.zero_add, cell_of_row _ _ _ _ _ _ h]
  simpa [frA] using hv
theorem OFr.free (h : OFr W B f) (j : Nat) : W.frozen? ⟨B, j, none⟩ = false := frozen_of _ _ _ _ _ h
theorem OFr.lt (h : OFr W B f) : B < W.heap.size := lt_of_heap h
theorem OFr.kept (h : OFr W B f) (hb : Below W.heap.size W W') : OFr W' B f := (hb.block B (lt_of_heap h)).trans h
theorem OFr.s0 (h : OFr W B f) (k : Int) : OFr (W.setCell ⟨B, 0, none⟩ (.int .i64 k)) B { f with kind := k } := heap_setCell_same W B 0 _ _ _ h
theorem OFr.s16 (h : OFr W B f) (k : Nat) : OFr (W.setCell ⟨B, 16, none⟩ (.int .u8 k)) B { f with part := k } := heap_setCell_same W B 16 _ _ _ h
theorem OFr.s17 (h : OFr W B f) (k : Nat) : OFr (W.setCell ⟨B, 17, none⟩ (.int .u8 k)) B { f with parts := k } := heap_setCell_same W B 17 _ _ _ h
theorem OFr.s18 (h : OFr W B f) (l : Bs) : OFr (W.setCell ⟨B, 18, none⟩ (.string (S l))) B { f with bytes := l } := heap_setCell_same W B 18 _ _ _ h
end

/-! ### A value's frames -/
def nP (v : Bs) : Nat := if v.length ≤ 64 then numN v else 0
theorem nP_parts (v : Bs) : partsN v.length = (nP v : Nat) := by
  unfold nP
  split
  · rename_i h; exact num_parts h
  · rename_i h; rw [parts_long (by omega)]; rfl
theorem nP_le (v : Bs) : nP v ≤ 4 := by unfold nP numN; split <;> omega
theorem nP_cut {v : Bs} {k : Nat} (h : k < nP v) : cutL v k = pcL v k := by
  unfold nP at h
  split at h
  · rename_i h1; exact (cut_pc h1 h).1
  · omega
def frP (f : Fr) (n p : Nat) (b : Bs) : Fr := { f with kind := 4, part := p, parts := n, bytes := b }
def spL (f : Fr) (v : Bs) (k : Nat) : List Fr := (List.range k).map fun p => frP f (nP v) p (pcL v p)
theorem sp_len (f : Fr) (v : Bs) (k : Nat) : (spL f v k).length = k := by simp [spL]
theorem sp_next (f : Fr) (v : Bs) (k : Nat) : spL f v (k + 1) = spL f v k ++ [frP f (nP v) k (pcL v k)] := by simp [spL, List.range_succ]

theorem SRow.form {N : Nat} {w : World} {A : Option Addr} {cap : Nat} {l : List Bs} (h : SRow N w (.slice A l.length cap) l) (h1 : 1 ≤ l.length) : ∃ g, A = some ⟨g, 0, none⟩ := by
  rcases h.2 with ⟨h, h0⟩ | ⟨g', cap, cur, h, _⟩
  · injection h with _ h _; omega
  · injection h with h _ _; exact ⟨g', h⟩

attribute [local go_sem ↓] exec_ldF exec_bsF
attribute [local go_sem] bsF_of
/-- The world in Split's loop: the frame's own block, the row so far. -/
structure Sw (w W : World) (N B : Nat) (f : Fr) (m : Nat) (v : Value) (l : List Fr) : Prop where
  box : ∃ p b, OFr W B (frP f m p b)
  row : FRow (N + 1) W v l
  bel : Below N w W
  size : N + 1 ≤ W.heap.size
theorem frA_one19 (f : Fr) : ∀ u ∈ frC f, u.oneCell' = true := by
  intro u hu
  simp only [frC, List.mem_cons, List.not_mem_nil, or_false] at hu
  rcases hu with h | h | h | h | h | h | h | h | h | h | h | h | h | h | h | h | h | h | h <;> (subst h; rfl)
theorem frC_new (W : World) (f : Fr) (n : Nat) (hn : n = W.heap.size) : ∀ (j : Nat) (u : Value), (frC f)[j]? = some u → (W.alloc (.cells (frA f) 33)).cell? ((⟨n, 0, none⟩ : Addr).add j) = some u := by
  intro j u hu
  subst hn
  rw [Addr.add_mid, Nat.zero_add, World.cell?_alloc_new]
  simpa [frA] using hu

set_option maxRecDepth 100000 in
set_option maxHeartbeats 4000000 in
theorem cSplit (f : Fr) (v : Bs) (w : World) (hv : v.length ≤ maxLen) :
    Calls Try.prog 28 #[.agg (frA f), .string (S v)] w fun e w' => ∃ u, e = .returned u ∧ FRow w.heap.size w' u (spL f v (nP v)) ∧ Below w.heap.size w w' := by
  have hs : (S v).size = v.length := S_size v
  have hmi : (v.length : Int) ≤ 9223372036854775807 := by unfold maxLen at hv; omega
  have HPa := Lib.hid (fun W => cParts_any v.length W)
  rw [nP_parts] at HPa
  have hm4 := nP_le v
  have HCu := Lib.hid (fun (k : Nat) W (h : k < nP v) => nP_cut h ▸ cCut_any v k W hv (by unfold I64; omega))
  have hm4i : ((nP v : Nat) : Int) ≤ 4 := by omega
  have HW := Lib.hid (show Sw w (w.alloc (.cells (((frA f).setIfInBounds 0 (.int .i64 4)).setIfInBounds 17 (.int .u8 (nP v : Nat))) 33)) w.heap.size w.heap.size f (nP v) (.slice none 0 0) (spL f v 0) from
    ⟨⟨f.part, f.bytes, heap_alloc_new _ _⟩, FRow.nil _ _, one_S _ _ _, by simp⟩)
  go_enter Try.func28, Try.ntmps28
  go_wp2_with fail
  refine (HPa.out _).mono ?_
  rintro e w1 ⟨rfl, rfl⟩
  obtain ⟨i0, hi, hz0, hz1, hz2⟩ := info_parts infoFr
  have HZ := Lib.hid (⟨hi, hz0, hz1, hz2⟩ : _ ∧ _ ∧ _ ∧ _)
  clear hi hz0 hz1 hz2
  go_wp2
  generalize hN : w.heap.size = N at *
  go_loopw [5, 16] (fun t i W => ∃ k : Nat, k ≤ nP v ∧ i = .int .i64 k ∧ Hid (Sw w W N N f (nP v) t (spL f v k))) (fun _ i _ => nP v - (intOf i).toNat)
  case atStart => exact ⟨0, Nat.zero_le _, rfl, HW⟩
  case round =>
    obtain ⟨k, hk, rfl, hS⟩ := hrel
    clear HW
    obtain ⟨A, c, rfl⟩ := own_form hS.out.row
    have hlen := sp_len f v k
    by_cases hlt : k < nP v
    · have e1 : decide (k < nP v) = true := decide_eq_true hlt
      obtain ⟨q, b, ho⟩ := hS.out.box
      have x16 := ho.fr.at 16 rfl
      have x18 := ho.fr.at 18 rfl
      have f16 := ho.free 16
      have f18 := ho.free 18
      have hk4 : (k : Int) ≤ 255 := by omega
      have hsz : N + 1 ≤ wr.heap.size := hS.out.size
      have hO := (ho.s16 k).s18 (pcL v k)
      have hbel : Below N wr ((wr.setCell ⟨N, 16, none⟩ (.int .u8 (k : Nat))).setCell ⟨N, 18, none⟩ (.string (S (pcL v k)))) := ((Below.refl N wr).setCell (by simp) _).setCell (by simp) _
      have hout : ∀ g, (Value.slice A (spL f v k).length c).ownBlock = some g → g ≠ N := fun g hg => by have := own_base hS.out.row g hg; omega
      have hrow : FRow (N + 1) ((wr.setCell ⟨N, 16, none⟩ (.int .u8 (k : Nat))).setCell ⟨N, 18, none⟩ (.string (S (pcL v k)))) _ _ := FRow.only (ms := [N]) hS.out.row ((OnlyL.set (by simp) _ _).tr (OnlyL.set (by simp) _ _)) (fun g hg => by simpa using hout g hg)
      have hld := hO.fr.ld
      have hoA : OFr (((wr.setCell ⟨N, 16, none⟩ (.int .u8 (k : Nat))).setCell ⟨N, 18, none⟩ (.string (S (pcL v k)))).alloc (.cells (frA (frP f (nP v) k (pcL v k))) 33)) N (frP f (nP v) k (pcL v k)) := hO.kept (one_S _ _ _)
      have HOA := Lib.hid hoA
      have HO := Lib.hid (World.ownsRow.alloc hrow (.cells (frA (frP f (nP v) k (pcL v k))) 33))
      have HB := Lib.hid (hS.out.bel.trans hbel)
      have hsp := Lib.hid (sp_next f v k)
      have HL := Lib.hid hlen
      have HOut := Lib.hid hout
      have HBase := Lib.hid (fun g hg => own_base hrow g hg)
      clear hO ho hlen hrow hbel hoA hout
      go_wp2_with fail
      refine (HCu.out k _ hlt).mono ?_
      rintro e w2 ⟨rfl, rfl⟩
      go_wp2_with (at_builtin; refine wpList_append_own _ rfl (.tmp 26) (.tmp 28) 40 rfl (N + 1) 33 i0 (.agg (frA fr0)) 19 64 Try.underlying40 HZ.out.1 HZ.out.2.1 HZ.out.2.2.1 HZ.out.2.2.2 rfl (by decide) _ (spL f v k).length (frs (spL f v k)) rfl HO.out ⟨wr.heap.size, 0, none⟩ 1 1 (frC (frP f (nP v) k (pcL v k))) rfl rfl (frC_new _ _ _ (by simp)) (frA_one19 _) (by rw [HL.out]; unfold maxLen; omega) (by rw [HL.out]; omega) (by simp; omega) ?_)
      intro v1 w3 hown hgrow _
      have hS1 := Lib.hid (show Sw w w3 N N f (nP v) v1 (spL f v (k + 1)) from by
        refine ⟨⟨k, pcL v k, ?_⟩, ?_, HB.out.trans (((Below.refl _ _).alloc (by simp; omega) _).grown hgrow (by simp; omega) (fun g hg => by have := HBase.out g hg; omega)), by have := hgrow.size; simp at this; omega⟩
        · exact (hgrow.block N (by simp; omega) (fun e => HOut.out N e.symm rfl)).trans HOA.out
        · rw [hsp.out]
          show w3.ownsRow (N + 1) _ 19 v1 _ _
          rw [List.length_append, frs_app, frs_one]
          exact hown)
      clear hown hgrow
      go_wp2
      go_roundw
      case rel => exact ⟨k + 1, by omega, by go_num, hS1⟩
      case measure => simp [intOf]; omega
    · obtain rfl : k = nP v := by omega
      have e1 : decide (nP v < nP v) = false := by simp
      go_wp2
      go_ret
      exact ⟨_, rfl, hN ▸ own_mono hS.out.row (by omega), hN ▸ hS.out.bel⟩
end Go.Proofs.Ytbfjimbffpkkhaa.Pa
