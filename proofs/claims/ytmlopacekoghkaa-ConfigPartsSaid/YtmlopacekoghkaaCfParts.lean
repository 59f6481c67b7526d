/-
  The law ConfigParts, walked: it returns true. Conditions: none.
-/
import Derived.Test.YtmlopacekoghkaaCfRow
namespace Go.Proofs.Ytmlopacekoghkaa.Cf
open Go.RowKit
open Go.Proofs.Ytmlopacekoghkaa.Bl (Blk Spt findB layO noS Tells I64 one_S cell_of_row kept_own blkV spV Own2 Own4)
open Go.Proofs.Ytmlopacekoghkaa.Il (In)

theorem u8_nat {z : Int} (h : (Lit.int .u8 z).wf = true) : ∃ n : Nat, z = n ∧ (n : Int) ≤ 255 := by
  simp [Lit.wf, IntKind.min, IntKind.max, IntKind.signed, IntKind.bits] at h
  exact ⟨z.toNat, by omega, by omega⟩
/-- The cluster with other numbers. -/
def d1 (c : Clu) (v : Nat) : Clu := ⟨4 + (v : Int) % 47, 1 + (v : Int), 1 + (v : Int) % 50, (v : Int) % 4, 1 + (v : Int), 31, c.bl, c.st, c.bo, c.sh⟩
set_option maxRecDepth 100000 in
theorem tim_d1 (c : Clu) (v : Nat) (hv : (v : Int) ≤ 255) : timB (d1 c v) = true := by
  unfold timB d1
  simp only [Bool.and_eq_true, in_iff]
  omega
set_option maxRecDepth 100000 in
theorem chk_d1 {c : Clu} {v : Nat} (hv : (v : Int) ≤ 255) (h : (chkC c).1 = 0) : May (d1 c v) := may_numbers (chk_may.1 h) rfl rfl (tim_d1 c v hv) rfl
/-- A cluster's cells, which may be written. -/
def BoxC (W : World) (b : Nat) (c : Clu) : Prop := (W.cell? ⟨b, 0, none⟩ = some (.int .i64 c.sl) ∧ W.cell? ⟨b, 1, none⟩ = some (.int .i64 c.tt) ∧ W.cell? ⟨b, 2, none⟩ = some (.int .i64 c.gp) ∧ W.cell? ⟨b, 3, none⟩ = some (.int .i64 c.rt) ∧ W.cell? ⟨b, 4, none⟩ = some (.int .i64 c.lm) ∧ W.cell? ⟨b, 5, none⟩ = some (.int .i64 c.tp) ∧ W.cell? ⟨b, 6, none⟩ = some (.slice c.bo.ao c.bl.length c.bo.cap) ∧ W.cell? ⟨b, 7, none⟩ = some (.slice c.sh.ao c.st.length c.sh.cap)) ∧ ∀ j, W.frozen? ⟨b, j, none⟩ = false
theorem OwnC.box {W : World} {b : Nat} {c : Clu} {t : TypeId} (h : OwnC W b c t) : BoxC W b c := ⟨h.cells, fun j => by
  unfold World.frozen?
  rw [show W.heap[b]? = _ from h]
  simp⟩
theorem BoxC.kept {W W' : World} {b N : Nat} {c : Clu} (h : BoxC W b c) (hb : Below N W W') (hN : b < N) : BoxC W' b c :=
  ⟨⟨kept_cell hb hN h.1.1, kept_cell hb hN h.1.2.1, kept_cell hb hN h.1.2.2.1, kept_cell hb hN h.1.2.2.2.1, kept_cell hb hN h.1.2.2.2.2.1, kept_cell hb hN h.1.2.2.2.2.2.1, kept_cell hb hN h.1.2.2.2.2.2.2.1, kept_cell hb hN h.1.2.2.2.2.2.2.2⟩, fun j => (Bl.frozen_kept hb hN).trans (h.2 j)⟩
theorem BoxC.lt {W : World} {b : Nat} {c : Clu} (h : BoxC W b c) : b < W.heap.size := World.block_lt_of_cell? W _ h.1.1
set_option maxRecDepth 100000 in
theorem sl_r (b o m cap k : Nat) (hk : k < m) (hm : m ≤ cap) : ∃ ad : Addr, (k + 1 < m → ad = ⟨b, o + (k + 1) * 6, none⟩) ∧ ∀ W : World, (Instr.sliceAt 23 (.slice (some ⟨b, o, none⟩) m cap) (some (.int .i64 ((k : Int) + 1))) none none).run Try.prog W = .ok (.slice (some ad) (m - (k + 1)) (cap - (k + 1))) W := by
  have key : ∀ W : World, (Instr.sliceAt 23 (.slice (some ⟨b, o, none⟩) m cap) (some (.int .i64 ((k : Int) + 1))) none none).run Try.prog W = .ok (sliced (some ⟨b, o, none⟩) (k + 1) m cap 6) W := fun W => by
    rw [run_sliceAt_slice (P := Try.prog) W 23 _ _ _ _ Try.underlying23, run_slice_l (P := Try.prog) W 23 (some ⟨b, o, none⟩) m cap Try.underlying23 .i64 ((k : Int) + 1) (by omega) (by omega)]
    have hs : (sizeOf (Try.prog.elem 23)).run Try.prog W = .ok 6 W := by go_simp
    rw [hs, show ((k : Int) + 1).toNat = k + 1 by omega]
    rfl
  by_cases e : cap = k + 1
  · refine ⟨⟨b, o, none⟩, fun h => by omega, fun W => ?_⟩
    rw [key W]
    show Result.ok (sliced _ _ _ _ 6) W = _
    unfold sliced
    rw [if_pos e]
  · refine ⟨⟨b, o + (k + 1) * 6, none⟩, fun _ => rfl, fun W => ?_⟩
    rw [key W]
    show Result.ok (sliced _ _ _ _ 6) W = _
    unfold sliced
    rw [if_neg e]
    simp [Addr.add_mid]
set_option maxRecDepth 100000 in
theorem sl_h (b o m cap k : Nat) (hk : k ≤ cap) (W : World) : (Instr.sliceAt 23 (.slice (some ⟨b, o, none⟩) m cap) none (some (.int .i64 (k : Int))) none).run Try.prog W = .ok (.slice (some ⟨b, o, none⟩) k cap) W := by
  rw [run_sliceAt_slice (P := Try.prog) W 23 _ _ _ _ Try.underlying23, run_slice_h (P := Try.prog) W 23 (some ⟨b, o, none⟩) m cap Try.underlying23 .i64 (k : Int) (by omega) (by omega)]
  have hs : (sizeOf (Try.prog.elem 23)).run Try.prog W = .ok 6 W := by go_simp
  rw [hs]
  show Result.ok (sliced _ _ _ _ 6) W = _
  unfold sliced
  rw [Int.toNat_natCast]
  congr 2
  split
  · rfl
  · simp [Addr.add]
theorem RowT.take {W : World} {N : Nat} {ao : Option Addr} {l : List Sta} (h : RowT W N ao l) (k : Nat) : RowT W N ao (l.take k) := fun h1 => by
  rw [List.length_take] at h1
  obtain ⟨b, o, e, hb, hI⟩ := h (by omega)
  refine ⟨b, o, e, hb, fun i x hx => hI i x ?_⟩
  rw [List.getElem?_take] at hx
  split at hx
  · exact hx
  · cases hx
theorem RowT.drop {W : World} {N b o k : Nat} {l : List Sta} {ad : Addr} (h : RowT W N (some ⟨b, o, none⟩) l) (hk : k < l.length) (had : k + 1 < l.length → ad = ⟨b, o + (k + 1) * 6, none⟩) : RowT W N (some ad) (l.drop (k + 1)) := fun h1 => by
  rw [List.length_drop] at h1
  obtain ⟨b', o', e, hb, hI⟩ := h (by omega)
  injection e with e
  injection e with e1 e2
  subst e1 e2
  refine ⟨b, o + (k + 1) * 6, by rw [had (by omega)], hb, fun i x hx => ?_⟩
  rw [List.getElem?_drop] at hx
  have := hI _ x hx
  rwa [show o + (k + 1 + i) * 6 = o + (k + 1) * 6 + i * 6 by omega] at this
theorem RowT.set {W : World} {N b j : Nat} {v : Value} {ao : Option Addr} {l : List Sta} (h : RowT W N ao l) (hne : ∀ p, ao = some p → b ≠ p.block) : RowT (W.setCell ⟨b, j, none⟩ v) N ao l := fun h1 => by
  obtain ⟨c, o, e, hlt, hI⟩ := h h1
  have hn : ∀ k, (⟨b, j, none⟩ : Addr) ≠ ⟨c, k, none⟩ := fun k e2 => hne _ e (by injection e2)
  refine ⟨c, o, e, hlt, fun i x hx => ?_⟩
  obtain ⟨q0, q1, q2, q3, q4, q5⟩ := hI i x hx
  exact ⟨(World.cell?_setCell_other _ _ _ _ (hn _)).trans q0, (World.cell?_setCell_other _ _ _ _ (hn _)).trans q1, (World.cell?_setCell_other _ _ _ _ (hn _)).trans q2, (World.cell?_setCell_other _ _ _ _ (hn _)).trans q3, (World.cell?_setCell_other _ _ _ _ (hn _)).trans q4, (World.cell?_setCell_other _ _ _ _ (hn _)).trans q5⟩
/-- .. and without one of its stations. -/
def d2 (c : Clu) (v k : Nat) (hd : Hd) : Clu := ⟨4 + (v : Int) % 47, 1 + (v : Int), 1 + (v : Int) % 50, (v : Int) % 4, 1 + (v : Int), 31, c.bl, cutL c.st k, c.bo, hd⟩
theorem chk_d2 {c : Clu} {v k : Nat} {hd : Hd} (hv : (v : Int) ≤ 255) (h : May (d1 c v)) (hk : k < c.st.length) (h2 : 2 ≤ c.st.length) : chkC (d2 c v k hd) = (0, 0) :=
  chk_zero (chk_may.2 (may_cut (d := d2 c v k hd) h (k := k) hk h2 rfl rfl (tim_d1 c v hv) rfl))
theorem cut_mem {l : List Sta} {k i : Nat} {x : Sta} (hk : k < l.length) (h : (cutL l k)[i]? = some x) : ∃ j : Nat, l[j]? = some x := by
  rw [cut_at hk] at h
  exact ⟨_, h⟩
theorem fit_d2 {c : Clu} {v k : Nat} {hd : Hd} (hF : FitC c) (hk : k < c.st.length) (hh : FitH hd (cutL c.st k).length) : FitC (d2 c v k hd) :=
  ⟨hF.1, hh, fun i x hx => by obtain ⟨j, hj⟩ := cut_mem hk hx; exact hF.2.2 j x hj⟩
theorem BoxC.set7 {W : World} {b v k : Nat} {c : Clu} (h : BoxC W b (d1 c v)) (hd : Hd) : BoxC (W.setCell ⟨b, 7, none⟩ (.slice hd.ao (cutL c.st k).length hd.cap)) b (d2 c v k hd) := by
  obtain ⟨⟨c0, c1, c2, c3, c4, c5, c6, c7⟩, hf⟩ := h
  exact ⟨⟨set_at c0 (by decide), set_at c1 (by decide), set_at c2 (by decide), set_at c3 (by decide), set_at c4 (by decide), set_at c5 (by decide), set_at c6 (by decide), World.cell?_setCell_same _ _ _ c7⟩, fun j => by rw [World.frozen?_setCell]; exact hf j⟩
/-- A world of the law: the cluster, and one of its own. -/
structure Dw (w W : World) (c d : Clu) (p : Nat) : Prop where
  cw : Cw w W c w.heap.size
  od : BoxC W p d
theorem Dw.next {w W W' : World} {c d : Clu} {p : Nat} (h : Dw w W c d p) (hb : Below W.heap.size W W') : Dw w W' c d p := ⟨h.cw.next hb, h.od.kept hb h.od.lt⟩
set_option maxRecDepth 100000 in
theorem Dw.lies {w W : World} {c : Clu} {v p : Nat} (h : Dw w W c (d1 c v) p) : CluL W W.heap.size (d1 c v) := ⟨h.cw.ca.self.lies.bl, h.cw.ca.self.lies.row, h.cw.ca.self.lies.st⟩

set_option maxRecDepth 100000 in
set_option maxHeartbeats 8000000 in
theorem parts_walk (c : Clu) (m v : Nat) (w : World) (hL : CluL w w.heap.size c) (hF : FitC c) (hm : (m : Int) ≤ 255) (hv : (v : Int) ≤ 255) :
    Calls Try.prog 5 #[.agg (cluC c), .int .u8 m, .int .u8 v] w (Tells (.bool true) w) := by
  have hA := Cw.first hL
  obtain ⟨g0, g1, g2, g3, g4, g5, g6, g7⟩ := hA.ow.cells
  have HA := Lib.hid hA
  have HK := Lib.hid wake_any
  have HS := Lib.hid (fun W (h : Ca w W c) => small_any c W h.self.lies hF)
  have HC := Lib.hid (fun W (h : Ca w W c) => cCheck_any c W h.self.lies hF)
  obtain ⟨b, hb⟩ : ∃ b, b = smallC c := ⟨_, rfl⟩
  rw [← hb] at HS
  have HB := Lib.hid hb
  have HFi := Lib.hid hF
  obtain ⟨⟨R1, R2⟩, hR⟩ : ∃ R, R = chkC c := ⟨_, rfl⟩
  rw [← hR] at HC
  have HR := Lib.hid hR
  unfold Bl.errV at HC
  dsimp only at HC
  clear hA hL hF hb hR
  unfold cluC at g0 g1 g2 g3 g4 g5 g6 g7 HA HS HC ⊢
  go_enter Try.func5, Try.ntmps5
  go_wp2_with fail
  refine (HK.out _).mono ?_
  rintro e w1 ⟨rfl, hb⟩
  have HA1 := Lib.hid (HA.out.next hb)
  clear hb HA
  obtain ⟨g0, g1, g2, g3, g4, g5, g6, g7⟩ := HA1.out.ow.cells
  go_wp2_with fail
  refine (HS.out _ HA1.out.ca).mono ?_
  rintro e w2 ⟨rfl, hb⟩
  have HA2 := Lib.hid (HA1.out.next hb)
  clear hb HA1 HS
  obtain ⟨g0, g1, g2, g3, g4, g5, g6, g7⟩ := HA2.out.ow.cells
  cases b
  · go_wp2
    go_ret
    exact ⟨rfl, HA2.out.ca.below⟩
  obtain ⟨h40, hb40, hsm⟩ := small_of HB.out.symm
  by_cases hz : R1 = 0
  · subst hz
    go_wp2_with fail
    refine (HC.out _ HA2.out.ca).mono ?_
    rintro e w3 ⟨rfl, hb⟩
    have HA3 := Lib.hid (HA2.out.next hb)
    clear hb HA2
    obtain ⟨g0, g1, g2, g3, g4, g5, g6, g7⟩ := HA3.out.ow.cells
    have hmay := chk_d1 (c := c) hv (by rw [← HR.out])
    have HD := Lib.hid (fun W (h : Dw w W c (d1 c v) w3.heap.size) => cCheck_any (d1 c v) W h.lies HFi.out)
    rw [chk_zero (chk_may.2 hmay)] at HD
    have HM := Lib.hid hmay
    have HW := Lib.hid (show Dw w (w3.alloc (.cells (cluC (d1 c v)) 25)) c (d1 c v) w3.heap.size from ⟨HA3.out.next (one_S w3 (cluC (d1 c v)) 25), (OwnC.new w3 (d1 c v) 25).box⟩)
    unfold cluC at HD HW
    unfold Bl.errV at HD
    dsimp only at HD
    unfold d1 at HD HW
    dsimp only at HD HW
    have hltc := HA3.out.ow.lt
    generalize hp : w3.heap.size = p at *
    clear hmay HA3
    go_wp2_with fail
    refine (HD.out _ HW.out).mono ?_
    rintro e w4 ⟨rfl, hb⟩
    have HW4 := Lib.hid (HW.out.next hb)
    clear hb HW hp
    obtain ⟨g0, g1, g2, g3, g4, g5, g6, g7⟩ := HW4.out.cw.ow.cells
    by_cases h2 : c.st.length < 2
    · have e2 : decide ((c.st.length : Int) < 2) = true := by simp; omega
      go_wp2
      go_ret
      exact ⟨rfl, HW4.out.cw.ca.below⟩
    · have e2 : decide ((c.st.length : Int) < 2) = false := by simp; omega
      obtain ⟨k, hk, hkl⟩ : ∃ k : Nat, (m : Int) % (c.st.length : Int) = k ∧ k < c.st.length := ⟨m % c.st.length, by simp, Nat.mod_lt _ (by omega)⟩
      obtain ⟨b0, o0, hao, hb0, -⟩ := HW4.out.cw.ca.lies.row (by omega)
      have hcap : c.st.length ≤ c.sh.cap := HFi.out.2.1.1
      obtain ⟨ad, had, hsl⟩ := sl_r b0 o0 c.st.length c.sh.cap k hkl hcap
      rw [hao] at g7
      have hml : (c.sh.cap : Int) ≤ 9223372036854775807 := by have := HFi.out.2.1.2.1; unfold maxLen at this; omega
      have HK2 := Lib.hid (fun W' (hb : Below w4.heap.size w4 W') => kept_own hb g7)
      have hkc : k ≤ c.sh.cap := by omega
      have hwk : IntKind.i64.wrap ((k : Int) + 1) = (k : Int) + 1 := by rw [IntKind.wrap_i64]; omega
      have hsh := sl_h b0 o0 c.st.length c.sh.cap k hkc
      have hHO : ∀ W : World, OwnT (W.alloc (.cells #[] 36)).drew W.heap.size (.slice (some ⟨W.heap.size, 0, none⟩) 0 0) [] := fun W => OwnT.empty W
      have HO0 := Lib.hid (hHO w4)
      have HB0 := Lib.hid (show Below w4.heap.size w4 (w4.alloc (.cells #[] 36)).drew from ((Below.refl _ _).alloc (Nat.le_refl _) _).drew)
      have hr0 := (HW4.out.cw.ca.lies.row.more HW4.out.cw.ca.below.size).below HB0.out
      rw [hao] at hr0
      have HR0 := Lib.hid (hr0.take k)
      have hlk : (c.st.take k).length = k := by rw [List.length_take]; omega
      have hld : (c.st.drop (k + 1)).length = c.st.length - (k + 1) := by rw [List.length_drop]
      have HR9 := Lib.hid (hr0.drop hkl had)
      have hl1 : ([] : List Sta).length + (c.st.take k).length ≤ 1000 := by rw [hlk]; simp; omega
      have hl2 : (c.st.take k).length + (c.st.drop (k + 1)).length ≤ 1000 := by rw [hlk, hld]; omega
      have HK3 := Lib.hid (fun (W' : World) (u : Value) (h : W'.cell? ⟨w.heap.size, 7, none⟩ = some (.slice (some ⟨b0, o0, none⟩) c.st.length c.sh.cap)) => (World.cell?_setCell_other W' ⟨p, 7, none⟩ ⟨w.heap.size, 7, none⟩ u (fun e => by injection e with e; omega)).trans h)
      have HW5 := Lib.hid (HW4.out.next HB0.out)
      have HL := Lib.hid (⟨hlk, hld, hl1, hl2, HB0.out.size⟩ : _ ∧ _ ∧ _ ∧ _ ∧ _)
      clear hlk hld hl1 hl2 hr0 hHO
      go_wp2_with fail
      go_region_held3 (fun W' => W'.cell? ⟨w.heap.size, 7, none⟩ = some (.slice (some ⟨b0, o0, none⟩) c.st.length c.sh.cap))
        (first | with_reducible exact HK2.out _ B1.out | with_reducible exact HK3.out _ _ (HK2.out _ K2.out.2.2.2) | with_reducible exact HK2.out _ K2.out.2.2.2 | with_reducible exact HK2.out _ (Below.refl _ _).drew | with_reducible exact HK2.out _ (((Below.refl _ _).alloc (Nat.le_refl _) _).drew))
        ((first
        | ((refine step_apT rfl (.tmp 72) (.tmp 76) rfl w4.heap.size _ [] (c.st.take k) k rfl HO0.out ⟨b0, o0, none⟩ c.sh.cap rfl HL.out.1.symm (HR0.out.more HB0.out.size) HL.out.2.2.1 HL.out.2.2.2.2 ?_); intro v1 q1 k1 b1; have K1 := Lib.hid k1; have B1 := Lib.hid (HB0.out.trans b1); have R1 := Lib.hid (HR9.out.below b1); clear k1 b1)
        | ((refine step_apT rfl (.tmp 77) (.tmp 82) rfl w4.heap.size _ (c.st.take k) (c.st.drop (k + 1)) (c.st.length - (k + 1)) rfl K1.out ad (c.sh.cap - (k + 1)) rfl HL.out.2.1.symm (R1.out.more B1.out.size) HL.out.2.2.2.1 B1.out.size ?_); intro v2 q2 k2 b2; replace k2 : OwnT q2 w4.heap.size v2 (cutL c.st k) := k2; obtain ⟨hd, rfl, hk2, hr2, hq2⟩ := OwnT.head k2; have K2 := Lib.hid (⟨hk2, hr2, hq2, B1.out.trans b2⟩ : _ ∧ _ ∧ _ ∧ _); have hZ := HW4.out.next (B1.out.trans b2); have z7 := hZ.od.1.2.2.2.2.2.2.2; have f7 := hZ.od.2 7; clear hZ; dsimp only at z7; clear k2 b2 hk2 hr2 hq2)))
      obtain ⟨hk2, hr2, hq2, hb2⟩ := K2.out
      have hZ := HW4.out.next hb2
      have hbz : Below w.heap.size w (q2.setCell ⟨p, 7, none⟩ (.slice hd.ao (cutL c.st k).length hd.cap)) := hZ.cw.ca.below.setCell (show w.heap.size ≤ p by omega) _
      have hLz : CluL (q2.setCell ⟨p, 7, none⟩ (.slice hd.ao (cutL c.st k).length hd.cap)) (q2.setCell ⟨p, 7, none⟩ (.slice hd.ao (cutL c.st k).length hd.cap)).heap.size (d2 c v k hd) := by
        have hcz := (hZ.cw.ca.turn ((Below.refl _ q2).setCell (p := ⟨p, 7, none⟩) (show w.heap.size ≤ p by omega) (.slice hd.ao (cutL c.st k).length hd.cap))).self
        refine ⟨hcz.lies.bl, ?_, fun i x hx => ?_⟩
        · have hsz : (q2.setCell ⟨p, 7, none⟩ (.slice hd.ao (cutL c.st k).length hd.cap)).heap.size = q2.heap.size := by simp [World.setCell]
          rw [hsz]
          exact hr2.set fun a e => by have h1 := hq2 a e; have h3 := HW4.out.od.lt; omega
        · obtain ⟨j, hj⟩ := cut_mem hkl hx
          exact hcz.lies.st j x hj
      have HZc := Lib.hid (cCheck_any (d2 c v k hd) _ hLz (fit_d2 HFi.out hkl hk2))
      rw [chk_d2 hv HM.out hkl (by omega)] at HZc
      obtain ⟨z0, z1, z2, z3, z4, z5, z6, z8⟩ := (BoxC.set7 (k := k) hZ.od hd).1
      have HBz := Lib.hid hbz
      unfold cluC at HZc
      unfold d2 at HZc z0 z1 z2 z3 z4 z5 z6 z8
      unfold Bl.errV at HZc
      dsimp only at HZc z0 z1 z2 z3 z4 z5 z6 z8
      clear hk2 hr2 hq2 hb2 hZ hbz hLz K2
      go_wp2_with fail
      refine HZc.out.mono ?_
      rintro e w6 ⟨rfl, hb⟩
      have HE := Lib.hid (HBz.out.trans (hb.mono HBz.out.size))
      clear hb
      go_wp2
      go_ret
      exact ⟨rfl, HE.out⟩
  · have e1 : (R1 != 0) = true := by simpa [bne_iff_ne] using hz
    clear hz
    go_wp2_with fail
    refine (HC.out _ HA2.out.ca).mono ?_
    rintro e w3 ⟨rfl, hb⟩
    have HA3 := Lib.hid (HA2.out.next hb)
    clear hb HA2
    go_wp2
    go_ret
    exact ⟨rfl, HA3.out.ca.below⟩
end Go.Proofs.Ytmlopacekoghkaa.Cf
