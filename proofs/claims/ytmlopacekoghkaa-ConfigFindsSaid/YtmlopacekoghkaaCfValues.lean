/-
  Values and the reference's, walked. Conditions: up to 40 spots.
-/
import Derived.Test.YtmlopacekoghkaaCfFault
import Derived.Test.YtmlopacekoghkaaBlRefC
import Derived.Laws.MakeOwn
import Derived.Deep.AppendLies
import Derived.OwnWalk
namespace Go.Proofs.Ytmlopacekoghkaa.Cf
open Go.RowKit
open Go.Proofs.Ytmlopacekoghkaa.Bl (Blk Spt findB layO noS Tells I64 one_S cell_of_row kept_own blkV spV Own2 Own4)
open Go.Proofs.Ytmlopacekoghkaa.Il (In)

theorem infoInt : (Try.prog.info? 3).map (fun i => (i.zero, i.size, i.bytes)) = some (some (.int .i64 0), 1, 8) := by kernel_rfl
def ints (l : List Int) : List Value := l.map (Value.int .i64)
theorem ints_len (l : List Int) : (ints l).length = l.length := by simp [ints]
theorem own_base {w : World} {base n size : Nat} {e : TypeId} {v : Value} {xs : List Value} (h : w.ownsRow base e size v n xs) (g : Nat) (hg : v.ownBlock = some g) : base ≤ g := by
  rcases h.2 with ⟨rfl, _⟩ | ⟨g', cap, cur, rfl, hb, _⟩
  · simp [Value.ownBlock] at hg
  · simp [Value.ownBlock] at hg; omega
theorem own_form {w : World} {base n size : Nat} {e : TypeId} {v : Value} {xs : List Value} (h : w.ownsRow base e size v n xs) : ∃ A c, v = .slice A n c := by
  rcases h.2 with ⟨rfl, h0⟩ | ⟨g', cap, cur, rfl, _⟩
  · exact ⟨none, 0, by rw [h0]⟩
  · exact ⟨_, _, rfl⟩
theorem own_kept {N : Nat} {w w' : World} {v : Value} {e : TypeId} {n : Nat} {l : List Value} (h : w.ownsRow N e 1 v n l) (hb : Below w.heap.size w w') : w'.ownsRow N e 1 v n l := by
  rcases h.2 with ⟨rfl, h0⟩ | ⟨g, cap, cur, rfl, hN, hg, h1, h2, h3, h4⟩
  · exact ⟨h.1, .inl ⟨rfl, h0⟩⟩
  · exact ⟨h.1, .inr ⟨g, cap, cur, rfl, hN, (hb.block g (Array.getElem?_eq_some_iff.1 hg).1).trans hg, h1, h2, h3, h4⟩⟩
/-- Numbers in a row of the call's own. -/
def OwnN (w : World) (N : Nat) (v : Value) (l : List Int) : Prop := w.ownsRow N 3 1 v l.length (ints l)
theorem OwnN.nil (N : Nat) (w : World) : OwnN w N (.slice none 0 0) [] := ⟨rfl, .inl ⟨rfl, rfl⟩⟩
theorem cell_one_new (w : World) (v : Value) (t : TypeId) : ∀ (j : Nat) (u : Value), [v][j]? = some u → (w.alloc (.cells #[v] t)).cell? ((⟨w.heap.size, 0, none⟩ : Addr).add j) = some u := by
  intro j u hu
  match j with
  | 0 =>
    simp at hu
    subst hu
    simp [Addr.add]
  | j + 1 => simp at hu
/-- Numbers that lie below N. -/
def LiesN (w : World) (N : Nat) (ao : Option Addr) (l : List Int) : Prop := 1 ≤ l.length → ∃ b o, ao = some ⟨b, o, none⟩ ∧ b < N ∧ ∀ (i : Nat) (x : Int), l[i]? = some x → w.cell? ⟨b, o + i, none⟩ = some (.int .i64 x)
theorem LiesN.below {w w' : World} {N : Nat} {ao : Option Addr} {l : List Int} (h : LiesN w N ao l) (hb : Below N w w') : LiesN w' N ao l := by
  intro h1
  obtain ⟨b, o, ha, hlt, hI⟩ := h h1
  exact ⟨b, o, ha, hlt, fun i x hx => kept_cell hb hlt (hI i x hx)⟩
theorem LiesN.more {w : World} {N M : Nat} {ao : Option Addr} {l : List Int} (h : LiesN w N ao l) (hm : N ≤ M) : LiesN w M ao l := by
  intro h1
  obtain ⟨b, o, ha, hlt, hI⟩ := h h1
  exact ⟨b, o, ha, by omega, hI⟩
theorem OwnN.head {w : World} {N : Nat} {v : Value} {l : List Int} (h : OwnN w N v l) : ∃ k : Hd, v = .slice k.ao l.length k.cap ∧ FitH k l.length ∧ LiesN w w.heap.size k.ao l := by
  rcases h.2 with ⟨rfl, h0⟩ | ⟨g, cap, cur, rfl, hN, hg, h1, h2, h3, h4⟩
  · exact ⟨⟨none, 0⟩, by rw [h0], ⟨by show l.length ≤ 0; omega, Nat.zero_le _, fun _ => rfl⟩, fun h1 => by omega⟩
  · refine ⟨⟨some ⟨g, 0, none⟩, cap⟩, rfl, ⟨h1, h2, fun e => by cases e⟩, fun _ => ⟨g, 0, rfl, (Array.getElem?_eq_some_iff.1 hg).1, fun i x hx => ?_⟩⟩
    have hi := (List.getElem?_eq_some_iff.1 hx).1
    rw [Nat.zero_add, World.ownsRow.cellAt h i (by omega)]
    unfold ints
    rw [List.getElem?_map, hx]
    rfl
/-- A world of Values: a cluster, a station, the numbers so far. -/
structure Vw (w W : World) (c : Clu) (s : Sta) (v : Value) (l : List Int) : Prop where
  cs : Cs w W c w.heap.size s (w.heap.size + 1)
  sb : Bl.LiesS W w.heap.size s.so.ao s.sb
  row : OwnN W (w.heap.size + 2) v l
section
variable {w W W' : World} {c : Clu} {s : Sta} {v : Value} {l : List Int}
theorem Vw.next (h : Vw w W c s v l) (hb : Below W.heap.size W W') : Vw w W' c s v l := ⟨h.cs.next hb, h.sb.below (hb.mono h.cs.cw.ca.below.size), own_kept h.row hb⟩
theorem Vw.turn {v' : Value} {l' : List Int} (h : Vw w W c s v l) (hb : Below (w.heap.size + 2) W W') (hr : OwnN W' (w.heap.size + 2) v' l') : Vw w W' c s v' l' :=
  ⟨⟨⟨h.cs.cw.ca.turn (hb.mono (Nat.le_add_right _ _)), h.cs.cw.ow.kept hb (by omega)⟩, h.cs.os.kept hb (by omega)⟩, h.sb.below (hb.mono (Nat.le_add_right _ _)), hr⟩
theorem Vw.size (h : Vw w W c s v l) : w.heap.size + 2 ≤ W.heap.size := h.cs.os.lt
theorem Vw.first (h : CluL w w.heap.size c) (hs : Bl.LiesS w w.heap.size s.so.ao s.sb) : Vw w ((w.alloc (.cells (cluC c) 25)).alloc (.cells (staC s) 36)) c s (.slice none 0 0) [] := by
  have h1 := one_S w (cluC c) 25
  have h2 := one_S (w.alloc (.cells (cluC c) 25)) (staC s) 36
  refine ⟨⟨(Cw.first h).next h2, ?_⟩, hs.below (h1.trans (h2.mono h1.size)), OwnN.nil _ _⟩
  have := Own6.new (w.alloc (.cells (cluC c) 25)) s 36
  rwa [show (w.alloc (.cells (cluC c) 25)).heap.size = w.heap.size + 1 by simp] at this
end
theorem four_set2 {W : World} {N : Nat} {c2 : Value} (h2 : W.cell? ⟨N, 2, none⟩ = some c2) (v0 v1 v2 v3 : Value) :
    ((((W.setCell ⟨N, 0, none⟩ v0).setCell ⟨N, 1, none⟩ v1).setCell ⟨N, 2, none⟩ v2).setCell ⟨N, 3, none⟩ v3).cell? ⟨N, 2, none⟩ = some v2 := by
  rw [World.cell?_setCell_other _ _ _ _ (Bl.off_ne N (by decide))]
  exact World.cell?_setCell_same _ _ _ ((World.cell?_setCell_other _ _ _ _ (Bl.off_ne N (by decide))).trans ((World.cell?_setCell_other _ _ _ _ (Bl.off_ne N (by decide))).trans h2))
def Valued (w : World) (l : List Int) (e : Ending) (w' : World) : Prop := ∃ k : Hd, e = .returned (.slice k.ao l.length k.cap) ∧ FitH k l.length ∧ LiesN w' w'.heap.size k.ao l ∧ Below w.heap.size w w'

set_option maxRecDepth 100000 in
set_option maxHeartbeats 4000000 in
theorem qValues_any (c : Clu) (s : Sta) (w : World) (hL : CluL w w.heap.size c) (hF : FitC c) (hs : Bl.LiesS w w.heap.size s.so.ao s.sb) (hf : FitH s.so s.sb.length) (h40 : s.sb.length ≤ 40) :
    Calls Try.prog 18 #[.agg (cluC c), .agg (staC s)] w (Valued w (valL c.bl s.sb)) := by
  have hml : (s.sb.length : Int) ≤ 9223372036854775807 := by omega
  have hlc : s.sb.length ≤ s.so.cap := hf.1
  obtain ⟨i0, hi, hz0, hz1, hz2⟩ := Bl.info_parts infoInt
  have HZ := Lib.hid (⟨hi, hz0, hz1, hz2⟩ : _ ∧ _ ∧ _ ∧ _)
  have hV := Vw.first hL hs
  obtain ⟨d0, d1, d2, d3, d4, d5⟩ := hV.cs.os.cells
  have HV := Lib.hid hV
  have HFi := Lib.hid (fun (id : Int) W (h : Cs w W c w.heap.size s (w.heap.size + 1)) => Bl.rFind_any c.bl c.bo.ao c.bo.cap id W h.cw.ca.self.lies.bl (Nat.le_trans hF.1.1 hF.1.2.1))
  clear hV hL hF hs hf hi hz0 hz1 hz2
  unfold cluC staC at *
  go_enter Try.func18, Try.ntmps18
  go_wp2
  clear d0 d1 d2 d3 d4 d5
  go_loopw [5, 6] (fun v j W => ∃ q : Nat, q ≤ s.sb.length ∧ j = .int .i64 q ∧ Hid (Vw w W c s v (valL c.bl (s.sb.take q)))) (fun _ j _ => s.sb.length - (intOf j).toNat)
  case atStart => exact ⟨0, Nat.zero_le _, rfl, HV⟩
  case round =>
    obtain ⟨q, hq, rfl, hV⟩ := hrel
    clear HV
    obtain ⟨d0, d1, d2, d3, d4, d5⟩ := hV.out.cs.os.cells
    obtain ⟨g0, g1, g2, g3, g4, g5, g6, g7⟩ := hV.out.cs.cw.ow.cells
    by_cases hlt : q < s.sb.length
    · have e1 : decide ((q : Int) < (s.sb.length : Int)) = true := by simp; omega
      obtain ⟨A, cc, rfl⟩ := own_form hV.out.row
      obtain ⟨y, hy⟩ : ∃ y, s.sb[q]? = some y := ⟨_, List.getElem?_eq_getElem (by omega)⟩
      obtain ⟨b1, o1, hbo, hb1, hcs⟩ := hV.out.sb (by omega)
      obtain ⟨c0, c1⟩ := hcs q y hy
      rw [hbo] at d4
      have HFq := Lib.hid (fun W (h : Cs w W c w.heap.size s (w.heap.size + 1)) => HFi.out y.b W h)
      obtain ⟨⟨x, fd⟩, hx⟩ : ∃ r, r = findB c.bl y.b := ⟨_, rfl⟩
      have HVal := Lib.hid (val_at (D := c.bl) hy)
      rw [← hx] at HFq HVal
      unfold Bl.foundV blkV at HFq
      dsimp only at HFq HVal
      have HK := Lib.hid (fun W' (hb : Below wr.heap.size wr W') => (⟨kept_own hb g6, kept_own hb d4, kept_own hb c0⟩ : W'.cell? ⟨w.heap.size, 6, none⟩ = some (.slice c.bo.ao c.bl.length c.bo.cap) ∧ W'.cell? ⟨w.heap.size + 1, 0 + 4, none⟩ = some (.slice (some ⟨b1, o1, none⟩) s.sb.length s.so.cap) ∧ W'.cell? ⟨b1, o1 + q * 2, none⟩ = some (.int .i64 y.b)))
      have oz := one_S wr #[.int .i64 0, .int .i64 0, .int .i64 0, .bool false] 61
      have hQ1 := Lib.hid (show Below wr.heap.size wr (wr.alloc (.cells #[.int .i64 0, .int .i64 0, .int .i64 0, .bool false] 61)).drew ∧ Cs w (wr.alloc (.cells #[.int .i64 0, .int .i64 0, .int .i64 0, .bool false] 61)).drew c w.heap.size s (w.heap.size + 1) ∧ Own4 (wr.alloc (.cells #[.int .i64 0, .int .i64 0, .int .i64 0, .bool false] 61)).drew wr.heap.size Bl.noB 61 from ⟨oz.drew, (hV.out.cs.next oz).next (Below.refl _ _).drew, Own4.new wr Bl.noB 61⟩)
      clear oz
      have hA1 := Lib.hid (hV.out.cs.next (Below.refl _ _).drew)
      have hP1 := Lib.hid (show Below wr.heap.size wr wr.drew from (Below.refl _ _).drew)
      clear hcs hx hy c1
      go_wp2_with fail
      go_region_held3 (fun W' => W'.cell? ⟨w.heap.size, 6, none⟩ = some (.slice c.bo.ao c.bl.length c.bo.cap) ∧ W'.cell? ⟨w.heap.size + 1, 0 + 4, none⟩ = some (.slice (some ⟨b1, o1, none⟩) s.sb.length s.so.cap) ∧ W'.cell? ⟨b1, o1 + q * 2, none⟩ = some (.int .i64 y.b))
        (first | with_reducible exact HK.out _ hP1.out | with_reducible exact HK.out _ (Bl.alloc_below hP1.out _ _) | with_reducible exact HK.out _ hQ1.out.1 | with_reducible exact HK.out _ (Bl.set4_below hP1.out _ _ _ _))
        ((first
          | (go_at_call 30; (with_reducible refine (HFq.out _ hA1.out).mono ?_); rintro e w20 ⟨rfl, hb20⟩; have hP2 := Lib.hid (show Below wr.heap.size wr w20 from (Below.refl wr.heap.size wr).drew.trans hb20); clear hb20 hP1; have hP1 := hP2; clear hP2)
          | (go_at_call 30; (with_reducible refine (HFq.out _ hQ1.out.2.1).mono ?_); rintro e w20 ⟨rfl, hb20⟩; have hP2 := Lib.hid (show Below wr.heap.size wr w20 from hQ1.out.1.trans (hb20.mono hQ1.out.1.size)); have hz := hQ1.out.2.2.kept hb20 hQ1.out.2.2.lt; obtain ⟨z0, z1, z2, z3⟩ := hz.cells; have zf := hz.frozen; have f0 := zf 0; have f1 := zf 1; have f2 := zf 2; have f3 := zf 3; clear hb20 zf hz hP1; have hP1 := hP2; clear hP2)))
      · obtain ⟨v0, v1, v2, v3⟩ := (Own4.new w20 x 61).cells
        have HV5 := Lib.hid (hV.out.next (Bl.alloc_below hP1.out #[.int .i64 x.id, .int .i64 x.ad, .int .i64 x.sz, .bool x.hi] 61))
        clear hV hA1 hQ1 hP1 HK c0
        obtain ⟨W5, hW5⟩ : ∃ W, W = w20.alloc (.cells #[.int .i64 x.id, .int .i64 x.ad, .int .i64 x.sz, .bool x.hi] 61) := ⟨_, rfl⟩
        rw [← hW5] at HV5 v0 v1 v2 v3 ⊢
        clear hW5
        have hlen : (valL c.bl (s.sb.take q)).length ≤ 40 := by rw [val_len, List.length_take]; omega
        have hsz : w.heap.size + 2 ≤ W5.heap.size := HV5.out.size
        have HO := Lib.hid (World.ownsRow.alloc HV5.out.row (.cells #[.int .i64 x.sz] 3))
        clear d0 d1 d2 d3 d4 d5 g0 g1 g2 g3 g4 g5 g6 g7
        go_wp2_with (at_builtin; refine wpList_append_own _ rfl (.tmp 28) (.tmp 31) 44 rfl (w.heap.size + 2) 3 i0 (.int .i64 0) 1 8 Try.underlying44 HZ.out.1 HZ.out.2.1 HZ.out.2.2.1 HZ.out.2.2.2 rfl (by decide) _ (valL c.bl (s.sb.take q)).length (ints (valL c.bl (s.sb.take q))) rfl HO.out ⟨W5.heap.size, 0, none⟩ 1 1 [.int .i64 x.sz] rfl rfl (cell_one_new _ _ _) (by intro u hu; simp at hu; subst hu; rfl) (by unfold maxLen; omega) (by omega) (by simp; omega) ?_)
        intro v1 w1 hown hgrow _
        have hV1 := Lib.hid (show Vw w w1 c s v1 (valL c.bl (s.sb.take (q + 1))) by
          have hbel : Below (w.heap.size + 2) W5 w1 := ((Below.refl _ W5).alloc hsz _).grown hgrow (by simp; omega) (fun g hg => own_base HV5.out.row g hg)
          refine HV5.out.turn hbel ?_
          rw [HVal.out]
          unfold OwnN
          simpa [ints] using hown)
        clear hown hgrow HO
        go_wp2
        rw [← hbo]
        clear hbo
        go_roundw
        case rel => exact ⟨q + 1, by omega, by go_num, hV1⟩
        case measure => simp [intOf]; omega
      · have v2 := four_set2 z2 (.int .i64 x.id) (.int .i64 x.ad) (.int .i64 x.sz) (.bool x.hi)
        have HV5 := Lib.hid (hV.out.next (Bl.set4_below hP1.out (.int .i64 x.id) (.int .i64 x.ad) (.int .i64 x.sz) (.bool x.hi)))
        clear hV hA1 hQ1 hP1 HK c0 z0 z1 z2 z3 f0 f1 f2 f3
        obtain ⟨W5, hW5⟩ : ∃ W, W = (((w20.setCell ⟨wr.heap.size, 0, none⟩ (.int .i64 x.id)).setCell ⟨wr.heap.size, 1, none⟩ (.int .i64 x.ad)).setCell ⟨wr.heap.size, 2, none⟩ (.int .i64 x.sz)).setCell ⟨wr.heap.size, 3, none⟩ (.bool x.hi) := ⟨_, rfl⟩
        rw [← hW5] at HV5 v2 ⊢
        clear hW5
        have hlen : (valL c.bl (s.sb.take q)).length ≤ 40 := by rw [val_len, List.length_take]; omega
        have hsz : w.heap.size + 2 ≤ W5.heap.size := HV5.out.size
        have HO := Lib.hid (World.ownsRow.alloc HV5.out.row (.cells #[.int .i64 x.sz] 3))
        clear d0 d1 d2 d3 d4 d5 g0 g1 g2 g3 g4 g5 g6 g7
        go_wp2_with (at_builtin; refine wpList_append_own _ rfl (.tmp 28) (.tmp 31) 44 rfl (w.heap.size + 2) 3 i0 (.int .i64 0) 1 8 Try.underlying44 HZ.out.1 HZ.out.2.1 HZ.out.2.2.1 HZ.out.2.2.2 rfl (by decide) _ (valL c.bl (s.sb.take q)).length (ints (valL c.bl (s.sb.take q))) rfl HO.out ⟨W5.heap.size, 0, none⟩ 1 1 [.int .i64 x.sz] rfl rfl (cell_one_new _ _ _) (by intro u hu; simp at hu; subst hu; rfl) (by unfold maxLen; omega) (by omega) (by simp; omega) ?_)
        intro v1 w1 hown hgrow _
        have hV1 := Lib.hid (show Vw w w1 c s v1 (valL c.bl (s.sb.take (q + 1))) by
          have hbel : Below (w.heap.size + 2) W5 w1 := ((Below.refl _ W5).alloc hsz _).grown hgrow (by simp; omega) (fun g hg => own_base HV5.out.row g hg)
          refine HV5.out.turn hbel ?_
          rw [HVal.out]
          unfold OwnN
          simpa [ints] using hown)
        clear hown hgrow HO
        go_wp2
        rw [← hbo]
        clear hbo
        go_roundw
        case rel => exact ⟨q + 1, by omega, by go_num, hV1⟩
        case measure => simp [intOf]; omega
    · obtain rfl : q = s.sb.length := by omega
      have hrow := hV.out.row
      rw [List.take_length] at hrow
      obtain ⟨k, rfl, hk, hl⟩ := OwnN.head hrow
      have HE := Lib.hid (⟨hk, hl, hV.out.cs.cw.ca.below⟩ : _ ∧ _ ∧ _)
      clear hrow hk hl hV
      go_wp2
      go_ret
      exact ⟨k, rfl, HE.out⟩

set_option maxRecDepth 100000 in
set_option maxHeartbeats 4000000 in
theorem cValues_any (c : Clu) (s : Sta) (w : World) (hL : CluL w w.heap.size c) (hF : FitC c) (hs : Bl.LiesS w w.heap.size s.so.ao s.sb) (hf : FitH s.so s.sb.length) (h40 : s.sb.length ≤ 40) :
    Calls Try.prog 17 #[.agg (cluC c), .agg (staC s)] w (Valued w (valL c.bl s.sb)) := by
  have hml : (s.sb.length : Int) ≤ 9223372036854775807 := by omega
  have hlc : s.sb.length ≤ s.so.cap := hf.1
  obtain ⟨i0, hi, hz0, hz1, hz2⟩ := Bl.info_parts infoInt
  have HZ := Lib.hid (⟨hi, hz0, hz1, hz2⟩ : _ ∧ _ ∧ _ ∧ _)
  have hV := Vw.first hL hs
  obtain ⟨d0, d1, d2, d3, d4, d5⟩ := hV.cs.os.cells
  obtain ⟨w2, hrun, hown0, hgr⟩ := run_make_own (P := Try.prog) ((w.alloc (.cells (cluC c) 25)).alloc (.cells (staC s) 36)) (w.heap.size + 2) 44 3 i0 (.int .i64 0) 1 Try.underlying44 hi hz0 hz1 .i64 .i64 s.sb.length (by rw [hz2]; omega) (by unfold maxLen; omega) (by simp)
  rw [show ((w.alloc (.cells (cluC c) 25)).alloc (.cells (staC s) 36)).heap.size = w.heap.size + 1 + 1 by simp] at hrun hown0
  have hb2 : Below (w.heap.size + 2) ((w.alloc (.cells (cluC c) 25)).alloc (.cells (staC s) 36)) w2 := (Below.refl _ _).grown hgr (by simp) (fun g hg => by cases hg)
  have HV := Lib.hid (show Vw w w2 c s _ (valL c.bl (s.sb.take 0)) from hV.turn hb2 hown0)
  obtain ⟨e0, e1, e2, e3, e4, e5⟩ := HV.out.cs.os.cells
  have HFi := Lib.hid (fun (id : Int) W (h : Cs w W c w.heap.size s (w.heap.size + 1)) => find_of h hF id)
  clear hV hL hF hs hf hi hz0 hz1 hz2 hown0 hgr hb2
  unfold cluC staC at *
  go_enter Try.func17, Try.ntmps17
  go_wp2
  clear d0 d1 d2 d3 d4 d5 e0 e1 e2 e3 e4 e5 hrun
  go_loopw [5, 17] (fun v j W => ∃ q : Nat, q ≤ s.sb.length ∧ j = .int .i64 q ∧ Hid (Vw w W c s v (valL c.bl (s.sb.take q)))) (fun _ j _ => s.sb.length - (intOf j).toNat)
  case atStart => exact ⟨0, Nat.zero_le _, rfl, HV⟩
  case round =>
    obtain ⟨q, hq, rfl, hV⟩ := hrel
    clear HV
    by_cases hlt : q < s.sb.length
    · have e1 : decide ((q : Int) < (s.sb.length : Int)) = true := by simp; omega
      obtain ⟨A, cc, rfl⟩ := own_form hV.out.row
      obtain ⟨y, hy⟩ : ∃ y, s.sb[q]? = some y := ⟨_, List.getElem?_eq_getElem (by omega)⟩
      obtain ⟨b1, o1, hbo, hb1, hcs⟩ := hV.out.sb (by omega)
      obtain ⟨c0, c1⟩ := hcs q y hy
      have HFq := Lib.hid (fun W (h : Cs w W c w.heap.size s (w.heap.size + 1)) => HFi.out y.b W h)
      obtain ⟨⟨x, fd⟩, hx⟩ : ∃ r, r = findB c.bl y.b := ⟨_, rfl⟩
      have HVal := Lib.hid (val_at (D := c.bl) hy)
      rw [← hx] at HFq HVal
      unfold Bl.foundV blkV at HFq
      dsimp only at HFq HVal
      have o2 := one_S wr #[.int .i64 y.b, .int .i64 y.a] 57
      have hV2 := Lib.hid (hV.out.next o2)
      obtain ⟨f0, f1⟩ := (Own2.new wr y 57).cells
      obtain ⟨g0, g1, g2, g3, g4, g5, g6, g7⟩ := hV2.out.cs.cw.ow.cells
      clear hcs hx hy o2 hV
      go_wp2_with fail
      refine (HFq.out _ hV2.out.cs).mono ?_
      rintro e w3 ⟨rfl, hb⟩
      have hV3 := hV2.out.next hb
      have hsz3 := hV3.size
      obtain ⟨v0, v1, v2, v3⟩ := (Own4.new w3 x 61).cells
      have HV5 := Lib.hid (hV3.next (one_S w3 #[.int .i64 x.id, .int .i64 x.ad, .int .i64 x.sz, .bool x.hi] 61))
      clear hb hV2 hV3 g0 g1 g2 g3 g4 g5 g6 g7 f0 f1
      have hlen : (valL c.bl (s.sb.take q)).length ≤ 40 := by rw [val_len, List.length_take]; omega
      have hsz : w.heap.size + 2 ≤ (w3.alloc (.cells #[.int .i64 x.id, .int .i64 x.ad, .int .i64 x.sz, .bool x.hi] 61)).heap.size := HV5.out.size
      have HO := Lib.hid (World.ownsRow.alloc HV5.out.row (.cells #[.int .i64 x.sz] 3))
      have hcn := cell_one_new (w3.alloc (.cells #[.int .i64 x.id, .int .i64 x.ad, .int .i64 x.sz, .bool x.hi] 61)) (.int .i64 x.sz) 3
      rw [show (w3.alloc (.cells #[.int .i64 x.id, .int .i64 x.ad, .int .i64 x.sz, .bool x.hi] 61)).heap.size = w3.heap.size + 1 by simp] at hcn
      go_wp2_with (at_builtin; refine wpList_append_own _ rfl (.tmp 29) (.tmp 32) 44 rfl (w.heap.size + 2) 3 i0 (.int .i64 0) 1 8 Try.underlying44 HZ.out.1 HZ.out.2.1 HZ.out.2.2.1 HZ.out.2.2.2 rfl (by decide) _ (valL c.bl (s.sb.take q)).length (ints (valL c.bl (s.sb.take q))) rfl HO.out ⟨w3.heap.size + 1, 0, none⟩ 1 1 [.int .i64 x.sz] rfl rfl hcn (by intro u hu; simp at hu; subst hu; rfl) (by unfold maxLen; omega) (by omega) (by simp; omega) ?_)
      intro v1 w1 hown hgrow _
      have hV1 := Lib.hid (show Vw w w1 c s v1 (valL c.bl (s.sb.take (q + 1))) by
        have hbel : Below (w.heap.size + 2) (w3.alloc (.cells #[.int .i64 x.id, .int .i64 x.ad, .int .i64 x.sz, .bool x.hi] 61)) w1 := ((Below.refl _ (w3.alloc (.cells #[.int .i64 x.id, .int .i64 x.ad, .int .i64 x.sz, .bool x.hi] 61))).alloc hsz _).grown hgrow (by simp; omega) (fun g hg => own_base HV5.out.row g hg)
        refine HV5.out.turn hbel ?_
        rw [HVal.out]
        unfold OwnN
        simpa [ints] using hown)
      clear hown hgrow HO hcn
      go_wp2
      rw [← hbo]
      clear hbo
      go_roundw
      case rel => exact ⟨q + 1, by omega, by go_num, hV1⟩
      case measure => simp [intOf]; omega
    · obtain rfl : q = s.sb.length := by omega
      have hrow := hV.out.row
      rw [List.take_length] at hrow
      obtain ⟨k, rfl, hk, hl⟩ := OwnN.head hrow
      have HE := Lib.hid (⟨hk, hl, hV.out.cs.cw.ca.below⟩ : _ ∧ _ ∧ _)
      clear hrow hk hl hV
      go_wp2
      go_ret
      exact ⟨k, rfl, HE.out⟩
end Go.Proofs.Ytmlopacekoghkaa.Cf
