/-
  The reference's publisher: in memory; its calls walked. Conditions: as each states.
-/
import Derived.Test.YtbfjimbffpkkhaaGdNext
namespace Go.Proofs.Ytbfjimbffpkkhaa.Pa
open Go.RowKit

/-! ### The reference's publisher -/
structure RpV (W : World) (b g n inc : Nat) (P : Pb) (v : Value) : Prop where
  head : W.heap[b]? = some (.cells #[.int .i64 n, .int .u16 inc, .int .u32 P.seq, .string (S P.last), v] 42 (0, 0))
  way : Way W g v P.way
  ne : g ≠ b
def RpAt (W : World) (b g n inc : Nat) (P : Pb) : Prop := ∃ v, RpV W b g n inc P v
section
variable {W W' : World} {b g n inc : Nat} {P : Pb} {v : Value}
theorem RpV.lt (h : RpV W b g n inc P v) : b < W.heap.size := lt_of_heap h.head
theorem RpV.c0 (h : RpV W b g n inc P v) : W.cell? ⟨b, 0, none⟩ = some (.int .i64 n) := by rw [cell_of_row _ _ _ _ _ _ h.head]; rfl
theorem RpV.c1 (h : RpV W b g n inc P v) : W.cell? ⟨b, 1, none⟩ = some (.int .u16 inc) := by rw [cell_of_row _ _ _ _ _ _ h.head]; rfl
theorem RpV.c2 (h : RpV W b g n inc P v) : W.cell? ⟨b, 2, none⟩ = some (.int .u32 P.seq) := by rw [cell_of_row _ _ _ _ _ _ h.head]; rfl
theorem RpV.c3 (h : RpV W b g n inc P v) : W.cell? ⟨b, 3, none⟩ = some (.string (S P.last)) := by rw [cell_of_row _ _ _ _ _ _ h.head]; rfl
theorem RpV.c4 (h : RpV W b g n inc P v) : W.cell? ⟨b, 4, none⟩ = some v := by rw [cell_of_row _ _ _ _ _ _ h.head]; rfl
theorem RpV.free (h : RpV W b g n inc P v) (j : Nat) : W.frozen? ⟨b, j, none⟩ = false := frozen_of _ _ _ _ _ h.head
theorem RpV.only {ms : List Nat} (h : RpV W b g n inc P v) (hb : OnlyL ms W W') (h1 : b ∉ ms) (h2 : g ∉ ms) : RpV W' b g n inc P v :=
  ⟨(hb.block b h.lt h1).trans h.head, h.way.only hb h2, h.ne⟩
theorem RpV.below (h : RpV W b g n inc P v) (hb : Below W.heap.size W W') : RpV W' b g n inc P v := h.only (OnlyL.of_below hb) (List.not_mem_nil) (List.not_mem_nil)
theorem RpV.drew (h : RpV W b g n inc P v) : RpV W.drew b g n inc P v := ⟨h.head, h.way, h.ne⟩
theorem RpV.com (h : RpV W b g n inc P v) (l : Bs) (m : Nat) : RpV ((W.setCell ⟨b, 2, none⟩ (.int .u32 m)).setCell ⟨b, 3, none⟩ (.string (S l))) b g n inc ⟨m, l, P.way⟩ v :=
  ⟨heap_setCell_same _ b 3 _ _ (.string (S l)) (heap_setCell_same _ b 2 _ _ (.int .u32 m) h.head), h.way.only (ms := [b]) ((OnlyL.set (by simp) _ _).tr (OnlyL.set (by simp) _ _)) (by simpa using h.ne), h.ne⟩
theorem RpV.turn {g' : Nat} {u : Value} {l : List Fr} (h : RpV W b g n inc P v) (hw : Way W g' u l) (hne : g' ≠ b) : RpV (W.setCell ⟨b, 4, none⟩ u) b g' n inc ⟨P.seq, P.last, l⟩ u :=
  ⟨heap_setCell_same _ b 4 _ _ u h.head, hw.only (ms := [b]) (OnlyL.set (by simp) _ _) (by simpa using hne), hne⟩
theorem RpAt.only {ms : List Nat} (h : RpAt W b g n inc P) (hb : OnlyL ms W W') (h1 : b ∉ ms) (h2 : g ∉ ms) : RpAt W' b g n inc P := h.imp fun _ k => k.only hb h1 h2
theorem RpAt.below (h : RpAt W b g n inc P) (hb : Below W.heap.size W W') : RpAt W' b g n inc P := h.imp fun _ k => k.below hb
theorem RpAt.lt (h : RpAt W b g n inc P) : b < W.heap.size := by obtain ⟨_, k⟩ := h; exact k.lt
theorem RpAt.drew (h : RpAt W b g n inc P) : RpAt W.drew b g n inc P := h.imp fun _ k => k.drew
end


set_option maxRecDepth 100000 in
set_option maxHeartbeats 2000000 in
theorem rCom (b g n inc : Nat) (P : Pb) (v : Bs) (w : World) (h : RpAt w b g n inc P) (hw : WP n inc P) :
    Calls Try.prog 12 #[.pointer (some ⟨b, 0, none⟩), .string (S v)] w (fun e w' => e = .returned (.int .i64 (comE n P v)) ∧ RpAt w' b g n inc (comP n P v) ∧ OnlyL [b] w w') := by
  obtain ⟨u, h⟩ := h
  have c0 := h.c0
  have c2 := h.c2
  have hsz := S_size v
  by_cases hl : v.length = n
  · have e1 : ((v.length : Int) != (n : Int)) = false := by rw [bne_eq_false_iff_eq]; omega
    by_cases hs : P.seq = 4294967295
    · have hE : comE n P v = 13 := by unfold comE; rw [if_pos hl, if_pos hs]
      have hP : comP n P v = P := by unfold comP; rw [if_neg (by omega)]
      have e2 : ((P.seq : Int) == 4294967295) = true := by rw [beq_iff_eq]; omega
      have HH := Lib.hid h
      rw [hE, hP]
      clear h hw hl hs hE hP
      go_enter Try.func12, Try.ntmps12
      go_wp2
      go_ret
      exact ⟨rfl, ⟨u, HH.out⟩, OnlyL.refl _ _⟩
    · have hE : comE n P v = 0 := by unfold comE; rw [if_pos hl, if_neg hs]
      have hP : comP n P v = ⟨P.seq + 1, v, P.way⟩ := by unfold comP; rw [if_pos hE]
      have e2 : ((P.seq : Int) == 4294967295) = false := by rw [beq_eq_false_iff_ne]; omega
      have hsq := hw.seq
      have hx : (P.seq : Int) + 1 ≤ 4294967295 := by omega
      have hw1 : IntKind.u32.wrap ((P.seq : Int) + 1) = (P.seq : Int) + 1 := by rw [IntKind.wrap_u32]; omega
      have c3 := h.c3
      have f2 := h.free 2
      have f3 := h.free 3
      have HK := Lib.hid (h.com v (P.seq + 1))
      have HO := Lib.hid (show OnlyL [b] w ((w.setCell ⟨b, 2, none⟩ (.int .u32 (P.seq + 1 : Nat))).setCell ⟨b, 3, none⟩ (.string (S v))) from (OnlyL.set (by simp) _ _).tr (OnlyL.set (by simp) _ _))
      have hw2 : ((P.seq + 1 : Nat) : Int) = (P.seq : Int) + 1 := by omega
      rw [hw2] at HK HO
      rw [hE, hP]
      clear h hw hl hs hE hP
      go_enter Try.func12, Try.ntmps12
      go_wp2
      go_ret
      exact ⟨rfl, ⟨u, HK.out⟩, HO.out⟩
  · have e1 : ((v.length : Int) != (n : Int)) = true := by rw [bne_iff_ne]; omega
    have hE : comE n P v = 10 := by unfold comE; rw [if_neg hl]
    have hP : comP n P v = P := by unfold comP; rw [if_neg (by omega)]
    have HH := Lib.hid h
    rw [hE, hP]
    clear h hw hl hE hP
    go_enter Try.func12, Try.ntmps12
    go_wp2
    go_ret
    exact ⟨rfl, ⟨u, HH.out⟩, OnlyL.refl _ _⟩
structure Rx (w W : World) (R b g0 g n inc : Nat) (P : Pb) (f : Fr) : Prop where
  pub : RpAt W b g n inc P
  box : OFr W R f
  only : OnlyL [b] w W
  own : R = w.heap.size
  lt : b < R
  new : g = g0 ∨ w.heap.size ≤ g
  gR : g ≠ R
section
variable {w W W' : World} {R b g0 g n inc s : Nat} {P : Pb} {f : Fr} {la : Bs}
theorem Rx.drew (h : Rx w W R b g0 g n inc P f) : Rx w W.drew R b g0 g n inc P f := ⟨h.pub.drew, h.box, h.only.drew, h.own, h.lt, h.new, h.gR⟩
theorem Rx.next (h : Rx w W R b g0 g n inc P f) (hb : Below W.heap.size W W') : Rx w W' R b g0 g n inc P f := ⟨h.pub.below hb, h.box.kept hb, h.only.tr (OnlyL.of_below hb), h.own, h.lt, h.new, h.gR⟩
theorem Rx.put (h : Rx w W R b g0 g n inc P f) (f' : Fr) : Rx w (W.setCells R 0 (frC f')) R b g0 g n inc P f' := by
  have ho : OnlyL [R] W (W.setCells R 0 (frC f')) := OnlyL.sets (by simp) _ _ _
  have := h.lt
  exact ⟨h.pub.only ho (by simp; omega) (by simpa using h.gR), (setF W R f f' h.box).2, only_R h.only ho h.own, h.own, h.lt, h.new, h.gR⟩
theorem Rx.turn {N : Nat} {u : Value} {l : List Fr} (h : Rx w W R b g0 g n inc P f) (hr : FRow N W u l) (hN : R < N) : ∃ g1, Rx w (W.setCell ⟨b, 4, none⟩ u) R b g0 g1 n inc ⟨P.seq, P.last, l⟩ f := by
  obtain ⟨g1, hw, hg⟩ := Way.of_row hr
  obtain ⟨v, k⟩ := h.pub
  have := h.lt
  have ho : OnlyL [b] W (W.setCell ⟨b, 4, none⟩ u) := OnlyL.set (by simp) _ _
  exact ⟨g1, ⟨u, k.turn hw (by omega)⟩, (ho.block R h.box.lt (by simp; omega)).trans h.box, h.only.tr ho, h.own, h.lt, .inr (by have := h.own; omega), by omega⟩
theorem Rx.pull {x : Fr} {l : List Fr} (h : Rx w W R b g0 g n inc ⟨s, la, x :: l⟩ f) : ∃ o cap, RpV W b g n inc ⟨s, la, x :: l⟩ (.slice (some ⟨g, o, none⟩) (l.length + 1) cap) ∧ l.length + 1 ≤ cap ∧ FrAt W g o x ∧
    ∀ W' : World, OnlyL [b] W W' → W'.heap[b]? = W.heap[b]? → Rx w (W'.setCell ⟨b, 4, none⟩ (.slice (if cap = 1 then some ⟨g, o, none⟩ else some ⟨g, o + 19, none⟩) l.length (cap - 1))) R b g0 g n inc ⟨s, la, l⟩ f := by
  obtain ⟨v, k⟩ := h.pub
  obtain ⟨o, cap, rfl, hc, hf, hw⟩ := k.way.head
  refine ⟨o, cap, k, hc, hf, fun W' ho he => ?_⟩
  have hlt := h.lt
  have k' : RpV W' b g n inc ⟨s, la, x :: l⟩ (.slice (some ⟨g, o, none⟩) (l.length + 1) cap) := ⟨he.trans k.head, k.way.only ho (by simpa using k.ne), k.ne⟩
  have ho2 := ho.tr (OnlyL.set (ms := [b]) (w := W') (b := b) (by simp) 4 (.slice (if cap = 1 then some ⟨g, o, none⟩ else some ⟨g, o + 19, none⟩) l.length (cap - 1)))
  exact ⟨⟨_, k'.turn (hw.only ho (by simpa using k.ne)) k.ne⟩, (ho2.block R h.box.lt (by simp; omega)).trans h.box, h.only.tr ho2, h.own, h.lt, h.new, h.gR⟩
end
attribute [local go_sem ↓] exec_ldF exec_stF exec_bdF
attribute [local go_sem] bdF_0 stF_new0
set_option maxRecDepth 100000 in
set_option maxHeartbeats 4000000 in
theorem rNext (b g n inc : Nat) (P : Pb) (w : World) (h : RpAt w b g n inc P) (hw : WP n inc P) :
    Calls Try.prog 13 #[.pointer (some ⟨b, 0, none⟩)] w fun e w' => e = .returned (.tuple #[.agg (frA (nxF inc P)), .bool (decide (0 < P.seq))]) ∧ ∃ g', RpAt w' b g' n inc (nxP inc P) ∧ OnlyL [b] w w' ∧ (g' = g ∨ w.heap.size ≤ g') := by
  have hlt := h.lt
  have hne : g ≠ b := by obtain ⟨v, k⟩ := h; exact k.ne
  have HN := Lib.hid (show ∃ g0, Rx w (w.alloc (.cells (frA fr0) 33)) w.heap.size b g g0 n inc P fr0 from by
    by_cases e : g = w.heap.size
    · obtain ⟨v, k⟩ := h
      have hnil : P.way = [] := Decidable.byContradiction fun hne => by
        obtain ⟨a, cap, -, -, h3⟩ := k.way
        obtain ⟨o, -, h4⟩ := h3 hne
        obtain ⟨x, l, hx⟩ := List.exists_cons_of_ne_nil hne
        rw [hx] at h4
        have := World.block_lt_of_cell? w _ (h4 0 (.int .i64 x.kind) rfl)
        have : g < w.heap.size := this
        omega
      obtain ⟨a, cap, hv, hc, -⟩ := k.way
      refine ⟨w.heap.size + 1, RpAt.below ⟨v, k.head, ⟨a, cap, hv, hc, fun hn => absurd hnil hn⟩, by omega⟩ (one_S _ _ _), OFr.new _ _, OnlyL.of_below (one_S _ _ _), rfl, hlt, .inr (by omega), by omega⟩
    · exact ⟨g, h.below (one_S _ _ _), OFr.new _ _, OnlyL.of_below (one_S _ _ _), rfl, hlt, .inl rfl, e⟩)
  have c2 : w.cell? ⟨b, 2, none⟩ = some (.int .u32 P.seq) := by obtain ⟨v, k⟩ := h; exact k.c2
  clear h hne
  by_cases hs : P.seq = 0
  · have e1 : decide (0 < P.seq) = false := by simp [hs]
    have e0 : ((P.seq : Int) == 0) = true := by simp [hs]
    have HF := Lib.hid (show nxF inc P = fr0 ∧ nxP inc P = P by unfold nxF nxP; rw [if_pos hs, if_pos hs]; exact ⟨rfl, rfl⟩)
    rw [e1, HF.out.1, HF.out.2]
    clear HF hw e1 hs
    go_enter Try.func13, Try.ntmps13
    go_upto_if 9 with fail
    obtain ⟨g0, hN⟩ := HN.out
    refine world_cut (G := fun W => Code.wp _ _ _ _ W) (fun W => Rx w W w.heap.size b g g0 n inc P fr0) (by exact hN) ?_
    rintro W hW
    clear hN HN
    have HW := Lib.hid hW
    clear hW
    generalize hR : w.heap.size = R at *
    have HR := Lib.hid hR
    clear hR
    clear c2 hlt
    have hst := (setF W R fr0 fr0 HW.out.box).1
    have HE := Lib.hid (HW.out.put fr0)
    clear HW
    go_wp2
    refine bodyPost_ret (results_F Try.results13 _ _ R fr0 (.bool false) rfl rfl HE.out.box.fr) rfl ⟨rfl, g0, HE.out.pub, HE.out.only, HR.out ▸ HE.out.new⟩
  · have e1 : decide (0 < P.seq) = true := by simp; omega
    have e0 : ((P.seq : Int) == 0) = false := by rw [beq_eq_false_iff_ne]; omega
    have hws := way_short hw
    obtain ⟨x, l, hxl⟩ := List.exists_cons_of_ne_nil (way_ne hw hs)
    have HF := Lib.hid (show nxF inc P = x ∧ nxP inc P = ⟨P.seq, P.last, l⟩ by unfold nxF nxP; rw [if_neg hs, if_neg hs, hxl]; exact ⟨rfl, rfl⟩)
    rw [hxl] at hws
    simp only [List.length_cons] at hws
    rw [e1, HF.out.1, HF.out.2]
    have HSp := Lib.hid (fun W => rSplit (frW inc P.seq) P.last W (by have := wp_last hw; omega))
    have hl64 := wp_last hw
    clear HF e1
    go_enter Try.func13, Try.ntmps13
    go_upto_if 9 with fail
    obtain ⟨g0, hN⟩ := HN.out
    refine world_cut (G := fun W => Code.wp _ _ _ _ W) (fun W => Rx w W w.heap.size b g g0 n inc P fr0) (by exact hN) ?_
    rintro W hW
    clear hN HN
    have HW := Lib.hid hW
    clear hW
    generalize hR : w.heap.size = R at *
    have HR := Lib.hid hR
    clear hR
    clear c2 hlt
    obtain ⟨v, hk⟩ := HW.out.pub
    have c4 := hk.c4
    obtain ⟨a, cap, rfl, -⟩ := hk.way
    go_upto_if 16 with fail
    go_cut [] (fun wx => ∃ g1 : Nat, Hid (Rx w wx R b g g1 n inc ⟨P.seq, P.last, x :: l⟩ fr0))
    case first =>
      by_cases hwy : P.way = []
      · have hwo : x :: l = spL (frW inc P.seq) P.last (nP P.last) := by rw [← hxl]; unfold wayOf; rw [if_pos hwy]
        have e2 : ((P.way.length : Int) == 0) = true := by simp [hwy]
        have hb2 := bdF_w inc P.seq
        have HWo := Lib.hid hwo
        have c1 := hk.c1
        have c2 := hk.c2
        have c3 := hk.c3
        obtain ⟨X, hX⟩ : ∃ X, X = frA (frW inc P.seq) := ⟨_, rfl⟩
        rw [← hX] at hb2 HSp
        have hP1 := HW.out.drew
        have hRlt := HW.out.box.lt
        clear hX hwo hwy hk hw hws hxl
        go_wp2
        go_region_held3 (fun W' => W'.cell? ⟨b, 1, none⟩ = some (.int .u16 inc) ∧ W'.cell? ⟨b, 2, none⟩ = some (.int .u32 P.seq) ∧ W'.cell? ⟨b, 3, none⟩ = some (.string (S P.last))) (first | exact ⟨c1, c2, c3⟩ | (obtain ⟨_, k⟩ := hP1.pub; exact ⟨k.c1, k.c2, k.c3⟩) | (obtain ⟨_, k⟩ := hP1.pub; refine ⟨?_, ?_, ?_⟩ <;> (rw [World.cell?_setCell_other _ _ _ _ (by intro e; injection e with _ e; omega)]; first | exact k.c1 | exact k.c2 | exact k.c3)))
          ((go_at_call 30; refine (HSp.out _).mono ?_; rintro e w2 ⟨u, rfl, hrow, hbS⟩; obtain ⟨A, c, rfl⟩ := own_form hrow; have hP2 := hP1.next hbS; clear hbS hP1; have hP1 := hP2; clear hP2; obtain ⟨_, k⟩ := hP1.pub; have c4 := k.c4; have f4 := k.free 4; clear k))
        all_goals
          obtain ⟨g1, HZ⟩ := hP1.turn hrow (show R < W.heap.size from hRlt)
          have HZ := Lib.hid HZ
          clear hP1
          go_wp2
          go_meet
          exact ⟨g1, by rw [HWo.out]; exact HZ⟩
      · have hwo : x :: l = P.way := by rw [← hxl]; unfold wayOf; rw [if_neg hwy]
        have hpos : 0 < P.way.length := List.length_pos_iff.2 hwy
        have e2 : ((P.way.length : Int) == 0) = false := by rw [beq_eq_false_iff_ne]; omega
        have HZ := Lib.hid (show Rx w W R b g g0 n inc ⟨P.seq, P.last, x :: l⟩ fr0 by rw [hwo]; exact HW.out)
        clear hwo hwy hpos hk hw hws hxl
        go_wp2
        go_meet
        exact ⟨g0, HZ⟩
    case rest =>
      obtain ⟨g1, HZ⟩ := hcut
      obtain ⟨o, cap2, hk2, hcap, hfr, hpull⟩ := HZ.out.pull
      have c4 := hk2.c4
      have f4 := hk2.free 4
      have hsl := sl_1 g1 o (l.length + 1) cap2 (by omega) hcap
      rw [Nat.add_sub_cancel] at hsl
      have hblt := hk2.lt
      have hld := hfr.ld
      have hq := (hpull wc (OnlyL.refl _ _) rfl)
      generalize (if cap2 = 1 then some (⟨g1, o, none⟩ : Addr) else some ⟨g1, o + 19, none⟩) = Y at *
      have hq1 := hq.next (one_S _ (frA x) 33)
      have hst := (setF _ R fr0 x hq1.box).1
      have hld2 := (FrAt.new (wc.setCell ⟨b, 4, none⟩ (.slice Y l.length (cap2 - 1))) x 33).ld
      rw [show (wc.setCell ⟨b, 4, none⟩ (.slice Y l.length (cap2 - 1))).heap.size = wc.heap.size by simp [World.setCell]] at hld2
      have HE := Lib.hid (hq1.put x)
      clear hw hs hxl hk2 HW hk HSp hl64 hws hpull HZ hfr hq hq1
      go_wp2
      refine bodyPost_ret (results_F Try.results13 _ _ R x (.bool true) rfl rfl HE.out.box.fr) rfl ⟨rfl, g1, HE.out.pub, HE.out.only, HR.out ▸ HE.out.new⟩
end Go.Proofs.Ytbfjimbffpkkhaa.Pa
