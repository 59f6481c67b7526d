/-
  Next: walked. Conditions: as it states.
-/
import Derived.Test.YtbfjimbffpkkhaaGdPub
import Derived.Deep.DeepCutAuto
import Derived.Deep.CutRange
namespace Go.Proofs.Ytbfjimbffpkkhaa.Pa
open Go.RowKit

theorem setL_frC (f f' : Fr) : setL (frA f) 0 (frC f') = frA f' := by
  apply Array.ext'
  rw [setL_list _ _ (by rw [frC_len, frA_size]; exact Nat.le_refl _), frA_list, frA_list, List.drop_of_length_le (by rw [frC_len, frC_len]; exact Nat.le_refl _), List.append_nil]
theorem setF (W : World) (R : Nat) (f f' : Fr) (h : OFr W R f) : stF (.pointer (some ⟨R, 0, none⟩)) (.agg (frA f')) W = .ok .skip (W.setCells R 0 (frC f')) ∧ OFr (W.setCells R 0 (frC f')) R f' := by
  have h0 := heap_sets R 33 (frC f') 0 (frA f) W h
  constructor
  · have ht : W.there R 0 19 := fun j hj => by
      refine ⟨?_, frozen_of _ _ _ _ _ h⟩
      rw [Nat.zero_add, cell_of_row _ _ _ _ _ _ h, Array.getElem?_eq_getElem (by rw [frA_size]; exact hj)]
      rfl
    have e := stF_of W R 0 (frA f') ht (frA_size f') (frA_one f')
    rw [frA_list] at e
    exact e
  · unfold OFr
    rw [h0, setL_frC]
theorem sets_new (w : World) (t : TypeId) : ∀ (vs : List Value) (o : Nat) (c : Array Value), (w.alloc (.cells c t)).setCells w.heap.size o vs = w.alloc (.cells (setL c o vs) t)
  | [], _, _ => rfl
  | v :: vs, o, c => by rw [World.setCells, World.setCell_alloc_at (hn := rfl), sets_new w t vs, setL]
theorem stF_new0 (W : World) (f : Fr) : stF (.pointer (some ⟨W.heap.size, 0, none⟩)) (.agg (frA f)) (W.alloc (.cells #[.int .i64 0, .int .u8 0, .int .u8 0, .int .u16 0, .int .u16 0, .int .u16 0, .int .u8 0, .int .u16 0, .int .u16 0, .int .u16 0, .int .u8 0, .int .u16 0, .bool false, .int .u8 0, .int .u16 0, .int .u32 0, .int .u8 0, .int .u8 0, .string ⟨#[]⟩] 33)) = .ok .skip (W.alloc (.cells (frA f) 33)) := by
  have h := (setF (W.alloc (.cells (frA fr0) 33)) W.heap.size fr0 f (OFr.new W fr0)).1
  rw [sets_new, setL_frC] at h
  exact h
theorem bdF_0 (W : World) : bdF #[] W = .ok (.value (.agg (frA fr0))) W := by
  unfold bdF
  rw [Sem.run_bind, run_build W 33 #[] (frA fr0) (by kernel_rfl)]
  rfl
structure Nx (w W : World) (R b g0 g n inc : Nat) (P : Pb) (f : Fr) : Prop where
  pub : PubAt W b g n inc P
  box : OFr W R f
  only : OnlyL [b] w W
  own : R = w.heap.size
  lt : b < R
  new : g = g0 ∨ w.heap.size ≤ g
  gR : g ≠ R
section
variable {w W W' : World} {R b g0 g n inc s : Nat} {P : Pb} {f : Fr} {la : Bs}
theorem Nx.drew (h : Nx w W R b g0 g n inc P f) : Nx w W.drew R b g0 g n inc P f := ⟨h.pub.drew, h.box, h.only.drew, h.own, h.lt, h.new, h.gR⟩
theorem Nx.next (h : Nx w W R b g0 g n inc P f) (hb : Below W.heap.size W W') : Nx w W' R b g0 g n inc P f := ⟨h.pub.below hb, h.box.kept hb, h.only.tr (OnlyL.of_below hb), h.own, h.lt, h.new, h.gR⟩
theorem only_R (h : OnlyL [b] w W) (hb : OnlyL [R] W W') (hR : R = w.heap.size) : OnlyL [b] w W' := h.trans hb (fun j hj => .inr (by simp at hj; omega))
theorem Nx.put (h : Nx w W R b g0 g n inc P f) (f' : Fr) : Nx w (W.setCells R 0 (frC f')) R b g0 g n inc P f' := by
  have ho : OnlyL [R] W (W.setCells R 0 (frC f')) := OnlyL.sets (by simp) _ _ _
  have := h.lt
  exact ⟨h.pub.only ho (by simp; omega) (by simpa using h.gR), (setF W R f f' h.box).2, only_R h.only ho h.own, h.own, h.lt, h.new, h.gR⟩
theorem Nx.turn {N : Nat} {u : Value} {l : List Fr} (h : Nx w W R b g0 g n inc P f) (hr : FRow N W u l) (hN : R < N) : ∃ g1, Nx w (W.setCell ⟨b, 4, none⟩ u) R b g0 g1 n inc ⟨P.seq, P.last, l⟩ f := by
  obtain ⟨g1, hw, hg⟩ := Way.of_row hr
  obtain ⟨v, k⟩ := h.pub
  have := h.lt
  have ho : OnlyL [b] W (W.setCell ⟨b, 4, none⟩ u) := OnlyL.set (by simp) _ _
  exact ⟨g1, ⟨u, k.turn hw (by omega)⟩, (ho.block R h.box.lt (by simp; omega)).trans h.box, h.only.tr ho, h.own, h.lt, .inr (by have := h.own; omega), by omega⟩
theorem Nx.pull {x : Fr} {l : List Fr} (h : Nx w W R b g0 g n inc ⟨s, la, x :: l⟩ f) : ∃ o cap, PubV W b g n inc ⟨s, la, x :: l⟩ (.slice (some ⟨g, o, none⟩) (l.length + 1) cap) ∧ l.length + 1 ≤ cap ∧ FrAt W g o x ∧
    ∀ W' : World, OnlyL [b] W W' → W'.heap[b]? = W.heap[b]? → Nx w (W'.setCell ⟨b, 4, none⟩ (.slice (if cap = 1 then some ⟨g, o, none⟩ else some ⟨g, o + 19, none⟩) l.length (cap - 1))) R b g0 g n inc ⟨s, la, l⟩ f := by
  obtain ⟨v, k⟩ := h.pub
  obtain ⟨o, cap, rfl, hc, hf, hw⟩ := k.way.head
  refine ⟨o, cap, k, hc, hf, fun W' ho he => ?_⟩
  have hlt := h.lt
  have k' : PubV W' b g n inc ⟨s, la, x :: l⟩ (.slice (some ⟨g, o, none⟩) (l.length + 1) cap) := ⟨he.trans k.head, k.way.only ho (by simpa using k.ne), k.ne⟩
  have ho2 := ho.tr (OnlyL.set (ms := [b]) (w := W') (b := b) (by simp) 4 (.slice (if cap = 1 then some ⟨g, o, none⟩ else some ⟨g, o + 19, none⟩) l.length (cap - 1)))
  exact ⟨⟨_, k'.turn (hw.only ho (by simpa using k.ne)) k.ne⟩, (ho2.block R h.box.lt (by simp; omega)).trans h.box, h.only.tr ho2, h.own, h.lt, h.new, h.gR⟩
end
attribute [local go_sem ↓] exec_ldF exec_stF exec_bdF
attribute [local go_sem] bdF_0 stF_new0
set_option maxRecDepth 100000 in
set_option maxHeartbeats 4000000 in
theorem cNext_nil (w : World) : Calls Try.prog 9 #[.pointer none] w (Tells (.tuple #[.agg (frA fr0), .bool false]) w) := by
  have HB := Lib.hid (fun W => cBegan_nil W)
  have HO := Lib.hid (show OFr (w.alloc (.cells (frA fr0) 33)) w.heap.size fr0 ∧ Below w.heap.size w (w.alloc (.cells (frA fr0) 33)) from ⟨OFr.new w fr0, one_S _ _ _⟩)
  go_enter Try.func9, Try.ntmps9
  go_wp2_with fail
  refine world_cut (G := fun W => Calls _ _ _ W _) (fun W => OFr W w.heap.size fr0 ∧ Below w.heap.size w W) (by exact HO.out) ?_
  rintro W hW
  have HW := Lib.hid hW
  clear hW HO
  generalize hR : w.heap.size = R at *
  have HR := Lib.hid hR
  clear hR
  refine (HB.out W).mono ?_
  rintro e w1 ⟨rfl, rfl⟩
  have hst := (setF W R fr0 fr0 HW.out.1).1
  have HE := Lib.hid (show FrAt (W.setCells R 0 (frC fr0)) R 0 fr0 ∧ Below R w (W.setCells R 0 (frC fr0)) from
    ⟨(setF W R fr0 fr0 HW.out.1).2.fr, HW.out.2.trans ((OnlyL.sets (ms := [R]) (by simp) _ _ _).below (by simp) (Nat.le_of_lt HW.out.1.lt))⟩)
  go_wp2
  refine bodyPost_ret (results_F Try.results9 _ _ R fr0 (.bool false) rfl rfl HE.out.1) rfl ⟨rfl, by rw [HR.out]; exact HE.out.2⟩
set_option maxRecDepth 100000 in
set_option maxHeartbeats 4000000 in
theorem cNext (b g n inc : Nat) (P : Pb) (w : World) (h : PubAt w b g n inc P) (hw : WP n inc P) :
    Calls Try.prog 9 #[.pointer (some ⟨b, 0, none⟩)] w fun e w' => e = .returned (.tuple #[.agg (frA (nxF inc P)), .bool (decide (0 < P.seq))]) ∧ ∃ g', PubAt w' b g' n inc (nxP inc P) ∧ OnlyL [b] w w' ∧ (g' = g ∨ w.heap.size ≤ g') := by
  have HB := Lib.hid (fun W g (h : PubAt W b g n inc P) => cBegan b g n inc P W h)
  have hlt := h.lt
  have hne : g ≠ b := by obtain ⟨v, k⟩ := h; exact k.ne
  have HN := Lib.hid (show ∃ g0, Nx w (w.alloc (.cells (frA fr0) 33)) w.heap.size b g g0 n inc P fr0 from by
    by_cases e : g = w.heap.size
    · obtain ⟨v, k⟩ := h
      have hnil : P.way = [] := Decidable.byContradiction fun hne => by
        obtain ⟨a, cap, -, -, h3⟩ := k.way
        obtain ⟨o, -, h4⟩ := h3 hne
        obtain ⟨x, l, hx⟩ := List.exists_cons_of_ne_nil hne
        rw [hx] at h4
        have := World.block_lt_of_cell? w _ (h4 0 (.int .i64 x.kind) rfl)
        have : g < w.heap.size := this
        omega
      obtain ⟨a, cap, hv, hc, -⟩ := k.way
      refine ⟨w.heap.size + 1, PubAt.below ⟨v, k.head, ⟨a, cap, hv, hc, fun hn => absurd hnil hn⟩, by omega⟩ (one_S _ _ _), OFr.new _ _, OnlyL.of_below (one_S _ _ _), rfl, hlt, .inr (by omega), by omega⟩
    · exact ⟨g, h.below (one_S _ _ _), OFr.new _ _, OnlyL.of_below (one_S _ _ _), rfl, hlt, .inl rfl, e⟩)
  clear h hne hlt
  by_cases hs : P.seq = 0
  · have e1 : decide (0 < P.seq) = false := by simp [hs]
    have HF := Lib.hid (show nxF inc P = fr0 ∧ nxP inc P = P by unfold nxF nxP; rw [if_pos hs, if_pos hs]; exact ⟨rfl, rfl⟩)
    rw [e1] at HB
    rw [e1, HF.out.1, HF.out.2]
    clear HF hw e1 hs
    go_enter Try.func9, Try.ntmps9
    go_wp2_with fail
    obtain ⟨g0, hN⟩ := HN.out
    refine world_cut (G := fun W => Calls _ _ _ W _) (fun W => Nx w W w.heap.size b g g0 n inc P fr0) (by exact hN) ?_
    rintro W hW
    clear hN HN
    have HW := Lib.hid hW
    clear hW
    generalize hR : w.heap.size = R at *
    have HR := Lib.hid hR
    clear hR
    refine (HB.out W _ HW.out.pub).mono ?_
    rintro e w1 ⟨rfl, rfl⟩
    have hst := (setF W R fr0 fr0 HW.out.box).1
    have HE := Lib.hid (HW.out.put fr0)
    clear HB HW
    go_wp2
    refine bodyPost_ret (results_F Try.results9 _ _ R fr0 (.bool false) rfl rfl HE.out.box.fr) rfl ⟨rfl, g0, HE.out.pub, HE.out.only, HR.out ▸ HE.out.new⟩
  · have e1 : decide (0 < P.seq) = true := by simp; omega
    have hws := way_short hw
    obtain ⟨x, l, hxl⟩ := List.exists_cons_of_ne_nil (way_ne hw hs)
    have HF := Lib.hid (show nxF inc P = x ∧ nxP inc P = ⟨P.seq, P.last, l⟩ by unfold nxF nxP; rw [if_neg hs, if_neg hs, hxl]; exact ⟨rfl, rfl⟩)
    rw [hxl] at hws
    simp only [List.length_cons] at hws
    rw [e1] at HB
    rw [e1, HF.out.1, HF.out.2]
    have HSp := Lib.hid (fun W => cSplit (frW inc P.seq) P.last W (by have := wp_last hw; unfold maxLen; omega))
    have hl64 := wp_last hw
    clear HF e1
    go_enter Try.func9, Try.ntmps9
    go_wp2_with fail
    obtain ⟨g0, hN⟩ := HN.out
    refine world_cut (G := fun W => Calls _ _ _ W _) (fun W => Nx w W w.heap.size b g g0 n inc P fr0) (by exact hN) ?_
    rintro W hW
    clear hN HN
    have HW := Lib.hid hW
    clear hW
    generalize hR : w.heap.size = R at *
    have HR := Lib.hid hR
    clear hR
    refine (HB.out W _ HW.out.pub).mono ?_
    rintro e w1 ⟨rfl, rfl⟩
    clear HB
    obtain ⟨v, hk⟩ := HW.out.pub
    have c4 := hk.c4
    obtain ⟨a, cap, rfl, -⟩ := hk.way
    go_upto_if 14 with fail
    go_cut [] (fun wx => ∃ g1 : Nat, Hid (Nx w wx R b g g1 n inc ⟨P.seq, P.last, x :: l⟩ fr0))
    case first =>
      by_cases hwy : P.way = []
      · have hwo : x :: l = spL (frW inc P.seq) P.last (nP P.last) := by rw [← hxl]; unfold wayOf; rw [if_pos hwy]
        have e2 : ((P.way.length : Int) == 0) = true := by simp [hwy]
        have hb2 := bdF_w inc P.seq
        have HWo := Lib.hid hwo
        have c1 := hk.c1
        have c2 := hk.c2
        have c3 := hk.c3
        obtain ⟨X, hX⟩ : ∃ X, X = frA (frW inc P.seq) := ⟨_, rfl⟩
        rw [← hX] at hb2 HSp
        have hP1 := HW.out.drew
        have hRlt := HW.out.box.lt
        clear hX hwo hwy hk hw hws hxl
        go_wp2
        go_region_held3 (fun W' => W'.cell? ⟨b, 1, none⟩ = some (.string (S P.last)) ∧ W'.cell? ⟨b, 2, none⟩ = some (.int .u16 inc) ∧ W'.cell? ⟨b, 3, none⟩ = some (.int .u32 P.seq)) (first | exact ⟨c1, c2, c3⟩ | (obtain ⟨_, k⟩ := hP1.pub; exact ⟨k.c1, k.c2, k.c3⟩) | (obtain ⟨_, k⟩ := hP1.pub; refine ⟨?_, ?_, ?_⟩ <;> (rw [World.cell?_setCell_other _ _ _ _ (by intro e; injection e with _ e; omega)]; first | exact k.c1 | exact k.c2 | exact k.c3)))
          ((go_at_call 28; refine (HSp.out _).mono ?_; rintro e w2 ⟨u, rfl, hrow, hbS⟩; obtain ⟨A, c, rfl⟩ := own_form hrow; have hP2 := hP1.next hbS; clear hbS hP1; have hP1 := hP2; clear hP2; obtain ⟨_, k⟩ := hP1.pub; have c4 := k.c4; have f4 := k.free 4; clear k))
        all_goals
          obtain ⟨g1, HZ⟩ := hP1.turn hrow (show R < W.heap.size from hRlt)
          have HZ := Lib.hid HZ
          clear hP1
          go_wp2
          go_meet
          exact ⟨g1, by rw [HWo.out]; exact HZ⟩
      · have hwo : x :: l = P.way := by rw [← hxl]; unfold wayOf; rw [if_neg hwy]
        have hpos : 0 < P.way.length := List.length_pos_iff.2 hwy
        have e2 : ((P.way.length : Int) == 0) = false := by rw [beq_eq_false_iff_ne]; omega
        have HZ := Lib.hid (show Nx w W R b g g0 n inc ⟨P.seq, P.last, x :: l⟩ fr0 by rw [hwo]; exact HW.out)
        clear hwo hwy hpos hk hw hws hxl
        go_wp2
        go_meet
        exact ⟨g0, HZ⟩
    case rest =>
      obtain ⟨g1, HZ⟩ := hcut
      obtain ⟨o, cap2, hk2, hcap, hfr, hpull⟩ := HZ.out.pull
      have c4 := hk2.c4
      have f4 := hk2.free 4
      have hsl := sl_1 g1 o (l.length + 1) cap2 (by omega) hcap
      rw [Nat.add_sub_cancel] at hsl
      have hblt := hk2.lt
      have hld := hfr.ld
      have hq := (hpull wc (OnlyL.refl _ _) rfl)
      generalize (if cap2 = 1 then some (⟨g1, o, none⟩ : Addr) else some ⟨g1, o + 19, none⟩) = Y at *
      have hq1 := hq.next (one_S _ (frA x) 33)
      have hst := (setF _ R fr0 x hq1.box).1
      have hld2 := (FrAt.new (wc.setCell ⟨b, 4, none⟩ (.slice Y l.length (cap2 - 1))) x 33).ld
      rw [show (wc.setCell ⟨b, 4, none⟩ (.slice Y l.length (cap2 - 1))).heap.size = wc.heap.size by simp [World.setCell]] at hld2
      have HE := Lib.hid (hq1.put x)
      clear hw hs hxl hk2 HW hk HSp hl64 hws hpull HZ hfr hq hq1
      go_wp2
      refine bodyPost_ret (results_F Try.results9 _ _ R x (.bool true) rfl rfl HE.out.box.fr) rfl ⟨rfl, g1, HE.out.pub, HE.out.only, HR.out ▸ HE.out.new⟩
end Go.Proofs.Ytbfjimbffpkkhaa.Pa
