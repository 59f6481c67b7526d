/-
  Following a Token or a Leave: walked. Conditions: as each states.
-/
import Derived.Test.YtedlfognpbbhhaaGreatDoorMaJ
import Derived.Deep.DeepCutAuto
namespace Go.Proofs.YtedlfognpbbhhaaGreatDoor.Ma
open Go.RowKit
open Go.Proofs.YtedlfognpbbhhaaGreatDoor.Epo (Ep cmpE newB maxE numE numM)
open Go.Proofs.YtedlfognpbbhhaaGreatDoor.Mem (St withB woB hasB passB nextI turnI gapB sv)
open Go.Proofs.YtedlfognpbbhhaaGreatDoor.Frm (Fr world_cut)
attribute [local go_sem ↓] exec_ldF exec_stF exec_bdF
attribute [local go_sem] bdF_5 bdF_9 bdF_0 stF_new0

set_option linter.unusedSimpArgs false
variable {b : Nat} {M : Mc} {w : World}
/-- A mac beside a frame's block and a mark's. -/
structure Kx (w W : World) (b : Nat) (M : Mc) (R : Nat) (f : Fr) (G : Nat) (k : Mk) : Prop where
  px : Px w W b M R f
  row : W.heap[G]? = some (.cells #[.int .u16 k.e.c, .int .u8 k.e.a, .int .u16 k.e.i, .int .u16 k.h] 43 (0, 0))
  ge : w.heap.size ≤ G
section
variable {w W W' : World} {b R G : Nat} {M M' : Mc} {f : Fr} {k : Mk}
theorem Kx.first (h : Mw w b M) (f : Fr) (k : Mk) : Kx w ((w.alloc (.cells (frA f) 38)).alloc (.cells #[.int .u16 k.e.c, .int .u8 k.e.a, .int .u16 k.e.i, .int .u16 k.h] 43)) b M w.heap.size f (w.heap.size + 1) k := by
  have e : (w.alloc (.cells (frA f) 38)).heap.size = w.heap.size + 1 := by simp
  have n := heap_alloc_new (w.alloc (.cells (frA f) 38)) (.cells #[.int .u16 k.e.c, .int .u8 k.e.a, .int .u16 k.e.i, .int .u16 k.h] 43 (0, 0))
  rw [e] at n
  exact ⟨(Px.first h f).alloc _, n, by omega⟩
theorem Kx.turn (h : Kx w W b M R f G k) (hm : Mw W' b M') (ho : OnlyL [b] W W') : Kx w W' b M' R f G k :=
  ⟨h.px.turn hm ho, (ho.block G (lt_of_heap h.row) (by have := h.ge; have := h.px.blt; simp; omega)).trans h.row, h.ge⟩
theorem Kx.below (h : Kx w W b M R f G k) (hb : Below W.heap.size W W') : Kx w W' b M R f G k := h.turn (h.px.mw.below hb) (OnlyL.of_below hb)
theorem Kx.drew (h : Kx w W b M R f G k) : Kx w W.drew b M R f G k := ⟨h.px.drew, h.row, h.ge⟩
theorem Kx.drewN (h : Kx w W b M R f G k) (n : Nat) : Kx w (W.drewN n) b M R f G k := ⟨h.px.drewN n, h.row, h.ge⟩
theorem Kx.sets (h : Kx w W b M R f G k) (l : List (Nat × Value)) (e : setA (macL M) l = macL M') : Kx w (setL W b l) b M' R f G k := h.turn (h.px.mw.sets l e) (setL_only (by simp) l W)
theorem Kx.y (h : Kx w W b M R f G k) : W.cell? ⟨G, 0, none⟩ = some (.int .u16 k.e.c) ∧ W.cell? ⟨G, 1, none⟩ = some (.int .u8 k.e.a) ∧ W.cell? ⟨G, 2, none⟩ = some (.int .u16 k.e.i) ∧ W.cell? ⟨G, 3, none⟩ = some (.int .u16 k.h) := by
  refine ⟨?_, ?_, ?_, ?_⟩ <;> (rw [cell_of_row _ _ _ _ _ _ h.row]; rfl)
theorem Kx.does (h : Kx w W b M R f G k) : Mw W b M ∧ OnlyL [b] w W := h.px.does
theorem Kx.nb (h : Kx w W b M R f G k) : G ≠ b ∧ R ≠ b := ⟨by have := h.ge; have := h.px.blt; omega, by have := h.px.fx.le; have := h.px.blt; omega⟩
end
theorem fol_old (f : Fr) (k : Mk) (h : newB M.heard.e k.e M.heard.h k.h = true) : follM M f k = M := by unfold follM; rw [if_pos h]
theorem fol_take (f : Fr) (k : Mk) (h : newB M.heard.e k.e M.heard.h k.h = false) (ht : isToB M f = true) (hn : newB k.e M.mark.e k.h M.mark.h = true) : follM M f k = takeM (folM M f k) k := by
  unfold follM; rw [if_neg (by rw [h]; decide), if_pos ⟨ht, hn⟩]
theorem fol_out (f : Fr) (k : Mk) (h : newB M.heard.e k.e M.heard.h k.h = false) (ht : (isToB M f && newB k.e M.mark.e k.h M.mark.h) = false) (hs : M.st = 2) (hh : hasB (listF M f) M.ad = false) : follM M f k = { folM M f k with st := 1 } := by
  unfold follM; rw [if_neg (by rw [h]; decide), if_neg (fun z => by rw [z.1, z.2] at ht; cases ht), if_pos ⟨hs, hh⟩]
theorem fol_in (f : Fr) (k : Mk) (h : newB M.heard.e k.e M.heard.h k.h = false) (ht : (isToB M f && newB k.e M.mark.e k.h M.mark.h) = false) (hs : ¬ (M.st = 2 ∧ hasB (listF M f) M.ad = false)) : follM M f k = folM M f k := by
  unfold follM; rw [if_neg (by rw [h]; decide), if_neg (fun z => by rw [z.1, z.2] at ht; cases ht), if_neg hs]
set_option maxRecDepth 100000 in
set_option maxHeartbeats 8000000 in
theorem cFollow (h : Mw w b M) (f : Fr) (k : Mk) (hf : f.fit) (h1 : 0 ≤ M.arrived ∧ M.arrived ≤ M.clock) (h2 : M.clock ≤ 1000000000) (h3 : 0 ≤ M.visits ∧ M.visits ≤ 1000000000) :
    Calls Tryz.prog 33 #[.pointer (some ⟨b, 0, none⟩), .agg (frA f), .agg #[.int .u16 k.e.c, .int .u8 k.e.a, .int .u16 k.e.i, .int .u16 k.h]] w (Turns w b (follM M f k)) := by
  have HX := Lib.hid (Kx.first h f k)
  have HN := Lib.hid (fun W => Epo.newer_any M.heard.e k.e M.heard.h k.h W)
  have ew : IntKind.i64.wrap (f.src : Int) = f.src := by rw [IntKind.wrap_i64]; have := hf.1; omega
  have ed : IntKind.i64.wrap (f.dst : Int) = f.dst := by rw [IntKind.wrap_i64]; have := hf.2.1; omega
  obtain ⟨q, hq⟩ : ∃ q, q = newB M.heard.e k.e M.heard.h k.h := ⟨_, rfl⟩
  rw [← hq] at HN
  have HPs := Lib.hid (fun W => Mem.Pass_any M.list f.src f.dst W)
  obtain ⟨A, hA⟩ : ∃ A, A = folM M f k := ⟨_, rfl⟩
  have HAr : Hid (∀ W, Mw W b { A with mark := k, tok := k, leaving := false } → Calls Tryz.prog 47 #[.pointer (some ⟨b, 0, none⟩)] W (Turns W b (takeM A k))) := Lib.hid (fun W z => cArrive z (by rw [hA]; exact h1) (by rw [hA]; exact h2) (by rw [hA]; exact h3))
  have HI : Hid (∀ W, Mw W b A → Calls Tryz.prog 39 #[.pointer (some ⟨b, 0, none⟩), .agg (frA f)] W (Tells (.bool (isToB M f)) W)) := Lib.hid (fun W z => by have := cIsTo z f hf; rw [hA] at this; exact this)
  have HNm : Hid (∀ W, Calls Tryz.prog 45 #[.agg #[.int .u16 k.e.c, .int .u8 k.e.a, .int .u16 k.e.i, .int .u16 k.h], .agg #[.int .u16 A.mark.e.c, .int .u8 A.mark.e.a, .int .u16 A.mark.e.i, .int .u16 A.mark.h]] W (Tells (.bool (newB k.e M.mark.e k.h M.mark.h)) W)) := Lib.hid (fun W => by rw [hA]; exact Epo.newer_any k.e M.mark.e k.h M.mark.h W)
  have HB0 : Hid (∀ W R G, Kx w W b M R f G k → Kx w (setL W b [(64, .int .u16 k.e.c), (65, .int .u8 k.e.a), (66, .int .u16 k.e.i), (67, .int .u16 k.h)]) b { M with heard := k } R f G k) := Lib.hid (fun W R G z => z.sets _ rfl)
  have HAA := Lib.hid hA
  have HQq := Lib.hid hq
  clear h hf h1 h2 h3 hA hq
  go_enter Tryz.func33, Tryz.ntmps33
  go_wp2
  refine world_cut (G := fun W => Code.wp _ _ _ _ W) (fun W => Kx w W b M w.heap.size f (w.heap.size + 1) k) (by exact HX.out) ?_
  rintro W hx
  generalize w.heap.size + 1 = G at *
  generalize w.heap.size = R at *
  obtain ⟨y0, y1, y2, y3⟩ := hx.y
  have c64 := hx.px.mw.cell 64 rfl
  have c65 := hx.px.mw.cell 65 rfl
  have c66 := hx.px.mw.cell 66 rfl
  have c67 := hx.px.mw.cell 67 rfl
  have HQ := Lib.hid hx.drew
  clear HX hx
  go_cut [11] (fun s wx => s = .bool q ∧ Hid (Kx w wx b M R f G k))
  case first =>
    go_region_with ((go_at_call 45; refine (HN.out _).mono ?_; rintro e w1 ⟨rfl, hb1⟩; have HQ1 := Lib.hid (HQ.out.below hb1)))
    all_goals
      go_wp2
      go_meet
      exact ⟨rfl, Lib.hid HQ1.out⟩
  case rest =>
    obtain ⟨rfl, hr⟩ := hcut
    have HP := Lib.hid hr.out
    clear hr y0 y1 y2 y3 c64 c65 c66 c67 HQ HN
    cases q
    rotate_left 1
    · have HV := Lib.hid (fol_old f k HQq.out.symm)
      go_wp2
      go_end0
      exact ⟨rfl, by rw [HV.out]; exact (HP.out).does⟩
    obtain ⟨y0, y1, y2, y3⟩ := HP.out.y
    have c64 := HP.out.px.mw.cell 64 rfl
    have c65 := HP.out.px.mw.cell 65 rfl
    have c66 := HP.out.px.mw.cell 66 rfl
    have c67 := HP.out.px.mw.cell 67 rfl
    have f64 := HP.out.px.mw.free 64
    have f65 := HP.out.px.mw.free 65
    have f66 := HP.out.px.mw.free 66
    have f67 := HP.out.px.mw.free 67
    obtain ⟨nGb, nRb⟩ := HP.out.nb
    go_wp2
    refine world_cut (G := fun W => Code.wp _ _ _ _ W) (fun W => Kx w W b { M with heard := k } R f G k) (by exact HB0.out _ _ _ HP.out) ?_
    rintro W2 hx2
    clear y0 y1 y2 y3 c64 c65 c66 c67 f64 f65 f66 f67 HP HB0
    have x1 := hx2.px.fx.box.at.at 1 rfl
    have x2 := hx2.px.fx.box.at.at 2 rfl
    have c20 : W2.cell? ⟨b, 20, none⟩ = some (sv M.list) := hx2.px.mw.cell 20 rfl
    have f20 := hx2.px.mw.free 20
    have HQ := Lib.hid hx2
    clear hx2
    go_cut [] (fun wx => Hid (Kx w wx b { M with heard := k, list := passB M.list f.src f.dst } R f G k))
    case first =>
      go_region_with ((go_at_call 46; refine (HPs.out _).mono ?_; rintro e w6 ⟨rfl, rfl⟩))
      all_goals
        go_wp2
        go_meet
        exact Lib.hid (HQ.out.sets (M' := { M with heard := k, list := passB M.list f.src f.dst }) [(20, _)] rfl).drew
    case rest =>
      have HP := Lib.hid hcut.out
      clear hcut x1 x2 c20 f20 HQ HPs
      by_cases h5 : f.kind = 5
      · have HK := Lib.hid h5
        have x0 : wc.cell? ⟨R, 0, none⟩ = some (.int .i64 5) := by rw [HP.out.px.fx.box.at.at 0 rfl, HK.out]
        have x1 := HP.out.px.fx.box.at.at 1 rfl
        have c20 : wc.cell? ⟨b, 20, none⟩ = some (sv (passB M.list f.src f.dst)) := HP.out.px.mw.cell 20 rfl
        have f20 := HP.out.px.mw.free 20
        have HC := Lib.hid (fun W => Mem.Without_any (passB M.list f.src f.dst) f.src W)
        have HL : Hid ({ M with heard := k, list := woB (passB M.list f.src f.dst) f.src } = A) := Lib.hid (by rw [HAA.out]; unfold folM listF; rw [if_pos h5])
        clear h5
        go_wp2
        go_cut [] (fun wx => Hid (Kx w wx b A R f G k))
        case first =>
          go_region_with ((go_at_call 40; refine (HC.out _).mono ?_; rintro e w6 ⟨rfl, rfl⟩))
          all_goals
            go_wp2
            go_meet
            exact Lib.hid (by rw [← HL.out]; exact (HP.out.sets (M' := { M with heard := k, list := woB (passB M.list f.src f.dst) f.src }) [(20, _)] rfl).drew)
        case rest =>
          replace HP := Lib.hid hcut.out
          clear hcut x0 x1 c20 f20 HC HL
          go_wp2
          obtain ⟨y0, y1, y2, y3⟩ := HP.out.y
          obtain ⟨nGb, nRb⟩ := HP.out.nb
          have hld := HP.out.drew.px.fx.box.at.ld
          have HQ := Lib.hid HP.out.drew
          have m60 := HP.out.px.mw.cell 60 rfl
          have m61 := HP.out.px.mw.cell 61 rfl
          have m62 := HP.out.px.mw.cell 62 rfl
          have m63 := HP.out.px.mw.cell 63 rfl
          obtain ⟨p, hp⟩ : ∃ p, p = (isToB M f && newB k.e M.mark.e k.h M.mark.h) := ⟨_, rfl⟩
          go_cut [44] (fun s wx => s = .bool p ∧ Hid (Kx w wx b A R f G k))
          case first =>
            cases ht : isToB M f
            · rw [ht] at HI
              have HPp := Lib.hid (show p = false by rw [hp, ht]; rfl)
              clear ht hp
              refine wp_region_held_drew (S := (fun W' => ldF (.pointer (some ⟨R, 0, none⟩)) W' = .ok (.value (.agg (frA f))) W')) (by kernel_rfl) hld (fun hHeld => ?_)
              refine wpAnyH_take (i := 0) (oi := _) (v := ?_) rfl (by kernel_rfl) (by kernel_rfl) (by kernel_rfl) (fun _ _ _ h => h) (Or.inl ⟨by rfl, ?_⟩) (by assumption) ?_
              rotate_left 1
              · intro w hSw
                (try dsimp only at hSw)
                go_simp
                (try with_reducible rfl)
              try simp only [Act.put, List.getElem_toArray, List.getElem_cons_zero, List.getElem_cons_succ, List.setIfInBounds_toArray, List.set_cons_zero, List.set_cons_succ]
              refine wpAnyH_take (i := 1) (oi := { dst := some 46, op := Op.load 38 (Operand.tmp 4), type := 38, pos := "mac.go:381", after := #[], guard := none }) (v := ?_) rfl (by kernel_rfl) (by kernel_rfl) (by kernel_rfl) (fun _ _ _ h => h) (Or.inl ⟨by rfl, ?_⟩) (by assumption) ?_
              rotate_left 1
              · intro w hSw
                (try dsimp only at hSw)
                go_simp
                (try with_reducible rfl)
              try simp only [Act.put, List.getElem_toArray, List.getElem_cons_zero, List.getElem_cons_succ, List.setIfInBounds_toArray, List.set_cons_zero, List.set_cons_succ]
              refine wpAnyH_ready (rs := [2]) (by kernel_rfl) (by simp) (AllReadyH.cons (o := _) rfl (fun K1 hK => ?_) AllReadyH.nil)
              go_simp
              (go_at_call 39; (with_reducible refine (HI.out _ HQ.out.px.mw).mono ?_))
              rintro e w7 ⟨rfl, hb7⟩
              have HQ1 := Lib.hid (HQ.out.below hb7)
              refine hK.out _ _ (by exact HQ1.out.px.fx.box.at.ld) (fun hHeld => ?_)
              clear hK K1
              try simp only [Act.put, List.getElem_toArray, List.getElem_cons_zero, List.getElem_cons_succ, List.setIfInBounds_toArray, List.set_cons_zero, List.set_cons_succ]
              refine wpAnyH_take (i := 3) (oi := _) (v := ?_) rfl (by kernel_rfl) (by kernel_rfl) (by kernel_rfl) (fun _ _ _ h => h) (Or.inl ⟨by rfl, ?_⟩) (by assumption) ?_
              rotate_left 1
              · intro w hSw
                (try dsimp only at hSw)
                go_simp
                (try with_reducible rfl)
              try simp only [Act.put, List.getElem_toArray, List.getElem_cons_zero, List.getElem_cons_succ, List.setIfInBounds_toArray, List.set_cons_zero, List.set_cons_succ]
              refine wpAnyH_take (i := 4) (oi := _) (v := undef) rfl (by kernel_rfl) (by kernel_rfl) (by kernel_rfl) (fun _ _ _ h => h) (Or.inr ⟨by rfl, rfl⟩) (by assumption) ?_
              try simp only [Act.put, List.getElem_toArray, List.getElem_cons_zero, List.getElem_cons_succ, List.setIfInBounds_toArray, List.set_cons_zero, List.set_cons_succ]
              refine wpAnyH_take (i := 5) (oi := _) (v := undef) rfl (by kernel_rfl) (by kernel_rfl) (by kernel_rfl) (fun _ _ _ h => h) (Or.inr ⟨by rfl, rfl⟩) (by assumption) ?_
              try simp only [Act.put, List.getElem_toArray, List.getElem_cons_zero, List.getElem_cons_succ, List.setIfInBounds_toArray, List.set_cons_zero, List.set_cons_succ]
              refine wpAnyH_take (i := 6) (oi := _) (v := undef) rfl (by kernel_rfl) (by kernel_rfl) (by kernel_rfl) (fun _ _ _ h => h) (Or.inr ⟨by rfl, rfl⟩) (by assumption) ?_
              try simp only [Act.put, List.getElem_toArray, List.getElem_cons_zero, List.getElem_cons_succ, List.setIfInBounds_toArray, List.set_cons_zero, List.set_cons_succ]
              refine wpAnyH_take (i := 7) (oi := _) (v := undef) rfl (by kernel_rfl) (by kernel_rfl) (by kernel_rfl) (fun _ _ _ h => h) (Or.inr ⟨by rfl, rfl⟩) (by assumption) ?_
              try simp only [Act.put, List.getElem_toArray, List.getElem_cons_zero, List.getElem_cons_succ, List.setIfInBounds_toArray, List.set_cons_zero, List.set_cons_succ]
              refine wpAnyH_take (i := 8) (oi := _) (v := undef) rfl (by kernel_rfl) (by kernel_rfl) (by kernel_rfl) (fun _ _ _ h => h) (Or.inr ⟨by rfl, rfl⟩) (by assumption) ?_
              try simp only [Act.put, List.getElem_toArray, List.getElem_cons_zero, List.getElem_cons_succ, List.setIfInBounds_toArray, List.set_cons_zero, List.set_cons_succ]
              refine wpAnyH_take (i := 9) (oi := _) (v := undef) rfl (by kernel_rfl) (by kernel_rfl) (by kernel_rfl) (fun _ _ _ h => h) (Or.inr ⟨by rfl, rfl⟩) (by assumption) ?_
              try simp only [Act.put, List.getElem_toArray, List.getElem_cons_zero, List.getElem_cons_succ, List.setIfInBounds_toArray, List.set_cons_zero, List.set_cons_succ]
              refine wpAnyH_take (i := 10) (oi := _) (v := ?_) rfl (by kernel_rfl) (by kernel_rfl) (by kernel_rfl) (fun _ _ _ h => h) (Or.inl ⟨by rfl, ?_⟩) (by assumption) ?_
              rotate_left 1
              · intro w hSw
                (try dsimp only at hSw)
                go_simp
                (try with_reducible rfl)
              try simp only [Act.put, List.getElem_toArray, List.getElem_cons_zero, List.getElem_cons_succ, List.setIfInBounds_toArray, List.set_cons_zero, List.set_cons_succ]
              refine wpAnyH_take (i := 11) (oi := _) (v := ?_) rfl (by kernel_rfl) (by kernel_rfl) (by kernel_rfl) (fun _ _ _ h => h) (Or.inl ⟨by rfl, ?_⟩) (by assumption) ?_
              rotate_left 1
              · intro w hSw
                (try dsimp only at hSw)
                go_simp
                (try with_reducible rfl)
              try simp only [Act.put, List.getElem_toArray, List.getElem_cons_zero, List.getElem_cons_succ, List.setIfInBounds_toArray, List.set_cons_zero, List.set_cons_succ]
              refine wpAnyH_done (by kernel_rfl) ?_ _
              go_wp2
              go_meet
              exact ⟨by rw [HPp.out], Lib.hid HQ1.out⟩
            · rw [ht] at HI
              have HPp := Lib.hid (show p = newB k.e M.mark.e k.h M.mark.h by rw [hp, ht]; rfl)
              clear ht hp
              generalize newB k.e M.mark.e k.h M.mark.h = z at *
              go_region_held3 (fun W' => ldF (.pointer (some ⟨R, 0, none⟩)) W' = .ok (.value (.agg (frA f))) W' ∧ W'.cell? ⟨G, 0, none⟩ = some (.int .u16 k.e.c) ∧ W'.cell? ⟨G, 1, none⟩ = some (.int .u8 k.e.a) ∧ W'.cell? ⟨G, 2, none⟩ = some (.int .u16 k.e.i) ∧ W'.cell? ⟨G, 3, none⟩ = some (.int .u16 k.h) ∧ W'.cell? ⟨b, 60, none⟩ = some (.int .u16 A.mark.e.c) ∧ W'.cell? ⟨b, 61, none⟩ = some (.int .u8 A.mark.e.a) ∧ W'.cell? ⟨b, 62, none⟩ = some (.int .u16 A.mark.e.i) ∧ W'.cell? ⟨b, 63, none⟩ = some (.int .u16 A.mark.h)) (first | exact ⟨HQ.out.px.fx.box.at.ld, HQ.out.y.1, HQ.out.y.2.1, HQ.out.y.2.2.1, HQ.out.y.2.2.2, HQ.out.px.mw.cell 60 rfl, HQ.out.px.mw.cell 61 rfl, HQ.out.px.mw.cell 62 rfl, HQ.out.px.mw.cell 63 rfl⟩ | exact ⟨HQ1.out.px.fx.box.at.ld, HQ1.out.y.1, HQ1.out.y.2.1, HQ1.out.y.2.2.1, HQ1.out.y.2.2.2, HQ1.out.px.mw.cell 60 rfl, HQ1.out.px.mw.cell 61 rfl, HQ1.out.px.mw.cell 62 rfl, HQ1.out.px.mw.cell 63 rfl⟩ | exact ⟨HQ2.out.px.fx.box.at.ld, HQ2.out.y.1, HQ2.out.y.2.1, HQ2.out.y.2.2.1, HQ2.out.y.2.2.2, HQ2.out.px.mw.cell 60 rfl, HQ2.out.px.mw.cell 61 rfl, HQ2.out.px.mw.cell 62 rfl, HQ2.out.px.mw.cell 63 rfl⟩) ((first | (go_at_call 39; refine (HI.out _ HQ.out.px.mw).mono ?_; rintro e w7 ⟨rfl, hb7⟩; have HQ1 := Lib.hid (HQ.out.below hb7)) | (go_at_call 45; refine (HNm.out _).mono ?_; rintro e w8 ⟨rfl, hb8⟩; have HQ2 := Lib.hid (HQ1.out.below hb8))))
              go_wp2
              go_meet
              exact ⟨by rw [HPp.out], Lib.hid HQ2.out⟩
          case rest =>
            obtain ⟨rfl, hr⟩ := hcut
            replace HP := Lib.hid hr.out
            clear hr HQ hld y0 y1 y2 y3 m60 m61 m62 m63 HI HNm
            cases p
            · by_cases hs : M.st = 2
              · have c10 : wc.cell? ⟨b, 10, none⟩ = some (.int .i64 2) := by rw [HP.out.px.mw.cell 10 rfl, HAA.out]; exact congrArg (fun z => some (Value.int .i64 z)) hs
                have c20 : wc.cell? ⟨b, 20, none⟩ = some (sv (listF M f)) := by rw [HP.out.px.mw.cell 20 rfl, HAA.out]; rfl
                have c0 : wc.cell? ⟨b, 0, none⟩ = some (.int .i64 M.ad) := by rw [HP.out.px.mw.cell 0 rfl, HAA.out]; rfl
                have HH := Lib.hid (fun n => Mem.Has_any (listF M f) M.ad (World.drewN wc n))
                cases hh : hasB (listF M f) M.ad
                · have HV := Lib.hid (fol_out f k HQq.out.symm hp.symm hs hh)
                  rw [hh] at HH
                  clear hp hs hh
                  go_wp2
                  go_quiet (exact Calls.quiet_of_same (Epo.still_of (HH.out _)))
                  refine world_cut (G := fun W => Exit.then _ _ Exit.normal _ W) (fun W => Kx w W b A R f G k) (by exact HP.out.drewN _) ?_
                  rintro W9 hx9
                  have q10 := hx9.px.mw.cell 10 rfl
                  have g10 := hx9.px.mw.free 10
                  have HZ : Hid (Kx w (setL W9 b [(10, .int .i64 1)]) b { folM M f k with st := 1 } R f G k) := Lib.hid (by have := hx9; rw [HAA.out] at this; exact this.sets _ rfl)
                  clear hx9 c10 c20 c0 HH HP
                  go_wp2
                  go_end0
                  exact ⟨rfl, by rw [HV.out]; exact (HZ.out).does⟩
                · have HV := Lib.hid (fol_in f k HQq.out.symm hp.symm (fun z => by rw [hh] at z; cases z.2))
                  rw [hh] at HH
                  clear hp hs hh
                  rw [← HAA.out] at HV
                  go_wp2
                  go_quiet (exact Calls.quiet_of_same (Epo.still_of (HH.out _)))
                  go_wp2
                  go_end0
                  exact ⟨rfl, by rw [HV.out]; exact (HP.out.drewN _).does⟩
              · have c10 : wc.cell? ⟨b, 10, none⟩ = some (.int .i64 M.st) := by rw [HP.out.px.mw.cell 10 rfl, HAA.out]; rfl
                have e2 : (M.st == 2) = false := by rw [beq_eq_false_iff_ne]; exact hs
                have HV := Lib.hid (fol_in f k HQq.out.symm hp.symm (fun z => hs z.1))
                clear hp hs
                rw [← HAA.out] at HV
                go_wp2
                go_quiet (fail)
                go_wp2
                go_end0
                exact ⟨rfl, by rw [HV.out]; exact (HP.out.drewN _).does⟩
            · have hz : isToB M f = true ∧ newB k.e M.mark.e k.h M.mark.h = true := by have := hp.symm; rw [Bool.and_eq_true] at this; exact this
              have HV := Lib.hid (fol_take f k HQq.out.symm hz.1 hz.2)
              clear hz hp
              rw [← HAA.out] at HV
              obtain ⟨y0, y1, y2, y3⟩ := HP.out.y
              have c56 := HP.out.px.mw.cell 56 rfl
              have f56 := HP.out.px.mw.free 56
              have c57 := HP.out.px.mw.cell 57 rfl
              have f57 := HP.out.px.mw.free 57
              have c58 := HP.out.px.mw.cell 58 rfl
              have f58 := HP.out.px.mw.free 58
              have c59 := HP.out.px.mw.cell 59 rfl
              have f59 := HP.out.px.mw.free 59
              have c60 := HP.out.px.mw.cell 60 rfl
              have f60 := HP.out.px.mw.free 60
              have c61 := HP.out.px.mw.cell 61 rfl
              have f61 := HP.out.px.mw.free 61
              have c62 := HP.out.px.mw.cell 62 rfl
              have f62 := HP.out.px.mw.free 62
              have c63 := HP.out.px.mw.cell 63 rfl
              have f63 := HP.out.px.mw.free 63
              have HZ : Hid (Kx w (setL wc b [(60, .int .u16 k.e.c), (61, .int .u8 k.e.a), (62, .int .u16 k.e.i), (63, .int .u16 k.h), (56, .int .u16 k.e.c), (57, .int .u8 k.e.a), (58, .int .u16 k.e.i), (59, .int .u16 k.h)]) b { A with mark := k, tok := k } R f G k) := Lib.hid (HP.out.sets _ rfl)
              go_wp2
              go_region
              refine world_cut (G := fun W => Exit.then _ _ Exit.normal _ W) (fun W => Kx w W b { A with mark := k, tok := k } R f G k) (by exact HZ.out.drew) ?_
              rintro W9 hx9
              have q12 := hx9.px.mw.cell 12 rfl
              have g12 := hx9.px.mw.free 12
              have HB := Lib.hid (hx9.sets (M' := { A with mark := k, tok := k, leaving := false }) [(12, .bool false)] rfl)
              clear hx9 HZ y0 y1 y2 y3 c56 f56 c57 f57 c58 f58 c59 f59 c60 f60 c61 f61 c62 f62 c63 f63
              go_wp2_with fail
              refine (HAr.out _ HB.out.px.mw).mono ?_
              rintro e w8 ⟨rfl, hm8, ho8⟩
              have HY := Lib.hid (HB.out.turn hm8 ho8)
              clear hm8 ho8 HB
              go_wp2
              go_end0
              exact ⟨rfl, by rw [HV.out]; exact (HY.out).does⟩
      · have e5 : (f.kind == 5) = false := by rw [beq_eq_false_iff_ne]; exact h5
        have x0 := HP.out.px.fx.box.at.at 0 rfl
        have HL : Hid ({ M with heard := k, list := passB M.list f.src f.dst } = A) := Lib.hid (by rw [HAA.out]; unfold folM listF; rw [if_neg h5])
        rw [HL.out] at HP
        clear h5 HL
        go_wp2
        obtain ⟨y0, y1, y2, y3⟩ := HP.out.y
        obtain ⟨nGb, nRb⟩ := HP.out.nb
        have hld := HP.out.drew.px.fx.box.at.ld
        have HQ := Lib.hid HP.out.drew
        have m60 := HP.out.px.mw.cell 60 rfl
        have m61 := HP.out.px.mw.cell 61 rfl
        have m62 := HP.out.px.mw.cell 62 rfl
        have m63 := HP.out.px.mw.cell 63 rfl
        obtain ⟨p, hp⟩ : ∃ p, p = (isToB M f && newB k.e M.mark.e k.h M.mark.h) := ⟨_, rfl⟩
        go_cut [44] (fun s wx => s = .bool p ∧ Hid (Kx w wx b A R f G k))
        case first =>
          cases ht : isToB M f
          · rw [ht] at HI
            have HPp := Lib.hid (show p = false by rw [hp, ht]; rfl)
            clear ht hp
            refine wp_region_held_drew (S := (fun W' => ldF (.pointer (some ⟨R, 0, none⟩)) W' = .ok (.value (.agg (frA f))) W')) (by kernel_rfl) hld (fun hHeld => ?_)
            refine wpAnyH_take (i := 0) (oi := _) (v := ?_) rfl (by kernel_rfl) (by kernel_rfl) (by kernel_rfl) (fun _ _ _ h => h) (Or.inl ⟨by rfl, ?_⟩) (by assumption) ?_
            rotate_left 1
            · intro w hSw
              (try dsimp only at hSw)
              go_simp
              (try with_reducible rfl)
            try simp only [Act.put, List.getElem_toArray, List.getElem_cons_zero, List.getElem_cons_succ, List.setIfInBounds_toArray, List.set_cons_zero, List.set_cons_succ]
            refine wpAnyH_take (i := 1) (oi := { dst := some 46, op := Op.load 38 (Operand.tmp 4), type := 38, pos := "mac.go:381", after := #[], guard := none }) (v := ?_) rfl (by kernel_rfl) (by kernel_rfl) (by kernel_rfl) (fun _ _ _ h => h) (Or.inl ⟨by rfl, ?_⟩) (by assumption) ?_
            rotate_left 1
            · intro w hSw
              (try dsimp only at hSw)
              go_simp
              (try with_reducible rfl)
            try simp only [Act.put, List.getElem_toArray, List.getElem_cons_zero, List.getElem_cons_succ, List.setIfInBounds_toArray, List.set_cons_zero, List.set_cons_succ]
            refine wpAnyH_ready (rs := [2]) (by kernel_rfl) (by simp) (AllReadyH.cons (o := _) rfl (fun K1 hK => ?_) AllReadyH.nil)
            go_simp
            (go_at_call 39; (with_reducible refine (HI.out _ HQ.out.px.mw).mono ?_))
            rintro e w7 ⟨rfl, hb7⟩
            have HQ1 := Lib.hid (HQ.out.below hb7)
            refine hK.out _ _ (by exact HQ1.out.px.fx.box.at.ld) (fun hHeld => ?_)
            clear hK K1
            try simp only [Act.put, List.getElem_toArray, List.getElem_cons_zero, List.getElem_cons_succ, List.setIfInBounds_toArray, List.set_cons_zero, List.set_cons_succ]
            refine wpAnyH_take (i := 3) (oi := _) (v := ?_) rfl (by kernel_rfl) (by kernel_rfl) (by kernel_rfl) (fun _ _ _ h => h) (Or.inl ⟨by rfl, ?_⟩) (by assumption) ?_
            rotate_left 1
            · intro w hSw
              (try dsimp only at hSw)
              go_simp
              (try with_reducible rfl)
            try simp only [Act.put, List.getElem_toArray, List.getElem_cons_zero, List.getElem_cons_succ, List.setIfInBounds_toArray, List.set_cons_zero, List.set_cons_succ]
            refine wpAnyH_take (i := 4) (oi := _) (v := undef) rfl (by kernel_rfl) (by kernel_rfl) (by kernel_rfl) (fun _ _ _ h => h) (Or.inr ⟨by rfl, rfl⟩) (by assumption) ?_
            try simp only [Act.put, List.getElem_toArray, List.getElem_cons_zero, List.getElem_cons_succ, List.setIfInBounds_toArray, List.set_cons_zero, List.set_cons_succ]
            refine wpAnyH_take (i := 5) (oi := _) (v := undef) rfl (by kernel_rfl) (by kernel_rfl) (by kernel_rfl) (fun _ _ _ h => h) (Or.inr ⟨by rfl, rfl⟩) (by assumption) ?_
            try simp only [Act.put, List.getElem_toArray, List.getElem_cons_zero, List.getElem_cons_succ, List.setIfInBounds_toArray, List.set_cons_zero, List.set_cons_succ]
            refine wpAnyH_take (i := 6) (oi := _) (v := undef) rfl (by kernel_rfl) (by kernel_rfl) (by kernel_rfl) (fun _ _ _ h => h) (Or.inr ⟨by rfl, rfl⟩) (by assumption) ?_
            try simp only [Act.put, List.getElem_toArray, List.getElem_cons_zero, List.getElem_cons_succ, List.setIfInBounds_toArray, List.set_cons_zero, List.set_cons_succ]
            refine wpAnyH_take (i := 7) (oi := _) (v := undef) rfl (by kernel_rfl) (by kernel_rfl) (by kernel_rfl) (fun _ _ _ h => h) (Or.inr ⟨by rfl, rfl⟩) (by assumption) ?_
            try simp only [Act.put, List.getElem_toArray, List.getElem_cons_zero, List.getElem_cons_succ, List.setIfInBounds_toArray, List.set_cons_zero, List.set_cons_succ]
            refine wpAnyH_take (i := 8) (oi := _) (v := undef) rfl (by kernel_rfl) (by kernel_rfl) (by kernel_rfl) (fun _ _ _ h => h) (Or.inr ⟨by rfl, rfl⟩) (by assumption) ?_
            try simp only [Act.put, List.getElem_toArray, List.getElem_cons_zero, List.getElem_cons_succ, List.setIfInBounds_toArray, List.set_cons_zero, List.set_cons_succ]
            refine wpAnyH_take (i := 9) (oi := _) (v := undef) rfl (by kernel_rfl) (by kernel_rfl) (by kernel_rfl) (fun _ _ _ h => h) (Or.inr ⟨by rfl, rfl⟩) (by assumption) ?_
            try simp only [Act.put, List.getElem_toArray, List.getElem_cons_zero, List.getElem_cons_succ, List.setIfInBounds_toArray, List.set_cons_zero, List.set_cons_succ]
            refine wpAnyH_take (i := 10) (oi := _) (v := ?_) rfl (by kernel_rfl) (by kernel_rfl) (by kernel_rfl) (fun _ _ _ h => h) (Or.inl ⟨by rfl, ?_⟩) (by assumption) ?_
            rotate_left 1
            · intro w hSw
              (try dsimp only at hSw)
              go_simp
              (try with_reducible rfl)
            try simp only [Act.put, List.getElem_toArray, List.getElem_cons_zero, List.getElem_cons_succ, List.setIfInBounds_toArray, List.set_cons_zero, List.set_cons_succ]
            refine wpAnyH_take (i := 11) (oi := _) (v := ?_) rfl (by kernel_rfl) (by kernel_rfl) (by kernel_rfl) (fun _ _ _ h => h) (Or.inl ⟨by rfl, ?_⟩) (by assumption) ?_
            rotate_left 1
            · intro w hSw
              (try dsimp only at hSw)
              go_simp
              (try with_reducible rfl)
            try simp only [Act.put, List.getElem_toArray, List.getElem_cons_zero, List.getElem_cons_succ, List.setIfInBounds_toArray, List.set_cons_zero, List.set_cons_succ]
            refine wpAnyH_done (by kernel_rfl) ?_ _
            go_wp2
            go_meet
            exact ⟨by rw [HPp.out], Lib.hid HQ1.out⟩
          · rw [ht] at HI
            have HPp := Lib.hid (show p = newB k.e M.mark.e k.h M.mark.h by rw [hp, ht]; rfl)
            clear ht hp
            generalize newB k.e M.mark.e k.h M.mark.h = z at *
            go_region_held3 (fun W' => ldF (.pointer (some ⟨R, 0, none⟩)) W' = .ok (.value (.agg (frA f))) W' ∧ W'.cell? ⟨G, 0, none⟩ = some (.int .u16 k.e.c) ∧ W'.cell? ⟨G, 1, none⟩ = some (.int .u8 k.e.a) ∧ W'.cell? ⟨G, 2, none⟩ = some (.int .u16 k.e.i) ∧ W'.cell? ⟨G, 3, none⟩ = some (.int .u16 k.h) ∧ W'.cell? ⟨b, 60, none⟩ = some (.int .u16 A.mark.e.c) ∧ W'.cell? ⟨b, 61, none⟩ = some (.int .u8 A.mark.e.a) ∧ W'.cell? ⟨b, 62, none⟩ = some (.int .u16 A.mark.e.i) ∧ W'.cell? ⟨b, 63, none⟩ = some (.int .u16 A.mark.h)) (first | exact ⟨HQ.out.px.fx.box.at.ld, HQ.out.y.1, HQ.out.y.2.1, HQ.out.y.2.2.1, HQ.out.y.2.2.2, HQ.out.px.mw.cell 60 rfl, HQ.out.px.mw.cell 61 rfl, HQ.out.px.mw.cell 62 rfl, HQ.out.px.mw.cell 63 rfl⟩ | exact ⟨HQ1.out.px.fx.box.at.ld, HQ1.out.y.1, HQ1.out.y.2.1, HQ1.out.y.2.2.1, HQ1.out.y.2.2.2, HQ1.out.px.mw.cell 60 rfl, HQ1.out.px.mw.cell 61 rfl, HQ1.out.px.mw.cell 62 rfl, HQ1.out.px.mw.cell 63 rfl⟩ | exact ⟨HQ2.out.px.fx.box.at.ld, HQ2.out.y.1, HQ2.out.y.2.1, HQ2.out.y.2.2.1, HQ2.out.y.2.2.2, HQ2.out.px.mw.cell 60 rfl, HQ2.out.px.mw.cell 61 rfl, HQ2.out.px.mw.cell 62 rfl, HQ2.out.px.mw.cell 63 rfl⟩) ((first | (go_at_call 39; refine (HI.out _ HQ.out.px.mw).mono ?_; rintro e w7 ⟨rfl, hb7⟩; have HQ1 := Lib.hid (HQ.out.below hb7)) | (go_at_call 45; refine (HNm.out _).mono ?_; rintro e w8 ⟨rfl, hb8⟩; have HQ2 := Lib.hid (HQ1.out.below hb8))))
            go_wp2
            go_meet
            exact ⟨by rw [HPp.out], Lib.hid HQ2.out⟩
        case rest =>
          obtain ⟨rfl, hr⟩ := hcut
          replace HP := Lib.hid hr.out
          clear hr HQ hld y0 y1 y2 y3 m60 m61 m62 m63 HI HNm
          cases p
          · by_cases hs : M.st = 2
            · have c10 : wc.cell? ⟨b, 10, none⟩ = some (.int .i64 2) := by rw [HP.out.px.mw.cell 10 rfl, HAA.out]; exact congrArg (fun z => some (Value.int .i64 z)) hs
              have c20 : wc.cell? ⟨b, 20, none⟩ = some (sv (listF M f)) := by rw [HP.out.px.mw.cell 20 rfl, HAA.out]; rfl
              have c0 : wc.cell? ⟨b, 0, none⟩ = some (.int .i64 M.ad) := by rw [HP.out.px.mw.cell 0 rfl, HAA.out]; rfl
              have HH := Lib.hid (fun n => Mem.Has_any (listF M f) M.ad (World.drewN wc n))
              cases hh : hasB (listF M f) M.ad
              · have HV := Lib.hid (fol_out f k HQq.out.symm hp.symm hs hh)
                rw [hh] at HH
                clear hp hs hh
                go_wp2
                go_quiet (exact Calls.quiet_of_same (Epo.still_of (HH.out _)))
                refine world_cut (G := fun W => Exit.then _ _ Exit.normal _ W) (fun W => Kx w W b A R f G k) (by exact HP.out.drewN _) ?_
                rintro W9 hx9
                have q10 := hx9.px.mw.cell 10 rfl
                have g10 := hx9.px.mw.free 10
                have HZ : Hid (Kx w (setL W9 b [(10, .int .i64 1)]) b { folM M f k with st := 1 } R f G k) := Lib.hid (by have := hx9; rw [HAA.out] at this; exact this.sets _ rfl)
                clear hx9 c10 c20 c0 HH HP
                go_wp2
                go_end0
                exact ⟨rfl, by rw [HV.out]; exact (HZ.out).does⟩
              · have HV := Lib.hid (fol_in f k HQq.out.symm hp.symm (fun z => by rw [hh] at z; cases z.2))
                rw [hh] at HH
                clear hp hs hh
                rw [← HAA.out] at HV
                go_wp2
                go_quiet (exact Calls.quiet_of_same (Epo.still_of (HH.out _)))
                go_wp2
                go_end0
                exact ⟨rfl, by rw [HV.out]; exact (HP.out.drewN _).does⟩
            · have c10 : wc.cell? ⟨b, 10, none⟩ = some (.int .i64 M.st) := by rw [HP.out.px.mw.cell 10 rfl, HAA.out]; rfl
              have e2 : (M.st == 2) = false := by rw [beq_eq_false_iff_ne]; exact hs
              have HV := Lib.hid (fol_in f k HQq.out.symm hp.symm (fun z => hs z.1))
              clear hp hs
              rw [← HAA.out] at HV
              go_wp2
              go_quiet (fail)
              go_wp2
              go_end0
              exact ⟨rfl, by rw [HV.out]; exact (HP.out.drewN _).does⟩
          · have hz : isToB M f = true ∧ newB k.e M.mark.e k.h M.mark.h = true := by have := hp.symm; rw [Bool.and_eq_true] at this; exact this
            have HV := Lib.hid (fol_take f k HQq.out.symm hz.1 hz.2)
            clear hz hp
            rw [← HAA.out] at HV
            obtain ⟨y0, y1, y2, y3⟩ := HP.out.y
            have c56 := HP.out.px.mw.cell 56 rfl
            have f56 := HP.out.px.mw.free 56
            have c57 := HP.out.px.mw.cell 57 rfl
            have f57 := HP.out.px.mw.free 57
            have c58 := HP.out.px.mw.cell 58 rfl
            have f58 := HP.out.px.mw.free 58
            have c59 := HP.out.px.mw.cell 59 rfl
            have f59 := HP.out.px.mw.free 59
            have c60 := HP.out.px.mw.cell 60 rfl
            have f60 := HP.out.px.mw.free 60
            have c61 := HP.out.px.mw.cell 61 rfl
            have f61 := HP.out.px.mw.free 61
            have c62 := HP.out.px.mw.cell 62 rfl
            have f62 := HP.out.px.mw.free 62
            have c63 := HP.out.px.mw.cell 63 rfl
            have f63 := HP.out.px.mw.free 63
            have HZ : Hid (Kx w (setL wc b [(60, .int .u16 k.e.c), (61, .int .u8 k.e.a), (62, .int .u16 k.e.i), (63, .int .u16 k.h), (56, .int .u16 k.e.c), (57, .int .u8 k.e.a), (58, .int .u16 k.e.i), (59, .int .u16 k.h)]) b { A with mark := k, tok := k } R f G k) := Lib.hid (HP.out.sets _ rfl)
            go_wp2
            go_region
            refine world_cut (G := fun W => Exit.then _ _ Exit.normal _ W) (fun W => Kx w W b { A with mark := k, tok := k } R f G k) (by exact HZ.out.drew) ?_
            rintro W9 hx9
            have q12 := hx9.px.mw.cell 12 rfl
            have g12 := hx9.px.mw.free 12
            have HB := Lib.hid (hx9.sets (M' := { A with mark := k, tok := k, leaving := false }) [(12, .bool false)] rfl)
            clear hx9 HZ y0 y1 y2 y3 c56 f56 c57 f57 c58 f58 c59 f59 c60 f60 c61 f61 c62 f62 c63 f63
            go_wp2_with fail
            refine (HAr.out _ HB.out.px.mw).mono ?_
            rintro e w8 ⟨rfl, hm8, ho8⟩
            have HY := Lib.hid (HB.out.turn hm8 ho8)
            clear hm8 ho8 HB
            go_wp2
            go_end0
            exact ⟨rfl, by rw [HV.out]; exact (HY.out).does⟩
end Go.Proofs.YtedlfognpbbhhaaGreatDoor.Ma
