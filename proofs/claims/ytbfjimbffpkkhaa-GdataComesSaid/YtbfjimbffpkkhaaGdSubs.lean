/-
  The law GdataSubscribes: walked. Conditions: as it states.
-/
import Derived.Test.YtbfjimbffpkkhaaGdPubs
import Derived.Test.YtbfjimbffpkkhaaGdRSub
namespace Go.Proofs.Ytbfjimbffpkkhaa.Pa
open Go.RowKit

/-! ### A frame that comes -/
noncomputable def ldC (v : Value) (W : World) : Result Next := (do pure (Next.value (← Instr.loadAt 57 v)) : Sem Next).run Try.prog W
noncomputable def stC (p v : Value) (W : World) : Result Next := (do Instr.storeAt 57 p v; pure Next.skip : Sem Next).run Try.prog W
theorem exec_ldC (ρ : Operand → Value) (d : Option Tmp) (x : Operand) (t : TypeId) (pos : String) (af : _) (g : _) (W : World) :
    (execOp ρ ⟨d, .load 57 x, t, pos, af, g⟩).run Try.prog W = ldC (ρ x) W := rfl
theorem exec_stC (ρ : Operand → Value) (d : Option Tmp) (x y : Operand) (t : TypeId) (pos : String) (af : _) (g : _) (W : World) :
    (execOp ρ ⟨d, .store 57 x y, t, pos, af, g⟩).run Try.prog W = stC (ρ x) (ρ y) W := rfl
theorem Try.sizeC : (Try.prog.info? 57).map (·.size) = some 19 := by kernel_rfl
theorem FrAt.ldC {W : World} {b o : Nat} {f : Fr} (h : FrAt W b o f) : ldC (.pointer (some ⟨b, o, none⟩)) W = .ok (.value (.agg (frA f))) W := by
  unfold Pa.ldC
  rw [Sem.run_bind, run_loadAt_mid (P := Try.prog) W b o 57 (frC f) _ h Try.underlying57 rfl (by rw [frC_len]; exact Try.sizeC)]
  rfl
theorem stC_new0 (W : World) (f : Fr) : stC (.pointer (some ⟨W.heap.size, 0, none⟩)) (.agg (frA f)) (W.alloc (.cells #[.int .i64 0, .int .u8 0, .int .u8 0, .int .u16 0, .int .u16 0, .int .u16 0, .int .u8 0, .int .u16 0, .int .u16 0, .int .u16 0, .int .u8 0, .int .u16 0, .bool false, .int .u8 0, .int .u16 0, .int .u32 0, .int .u8 0, .int .u8 0, .string ⟨#[]⟩] 57)) = .ok .skip (W.alloc (.cells (frA f) 57)) := by
  have ht : (W.alloc (.cells (frA fr0) 57)).there W.heap.size 0 19 := fun j hj => by
    refine ⟨?_, World.frozen?_alloc_new _ _ _ _⟩
    rw [Nat.zero_add, World.cell?_alloc_new, Array.getElem?_eq_getElem (by rw [frA_size]; exact hj)]
    rfl
  have h : stC (.pointer (some ⟨W.heap.size, 0, none⟩)) (.agg (frA f)) (W.alloc (.cells (frA fr0) 57)) = .ok .skip ((W.alloc (.cells (frA fr0) 57)).setCells W.heap.size 0 (frA f).toList) := by
    unfold stC
    rw [Sem.run_bind, run_storeAt_mid (P := Try.prog) _ W.heap.size 0 57 (frA f) (by rw [frA_size]; exact ht) (by rw [frA_size]; exact Try.sizeC) (frA_one f)]
    rfl
  rw [frA_list, sets_new, setL_frC] at h
  exact h
theorem FrAt.newC (W : World) (f : Fr) : FrAt (W.alloc (.cells (frA f) 57)) W.heap.size 0 f := range_new W (frA f) 57

/-- Frames, where they lie. -/
def FLies (w : World) (N : Nat) (ao : Option Addr) (xs : List Fr) : Prop := 1 ≤ xs.length → ∃ (b o : Nat), ao = some ⟨b, o, none⟩ ∧ b < N ∧ ∀ (k : Nat) (f : Fr), xs[k]? = some f → FrAt w b (o + k * 19) f
def FitX (xs : List Fr) : Prop := ∀ (k : Nat) (f : Fr), xs[k]? = some f → FitF f ∧ f.bytes.length ≤ maxLen
theorem frAt_kept {w W : World} {N b o : Nat} {f : Fr} (h : FrAt w b o f) (hb : Below N w W) (hN : b < N) : FrAt W b o f := fun j v hv => kept_cell hb hN (h j v hv)

/-- Two subscribers, the program's and the reference's. -/
structure Ds (w W : World) (N b q t r n : Nat) (s u : Sb) : Prop where
  sub : SubAt W b q n s
  ref : RsAt W t r n u
  ws : WS n s
  wu : WS n u
  bel : Below N w W
  nb : N ≤ b
  nq : N ≤ q
  nt : N ≤ t
  nr : N ≤ r
  tb : t ≠ b
  tq : t ≠ q
  rb : r ≠ b
  rq : r ≠ q
  rl : r < W.heap.size
section
variable {w W W' : World} {N b q t r n : Nat} {s u s' : Sb}
theorem Ds.below (h : Ds w W N b q t r n s u) (hb : Below W.heap.size W W') : Ds w W' N b q t r n s u :=
  ⟨h.sub.below hb, h.ref.below hb, h.ws, h.wu, h.bel.trans (hb.mono (by have := h.sub.lt; have := h.nb; omega)), h.nb, h.nq, h.nt, h.nr, h.tb, h.tq, h.rb, h.rq, by have := h.rl; have := hb.size; omega⟩
theorem Ds.one (h : Ds w W N b q t r n s u) (hp : SubAt W' b q n s') (ho : OnlyL [b, q] W W') (hw : WS n s') : Ds w W' N b q t r n s' u := by
  have := h.sub.lt
  refine ⟨hp, h.ref.only ho (by have := h.tb; have := h.tq; simp; omega) (fun _ => by have := h.rb; have := h.rq; simp; omega), hw, h.wu, h.bel.trans (ho.below (by have := h.nb; have := h.nq; simp; omega) (by have := h.nb; omega)), h.nb, h.nq, h.nt, h.nr, h.tb, h.tq, h.rb, h.rq, by have := h.rl; have := ho.size; omega⟩
theorem Ds.row {r' : Nat} (h : Ds w W N b q t r n s u) (hr : r' = r ∨ W.heap.size ≤ r') : N ≤ r' ∧ r' ≠ b ∧ r' ≠ q := by
  have := h.sub.lt
  have := h.sub.qlt
  have := h.nb
  have := h.rb
  have := h.rq
  have := h.nr
  rcases hr with e | e <;> omega
theorem Ds.two {r' : Nat} (h : Ds w W N b q t r n s u) (hp : RsAt W' t r' n s') (ho : OnlyL [t, r] W W') (hw : WS n s') (hr : N ≤ r' ∧ r' ≠ b ∧ r' ≠ q) (hl : r' < W'.heap.size) : Ds w W' N b q t r' n s s' := by
  have := h.sub.lt
  have := h.nb
  exact ⟨h.sub.only ho (by have := h.tb; have := h.rb; simp; omega) (by have := h.tq; have := h.rq; simp; omega), hp, h.ws, hw, h.bel.trans (ho.below (by have := h.nt; have := h.nr; simp; omega) (by omega)), h.nb, h.nq, h.nt, hr.1, h.tb, h.tq, hr.2.1, hr.2.2, hl⟩
theorem Ds.three {r' : Nat} (h : Ds w W N b q t r n s u) (hp : RsAt W' t r' n s') (ho : OnlyL [t, r] W W') (hw : WS n s') (hr : r' = r ∨ W.heap.size ≤ r') : ∃ r'', Ds w W' N b q t r'' n s s' := by
  cases hi : s'.gl.is
  · exact ⟨t, h.two ⟨by have := RAt.head hp; unfold camV at this ⊢; rw [hi] at this ⊢; exact this, fun e => by rw [hi] at e; cases e⟩ ho hw ⟨h.nt, h.tb, h.tq⟩ hp.lt⟩
  · exact ⟨r', h.two hp ho hw (h.row hr) (RAt.rlt hp hi)⟩
end
theorem only_more {ms ns : List Nat} {W W' : World} (h : OnlyL ms W W') (hm : ∀ j ∈ ms, j ∈ ns) : OnlyL ns W W' := ⟨h.os, h.tape, h.output, h.size, fun k hk hn => h.block k hk (fun hi => hn (hm k hi))⟩

attribute [local go_sem ↓] exec_ldF exec_stF exec_ldC exec_stC exec_bdF
attribute [local go_sem] stF_new0 stC_new0
set_option maxRecDepth 100000 in
set_option maxHeartbeats 4000000 in
theorem subs_walk (z : Int) (v : Bs) (xs : List Fr) (ao : Option Addr) (cap : Nat) (w : World) (hz : I64 z) (hx : FLies w w.heap.size ao xs) (hfx : FitX xs) (hl : xs.length ≤ maxLen) (hv : v.length ≤ maxLen) :
    Calls Try.prog 4 #[.int .i64 z, .string (S v), .slice ao xs.length cap] w (Tells (.bool true) w) := by
  have hmi : (xs.length : Int) ≤ 9223372036854775807 := by unfold maxLen at hl; omega
  have hmv : (v.length : Int) ≤ 9223372036854775807 := by unfold maxLen at hv; omega
  have hsv := S_size v
  have hWk := Lib.hid (fun W => wake_any W)
  by_cases h80 : 100 < v.length ∨ 80 < xs.length
  · have HT : Hid ((decide ((100 : Int) < (v.length : Int)) = true) ∨ (decide ((100 : Int) < (v.length : Int)) = false ∧ decide ((80 : Int) < (xs.length : Int)) = true)) := Lib.hid (by
      by_cases h1 : 100 < v.length
      · exact .inl (decide_eq_true (by omega))
      · exact .inr ⟨decide_eq_false (by omega), decide_eq_true (by omega)⟩)
    clear hx hl h80 hfx hv
    go_enter Try.func4, Try.ntmps4
    go_wp2_with fail
    refine (hWk.out _).mono ?_
    rintro e w1 ⟨rfl, hb1⟩
    have HB1 := Lib.hid hb1
    clear hb1
    rcases HT.out with d1 | ⟨d1, d2⟩
    all_goals
      go_wp2
      go_ret
      exact ⟨rfl, HB1.out⟩
  have d5 : decide ((100 : Int) < (v.length : Int)) = false := decide_eq_false (by omega)
  have d6 : decide ((80 : Int) < (xs.length : Int)) = false := decide_eq_false (by omega)
  by_cases hbad : z < 1 ∨ 64 < z
  · have HN := Lib.hid (fun W => cNewSub_no z (S v) W (parts_no hbad))
    have HPt := Lib.hid (fun W => cSPut_nil (frK 4) W)
    have HFr := Lib.hid (fun W => cFront_nil W)
    have HLa := Lib.hid (fun W => cLatch_nil W)
    have HFa := Lib.hid (fun W => cFault_nil W)
    have hbd := bdF_k 4
    have HT : Hid ((decide (z < 1) = true) ∨ (decide (z < 1) = false ∧ decide (64 < z) = true)) := Lib.hid (by
      by_cases h1 : z < 1
      · exact .inl (decide_eq_true h1)
      · exact .inr ⟨decide_eq_false h1, decide_eq_true (hbad.resolve_left h1)⟩)
    clear hx hl hbad hfx hv h80
    generalize frA (frK 4) = X at *
    go_enter Try.func4, Try.ntmps4
    go_wp2_with fail
    refine (hWk.out _).mono ?_
    rintro e w1 ⟨rfl, hb1⟩
    have HB1 := Lib.hid hb1
    clear hb1
    go_wp2_with fail
    refine (HN.out _).mono ?_
    rintro e w2 ⟨rfl, rfl⟩
    rcases HT.out with d1 | ⟨d1, d2⟩
    all_goals
      go_wp2_with fail
      refine (HPt.out _).mono ?_
      rintro e w3 ⟨rfl, hb3⟩
      have HB3 := Lib.hid (HB1.out.trans (hb3.mono HB1.out.size))
      clear hb3
      go_wp2_with fail
      refine (HFr.out _).mono ?_
      rintro e w4 ⟨rfl, hb4⟩
      have HB4 := Lib.hid ((HB3.out.trans (hb4.mono HB3.out.size)).alloc (by have := hb4.size; have := HB3.out.size; omega) (.cells #[.int .u16 0, .int .u32 0] 31))
      clear hb4
      go_wp2_with fail
      refine (HLa.out _).mono ?_
      rintro e w5 ⟨rfl, rfl⟩
      go_wp2_with fail
      refine (HFa.out _).mono ?_
      rintro e w6 ⟨rfl, rfl⟩
      go_wp2
      go_ret
      exact ⟨rfl, HB4.out⟩
  have d1 : decide (z < 1) = false := decide_eq_false (by omega)
  have d2 : decide (64 < z) = false := decide_eq_false (by omega)
  obtain ⟨n, hzn⟩ : ∃ n : Nat, z = n := ⟨z.toNat, by omega⟩
  subst hzn
  have hn : 1 ≤ n ∧ n ≤ 64 := by omega
  clear hbad hz h80
  have HN := Lib.hid (fun W => cNewSub n v W hn)
  have HR := Lib.hid (fun W => rNewSub n v W hn)
  have HX := Lib.hid hx
  have HFx := Lib.hid hfx
  have HW0 := Lib.hid (ws_0 (padV n v) hn.1 hn.2)
  clear hx hl hfx hv
  go_enter Try.func4, Try.ntmps4
  go_wp2_with fail
  refine (hWk.out _).mono ?_
  rintro e w1 ⟨rfl, hb1⟩
  go_wp2_with fail
  refine (HN.out _).mono ?_
  rintro e w2 ⟨rfl, hs, hb2, hz2⟩
  go_wp2_with fail
  refine (HR.out _).mono ?_
  rintro e w3 ⟨rfl, hr, hb3, hz3⟩
  have HA : Hid (∃ s r, Ds w w3 w.heap.size (w1.heap.size + 1 + 1) w1.heap.size w2.heap.size r n s s) := by
    have h1 := hb1.size
    exact Lib.hid ⟨_, w2.heap.size, hs.below hb3, hr, HW0.out, HW0.out, (hb1.trans (hb2.mono h1)).trans (hb3.mono (by omega)), by omega, h1, by omega, by omega, by omega, by omega, by omega, by omega, by omega⟩
  clear HN HR HW0 hs hr hb1 hb2 hb3 hz2 hz3
  generalize hN : w.heap.size = N at *
  replace hN := Lib.hid hN
  go_wp2
  generalize w1.heap.size = q at *
  generalize w2.heap.size = t at *
  generalize q + 1 + 1 = b at *
  go_loopw [83] (fun x W => ∃ k : Nat, k ≤ xs.length ∧ x = .int .i64 k ∧ Hid (∃ s r, Ds w W N b q t r n s s)) (fun x _ => xs.length - (intOf x).toNat)
  case atStart => exact ⟨0, Nat.zero_le _, rfl, HA⟩
  case round =>
    clear HA
    obtain ⟨k, hk, rfl, hS⟩ := hrel
    obtain ⟨s, r, hS⟩ := hS.out
    have HS := Lib.hid hS
    by_cases hlt : k < xs.length
    · have d3 : decide (k < xs.length) = true := decide_eq_true hlt
      obtain ⟨f, hxk⟩ : ∃ x, xs[k]? = some x := ⟨_, List.getElem?_eq_getElem hlt⟩
      obtain ⟨sb, so, rfl, hsb, hI⟩ := HX.out (by omega)
      obtain ⟨hfit, hfl⟩ := HFx.out k f hxk
      have hfr := frAt_kept (hI k f hxk) hS.bel hsb
      have hl0 := hfr.ldC
      have HS1 := Lib.hid (hS.below (one_S wr (frA f) 57))
      have HF1 := Lib.hid (FrAt.newC wr f)
      have hwr : sb < wr.heap.size := by have := hS.sub.lt; have := hS.nb; omega
      have hst := stC_new0 wr f
      have hc18 := HF1.out.at 18 rfl
      have hc0 := HF1.out.at 0 rfl
      have hs18 := S_size f.bytes
      have hl1 := HF1.out.ld
      have hlts : b < wr.heap.size ∧ q < wr.heap.size ∧ t < wr.heap.size ∧ r < wr.heap.size := ⟨hS.sub.lt, hS.sub.qlt, hS.ref.lt, hS.rl⟩
      clear hS hI hxk HS
      by_cases h40 : 40 < f.bytes.length
      · have d4 : decide ((40 : Int) < (f.bytes.length : Int)) = true := decide_eq_true (by omega)
        generalize frA f = X at *
        go_wp2
        go_ret
        exact ⟨rfl, hN.out ▸ HS1.out.bel⟩
      · have d4 : decide ((40 : Int) < (f.bytes.length : Int)) = false := decide_eq_false (by omega)
        obtain ⟨D5, e5⟩ : ∃ D, (f.kind == 0) = D := ⟨_, rfl⟩
        have HPt := Lib.hid (fun W s (h : SubAt W b q n s) (hw : WS n s) => cSPut b q n s f W h hw hfit hfl)
        have HRp := Lib.hid (fun W r s (h : RsAt W t r n s) (hw : WS n s) (hr : r < W.heap.size) => rSPut t r n s f W h hw hfit hfl (.inl hr))
        have HWp := Lib.hid (fun s (h : WS n s) => ws_put h hfit)
        have HLd := Lib.hid (fun W R (h : FrAt W R 0 f) => h.ld)
        clear hfr hfit hfl
        generalize frA f = X at *
        go_upto_if 95 with fail
        refine world_cut (G := fun W => Code.wp _ _ _ _ W) (fun W => Ds w W N b q t r n s s ∧ FrAt W wr.heap.size 0 f ∧ wr.heap.size < W.heap.size) (by exact ⟨HS1.out, HF1.out, by simp⟩) ?_
        rintro W1 ⟨hS1, hF1, hsz1⟩
        have HS2 := Lib.hid (⟨hS1, hF1⟩ : _ ∧ _)
        have hB : b ≠ wr.heap.size ∧ q ≠ wr.heap.size ∧ t ≠ wr.heap.size ∧ r ≠ wr.heap.size := by
          have := hlts.1
          have := hlts.2.1
          have := hlts.2.2.1
          have := hlts.2.2.2
          omega
        clear hlts
        clear e5 HS1 HF1 hl0 hst hc18 hc0 hs18 hl1 hS1 hF1 d4 h40 hwr
        generalize wr.heap.size = B at *
        go_cut [] (fun wx => Hid (∃ s' r', Ds w wx N b q t r' n s' s'))
        case first =>
          cases D5
          · have hl1 := HLd.out _ _ HS2.out.2
            have HC := Lib.hid (HPt.out _ _ HS2.out.1.sub HS2.out.1.ws)
            have HW' := Lib.hid (HWp.out _ HS2.out.1.ws)
            go_wp2_with fail
            refine HC.out.mono ?_
            rintro e w3 ⟨rfl, hp1, ho1⟩
            have HS3 := Lib.hid (HS2.out.1.one hp1 ho1 HW'.out)
            have HF3 := Lib.hid (HS2.out.2.only ho1 (by simp; omega))
            have hl3 := HLd.out _ _ HF3.out
            have HR := Lib.hid (HRp.out _ _ _ HS3.out.ref HS3.out.wu HS3.out.rl)
            clear HS2 HC hp1 ho1 hl1
            go_wp2_with fail
            refine HR.out.mono ?_
            rintro e w4 ⟨rfl, r', hr4, ho4, hn4⟩
            have HS4 : Hid (∃ s' r', Ds w w4 N b q t r' n s' s') := Lib.hid ⟨_, HS3.out.three hr4 ho4 HW'.out hn4⟩
            clear HS3 HF3 hl3 HR hr4 ho4 hn4
            generalize doneB n s.gl f = E at *
            generalize errB n s.gl f = E2 at *
            go_wp2
            go_meet
            exact HS4
          · have HC := Lib.hid (cLatch b q n s W1 HS2.out.1.sub)
            have HR := Lib.hid (fun W (h : RsAt W t r n s) => rLatch t r n s W h)
            have HW' := Lib.hid (ws_lat HS2.out.1.ws)
            generalize s.waits = E at *
            generalize latS s = s' at *
            go_wp2_with fail
            refine HC.out.mono ?_
            rintro e w3 ⟨rfl, hp1, ho1⟩
            have HS3 := Lib.hid (HS2.out.1.one hp1 (only_more ho1 (by simp)) HW'.out)
            clear HS2 HC hp1 ho1
            go_wp2_with fail
            refine (HR.out _ HS3.out.ref).mono ?_
            rintro e w4 ⟨rfl, hr4, ho4⟩
            have HS4 : Hid (∃ s' r', Ds w w4 N b q t r' n s' s') := Lib.hid ⟨_, r, HS3.out.two hr4 (only_more ho4 (by simp)) HW'.out (HS3.out.row (.inl rfl)) (by have := HS3.out.rl; have := ho4.size; omega)⟩
            clear HS3 HR hr4 ho4
            go_wp2
            go_meet
            exact HS4
        case rest =>
          clear HPt HRp HWp HLd HS2
          obtain ⟨s', r', hS⟩ := hcut.out
          have HS3 := Lib.hid hS
          have HFr := Lib.hid (show Calls Try.prog 17 #[.pointer (some ⟨b, 0, none⟩)] wc (Tells (.tuple #[.string (S s'.front), .agg #[.int .u16 s'.fi, .int .u32 s'.fs]]) wc) from cFront b q n s' wc hS.sub)
          have HWa := Lib.hid (fun W (h : Ds w W N b q t r' n s' s') => show Calls Try.prog 23 #[.pointer (some ⟨b, 0, none⟩)] W (Tells (.tuple #[.string (S s'.beh), .agg #[.int .u16 s'.bi, .int .u32 s'.bs], .bool s'.waits]) W) from cWaits b q n s' W h.sub h.ws)
          have HFa := Lib.hid (fun W (h : Ds w W N b q t r' n s' s') m => show Calls Try.prog 19 #[.pointer (some ⟨b, 0, none⟩)] (W.drewN m) (fun e w' => e = .returned (.bool s'.fault) ∧ w' = W.drewN m) from
            (cFault b q n s' (W.drewN m) (h.sub.below (below_drewN W _ m))).mono fun _ _ ⟨he, hw⟩ => ⟨he, hw.symm⟩)
          have HQ := Lib.hid (fun W (h : Ds w W N b q t r' n s' s') => show W.cell? ⟨t, 5, none⟩ = some (.string (S s'.front)) ∧ W.cell? ⟨t, 6, none⟩ = some (.string (S s'.beh)) ∧ W.cell? ⟨t, 7, none⟩ = some (.int .u16 s'.fi) ∧ W.cell? ⟨t, 8, none⟩ = some (.int .u32 s'.fs) ∧
            W.cell? ⟨t, 9, none⟩ = some (.int .u16 s'.bi) ∧ W.cell? ⟨t, 10, none⟩ = some (.int .u32 s'.bs) ∧ W.cell? ⟨t, 11, none⟩ = some (.bool s'.waits) ∧ W.cell? ⟨t, 12, none⟩ = some (.bool s'.fault) from
            ⟨h.ref.c5, h.ref.c6, h.ref.c7, h.ref.c8, h.ref.c9, h.ref.c10, h.ref.c11, h.ref.c12⟩)
          clear hcut hS
          go_wp2_with fail
          refine HFr.out.mono ?_
          rintro e w3 ⟨rfl, hb3⟩
          have HS4 := Lib.hid ((HS3.out.below hb3).below (one_S w3 #[.int .u16 s'.fi, .int .u32 s'.fs] 31))
          have HL4 := Lib.hid (laid_ver w3 (.int .u16 s'.fi) (.int .u32 s'.fs))
          clear HFr HS3 hb3
          go_wp2_with fail
          refine (HWa.out _ HS4.out).mono ?_
          rintro e w5 ⟨rfl, hb5⟩
          have HS6 := Lib.hid ((HS4.out.below hb5).below (one_S w5 #[.int .u16 s'.bi, .int .u32 s'.bs] 31))
          have HL6 := Lib.hid (show _ ∧ _ from ⟨kept_own (one_S w5 #[.int .u16 s'.bi, .int .u32 s'.bs] 31) (kept_own hb5 HL4.out.1), kept_own (one_S w5 #[.int .u16 s'.bi, .int .u32 s'.bs] 31) (kept_own hb5 HL4.out.2)⟩)
          have HL7 := Lib.hid (laid_ver w5 (.int .u16 s'.bi) (.int .u32 s'.bs))
          clear HWa HS4 HL4 hb5
          go_wp2
          refine world_cut (G := fun W => Code.wp _ _ _ _ W) (fun W => Ds w W N b q t r' n s' s' ∧ (W.cell? ⟨w3.heap.size, 0, none⟩ = some (.int .u16 s'.fi) ∧ W.cell? ⟨w3.heap.size, 1, none⟩ = some (.int .u32 s'.fs)) ∧ W.cell? ⟨w5.heap.size, 0, none⟩ = some (.int .u16 s'.bi) ∧ W.cell? ⟨w5.heap.size, 1, none⟩ = some (.int .u32 s'.bs)) (by exact ⟨HS6.out, HL6.out, HL7.out⟩) ?_
          rintro W ⟨hW, ⟨l0, l1⟩, l2, l3⟩
          have HW := Lib.hid hW
          obtain ⟨q5, q6, q7, q8, q9, q10, q11, q12⟩ := HQ.out W hW
          have HFW := Lib.hid (fun m => HFa.out W hW m)
          clear HS6 HL6 HL7 hW HQ HFa
          generalize w3.heap.size = B1 at *
          generalize w5.heap.size = B2 at *
          go_quiet (exact Calls.quiet_of_same (HFW.out _))
          have HZ : Hid (∃ s r, Ds w (W.drewN nq) N b q t r n s s) := Lib.hid ⟨_, _, HW.out.below (below_drewN _ _ _)⟩
          go_wp2
          go_roundw
          case rel => exact ⟨k + 1, by omega, by go_num, HZ⟩
          case measure => simp [intOf]; omega
    · obtain rfl : k = xs.length := by omega
      have d3 : decide (xs.length < xs.length) = false := by simp
      clear hS
      go_wp2
      go_ret
      exact ⟨rfl, hN.out ▸ HS.out.bel⟩
end Go.Proofs.Ytbfjimbffpkkhaa.Pa
