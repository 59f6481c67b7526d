/-
  What hearing keeps of a mac's numbers; the mark that it passes is never behind. Conditions: none.
-/
import Derived.Test.YtedlfognpbbhhaaGreatDoorMaInv
namespace Go.Proofs.YtedlfognpbbhhaaGreatDoor.Ma
open Go.Proofs.YtedlfognpbbhhaaGreatDoor.Epo (Ep cmpE newB maxE numE numM cmpN orL)
open Go.Proofs.YtedlfognpbbhhaaGreatDoor.Mem (St withB woB hasB passB nextI turnI gapB)
open Go.Proofs.YtedlfognpbbhhaaGreatDoor.Frm (Fr)

section
variable {n : Int} {M M' : Mc}
theorem epF_fit (f : Fr) (hf : f.fit) : (epF f).fit := by
  obtain ⟨h1, h2, h3, h4, h5, h6, h7, h8, -⟩ := hf
  refine ⟨?_, ?_, ?_⟩
  · show f.ec ≤ 65535
    omega
  · show f.ea ≤ 255
    omega
  · show f.ei ≤ 65535
    omega
theorem hiF_fit (f : Fr) (hf : f.fit) : (hiF f).fit := by
  obtain ⟨h1, h2, h3, h4, h5, h6, h7, h8, h9, h10, h11, -⟩ := hf
  refine ⟨?_, ?_, ?_⟩
  · show f.hc ≤ 65535
    omega
  · show f.ha ≤ 255
    omega
  · show f.hi ≤ 65535
    omega
theorem hop_fit (f : Fr) (hf : f.fit) : (mkF f).h ≤ 65535 := by
  have := hf.2.2.2.2.2.2.2.1
  show f.hop ≤ 65535
  omega
theorem cmp_pos {x y : Ep} (hx : x.fit) (hy : y.fit) : 0 < cmpE x y ↔ numE y < numE x := by
  rw [Epo.cmpE_num x y hx hy]
  rcases Nat.lt_trichotomy (numE x) (numE y) with e | e | e
  · rw [Epo.cmpN_lt e]
    constructor
    · intro h; exact absurd h (by decide)
    · intro h; omega
  · rw [Epo.cmpN_eq e]
    constructor
    · intro h; exact absurd h (by decide)
    · intro h; omega
  · rw [Epo.cmpN_gt e]
    exact ⟨fun _ => e, fun _ => by decide⟩
theorem cmp_neg {x y : Ep} (hx : x.fit) (hy : y.fit) : cmpE x y < 0 ↔ numE x < numE y := by
  rw [Epo.cmpE_num x y hx hy]
  rcases Nat.lt_trichotomy (numE x) (numE y) with e | e | e
  · rw [Epo.cmpN_lt e]
    exact ⟨fun _ => e, fun _ => by decide⟩
  · rw [Epo.cmpN_eq e]
    constructor
    · intro h; exact absurd h (by decide)
    · intro h; omega
  · rw [Epo.cmpN_gt e]
    constructor
    · intro h; exact absurd h (by decide)
    · intro h; omega
theorem max_num {x y : Ep} (hx : x.fit) (hy : y.fit) : (maxE x y).fit ∧ numE x ≤ numE (maxE x y) := by
  unfold maxE
  split
  · rename_i h
    exact ⟨hy, Nat.le_of_lt ((cmp_neg hx hy).1 h)⟩
  · exact ⟨hx, Nat.le_refl _⟩
theorem st_mind (h : Iv n M) (f : Fr) : St1 n M (mindM M f) := by
  have k := h.ok
  exact ⟨⟨⟨k.ad, k.sl, k.gp, k.clock, ⟨Int.le_refl _, zero_n k⟩, k.timer, k.visits, k.arrived, k.rot, k.tries, k.part, k.p8, k.ask, k.high, k.tok⟩, h.inc, h.le, h.mf⟩, Up.same rfl⟩
theorem st_poll (h : Iv n M) (f : Fr) : St1 n M (pollM M f) := by
  unfold pollM
  split
  · exact st_same h { M with poll := f, polled := true } rfl rfl h.ok.p8
  · exact ⟨h, Up.refl M⟩
theorem st_status (h : Iv n M) (f : Fr) (hf : f.fit) : St1 n M (statusM M f) := by
  have k := h.ok
  have hm := max_num k.high (hiF_fit f hf)
  exact ⟨⟨⟨k.ad, k.sl, k.gp, k.clock, k.silence, k.timer, k.visits, k.arrived, k.rot, k.tries, k.part, k.p8, k.ask, hm.1, k.tok⟩, h.inc, Nat.le_trans h.le hm.2, h.mf⟩, ⟨Nat.le_refl _, fun _ a _ => a, hm.2, rfl, rfl⟩⟩
theorem st_answer (h : Iv n M) (f : Fr) : St1 n M (answerM M f) := by
  unfold answerM
  split
  · split
    · exact st_same h { M with answered := true, list := withB M.list M.partner } rfl rfl h.ok.p8
    · exact st_same h { M with answered := true } rfl rfl h.ok.p8
  · exact st_same h { M with answered := true, list := woB M.list M.partner } rfl rfl h.ok.p8
theorem st_hearS (h : Iv n M) (f : Fr) (hf : f.fit) : St1 n M (hearSM M f) := by
  unfold hearSM
  split
  · exact (st_status h f hf).trans fun k => st_answer k f
  · exact st_status h f hf
/-- Way makes the known epoch no less than the one that was heard. -/
theorem st_way1 (h : Iv n M) (k : Mk) (hk : k.e.fit) : St1 n M (way1 M k) ∧ numE k.e ≤ numE (way1 M k).high ∧ (way1 M k).tok = M.tok ∧ (way1 M k).mark = M.mark := by
  have o := h.ok
  unfold way1
  split
  · rename_i hc
    have hn := (cmp_pos hk o.high).1 hc
    have hle : numE M.tok.e ≤ numE k.e := Nat.le_trans h.le (Nat.le_of_lt hn)
    split
    · exact ⟨⟨⟨⟨o.ad, o.sl, o.gp, o.clock, o.silence, o.timer, o.visits, o.arrived, o.rot, o.tries, o.part, no8 (by show (2 : Int) ≠ 8; decide), o.ask, hk, o.tok⟩, h.inc, hle, h.mf⟩, ⟨Nat.le_refl _, fun _ a _ => a, Nat.le_of_lt hn, rfl, rfl⟩⟩, Nat.le_refl _, rfl, rfl⟩
    · exact ⟨⟨⟨⟨o.ad, o.sl, o.gp, o.clock, o.silence, o.timer, o.visits, o.arrived, o.rot, o.tries, o.part, o.p8, o.ask, hk, o.tok⟩, h.inc, hle, h.mf⟩, ⟨Nat.le_refl _, fun _ a _ => a, Nat.le_of_lt hn, rfl, rfl⟩⟩, Nat.le_refl _, rfl, rfl⟩
  · rename_i hc
    have hn : ¬ numE M.high < numE k.e := fun z => hc ((cmp_pos hk o.high).2 z)
    exact ⟨⟨h, Up.refl M⟩, by omega, rfl, rfl⟩
theorem st_way2 (h : Iv n M) (k : Mk) : St1 n M (way2 M k) ∧ (way2 M k).high = M.high ∧ (way2 M k).tok = M.tok ∧ (way2 M k).mark = M.mark := by
  unfold way2
  split
  · split
    · exact ⟨st_same h { M with st := 1, leaving := false } rfl rfl (no8 (by show (1 : Int) ≠ 8; decide)), rfl, rfl, rfl⟩
    · exact ⟨st_same h { M with st := 2 } rfl rfl (no8 (by show (2 : Int) ≠ 8; decide)), rfl, rfl, rfl⟩
  · exact ⟨⟨h, Up.refl M⟩, rfl, rfl, rfl⟩
theorem st_way (h : Iv n M) (k : Mk) (hk : k.e.fit) : St1 n M (wayM M k) ∧ numE k.e ≤ numE (wayM M k).high ∧ (wayM M k).tok = M.tok ∧ (wayM M k).mark = M.mark := by
  have h1 := st_way1 h k hk
  have h2 := st_way2 h1.1.1 k
  exact ⟨⟨h2.1.1, h1.1.2.trans h2.1.2⟩, by unfold wayM; rw [h2.2.1]; exact h1.2.1, h2.2.2.1.trans h1.2.2.1, h2.2.2.2.trans h1.2.2.2⟩
/-- The mark that it passes is not behind the one that it took, or new. -/
def Jm (M : Mc) : Prop := mN M.tok ≤ mN M.mark ∨ M.tok.h = 0
theorem st_take (h : Iv n M) (k : Mk) (hk : k.e.fit) (hh : k.h ≤ 65535) (hle : numE k.e ≤ numE M.high) (hu : mN M.tok ≤ mN k) (hm : mN M.mark ≤ mN k) : St1 (n + 1) M (takeM M k) := by
  have o := h.ok
  have h1 : Iv n { M with mark := k, tok := k, leaving := false } := ⟨⟨o.ad, o.sl, o.gp, o.clock, o.silence, o.timer, o.visits, o.arrived, o.rot, o.tries, o.part, o.p8, o.ask, o.high, ⟨hk, hh⟩⟩, h.inc, hle, ⟨hk, hh⟩⟩
  have u1 : Up M { M with mark := k, tok := k, leaving := false } := ⟨hu, fun _ a _ => Nat.le_trans a hm, Nat.le_refl _, rfl, rfl⟩
  have h2 := st_arrive h1
  exact ⟨h2.1, u1.trans h2.2⟩
theorem new_num {x y : Ep} {p q : Nat} (hx : x.fit) (hy : y.fit) (hh : p ≤ 65535) (hq : q ≤ 65535) (h : newB x y p q = true) : numM y q < numM x p := by
  unfold newB at h
  rw [decide_eq_true_iff, Epo.cmpE_num x y hx hy] at h
  unfold numM
  rcases Nat.lt_trichotomy (numE x) (numE y) with e | e | e
  · rw [Epo.cmpN_lt e, show orL [(-1 : Int), cmpN p q] = -1 from rfl] at h
    exact absurd h (by decide)
  · rw [Epo.cmpN_eq e] at h
    rcases Nat.lt_trichotomy p q with e2 | e2 | e2
    · rw [Epo.cmpN_lt e2] at h; exact absurd h (by decide)
    · rw [Epo.cmpN_eq e2] at h; exact absurd h (by decide)
    · omega
  · omega
theorem st_foll (h : Iv n M) (f : Fr) (k : Mk) (hk : k.e.fit) (hh : k.h ≤ 65535) (hle : numE k.e ≤ numE M.high) (ht : numE M.tok.e ≤ numE k.e) (hj : Jm M) : St1 (n + 1) M (follM M f k) := by
  unfold follM
  split
  · exact ⟨h.mono (up_n n), Up.refl M⟩
  · have h1 : St1 n M (folM M f k) := st_same h (folM M f k) rfl rfl h.ok.p8
    split
    · rename_i hc
      have hm := new_num hk h.mf.1 hh h.mf.2 hc.2
      have hu : mN M.tok ≤ mN k := by
        rcases hj with hj | hj
        · exact Nat.le_trans hj (Nat.le_of_lt hm)
        · show numE M.tok.e * 65536 + M.tok.h ≤ numE k.e * 65536 + k.h
          omega
      have h2 := st_take h1.1 k hk hh hle hu (Nat.le_of_lt hm)
      exact ⟨h2.1, h1.2.trans h2.2⟩
    · split
      · exact (h1.trans fun q => st_same q { folM M f k with st := 1 } rfl rfl (no8 (by show (1 : Int) ≠ 8; decide))).mono (up_n n)
      · exact h1.mono (up_n n)
theorem st_rest (h : Iv n M) (f : Fr) (hf : f.fit) (hj : Jm M) : St1 (n + 1) M (restM M f) := by
  unfold restM
  have hk := epF_fit f hf
  split
  · exact ⟨h.mono (up_n n), Up.refl M⟩
  · rename_i hc
    have hn : ¬ numE (epF f) < numE M.high := fun z => hc ((cmp_neg hk h.ok.high).2 z)
    have hw := st_way h (mkF f) hk
    split
    · have hq : numE (wayM M (mkF f)).tok.e ≤ numE (mkF f).e := by
        rw [hw.2.2.1]
        exact Nat.le_trans h.le (by show numE M.high ≤ numE (epF f); omega)
      have hj2 : Jm (wayM M (mkF f)) := by
        unfold Jm
        rw [hw.2.2.1, hw.2.2.2]
        exact hj
      have h2 := st_foll hw.1.1 f (mkF f) hk (hop_fit f hf) hw.2.1 hq hj2
      exact ⟨h2.1, hw.1.2.trans h2.2⟩
    · exact hw.1.mono (up_n n)
theorem jm_same (hj : Jm M) (M' : Mc) (e : (M'.tok, M'.mark) = (M.tok, M.mark)) : Jm M' := by
  simp only [Prod.mk.injEq] at e
  unfold Jm
  rw [e.1, e.2]
  exact hj
theorem jm_poll (hj : Jm M) (f : Fr) : Jm (pollM M f) := by
  unfold pollM
  split
  · exact jm_same hj _ rfl
  · exact hj
theorem st_hear (h : Iv n M) (f : Fr) (hf : f.fit) (hj : Jm M) : St1 (n + 1) M (hearM M f) := by
  unfold hearM
  split
  · exact ⟨h.mono (up_n n), Up.refl M⟩
  · split
    · have h1 := st_mind h f
      split
      · exact (h1.trans fun k => st_hearS k f hf).mono (up_n n)
      · have h2 := h1.trans fun k => st_poll k f
        have h3 := st_rest h2.1 f hf (jm_poll (jm_same hj (mindM M f) rfl) f)
        exact ⟨h3.1, h2.2.trans h3.2⟩
    · exact ⟨h.mono (up_n n), Up.refl M⟩
theorem st_askM (h : Iv n M) (a : Int) : St1 n M (askM M a) := by
  unfold askM
  split
  · rename_i hc
    have k := h.ok
    exact ⟨⟨⟨k.ad, k.sl, k.gp, k.clock, k.silence, k.timer, k.visits, k.arrived, k.rot, k.tries, k.part, k.p8, ⟨by show -1 ≤ a; omega, hc.2.1⟩, k.high, k.tok⟩, h.inc, h.le, h.mf⟩, Up.same rfl⟩
  · exact ⟨h, Up.refl M⟩
theorem st_wantM (h : Iv n M) (b : Bool) : St1 n M (wantM M b) := st_same h (wantM M b) rfl rfl h.ok.p8

/-! ### And the other -/
theorem jm_foll (hj : Jm M) (f : Fr) (k : Mk) : Jm (follM M f k) := by
  unfold follM
  split
  · exact hj
  · split
    · exact .inl (Nat.le_refl _)
    · split
      · exact jm_same hj _ rfl
      · exact jm_same hj _ rfl
theorem jm_way (hj : Jm M) (k : Mk) : Jm (wayM M k) := by
  have h1 : Jm (way1 M k) := by
    unfold way1
    split
    · split <;> exact jm_same hj _ rfl
    · exact hj
  unfold wayM way2
  split
  · split <;> exact jm_same h1 _ rfl
  · exact h1
theorem jm_hear (hj : Jm M) (f : Fr) : Jm (hearM M f) := by
  unfold hearM
  split
  · exact hj
  · split
    · split
      · unfold hearSM answerM
        split
        · split
          · split <;> exact jm_same hj _ rfl
          · exact jm_same hj _ rfl
        · exact jm_same hj _ rfl
      · have h1 := jm_poll (jm_same hj (mindM M f) rfl) f
        unfold restM
        split
        · exact h1
        · split
          · exact jm_foll (jm_way h1 _) f _
          · exact jm_way h1 _
    · exact hj
theorem jm_askM (hj : Jm M) (a : Int) : Jm (askM M a) := by
  unfold askM
  split
  · exact jm_same hj _ rfl
  · exact hj
theorem jm_go (hj : Jm M) : Jm (goR M).m := by
  unfold goR
  split
  · exact jm_same hj _ rfl
  · split
    · split
      · exact .inl (Nat.le_refl _)
      · exact .inl (Nat.le_refl _)
    · rename_i hb
      have e : hopM M = offM M := by
        unfold hopB at hb
        simp at hb
        unfold hopM
        rw [if_pos hb.1, if_neg (by rw [hb.2]; decide)]
      show Jm (hopM M)
      rw [e]
      exact jm_same hj _ rfl
theorem jm_new (M : Mc) : Jm (newM M) := .inr rfl
theorem jm_pass (hj : Jm M) : Jm (passR M).m := by
  unfold passR
  split
  · split
    · exact jm_go (jm_new M)
    · exact jm_same hj _ rfl
  · exact jm_go hj
theorem jm_gap (hj : Jm M) : Jm (gapR M).m := by
  unfold gapR
  split
  · exact jm_same hj _ rfl
  · exact hj
theorem jm_tim (hj : Jm M) (hi lo : Int) : Jm (timR M hi lo).m := by
  unfold timR
  split
  · exact hj
  · split
    · exact hj
    · split
      · exact jm_same hj _ rfl
      · exact jm_gap hj
theorem jm_chp (hj : Jm M) (hi lo : Int) : Jm (chpR M hi lo).m := by
  have h1 : Jm (chkR M hi lo).m := by
    unfold chkR
    split
    · exact jm_tim (jm_same hj { M with st := 6 } rfl) hi lo
    · exact jm_gap (jm_same hj { M with st := 6 } rfl)
  unfold chpR
  split
  · exact jm_pass h1
  · exact h1
theorem jm_goOn (hj : Jm M) (hi lo : Int) : Jm (goOnR M hi lo).m := by
  unfold goOnR
  split
  · exact hj
  · split
    · unfold claimR
      split
      · exact .inl (Nat.le_refl _)
      · exact jm_same hj _ rfl
    · split
      · unfold useR
        split
        · split
          · exact jm_same hj _ rfl
          · exact jm_chp hj hi lo
        · exact jm_pass (jm_same hj (leaveM M) rfl)
      · split
        · exact jm_chp hj hi lo
        · split
          · exact jm_pass hj
          · split
            · unfold cpR
              split
              · exact jm_same hj _ rfl
              · split
                · exact jm_pass (jm_new _)
                · exact jm_same hj _ rfl
            · exact hj
theorem jm_tick (hj : Jm M) (hi lo : Int) : Jm (tickR M hi lo).m := by
  unfold tickR
  split
  · exact hj
  · have h1 : Jm (actR (tickM M) hi lo).m := by
      unfold actR
      split
      · exact jm_same hj _ rfl
      · exact jm_goOn (jm_same hj (tickM M) rfl) hi lo
    unfold quiet
    split
    · exact h1
    · exact jm_same h1 _ rfl
end
end Go.Proofs.YtedlfognpbbhhaaGreatDoor.Ma
