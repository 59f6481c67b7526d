/-
  A frame that is heard keeps the same; a poll is answered at the next tick. Conditions: none.
-/
import Derived.Test.YtedlfognpbbhhaaGreatDoorMaTf
namespace Go.Proofs.YtedlfognpbbhhaaGreatDoor.Ma
open Go.Proofs.YtedlfognpbbhhaaGreatDoor.Epo (Ep cmpE newB maxE numE numM cmpN orL)
open Go.Proofs.YtedlfognpbbhhaaGreatDoor.Mem (St withB woB hasB passB nextI turnI gapB)
open Go.Proofs.YtedlfognpbbhhaaGreatDoor.Frm (Fr)

/-- A frame does this. -/
structure Th (f : Fr) (M M' : Mc) : Prop where
  w : M'.wants = M.wants
  kn : M'.kn = M.kn ∨ M'.kn = upd M.kn f.src f.sinc
  hi : M'.high = M.high ∨ M'.high = epF f ∨ M'.high = hiF f
  g : Gd2 M → Gd2 M'
theorem Th.refl (f : Fr) (M : Mc) : Th f M M := ⟨rfl, .inl rfl, .inl rfl, id⟩
theorem Th.go {f : Fr} {A B C : Mc} (h : Th f A B) (w : C.wants = B.wants) (kn : C.kn = B.kn) (hi : C.high = B.high ∨ C.high = epF f ∨ C.high = hiF f) (g : Gd2 B → Gd2 C) : Th f A C :=
  ⟨w.trans h.w, by rw [kn]; exact h.kn, by
    rcases hi with e | e
    · rw [e]; exact h.hi
    · exact .inr e, fun z => g (h.g z)⟩
section
variable {f : Fr} {M A : Mc}
theorem th_poll (h : Th f A M) : Th f A (pollM M f) := by
  unfold pollM
  split
  · exact h.go rfl rfl (.inl rfl) id
  · exact h
theorem th_way (h : Th f A M) : Th f A (wayM M (mkF f)) := by
  have h1 : Th f A (way1 M (mkF f)) := by
    unfold way1
    split
    · split
      · exact h.go rfl rfl (.inr (.inl rfl)) (fun z => ⟨by show (2 : Int) ≠ 0; decide, z.2⟩)
      · exact h.go rfl rfl (.inr (.inl rfl)) id
    · exact h
  unfold wayM way2
  split
  · split
    · exact h1.go rfl rfl (.inl rfl) (fun z => ⟨by show (1 : Int) ≠ 0; decide, z.2⟩)
    · exact h1.go rfl rfl (.inl rfl) (fun z => ⟨by show (2 : Int) ≠ 0; decide, z.2⟩)
  · exact h1
theorem th_foll (h : Th f A M) (k : Mk) : Th f A (follM M f k) := by
  unfold follM
  split
  · exact h
  · split
    · exact h.go rfl rfl (.inl rfl) (fun z => ⟨by show (4 : Int) ≠ 0; decide, z.2⟩)
    · split
      · exact h.go rfl rfl (.inl rfl) (fun z => ⟨by show (1 : Int) ≠ 0; decide, z.2⟩)
      · exact h.go rfl rfl (.inl rfl) id
theorem th_rest (h : Th f A M) : Th f A (restM M f) := by
  unfold restM
  split
  · exact h
  · split
    · exact th_foll (th_way h) _
    · exact th_way h
theorem th_status (h : Th f A M) : Th f A (hearSM M f) := by
  have h1 : Th f A (statusM M f) := h.go rfl rfl (by
    show maxE M.high (hiF f) = M.high ∨ _ ∨ maxE M.high (hiF f) = hiF f
    unfold maxE
    split
    · exact .inr (.inr rfl)
    · exact .inl rfl) id
  unfold hearSM
  split
  · unfold answerM
    split
    · split
      · exact h1.go rfl rfl (.inl rfl) id
      · exact h1.go rfl rfl (.inl rfl) id
    · exact h1.go rfl rfl (.inl rfl) id
  · exact h1
end
/-- What stands with a mac. -/
structure Sd (M : Mc) : Prop where
  fx : Fx2 M
  ha : M.high.a < 32
  kn : ∀ i, M.kn i ≤ 65535
theorem sd_tick {M : Mc} (h : Sd M) (had : M.ad < 32) (hi lo : Int) : Sd (tickR M hi lo).m ∧ (tickR M hi lo).m.wants = M.wants := by
  obtain ⟨a, b, c, d⟩ := tf_tick M hi lo h.fx
  refine ⟨⟨d, ?_, fun i => by rw [b]; exact h.kn i⟩, a⟩
  rcases c with c | c
  · rw [c]; exact h.ha
  · rw [c]; exact had
theorem sd_hear {M : Mc} (h : Sd M) (f : Fr) (hf : f.fit) : Sd (hearM M f) ∧ (hearM M f).wants = M.wants := by
  unfold hearM
  split
  · exact ⟨h, rfl⟩
  · rename_i h0
    split
    · rename_i hm
      have hg : Gd2 M := h.fx.elim id (fun z => absurd z.1 h0)
      have hr : Frm.rtB f = true := by
        unfold mindsB at hm
        simp only [Bool.and_eq_true] at hm
        exact hm.1
      have hR : Frm.Rt f := Classical.byContradiction fun z => by rw [Frm.rtB_no z] at hr; cases hr
      have t0 : Th f M (mindM M f) := ⟨rfl, .inr rfl, .inl rfl, id⟩
      have fin : ∀ M', Th f M M' → Sd M' ∧ M'.wants = M.wants := fun M' t => by
        refine ⟨⟨.inl (t.g hg), ?_, fun i => ?_⟩, t.w⟩
        · rcases t.hi with e | e | e
          · rw [e]; exact h.ha
          · rw [e]; exact hR.2.2.2.2.2.1
          · rw [e]; exact hR.2.2.2.2.2.2.1
        · rcases t.kn with e | e
          · rw [e]; exact h.kn i
          · rw [e]
            unfold upd
            split
            · have := hf.2.2.1; omega
            · exact h.kn i
      split
      · exact fin _ (th_status t0)
      · exact fin _ (th_rest (th_poll t0))
    · exact ⟨h, rfl⟩

/-! ### A poll -/
def ansP (M : Mc) (hop : Nat) : Fr := ⟨2, 9, 2, 65535, 0, M.high.c, M.high.a % 32, M.high.i, hop, 0, 0, 0, false, 0, 0, 0, 0, 0, ⟨#[]⟩⟩
theorem ansP_fit (M : Mc) (hop : Nat) (hM : M.high.fit) (hh : hop ≤ 65535) : (ansP M hop).fit := by
  obtain ⟨h1, h2, h3⟩ := hM
  refine ⟨by show ((9 : Nat) : Int) ≤ 255; decide, by show ((2 : Nat) : Int) ≤ 255; decide, by show ((65535 : Nat) : Int) ≤ 65535; decide, by show ((0 : Nat) : Int) ≤ 65535; decide, by show (M.high.c : Int) ≤ 65535; omega, by show ((M.high.a % 32 : Nat) : Int) ≤ 255; omega, by show (M.high.i : Int) ≤ 65535; omega, by show (hop : Int) ≤ 65535; omega, by show ((0 : Nat) : Int) ≤ 65535; decide, by show ((0 : Nat) : Int) ≤ 255; decide, by show ((0 : Nat) : Int) ≤ 65535; decide, by show ((0 : Nat) : Int) ≤ 255; decide, by show ((0 : Nat) : Int) ≤ 65535; decide, by show ((0 : Nat) : Int) ≤ 4294967295; decide, by show ((0 : Nat) : Int) ≤ 255; decide, by show ((0 : Nat) : Int) ≤ 255; decide, by show (0 : Nat) ≤ maxLen; unfold maxLen; omega⟩
theorem cmp_self (x : Ep) (hx : x.fit) : cmpE x x = 0 := by rw [Epo.cmpE_num x x hx hx]; exact Epo.cmpN_eq rfl
theorem way1_not (M : Mc) (k : Mk) (h : ¬ 0 < cmpE k.e M.high) : way1 M k = M := by
  unfold way1
  rw [if_neg h]
/-- What hearing it makes: the poll is kept, and nothing that is told changes. -/
theorem ans_hear (M : Mc) (hop : Nat) (hs : Sd M) (hM : M.high.fit) (had : M.ad = 2) (hg : Gd2 M) :
    (hearM M (ansP M hop)).polled = true ∧ (hearM M (ansP M hop)).poll = ansP M hop ∧ (hearM M (ansP M hop)).high = M.high ∧ (hearM M (ansP M hop)).ad = 2 ∧ (hearM M (ansP M hop)).inc = M.inc ∧ (hearM M (ansP M hop)).wants = M.wants ∧ Gd2 (hearM M (ansP M hop)) := by
  have ha : M.high.a % 32 = M.high.a := Nat.mod_eq_of_lt hs.ha
  have he : epF (ansP M hop) = M.high := by
    show (⟨M.high.c, M.high.a % 32, M.high.i⟩ : Ep) = M.high
    rw [ha]
  have hr : Frm.rtB (ansP M hop) = true := Frm.rtB_yes ⟨by show (1 : Int) ≤ 2; decide, by show (2 : Int) ≤ 5; decide, rfl, by show 9 < 32; decide, by show (2 : Nat) < 32; decide, by show M.high.a % 32 < 32; omega, by show (0 : Nat) < 32; decide, fun e => absurd (show (2 : Int) = 4 from e) (by decide)⟩
  have hm : mindsB M (ansP M hop) = true := by
    unfold mindsB
    rw [hr, decide_eq_true (show (ansP M hop).src ≠ M.ad from by rw [had]; show 9 ≠ 2; decide), decide_eq_true (show M.kn (ansP M hop).src ≤ (ansP M hop).sinc from hs.kn 9)]
    rfl
  unfold hearM
  rw [if_neg hg.1, if_pos hm, if_neg (show ¬ (ansP M hop).kind = 3 from by show ¬ (2 : Int) = 3; decide)]
  have hp : pollM (mindM M (ansP M hop)) (ansP M hop) = { mindM M (ansP M hop) with poll := ansP M hop, polled := true } := by
    unfold pollM
    rw [if_pos ⟨rfl, by show 2 = M.ad; rw [had]⟩]
  rw [hp]
  unfold restM
  rw [if_neg (by rw [he]; show ¬ cmpE M.high M.high < 0; rw [cmp_self _ hM]; decide), if_neg (show ¬ ((ansP M hop).kind = 1 ∨ (ansP M hop).kind = 5) from by show ¬ ((2 : Int) = 1 ∨ (2 : Int) = 5); decide)]
  have h1 : way1 { mindM M (ansP M hop) with poll := ansP M hop, polled := true } (mkF (ansP M hop)) = { mindM M (ansP M hop) with poll := ansP M hop, polled := true } := way1_not _ _ (show ¬ 0 < cmpE (epF (ansP M hop)) M.high from by rw [he, cmp_self _ hM]; decide)
  unfold wayM
  rw [h1]
  unfold way2
  split
  · split
    · exact ⟨rfl, rfl, rfl, had, rfl, rfl, ⟨by show (1 : Int) ≠ 0; decide, hg.2⟩⟩
    · exact ⟨rfl, rfl, rfl, had, rfl, rfl, ⟨by show (2 : Int) ≠ 0; decide, hg.2⟩⟩
  · exact ⟨rfl, rfl, rfl, had, rfl, rfl, hg⟩
/-- And the tick behind it. -/
theorem ans_tick (M : Mc) (hp : M.polled = true) (hg : Gd2 M) (hi lo : Int) : (tickR M hi lo).k = 1 ∧ (tickR M hi lo).f = statF M ∧ (tickR M hi lo).m.polled = false ∧ (tickR M hi lo).m.high = M.high := by
  unfold tickR
  rw [if_neg hg.1]
  unfold actR
  rw [if_pos (show (tickM M).polled = true from hp)]
  exact ⟨rfl, rfl, rfl, rfl⟩

/-! ### What else is sent -/
theorem kd_pass (M : Mc) : (passR M).f.kind ≠ 3 := by
  have hn : ∀ N : Mc, (nothing N).f.kind ≠ 3 := fun N => by show (0 : Int) ≠ 3; decide
  have hgo : ∀ N : Mc, (goR N).f.kind ≠ 3 := fun N => by
    unfold goR
    split
    · exact hn _
    · split
      · split
        · show (1 : Int) ≠ 3; decide
        · show (if _ then (5 : Int) else 1) ≠ 3
          split <;> decide
      · exact hn _
  unfold passR
  split
  · split
    · exact hgo _
    · exact hn _
  · exact hgo _
theorem kd_gap (M : Mc) : (gapR M).f.kind ≠ 3 := by
  unfold gapR
  split
  · show (2 : Int) ≠ 3; decide
  · show (0 : Int) ≠ 3; decide
theorem kd_chp (M : Mc) (hi lo : Int) : (chpR M hi lo).f.kind ≠ 3 := by
  unfold chpR
  split
  · exact kd_pass _
  · unfold chkR
    split
    · unfold timR
      split
      · show (4 : Int) ≠ 3; decide
      · split
        · show (4 : Int) ≠ 3; decide
        · split
          · show (2 : Int) ≠ 3; decide
          · exact kd_gap _
    · exact kd_gap _
theorem kd_goOn (M : Mc) (hi lo : Int) : (goOnR M hi lo).f.kind ≠ 3 := by
  have hn : ∀ N : Mc, (nothing N).f.kind ≠ 3 := fun N => by show (0 : Int) ≠ 3; decide
  unfold goOnR
  split
  · exact hn _
  · split
    · unfold claimR
      split
      · show (1 : Int) ≠ 3; decide
      · exact hn _
    · split
      · unfold useR
        split
        · split
          · show (4 : Int) ≠ 3; decide
          · exact kd_chp _ _ _
        · exact kd_pass _
      · split
        · exact kd_chp _ _ _
        · split
          · exact kd_pass _
          · split
            · unfold cpR
              split
              · show (if _ then (5 : Int) else 1) ≠ 3
                split <;> decide
              · split
                · exact kd_pass _
                · exact hn _
            · exact hn _
theorem kd_tick (M : Mc) (hp : M.polled = false) (hi lo : Int) : (tickR M hi lo).f.kind ≠ 3 := by
  unfold tickR
  split
  · show (0 : Int) ≠ 3; decide
  · have h1 : (actR (tickM M) hi lo).f.kind ≠ 3 := by
      unfold actR
      rw [if_neg (show ¬ (tickM M).polled = true from by show ¬ M.polled = true; rw [hp]; decide)]
      exact kd_goOn _ _ _
    unfold quiet
    split <;> exact h1
end Go.Proofs.YtedlfognpbbhhaaGreatDoor.Ma
