/-
  The landed verify's step, walked: one instruction, its error, and what is behind it put ahead of those that it leads to. Conditions: what is ahead is well formed.
-/
import Derived.Test.YtmlopacekoghkaaVeB
import Derived.Test.YtmlopacekoghkaaIkS
namespace Go.Proofs.Ytmlopacekoghkaa.Ve
open Go.RowKit
open Go.Proofs.Ytmlopacekoghkaa.Il hiding Next
open Go.Proofs.Ytmlopacekoghkaa.Ic hiding I64

attribute [local go_sem ↓] exec_ldS exec_stS exec_ldO

/-! How a step goes. -/
section
variable {i : In} {k n : Nat} {l : List Ah}
theorem step_wrong (h : rightI i = false) : stepB i k n l = (3, l) := by unfold stepB; rw [if_pos h]
theorem step_off (h : rightI i = true) (ho : (gt l k).on = false) : stepB i k n l = (0, l) := by unfold stepB; rw [if_neg (by rw [h]; simp), if_pos ho]
theorem step_err (h : rightI i = true) (ho : (gt l k).on = true) (he : errB i k n (gt l k) ≠ 0) : stepB i k n l = (errB i k n (gt l k), l) := by
  unfold stepB; rw [if_neg (by rw [h]; simp), if_neg (by rw [ho]; simp), if_pos he]
theorem step_bad (h : rightI i = true) (ho : (gt l k).on = true) (he : errB i k n (gt l k) = 0) (hon : onB i.op = true) (hj : joinO (gt l (k + 1)) (nextB i (gt l k)) = false) : stepB i k n l = (7, l) := by
  unfold stepB; rw [if_neg (by rw [h]; simp), if_neg (by rw [ho]; simp), if_neg (by rw [he]; simp), if_pos (by rw [hon, hj]; rfl)]
theorem step_bad2 (h : rightI i = true) (ho : (gt l k).on = true) (he : errB i k n (gt l k) = 0) (hon : onB i.op = true → joinO (gt l (k + 1)) (nextB i (gt l k)) = true) (hjb : jumpB i.op = true) (hj : joinO (gt (goOn i k l (nextB i (gt l k))) i.pl.toNat) (nextB i (gt l k)) = false) : stepB i k n l = (7, l) := by
  unfold stepB
  rw [if_neg (by rw [h]; simp), if_neg (by rw [ho]; simp), if_neg (by rw [he]; simp), if_neg, if_pos (by rw [hjb, hj]; rfl)]
  cases hb : onB i.op
  · simp
  · rw [hon hb]; simp
theorem step_done (h : rightI i = true) (ho : (gt l k).on = true) (he : errB i k n (gt l k) = 0) (hon : onB i.op = true → joinO (gt l (k + 1)) (nextB i (gt l k)) = true) (hj : jumpB i.op = true → joinO (gt (goOn i k l (nextB i (gt l k))) i.pl.toNat) (nextB i (gt l k)) = true) :
    stepB i k n l = (0, goTo i (goOn i k l (nextB i (gt l k))) (nextB i (gt l k))) := by
  unfold stepB
  rw [if_neg (by rw [h]; simp), if_neg (by rw [ho]; simp), if_neg (by rw [he]; simp), if_neg, if_neg]
  · cases hb : jumpB i.op
    · simp
    · rw [hj hb]; simp
  · cases hb : onB i.op
    · simp
    · rw [hon hb]; simp
theorem goOn_yes {b : Ah} (h : onB i.op = true) : goOn i k l b = putB l (k + 1) b := by unfold goOn; rw [if_pos h]
theorem goOn_no {b : Ah} (h : onB i.op = false) : goOn i k l b = l := by unfold goOn; rw [if_neg (by rw [h]; simp)]
theorem goTo_yes {b : Ah} (h : jumpB i.op = true) : goTo i l b = putB l i.pl.toNat b := by unfold goTo; rw [if_pos h]
theorem goTo_no {b : Ah} (h : jumpB i.op = false) : goTo i l b = l := by unfold goTo; rw [if_neg (by rw [h]; simp)]
end

/-- What step leaves. -/
def Stepped (w : World) (N g n : Nat) (s : Nat × List Ah) (e : Ending) (w' : World) : Prop :=
  e = .returned (.int .i64 (s.1 : Nat)) ∧ w.grownBy w' (some g) ∧ (s.1 = 0 → SRow w' N g (n + 1) s.2)
theorem stepped_err {w w' : World} {N g n r : Nat} {l : List Ah} {s : Nat × List Ah} (h : s = (r, l)) (hr : r ≠ 0) (ho : w.grownBy w' (some g)) : Stepped w N g n s (.returned (.int .i64 (r : Nat))) w' := by
  subst h
  exact ⟨rfl, ho, fun e => absurd e hr⟩
theorem stepped_ok {w w' : World} {N g n : Nat} {l : List Ah} {s : Nat × List Ah} (h : s = (0, l)) (ho : w.grownBy w' (some g)) (hR : SRow w' N g (n + 1) l) : Stepped w N g n s (.returned (.int .i64 0)) w' := by
  subst h
  exact ⟨rfl, ho, fun _ => hR⟩

def insC (i : In) : List Value := [.int .i64 i.op, .int .i64 i.kd, .int .i64 i.ar, .int .i64 i.pl, .int .i64 i.n]
/-- How far step has come: the row, the instruction's block b, and what is ahead of it in block c. -/
structure Sp (w W : World) (N g m b c : Nat) (l : List Ah) (i : In) (a : Ah) : Prop where
  row : SRow W N g m l
  only : w.grownBy W (some g)
  ins : W.rangeAt b 0 (insC i)
  st : W.rangeAt c 0 (stC a)
  ne : b ≠ g ∧ c ≠ g
section
variable {w W W' : World} {N g m b c : Nat} {l l' : List Ah} {i : In} {a : Ah}
theorem range_only {b o : Nat} {cs : List Value} (h : W.rangeAt b o cs) (hg : W.grownBy W' (some g)) (hne : b ≠ g) : W'.rangeAt b o cs := fun j v hv =>
  World.grownBy.cell hg (h j v hv) (fun e => hne (by simpa using e))
theorem Sp.next (h : Sp w W N g m b c l i a) (hb : Below W.heap.size W W') : Sp w W' N g m b c l i a :=
  ⟨h.row.kept hb, only_tr h.only (only_bel hb _), range_below h.ins hb, range_below h.st hb, h.ne⟩
theorem Sp.led (h : Sp w W N g m b c l i a) (hl : Led W W' N g m l') : Sp w W' N g m b c l' i a :=
  ⟨hl.row, only_tr h.only hl.only, range_only h.ins hl.only h.ne.1, range_only h.st hl.only h.ne.2, h.ne⟩
theorem Sp.with (h : Sp w W N g m b c l i a) (b2 : Ah) : Sp w (W.alloc (.cells (stA b2) 96)) N g m b W.heap.size l i b2 :=
  ⟨h.row.alloc _, only_tr h.only (World.grownBy_alloc _ _ _), range_below h.ins ((Below.refl _ _).alloc (Nat.le_refl _) _), range_new _ _ _, h.ne.1, Nat.ne_of_gt h.row.lt.2⟩
theorem Sp.first (hR : SRow w N g m l) (i : In) (a : Ah) : Sp w ((w.alloc (.cells (insC i).toArray 55)).alloc (.cells (stA a) 96)) N g m w.heap.size (w.heap.size + 1) l i a := by
  have g7 := range_new (w.alloc (.cells (insC i).toArray 55)) (stA a) 96
  rw [show (w.alloc (.cells (insC i).toArray 55)).heap.size = w.heap.size + 1 by simp] at g7
  have := hR.lt.2
  exact ⟨(hR.alloc _).alloc _, two_S _ _ _ _ _, range_below (range_new w _ _) ((Below.refl _ _).alloc (Nat.le_refl _) _), g7, by omega, by omega⟩
theorem Sp.cells (h : Sp w W N g m b c l i a) : W.cell? ⟨b, 0, none⟩ = some (.int .i64 i.op) ∧ W.cell? ⟨b, 1, none⟩ = some (.int .i64 i.kd) ∧ W.cell? ⟨b, 2, none⟩ = some (.int .i64 i.ar) ∧ W.cell? ⟨b, 3, none⟩ = some (.int .i64 i.pl) ∧ W.cell? ⟨b, 4, none⟩ = some (.int .i64 i.n) :=
  ⟨h.ins 0 _ rfl, h.ins 1 _ rfl, h.ins 2 _ rfl, h.ins 3 _ rfl, h.ins 4 _ rfl⟩
theorem Sp.on (h : Sp w W N g m b c l i a) : W.cell? ⟨c, 0, none⟩ = some (.bool a.on) := h.st 0 _ rfl
theorem Sp.load (h : Sp w W N g m b c l i a) (ha : Wf a) : ldS (.pointer (some ⟨c, 0, none⟩)) W = .ok (.value (.agg (stA a))) W := ldS_of W c 0 _ h.st (stC_len ha.len)
end
theorem wf_next' {i : In} {k n : Nat} {a : Ah} (hr : rightI i = true) (ha : Wf a) (hon : a.on = true) (he : errB i k n a = 0) : Wf (nextB i a) := wf_next hr ha hon (err_zero he).2

set_option maxRecDepth 100000 in
set_option maxHeartbeats 16000000 in
theorem cStep_any (i : In) (k n N g : Nat) (l : List Ah) (w : World) (hR : SRow w N g (n + 1) l) (hk : k < n) (hn : n ≤ 200) (hi : I64 i.n) :
    Calls Try.prog 49 #[.slice (some ⟨g, 0, none⟩) (n + 1) (n + 1), .int .i64 k, insV i] w (Stepped w N g n (stepB i k n l)) := by
  obtain ⟨s, hs⟩ : ∃ s, s = stepB i k n l := ⟨_, rfl⟩
  rw [← hs]
  have HS := Lib.hid hs
  clear hs
  obtain ⟨a, ha⟩ : ∃ a, a = gt l k := ⟨_, rfl⟩
  have wa : Wf a := by rw [ha]; exact hR.wf k
  have HW := Lib.hid wa
  have HG := Lib.hid ha
  have P0 := Lib.hid (Sp.first hR i a)
  have h1 := ldS_of _ g (k * 19) _ ((hR.alloc (.cells (insC i).toArray 55)).range (k := k) (by omega)) (stC_len (hR.wf k).len)
  rw [← ha] at h1
  rw [show (stC a).toArray = stA a from rfl] at h1
  have h2 : ∀ z : Array Value, z.size = 19 → stS (.pointer (some ⟨w.heap.size + 1, 0, none⟩)) (.agg (stA a)) ((w.alloc (.cells (insC i).toArray 55)).alloc (.cells z 96)) = .ok .skip ((w.alloc (.cells (insC i).toArray 55)).alloc (.cells (stA a) 96)) :=
    fun z hz => stS_new _ _ z _ _ (by simp) hz (stA_size wa.len) (stA_one _)
  have HRi := Lib.hid (fun W => cRight_any i hi W)
  have hki : (k : Int) < n + 1 := by omega
  have hki2 : (k : Int) < n := by omega
  have hni : (n : Int) ≤ 200 := by omega
  have hsub : IntKind.i64.wrap ((n : Int) + 1 - 1) = n := by rw [IntKind.wrap_i64]; omega
  have hadd : IntKind.i64.wrap ((k : Int) + 1) = (k : Int) + 1 := by rw [IntKind.wrap_i64]; omega
  have HJ := Lib.hid (fun W => cJump_any i.op W)
  obtain ⟨op, kd, ar, pl, nn⟩ := i
  unfold insC at h1 h2 P0
  unfold insV at HRi ⊢
  dsimp only at h1 h2 P0 HRi HJ
  clear ha wa hR hi
  have HFar : Hid (farB ⟨op, kd, ar, pl, nn⟩ k n = (jumpB op && (decide (pl ≤ k) || decide ((n : Int) < pl)))) := rfl
  cases hr : rightI ⟨op, kd, ar, pl, nn⟩
  · rw [hr] at HRi
    have HD := Lib.hid (HS.out.trans (step_wrong hr))
    clear hr HFar
    go_enter Try.func49, Try.ntmps49
    go_wp2_with fail
    refine (HRi.out _).mono ?_
    rintro e w1 ⟨rfl, hb⟩
    have P1 := Lib.hid (P0.out.next hb)
    clear hb P0 h1 h2
    go_wp2
    go_ret
    exact stepped_err HD.out (by decide) P1.out.only
  · rw [hr] at HRi
    have Hr := Lib.hid hr
    clear hr
    go_enter Try.func49, Try.ntmps49
    go_wp2_with fail
    refine (HRi.out _).mono ?_
    rintro e w1 ⟨rfl, hb⟩
    have P1 := Lib.hid (P0.out.next hb)
    clear hb P0 h1 h2
    have s0 := P1.out.on
    cases hon : a.on
    · rw [hon] at s0
      have HD := Lib.hid (HS.out.trans (step_off Hr.out (by rw [← HG.out]; exact hon)))
      clear hon HFar
      go_wp2
      go_ret
      exact stepped_ok HD.out P1.out.only P1.out.row
    · rw [hon] at s0
      have Hon := Lib.hid hon
      clear hon
      obtain ⟨c0, c1, c2, c3, c4⟩ := P1.out.cells
      dsimp only at c0 c1 c2 c3 c4
      have l7 := P1.out.load HW.out
      have HRf := Lib.hid (fun W => cRefuse_any ⟨op, kd, ar, pl, nn⟩ a W (right_op Hr.out).1 (right_op Hr.out).2 HW.out)
      unfold insV at HRf
      dsimp only at HRf
      have HBe := Lib.hid (fun W h => cBehind_any ⟨op, kd, ar, pl, nn⟩ a W (right_op Hr.out).1 HW.out (fun h32 h8 => (ref_zero h).2.2.1 ⟨h32, h8⟩) (fun h33 h0 => (ref_zero h).2.1 ⟨h33, h0⟩) (wf_next Hr.out HW.out Hon.out h))
      unfold insV at HBe
      dsimp only at HBe
      have HN : Hid (refB ⟨op, kd, ar, pl, nn⟩ a = 0 → Wf (nextB ⟨op, kd, ar, pl, nn⟩ a)) := Lib.hid (fun h => wf_next Hr.out HW.out Hon.out h)
      obtain ⟨r, hr⟩ : ∃ r, r = refB ⟨op, kd, ar, pl, nn⟩ a := ⟨_, rfl⟩
      obtain ⟨b, hbb⟩ : ∃ b, b = nextB ⟨op, kd, ar, pl, nn⟩ a := ⟨_, rfl⟩
      have hr8 : (r : Int) ≤ 8 := by
        have h8 := err_pos ⟨op, kd, ar, pl, nn⟩ k n l
        rw [hr]; unfold refB; (repeat' split) <;> simp
      rw [← hr] at HRf HBe HN
      rw [← hbb] at HBe HN
      have HrB := Lib.hid hr
      have HbB := Lib.hid hbb
      clear hr hbb
      go_wp2_with fail
      refine (HJ.out _).mono ?_
      rintro e w2 ⟨rfl, rfl⟩
      cases hj : jumpB op
      · rw [hj] at HJ
        rw [hj, Bool.false_and] at HFar
        have HE := Lib.hid (show errB ⟨op, kd, ar, pl, nn⟩ k n a = r by unfold errB; rw [if_neg (by rw [HFar.out]; simp), HrB.out])
        have Hj := Lib.hid hj
        have e25 : (op != 25) = true := by
          rw [bne_iff_ne]; rintro rfl; exact absurd hj (by decide)
        clear hj HFar
        go_wp2_with fail
        refine (HRf.out _).mono ?_
        rintro e w3 ⟨rfl, hb⟩
        have P2 := Lib.hid (P1.out.next hb)
        clear hb P1 c0 c1 c2 c3 c4 s0 l7
        by_cases hr0 : r = 0
        · skip
          subst hr0
          have HB2 := Lib.hid (fun W => HBe.out W rfl)
          have wb := HN.out rfl
          have HWb := Lib.hid wb
          obtain ⟨c0, c1, c2, c3, c4⟩ := P2.out.cells
          dsimp only at c0 c1 c2 c3 c4
          have l7 := P2.out.load HW.out
          have h2 : ∀ (W : World) (z : Array Value), z.size = 19 → stS (.pointer (some ⟨W.heap.size, 0, none⟩)) (.agg (stA b)) (W.alloc (.cells z 96)) = .ok .skip (W.alloc (.cells (stA b) 96)) :=
            fun W z hz => stS_new _ _ z _ _ rfl hz (stA_size wb.len) (stA_one _)
          have HZ := Lib.hid (show errB ⟨op, kd, ar, pl, nn⟩ k n (gt l k) = 0 by rw [← HG.out, HE.out])
          clear HBe HN wb
          go_wp2_with fail
          refine (HB2.out _).mono ?_
          rintro e w4 ⟨rfl, hb⟩
          have P3 := Lib.hid ((P2.out.next hb).with b)
          clear hb P2 c0 c1 c2 c3 c4 l7
          obtain ⟨c0, c1, c2, c3, c4⟩ := P3.out.cells
          dsimp only at c0 c1 c2 c3 c4
          have l10 := P3.out.load HWb.out
          by_cases h28 : op = 28
          · subst h28
            have HD := Lib.hid (HS.out.trans (step_done Hr.out (by rw [← HG.out]; exact Hon.out) HZ.out (fun h => absurd h (by show ¬ onB 28 = true; decide)) (fun h => absurd h (by show ¬ jumpB 28 = true; decide))))
            rw [goTo_no (by rfl), goOn_no (by rfl)] at HD
            go_wp2_with fail
            refine (HJ.out _).mono ?_
            rintro e w5 ⟨rfl, rfl⟩
            go_wp2
            go_ret
            exact stepped_ok HD.out P3.out.only P3.out.row
          · have e28 : (op != 28) = true := by simpa using h28
            have Ho := Lib.hid (show onB op = true by
              unfold onB
              rw [decide_eq_true_iff]
              exact ⟨by simpa using e25, h28⟩)
            clear h28
            have HLd := Lib.hid (cLead_any (k := k + 1) P3.out.row (by omega) (by omega) HWb.out)
            rw [show ((k + 1 : Nat) : Int) = (k : Int) + 1 by omega] at HLd
            obtain ⟨q, hq⟩ : ∃ q, q = joinO (gt l (k + 1)) b := ⟨_, rfl⟩
            rw [← hq] at HLd
            have Hq := Lib.hid hq
            clear hq
            go_wp2_with fail
            refine HLd.out.mono ?_
            rintro e w5 ⟨rfl, hl⟩
            have P4 := Lib.hid (P3.out.led hl)
            clear hl P3 c0 c1 c2 c3 c4 l10 HLd
            cases q
            · have HD := Lib.hid (HS.out.trans (step_bad Hr.out (by rw [← HG.out]; exact Hon.out) HZ.out Ho.out (by rw [← HG.out, ← HbB.out]; exact Hq.out.symm)))
              go_wp2
              go_ret
              exact stepped_err HD.out (by decide) P4.out.only
            · have HD := Lib.hid (HS.out.trans (step_done Hr.out (by rw [← HG.out]; exact Hon.out) HZ.out (fun _ => by rw [← HG.out, ← HbB.out]; exact Hq.out.symm) (fun h => absurd (Hj.out.symm.trans h) (by simp))))
              rw [goTo_no Hj.out, goOn_yes Ho.out, ← HG.out, ← HbB.out] at HD
              obtain ⟨c0, c1, c2, c3, c4⟩ := P4.out.cells
              dsimp only at c0 c1 c2 c3 c4
              go_wp2_with fail
              refine (HJ.out _).mono ?_
              rintro e w6 ⟨rfl, rfl⟩
              go_wp2
              go_ret
              exact stepped_ok HD.out P4.out.only P4.out.row
        · skip
          have hrb : ((r : Int) != 0) = true := by rw [bne_iff_ne]; omega
          have HD := Lib.hid (HS.out.trans (step_err Hr.out (by rw [← HG.out]; exact Hon.out) (by rw [← HG.out, HE.out]; exact hr0)))
          rw [← HG.out, HE.out] at HD
          have HR0 := Lib.hid hr0
          clear hr0
          go_wp2
          go_ret
          exact stepped_err HD.out HR0.out P2.out.only
      · rw [hj] at HJ
        rw [hj, Bool.true_and] at HFar
        have Hj := Lib.hid hj
        have hop : 25 ≤ op ∧ op ≤ 27 := by unfold jumpB at hj; rwa [decide_eq_true_iff] at hj
        clear hj
        by_cases hp1 : pl ≤ k
        · have HE := Lib.hid (show errB ⟨op, kd, ar, pl, nn⟩ k n (gt l k) = 7 by unfold errB; rw [if_pos]; rw [HFar.out, decide_eq_true hp1]; rfl)
          have HD := Lib.hid (HS.out.trans (step_err Hr.out (by rw [← HG.out]; exact Hon.out) (by rw [HE.out]; decide)))
          rw [HE.out] at HD
          clear HFar hop
          go_wp2
          go_ret
          exact stepped_err HD.out (by decide) P1.out.only
        · by_cases hp2 : (n : Int) < pl
          · have HE := Lib.hid (show errB ⟨op, kd, ar, pl, nn⟩ k n (gt l k) = 7 by unfold errB; rw [if_pos]; rw [HFar.out, decide_eq_true hp2, Bool.or_true])
            have HD := Lib.hid (HS.out.trans (step_err Hr.out (by rw [← HG.out]; exact Hon.out) (by rw [HE.out]; decide)))
            rw [HE.out] at HD
            clear HFar hop
            go_wp2
            go_ret
            exact stepped_err HD.out (by decide) P1.out.only
          · have HE := Lib.hid (show errB ⟨op, kd, ar, pl, nn⟩ k n a = r by unfold errB; rw [if_neg, HrB.out]; rw [HFar.out, decide_eq_false hp1, decide_eq_false hp2]; simp)
            have hp0 := (right_jump Hr.out Hj.out).1
            dsimp only at hp0
            obtain ⟨p, rfl⟩ : ∃ p : Nat, pl = p := ⟨pl.toNat, by omega⟩
            have hpn : (p : Int) < n + 1 := by omega
            have Hpn := Lib.hid (show p < n + 1 by omega)
            clear HFar hp0
            go_wp2_with fail
            refine (HRf.out _).mono ?_
            rintro e w3 ⟨rfl, hb⟩
            have P2 := Lib.hid (P1.out.next hb)
            clear hb P1 c0 c1 c2 c3 c4 s0 l7
            by_cases hr0 : r = 0
            · skip
              subst hr0
              have HB2 := Lib.hid (fun W => HBe.out W rfl)
              have wb := HN.out rfl
              have HWb := Lib.hid wb
              obtain ⟨c0, c1, c2, c3, c4⟩ := P2.out.cells
              dsimp only at c0 c1 c2 c3 c4
              have l7 := P2.out.load HW.out
              have h2 : ∀ (W : World) (z : Array Value), z.size = 19 → stS (.pointer (some ⟨W.heap.size, 0, none⟩)) (.agg (stA b)) (W.alloc (.cells z 96)) = .ok .skip (W.alloc (.cells (stA b) 96)) :=
                fun W z hz => stS_new _ _ z _ _ rfl hz (stA_size wb.len) (stA_one _)
              have HZ := Lib.hid (show errB ⟨op, kd, ar, (p : Int), nn⟩ k n (gt l k) = 0 by rw [← HG.out, HE.out])
              clear HBe HN wb
              go_wp2_with fail
              refine (HB2.out _).mono ?_
              rintro e w4 ⟨rfl, hb⟩
              have P3 := Lib.hid ((P2.out.next hb).with b)
              clear hb P2 c0 c1 c2 c3 c4 l7
              obtain ⟨c0, c1, c2, c3, c4⟩ := P3.out.cells
              dsimp only at c0 c1 c2 c3 c4
              have l10 := P3.out.load HWb.out
              by_cases h25 : op = 25
              · subst h25
                have Ho2 := Lib.hid (show ∀ b, goOn ⟨25, kd, ar, (p : Int), nn⟩ k l b = l from fun b => goOn_no rfl)
                have HLd := Lib.hid (cLead_any (k := p) P3.out.row Hpn.out (by omega) HWb.out)
                obtain ⟨q2, hq2⟩ : ∃ q2, q2 = joinO (gt (l) p) b := ⟨_, rfl⟩
                rw [← hq2] at HLd
                have Hq2 := Lib.hid hq2
                clear hq2
                go_wp2_with fail
                refine (HJ.out _).mono ?_
                rintro e w6 ⟨rfl, rfl⟩
                go_wp2_with fail
                refine HLd.out.mono ?_
                rintro e w7 ⟨rfl, hl⟩
                have P5 := Lib.hid (P3.out.led hl)
                clear hl P3 c0 c1 c2 c3 c4 l10 HLd
                cases q2
                · have HD := Lib.hid (HS.out.trans (step_bad2 Hr.out (by rw [← HG.out]; exact Hon.out) HZ.out (fun h => absurd h (by show ¬ onB 25 = true; decide)) Hj.out (by rw [Ho2.out, ← HG.out, ← HbB.out]; exact Hq2.out.symm)))
                  go_wp2
                  go_ret
                  exact stepped_err HD.out (by decide) P5.out.only
                · have HD := Lib.hid (HS.out.trans (step_done Hr.out (by rw [← HG.out]; exact Hon.out) HZ.out (fun h => absurd h (by show ¬ onB 25 = true; decide)) (fun _ => by rw [Ho2.out, ← HG.out, ← HbB.out]; exact Hq2.out.symm)))
                  rw [goTo_yes Hj.out, Ho2.out, ← HG.out, ← HbB.out] at HD
                  go_wp2
                  go_ret
                  exact stepped_ok HD.out P5.out.only P5.out.row
              · have e25 : (op != 25) = true := by simpa using h25
                have e28 : (op != 28) = true := by rw [bne_iff_ne]; omega
                have Ho := Lib.hid (show onB op = true by
                  unfold onB
                  rw [decide_eq_true_iff]
                  exact ⟨h25, by omega⟩)
                have Ho2 := Lib.hid (show ∀ b, goOn ⟨op, kd, ar, (p : Int), nn⟩ k l b = putB l (k + 1) b from fun b => goOn_yes Ho.out)
                clear h25 hop
                have HLd := Lib.hid (cLead_any (k := k + 1) P3.out.row (by omega) (by omega) HWb.out)
                rw [show ((k + 1 : Nat) : Int) = (k : Int) + 1 by omega] at HLd
                obtain ⟨q, hq⟩ : ∃ q, q = joinO (gt l (k + 1)) b := ⟨_, rfl⟩
                rw [← hq] at HLd
                have Hq := Lib.hid hq
                clear hq
                go_wp2_with fail
                refine HLd.out.mono ?_
                rintro e w5 ⟨rfl, hl⟩
                have P4 := Lib.hid (P3.out.led hl)
                clear hl P3 c0 c1 c2 c3 c4 l10 HLd
                cases q
                · have HD := Lib.hid (HS.out.trans (step_bad Hr.out (by rw [← HG.out]; exact Hon.out) HZ.out Ho.out (by rw [← HG.out, ← HbB.out]; exact Hq.out.symm)))
                  go_wp2
                  go_ret
                  exact stepped_err HD.out (by decide) P4.out.only
                · obtain ⟨c0, c1, c2, c3, c4⟩ := P4.out.cells
                  dsimp only at c0 c1 c2 c3 c4
                  have l10 := P4.out.load HWb.out
                  have HLd := Lib.hid (cLead_any (k := p) P4.out.row Hpn.out (by omega) HWb.out)
                  obtain ⟨q2, hq2⟩ : ∃ q2, q2 = joinO (gt (putB l (k + 1) b) p) b := ⟨_, rfl⟩
                  rw [← hq2] at HLd
                  have Hq2 := Lib.hid hq2
                  clear hq2
                  go_wp2_with fail
                  refine (HJ.out _).mono ?_
                  rintro e w6 ⟨rfl, rfl⟩
                  go_wp2_with fail
                  refine HLd.out.mono ?_
                  rintro e w7 ⟨rfl, hl⟩
                  have P5 := Lib.hid (P4.out.led hl)
                  clear hl P4 c0 c1 c2 c3 c4 l10 HLd
                  cases q2
                  · have HD := Lib.hid (HS.out.trans (step_bad2 Hr.out (by rw [← HG.out]; exact Hon.out) HZ.out (fun _ => by rw [← HG.out, ← HbB.out]; exact Hq.out.symm) Hj.out (by rw [Ho2.out, ← HG.out, ← HbB.out]; exact Hq2.out.symm)))
                    go_wp2
                    go_ret
                    exact stepped_err HD.out (by decide) P5.out.only
                  · have HD := Lib.hid (HS.out.trans (step_done Hr.out (by rw [← HG.out]; exact Hon.out) HZ.out (fun _ => by rw [← HG.out, ← HbB.out]; exact Hq.out.symm) (fun _ => by rw [Ho2.out, ← HG.out, ← HbB.out]; exact Hq2.out.symm)))
                    rw [goTo_yes Hj.out, Ho2.out, ← HG.out, ← HbB.out] at HD
                    go_wp2
                    go_ret
                    exact stepped_ok HD.out P5.out.only P5.out.row
            · skip
              have hrb : ((r : Int) != 0) = true := by rw [bne_iff_ne]; omega
              have HD := Lib.hid (HS.out.trans (step_err Hr.out (by rw [← HG.out]; exact Hon.out) (by rw [← HG.out, HE.out]; exact hr0)))
              rw [← HG.out, HE.out] at HD
              have HR0 := Lib.hid hr0
              clear hr0
              go_wp2
              go_ret
              exact stepped_err HD.out HR0.out P2.out.only

end Go.Proofs.Ytmlopacekoghkaa.Ve
