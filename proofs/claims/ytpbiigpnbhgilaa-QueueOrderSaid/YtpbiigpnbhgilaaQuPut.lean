/-
  The reference's queue: Put, walked. Conditions: texts no longer than may be.
-/
import Derived.Test.YtpbiigpnbhgilaaQuRef
import Derived.StillTailTactics
import Derived.Deep.RegionLaw
namespace Go.Proofs.Ytpbiigpnbhgilaa.Qu
open Go.RowKit

theorem full_eq (x : Qs ByteArray) : fullB x = decide ((x.pl : Int) ≤ (x.lo.length : Int) + (x.hi.length : Int)) := by
  unfold fullB
  rw [decide_eq_decide]
  omega

set_option maxRecDepth 100000 in
set_option maxHeartbeats 4000000 in
theorem rput_full (b : Nat) (ms : List Nat) (x : Qs ByteArray) (s : ByteArray) (h : Bool) (w : World) (hx : RefAt w b ms x) (hf : fullB x = true) :
    Calls Try.prog 9 #[.pointer (some ⟨b, 0, none⟩), .string s, .bool h] w (Done refFace b ms (.int .i64 8) ⟨x.pl, x.hi, x.lo, true⟩ w) := by
  obtain ⟨v, rfl, hv⟩ := hx
  have c0 := hv.c0
  have c1 : w.cell? ⟨b, 1, none⟩ = some (v false) := hv.cl false
  have c2 : w.cell? ⟨b, 2, none⟩ = some (v true) := hv.cl true
  have c3 := hv.c3
  have f3 := hv.fz 3
  obtain ⟨A1, d1, h1⟩ := (hv.row false).form0
  obtain ⟨A2, d2, h2⟩ := (hv.row true).form0
  rw [h1] at c1
  rw [h2] at c2
  have hpl := hv.ok.pl
  have hfit := hv.ok.fits
  have hg : (x.pl : Int) ≤ (x.lo.length : Int) + (x.hi.length : Int) := by rw [full_eq] at hf; simpa using hf
  replace c1 : w.cell? ⟨b, 1, none⟩ = some (.slice A1 x.lo.length d1) := c1
  replace c2 : w.cell? ⟨b, 2, none⟩ = some (.slice A2 x.hi.length d2) := c2
  have HV := Lib.hid (fun n => (show RefV (w.drewN n) b x v from ⟨hv.c0, hv.cl, hv.c3, hv.fz, fun c => (hv.row c).drewN n, hv.nb, hv.apart, hv.ok⟩).fault true)
  clear hv hf h1 h2
  go_enter Try.func9, Try.ntmps9
  go_wp2_with fail
  go_quiet (fail)
  go_wp2
  go_ret
  exact ⟨rfl, _, ⟨v, rfl, HV.out _⟩, (OnlyL.of_below (ms := b :: ((v false).ownBlock.toList ++ (v true).ownBlock.toList)) (show Below w.heap.size w (w.drewN nq) from ⟨rfl, rfl, rfl, Nat.le_refl _, fun _ _ => rfl⟩)).trans (OnlyL.set (by simp) _ _) (fun j hj => .inl hj), fun j hj => .inl hj⟩

/-- What is behind a literal laid, an append, and a draw: all that was there but the row that was appended to. -/
theorem put_pre {w W1 W2 : World} {row : Option Nat} (hb : Below w.heap.size w W1) (hg : W1.grownBy W2 row) : ∀ k, k < w.heap.size → some k ≠ row → W2.heap[k]? = w.heap[k]? :=
  fun k hk hne => (hg.block k (Nat.lt_of_lt_of_le hk hb.size) hne).trans (hb.block k hk)

theorem put_done {w W1 W2 W3 : World} {b g o cap : Nat} {x : Qs ByteArray} {v : Bool → Value} {s : ByteArray} {h : Bool} (hv : RefV w b x v) (hf : fullB x = false) (hb : Below w.heap.size w W1) (hg : W1.grownBy W2 (v h).ownBlock)
    (hu : Tail W2 0 9 1 (.slice (some ⟨g, o, none⟩) ((ofC x h).length + 1) cap) ((ofC x h).length + 1) (strs (ofC x h) ++ [.string s])) (hw : (v h).ownBlock = some g ∨ g = W1.heap.size)
    (h3 : W3.heap = W2.heap) (h3t : W3.os = W2.os ∧ W3.tape = W2.tape ∧ W3.output = W2.output) :
    Done refFace b (b :: ((v false).ownBlock.toList ++ (v true).ownBlock.toList)) (.int .i64 0) (setC x h (ofC x h ++ [s])) w (.returned (.int .i64 0)) (W3.setCell ⟨b, col h, none⟩ (.slice (some ⟨g, o, none⟩) ((ofC x h).length + 1) cap)) := by
  have hbl : b < w.heap.size := World.block_lt_of_cell? w ⟨b, 0, none⟩ hv.c0
  have hpre := put_pre hb hg
  have hne : ∀ k, (v (!h)).ownBlock = some k → some k ≠ (v h).ownBlock := fun k hk e => by
    rcases hv.apart with e0 | e0
    · cases h
      · rw [e0] at e; cases e
      · have e1 : (v (!true)).ownBlock = none := e0
        rw [e1] at hk; cases hk
    · cases h
      · have e1 : (v (!false)).ownBlock = (v true).ownBlock := rfl
        rw [e1] at hk; exact e0 (by rw [← e, ← hk])
      · have e1 : (v (!true)).ownBlock = (v false).ownBlock := rfl
        rw [e1] at hk; exact e0 (by rw [hk, e])
  have hlt : ∀ c k, (v c).ownBlock = some k → k < w.heap.size := fun c k hk => ((hv.row c).lt k hk).2
  have hl : (ofC x h ++ [s]).length = (ofC x h).length + 1 := by simp
  have hu3 : TailS W3 (.slice (some ⟨g, o, none⟩) ((ofC x h).length + 1) cap) (ofC x h ++ [s]) := by
    unfold TailS
    rw [hl, show strs (ofC x h ++ [s]) = strs (ofC x h) ++ [.string s] by simp [strs]]
    exact hu.of (fun k _ => by rw [h3])
  have hR := hv.store (W := W3) h (.slice (some ⟨g, o, none⟩) ((ofC x h).length + 1) cap) (ofC x h ++ [s]) (by rw [h3]; exact hpre b hbl (fun e => hv.nb h e.symm))
    ((hv.row (!h)).of (fun k hk => by rw [h3]; exact hpre k (hlt _ k hk) (hne k hk))) hu3
    (fun e => by
      have e : g = b := by simpa [Value.ownBlock] using e
      rcases hw with e2 | e2
      · exact hv.nb h (by rw [e2, e])
      · have := hb.size; omega)
    (.inr (fun e => by
      have e : some g = (v (!h)).ownBlock := e
      rcases hw with e2 | e2
      · exact hne g e.symm e2.symm
      · have := hlt _ g e.symm; have := hb.size; omega))
    (by
      have := hv.ok.put s h
      unfold putX at this
      rw [hf] at this
      exact this)
  have hO : OnlyL (b :: ((v false).ownBlock.toList ++ (v true).ownBlock.toList)) w W3 :=
    ⟨h3t.1.trans (hg.os.trans hb.os), h3t.2.1.trans (hg.tape.trans hb.tape), h3t.2.2.trans (hg.output.trans hb.output), by rw [h3]; exact Nat.le_trans hb.size hg.size, fun k hk hm => by
      rw [h3]
      exact hpre k hk (fun e => hm (own_mem h e.symm))⟩
  refine ⟨rfl, _, ⟨_, rfl, hR⟩, hO.trans (OnlyL.set (ms := b :: ((v false).ownBlock.toList ++ (v true).ownBlock.toList)) (by simp) _ _) (fun j hj => .inl hj), fun j hj => ?_⟩
  simp only [List.mem_cons, List.mem_append, Option.mem_toList] at hj ⊢
  have hown : ∀ c, j ∈ (if c = h then (Value.slice (some ⟨g, o, none⟩) ((ofC x h).length + 1) cap) else v c).ownBlock → (j = b ∨ (v false).ownBlock = some j ∨ (v true).ownBlock = some j) ∨ w.heap.size ≤ j := fun c hc => by
    by_cases e : c = h
    · rw [if_pos e] at hc
      have e2 : g = j := by simpa [Value.ownBlock] using hc
      subst e2
      rcases hw with e3 | e3
      · left; right
        cases h
        · exact .inl e3
        · exact .inr e3
      · right; have := hb.size; omega
    · rw [if_neg e] at hc
      left; right
      cases c
      · exact .inl hc
      · exact .inr hc
  rcases hj with hj | hj | hj
  · exact .inl (.inl hj)
  · exact hown false hj
  · exact hown true hj

set_option maxRecDepth 100000 in
set_option maxHeartbeats 8000000 in
theorem rput_more (b : Nat) (ms : List Nat) (x : Qs ByteArray) (s : ByteArray) (h : Bool) (w : World) (hx : RefAt w b ms x) (hf : fullB x = false) :
    Calls Try.prog 9 #[.pointer (some ⟨b, 0, none⟩), .string s, .bool h] w (Done refFace b ms (.int .i64 0) (setC x h (ofC x h ++ [s])) w) := by
  obtain ⟨v, rfl, hv⟩ := hx
  obtain ⟨i0, hi0, hi1, hi2, hi3⟩ := info_parts infoStr
  have HI := Lib.hid (⟨hi0, hi1, hi2, hi3⟩ : _ ∧ _ ∧ _ ∧ _)
  clear hi0 hi1 hi2 hi3
  have c0 := hv.c0
  have c1 : w.cell? ⟨b, 1, none⟩ = some (v false) := hv.cl false
  have c2 : w.cell? ⟨b, 2, none⟩ = some (v true) := hv.cl true
  have fz := hv.fz (col h)
  obtain ⟨A1, d1, h1⟩ := (hv.row false).form0
  obtain ⟨A2, d2, h2⟩ := (hv.row true).form0
  rw [h1] at c1
  rw [h2] at c2
  have hpl := hv.ok.pl
  have hfit := hv.ok.fits
  have hle := of_le hv.ok h
  have hg : ¬ (x.pl : Int) ≤ (x.lo.length : Int) + (x.hi.length : Int) := by rw [full_eq] at hf; simpa using hf
  replace c1 : w.cell? ⟨b, 1, none⟩ = some (.slice A1 x.lo.length d1) := c1
  replace c2 : w.cell? ⟨b, 2, none⟩ = some (.slice A2 x.hi.length d2) := c2
  have HC := Lib.hid (fun W => rclass_any h W)
  have HV := Lib.hid hv
  have HF := Lib.hid hf
  have HH1 := Lib.hid h1
  have HH2 := Lib.hid h2
  clear hv hf h1 h2
  cases h
  · replace fz : w.frozen? ⟨b, 1, none⟩ = false := fz
    replace hle : x.lo.length ≤ 64 := hle
    have hbw : b < w.heap.size := World.block_lt_of_cell? w ⟨b, 0, none⟩ c0
    go_enter Try.func9, Try.ntmps9
    go_wp2_with fail
    go_quiet (fail)
    go_wp2_with fail
    refine (HC.out _).mono ?_
    rintro e w1 ⟨rfl, rfl⟩
    go_wp2_with fail
    have HBd := Lib.hid (show Below w.heap.size w (w.drewN nq) from ⟨rfl, rfl, rfl, Nat.le_refl _, fun _ _ => rfl⟩)
    have HV0 := Lib.hid (show RefV (w.drewN nq) b x v from ⟨HV.out.c0, HV.out.cl, HV.out.c3, HV.out.fz, fun c => (HV.out.row c).drewN nq, HV.out.nb, HV.out.apart, HV.out.ok⟩)
    replace c0 : (w.drewN nq).cell? ⟨b, 0, none⟩ = _ := c0
    replace c1 : (w.drewN nq).cell? ⟨b, 1, none⟩ = _ := c1
    replace c2 : (w.drewN nq).cell? ⟨b, 2, none⟩ = _ := c2
    replace fz : (w.drewN nq).frozen? ⟨b, 1, none⟩ = false := fz
    replace hbw : b < (w.drewN nq).heap.size := hbw
    generalize w.drewN nq = W0 at *
    have HO := Lib.hid (show Tail (W0.drew.alloc (.cells #[.string s] 9)) 0 9 1 (.slice A1 x.lo.length d1) x.lo.length (strs x.lo) from by
      have := (HV0.out.row false).drew.alloc (.cells #[.string s] 9)
      rw [HH1.out] at this
      exact this)
    have HNB := Lib.hid (show (Value.slice A1 x.lo.length d1).ownBlock ≠ some b from by have := HV0.out.nb false; rw [HH1.out] at this; exact this)
    have HLt := Lib.hid (show b < (W0.drew.alloc (.cells #[.string s] 9)).heap.size by simp; omega)
    have HBk := Lib.hid ((alloc_below W0.drew (.cells #[.string s] 9)).block b hbw)
    have HCl := Lib.hid ((World.cell?_of_block (a := ⟨b, 1, none⟩) HBk.out).trans c1)
    have HFz := Lib.hid ((World.frozen?_of_block (a := ⟨b, 1, none⟩) HBk.out).trans fz)
    go_region_law ((refine step_append_tail _ (by rfl) (.tmp 38) (.tmp 40) 36 (by rfl) 0 9 i0 (.string ⟨#[]⟩) 1 16 Try.underlying36 HI.out.1 HI.out.2.1 HI.out.2.2.1 HI.out.2.2.2 rfl (by decide) _ x.lo.length (strs x.lo) (by simp [Act.eval]) HO.out ⟨W0.heap.size, 0, none⟩ 1 1 [.string s] (by simp [Act.eval]) rfl (cell_one_new _ _ _) (by intro u hu; simp at hu; subst hu; rfl) (by decide) (by unfold maxLen; omega) (by omega) (Nat.zero_le _) ?_; intro g1 o1 cp1 w1 hown hgr hat; have q0 := (World.cell?_of_block (a := ⟨b, 1, none⟩) (hgr.block b HLt.out (fun e => HNB.out e.symm))).trans HCl.out; have q1 := (World.frozen?_of_block (a := ⟨b, 1, none⟩) (hgr.block b HLt.out (fun e => HNB.out e.symm))).trans HFz.out))
    all_goals
      have HD := Lib.hid (put_done (h := false) (W3 := w1) HV0.out HF.out ((Below.refl W0.heap.size W0).drew.alloc (by simp) (.cells #[.string s] 9)) (by rw [HH1.out]; exact hgr) hown (by rw [HH1.out]; exact hat) rfl ⟨rfl, rfl, rfl⟩)
      clear hown hgr hat q0 q1
      go_wp2
      go_ret
      exact Done.after HBd.out HD.out
  · replace fz : w.frozen? ⟨b, 2, none⟩ = false := fz
    replace hle : x.hi.length ≤ 64 := hle
    have hbw : b < w.heap.size := World.block_lt_of_cell? w ⟨b, 0, none⟩ c0
    go_enter Try.func9, Try.ntmps9
    go_wp2_with fail
    go_quiet (fail)
    go_wp2_with fail
    refine (HC.out _).mono ?_
    rintro e w1 ⟨rfl, rfl⟩
    go_wp2_with fail
    have HBd := Lib.hid (show Below w.heap.size w (w.drewN nq) from ⟨rfl, rfl, rfl, Nat.le_refl _, fun _ _ => rfl⟩)
    have HV0 := Lib.hid (show RefV (w.drewN nq) b x v from ⟨HV.out.c0, HV.out.cl, HV.out.c3, HV.out.fz, fun c => (HV.out.row c).drewN nq, HV.out.nb, HV.out.apart, HV.out.ok⟩)
    replace c0 : (w.drewN nq).cell? ⟨b, 0, none⟩ = _ := c0
    replace c1 : (w.drewN nq).cell? ⟨b, 1, none⟩ = _ := c1
    replace c2 : (w.drewN nq).cell? ⟨b, 2, none⟩ = _ := c2
    replace fz : (w.drewN nq).frozen? ⟨b, 2, none⟩ = false := fz
    replace hbw : b < (w.drewN nq).heap.size := hbw
    generalize w.drewN nq = W0 at *
    have HO := Lib.hid (show Tail (W0.drew.alloc (.cells #[.string s] 9)) 0 9 1 (.slice A2 x.hi.length d2) x.hi.length (strs x.hi) from by
      have := (HV0.out.row true).drew.alloc (.cells #[.string s] 9)
      rw [HH2.out] at this
      exact this)
    have HNB := Lib.hid (show (Value.slice A2 x.hi.length d2).ownBlock ≠ some b from by have := HV0.out.nb true; rw [HH2.out] at this; exact this)
    have HLt := Lib.hid (show b < (W0.drew.alloc (.cells #[.string s] 9)).heap.size by simp; omega)
    have HBk := Lib.hid ((alloc_below W0.drew (.cells #[.string s] 9)).block b hbw)
    have HCl := Lib.hid ((World.cell?_of_block (a := ⟨b, 2, none⟩) HBk.out).trans c2)
    have HFz := Lib.hid ((World.frozen?_of_block (a := ⟨b, 2, none⟩) HBk.out).trans fz)
    go_region_law ((refine step_append_tail _ (by rfl) (.tmp 38) (.tmp 40) 36 (by rfl) 0 9 i0 (.string ⟨#[]⟩) 1 16 Try.underlying36 HI.out.1 HI.out.2.1 HI.out.2.2.1 HI.out.2.2.2 rfl (by decide) _ x.hi.length (strs x.hi) (by simp [Act.eval]) HO.out ⟨W0.heap.size, 0, none⟩ 1 1 [.string s] (by simp [Act.eval]) rfl (cell_one_new _ _ _) (by intro u hu; simp at hu; subst hu; rfl) (by decide) (by unfold maxLen; omega) (by omega) (Nat.zero_le _) ?_; intro g1 o1 cp1 w1 hown hgr hat; have q0 := (World.cell?_of_block (a := ⟨b, 2, none⟩) (hgr.block b HLt.out (fun e => HNB.out e.symm))).trans HCl.out; have q1 := (World.frozen?_of_block (a := ⟨b, 2, none⟩) (hgr.block b HLt.out (fun e => HNB.out e.symm))).trans HFz.out))
    all_goals
      have HD := Lib.hid (put_done (h := true) (W3 := w1) HV0.out HF.out ((Below.refl W0.heap.size W0).drew.alloc (by simp) (.cells #[.string s] 9)) (by rw [HH2.out]; exact hgr) hown (by rw [HH2.out]; exact hat) rfl ⟨rfl, rfl, rfl⟩)
      clear hown hgr hat q0 q1
      go_wp2
      go_ret
      exact Done.after HBd.out HD.out

theorem rput_any (b : Nat) (ms : List Nat) (x : Qs ByteArray) (s : ByteArray) (h : Bool) (w : World) (hx : RefAt w b ms x) :
    Calls Try.prog 9 #[.pointer (some ⟨b, 0, none⟩), .string s, .bool h] w (Done refFace b ms (.int .i64 (putE x)) (putX x s h) w) := by
  unfold putE putX
  by_cases hf : fullB x = true
  · rw [if_pos hf, if_pos hf]; exact rput_full b ms x s h w hx hf
  · have hf2 : fullB x = false := by simpa using hf
    rw [if_neg hf, if_neg hf]; exact rput_more b ms x s h w hx hf2

end Go.Proofs.Ytpbiigpnbhgilaa.Qu
