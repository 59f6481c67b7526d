/-
  What a tick keeps of a mac's numbers, and which marks it raises. Conditions: none.
-/
import Derived.Test.YtedlfognpbbhhaaGreatDoorMaS
namespace Go.Proofs.YtedlfognpbbhhaaGreatDoor.Ma
open Go.Proofs.YtedlfognpbbhhaaGreatDoor.Epo (Ep cmpE newB maxE numE numM cmpN)
open Go.Proofs.YtedlfognpbbhhaaGreatDoor.Mem (St withB woB hasB passB nextI turnI gapB)
open Go.Proofs.YtedlfognpbbhhaaGreatDoor.Frm (Fr)

def mN (k : Mk) : Nat := numM k.e k.h
/-- What is kept from step to step. -/
structure Iv (n : Int) (M : Mc) : Prop where
  ok : Ok n M
  inc : M.inc ≤ 65535
  le : numE M.tok.e ≤ numE M.high
  mf : M.mark.e.fit ∧ M.mark.h ≤ 65535
/-- Later than another. -/
structure Up (M M' : Mc) : Prop where
  tok : mN M.tok ≤ mN M'.tok
  mark : ∀ z, z ≤ mN M.mark → z ≤ mN M.tok → z ≤ mN M'.mark
  high : numE M.high ≤ numE M'.high
  ad : M'.ad = M.ad
  inc : M'.inc = M.inc
theorem Up.refl (M : Mc) : Up M M := ⟨Nat.le_refl _, fun _ h _ => h, Nat.le_refl _, rfl, rfl⟩
theorem Up.trans {A B C : Mc} (h : Up A B) (k : Up B C) : Up A C :=
  ⟨Nat.le_trans h.tok k.tok, fun z a b => k.mark z (h.mark z a b) (Nat.le_trans b h.tok), Nat.le_trans h.high k.high, k.ad.trans h.ad, k.inc.trans h.inc⟩
theorem Up.same {M M' : Mc} (e : (M'.tok, M'.mark, M'.high, M'.ad, M'.inc) = (M.tok, M.mark, M.high, M.ad, M.inc)) : Up M M' := by
  obtain ⟨e1, e2, e3, e4, e5⟩ : M'.tok = M.tok ∧ M'.mark = M.mark ∧ M'.high = M.high ∧ M'.ad = M.ad ∧ M'.inc = M.inc := by simpa using e
  exact ⟨by rw [e1]; exact Nat.le_refl _, fun z h _ => by rw [e2]; exact h, by rw [e3]; exact Nat.le_refl _, e4, e5⟩
def coreM (M : Mc) := (M.ad, M.sl, M.gp, M.clock, M.silence, M.timer, M.visits, M.arrived, M.rot, M.tries, M.partner, M.st, M.ask, M.high, M.tok)
section
variable {n : Int} {M M' : Mc}
theorem Ok.mono {m : Int} (h : Ok n M) (hm : n ≤ m) : Ok m M :=
  ⟨h.ad, h.sl, h.gp, ⟨h.clock.1, Int.le_trans h.clock.2 hm⟩, ⟨h.silence.1, Int.le_trans h.silence.2 hm⟩, ⟨h.timer.1, Int.le_trans h.timer.2 hm⟩, ⟨h.visits.1, Int.le_trans h.visits.2 hm⟩, h.arrived, ⟨h.rot.1, Int.le_trans h.rot.2 hm⟩, ⟨h.tries.1, Int.le_trans h.tries.2 hm⟩, h.part, h.p8, h.ask, h.high, h.tok⟩
theorem Iv.mono {m : Int} (h : Iv n M) (hm : n ≤ m) : Iv m M := ⟨h.ok.mono hm, h.inc, h.le, h.mf⟩
/-- What a step may do. -/
def St1 (n : Int) (M M' : Mc) : Prop := Iv n M' ∧ Up M M'
theorem St1.trans {A B C : Mc} {m : Int} (h : St1 n A B) (k : Iv n B → St1 m B C) : St1 m A C := ⟨(k h.1).1, h.2.trans (k h.1).2⟩
theorem St1.mono {A B : Mc} {m : Int} (h : St1 n A B) (hm : n ≤ m) : St1 m A B := ⟨h.1.mono hm, h.2⟩
theorem up_n (n : Int) : n ≤ n + 1 := by omega
theorem zero_n (h : Ok n M) : (0 : Int) ≤ n := Int.le_trans h.clock.1 h.clock.2
theorem no8i {s : Int} {P : Prop} (h : s ≠ 8) : s = 8 → P := fun e => absurd e h
/-- Nothing that counts changes. -/
theorem st_same (h : Iv n M) (M' : Mc) (e : (M'.ad, M'.sl, M'.gp, M'.clock, M'.silence, M'.timer, M'.visits, M'.arrived, M'.rot, M'.tries, M'.partner) = (M.ad, M.sl, M.gp, M.clock, M.silence, M.timer, M.visits, M.arrived, M.rot, M.tries, M.partner))
    (e2 : (M'.ask, M'.high, M'.tok, M'.mark, M'.inc) = (M.ask, M.high, M.tok, M.mark, M.inc)) (h8 : M'.st = 8 → 0 ≤ M.partner) : St1 n M M' := by
  simp only [Prod.mk.injEq] at e e2
  obtain ⟨a1, a2, a3, a4, a5, a6, a7, a8, a9, a10, a11⟩ := e
  obtain ⟨b1, b2, b3, b4, b5⟩ := e2
  have k := h.ok
  refine ⟨⟨⟨by rw [a1]; exact k.ad, by rw [a2]; exact k.sl, by rw [a3]; exact k.gp, by rw [a4]; exact k.clock, by rw [a5]; exact k.silence, by rw [a6]; exact k.timer, by rw [a7]; exact k.visits, by rw [a8, a4]; exact k.arrived, by rw [a9]; exact k.rot, by rw [a10]; exact k.tries, by rw [a11]; exact k.part, by rw [a11]; exact h8, by rw [b1]; exact k.ask, by rw [b2]; exact k.high, by rw [b3]; exact k.tok⟩, by rw [b5]; exact h.inc, by rw [b2, b3]; exact h.le, by rw [b4]; exact h.mf⟩, Up.same (by rw [b3, b4, b2, a1, b5])⟩
theorem st_arrive (h : Iv n M) : St1 (n + 1) M (arriveM M) := by
  have k := h.ok.mono (up_n n)
  have k0 := h.ok
  refine ⟨⟨⟨k.ad, k.sl, k.gp, k.clock, k.silence, k.timer, ⟨by show 0 ≤ M.visits + 1; have := k0.visits; omega, by show M.visits + 1 ≤ n + 1; have := k0.visits; omega⟩, ⟨k.clock.1, Int.le_refl _⟩, (by
    show 0 ≤ (if 0 < M.visits then M.clock - M.arrived else M.rot) ∧ (if 0 < M.visits then M.clock - M.arrived else M.rot) ≤ n + 1
    have h1 := k0.clock
    have h2 := k0.arrived
    have h3 := k0.rot
    split <;> omega), k.tries, k.part, no8i (by show (4 : Int) ≠ 8; decide), k.ask, k.high, k.tok⟩, h.inc, h.le, h.mf⟩, Up.same rfl⟩
theorem st_marks (h : Iv n M) : St1 n M (marksM M) :=
  ⟨⟨⟨h.ok.ad, h.ok.sl, h.ok.gp, h.ok.clock, h.ok.silence, h.ok.timer, h.ok.visits, h.ok.arrived, h.ok.rot, h.ok.tries, h.ok.part, h.ok.p8, h.ok.ask, h.ok.high, h.ok.tok⟩, h.inc, h.le, h.ok.tok⟩, ⟨Nat.le_refl _, fun _ _ b => b, Nat.le_refl _, rfl, rfl⟩⟩
theorem st_self (h : Iv n M) : St1 (n + 1) M (selfM M) := (st_marks h).trans fun k => st_arrive k
theorem st_to (h : Iv n M) (a : Int) (ha : 0 ≤ a ∧ a < 32) : St1 n M (toM M a) := by
  have k := (st_marks h).1.ok
  refine ⟨⟨⟨k.ad, k.sl, k.gp, k.clock, k.silence, ⟨Int.le_refl _, zero_n k⟩, k.visits, k.arrived, k.rot, ⟨Int.le_refl _, zero_n k⟩, ⟨by show -1 ≤ a; omega, ha.2⟩, fun _ => ha.1, k.ask, k.high, k.tok⟩, h.inc, h.le, h.ok.tok⟩, (st_marks h).2.trans (Up.same rfl)⟩
theorem fresh_num (M : Mc) : numE (freshE M) = ((M.high.c + 1) * 256 + M.ad) * 65536 + M.inc := rfl
theorem fresh_gt (h : Iv n M) : numE M.high + 1 ≤ numE (freshE M) := by
  rw [fresh_num]
  unfold numE
  obtain ⟨-, h2, h3⟩ := h.ok.high
  omega
theorem mint_c (h : mintB M = true) : M.high.c + 1 ≤ 65535 ∧ (M.high.c : Int) < M.lm := by
  unfold mintB at h
  simp at h
  omega
theorem fresh_fit (h : Iv n M) (hm : mintB M = true) : (freshE M).fit := ⟨(mint_c hm).1, by have := h.ok.ad; show M.ad ≤ 255; omega, h.inc⟩
theorem tok_le (h : Iv n M) (j : Nat) : mN M.tok ≤ mN ⟨freshE M, j⟩ := by
  have h1 := fresh_gt h
  have h2 := h.le
  have h3 := h.ok.tok.2
  show numE M.tok.e * 65536 + M.tok.h ≤ numE (freshE M) * 65536 + j
  omega
theorem st_new (h : Iv n M) (hm : mintB M = true) (j : Nat) (hj : j ≤ 65535) : St1 n M { newM M with tok := ⟨freshE M, j⟩ } := by
  have k := h.ok
  have hf := fresh_fit h hm
  refine ⟨⟨⟨k.ad, k.sl, k.gp, k.clock, k.silence, k.timer, k.visits, k.arrived, k.rot, k.tries, k.part, k.p8, k.ask, hf, ⟨hf, hj⟩⟩, h.inc, Nat.le_refl _, h.mf⟩, ⟨tok_le h j, fun z a _ => a, Nat.le_trans (Nat.le_succ _) (fresh_gt h), rfl, rfl⟩⟩
theorem st_new0 (h : Iv n M) (hm : mintB M = true) : St1 n M (newM M) := st_new h hm 0 (by decide)
theorem st_off (h : Iv n M) : St1 n M (offM M) := st_same h _ rfl rfl (fun e => absurd (show (0 : Int) = 8 from e) (by decide))
theorem st_hop (h : Iv n M) : St1 n M (hopM M) := by
  unfold hopM
  split
  · split
    · rename_i hm
      exact st_new h hm 1 (by decide)
    · exact st_off h
  · rename_i hh
    have k := h.ok
    have h3 := k.tok.2
    refine ⟨⟨⟨k.ad, k.sl, k.gp, k.clock, k.silence, k.timer, k.visits, k.arrived, k.rot, k.tries, k.part, k.p8, k.ask, k.high, ⟨k.tok.1, by show M.tok.h + 1 ≤ 65535; omega⟩⟩, h.inc, h.le, h.mf⟩, ⟨by show numE M.tok.e * 65536 + M.tok.h ≤ numE M.tok.e * 65536 + (M.tok.h + 1); omega, fun z a _ => a, Nat.le_refl _, rfl, rfl⟩⟩
theorem no8 {s : Int} {P : Prop} (h : s ≠ 8) : s = 8 → P := fun e => absurd e h
theorem st_go (h : Iv n M) : St1 (n + 1) M (goR M).m := by
  unfold goR
  split
  · exact (st_same h { M with st := 1, leaving := false } rfl rfl (no8 (by show (1 : Int) ≠ 8; decide))).mono (up_n n)
  · split
    · split
      · exact (st_hop h).trans fun k => st_self k
      · rename_i hn
        exact ((st_hop h).trans fun k => st_to k _ ⟨by omega, (nextI_range _ _).2⟩).mono (up_n n)
    · exact (st_hop h).mono (up_n n)
theorem st_pass (h : Iv n M) : St1 (n + 1) M (passR M).m := by
  unfold passR
  split
  · split
    · rename_i hm
      exact (st_new0 h hm).trans fun k => st_go k
    · exact (st_off h).mono (up_n n)
  · exact st_go h
theorem st_claim (h : Iv n M) : St1 (n + 1) M (claimR M).m := by
  unfold claimR
  split
  · rename_i hm
    exact ((st_new0 h hm).trans fun k => st_same k { newM M with list := withB 0#32 M.ad } rfl rfl k.ok.p8).trans fun k => st_self k
  · exact (st_off h).mono (up_n n)
theorem st_ask (h : Iv n M) (a s : Int) (ha : -1 ≤ a ∧ a < 32) (hs : s ≠ 8) : St1 n M (askR M a s).m := by
  have k := h.ok
  exact ⟨⟨⟨k.ad, k.sl, k.gp, k.clock, k.silence, ⟨Int.le_refl _, zero_n k⟩, k.visits, k.arrived, k.rot, k.tries, ha, no8i hs, k.ask, k.high, k.tok⟩, h.inc, h.le, h.mf⟩, Up.same rfl⟩
theorem turn_range (M : Mc) : -1 ≤ turnM M ∧ turnM M < 32 := by
  have h := Mem.turnI_range (gapM M) M.last
  unfold turnM
  omega
theorem st_gap (h : Iv n M) : St1 n M (gapR M).m := by
  unfold gapR
  split
  · exact (st_same h { M with last := turnM M } rfl rfl h.ok.p8).trans fun k => st_ask k _ _ (turn_range M) (by decide)
  · exact ⟨h, Up.refl M⟩
theorem st_tim (h : Iv n M) (hi lo : Int) : St1 n M (timR M hi lo).m := by
  unfold timR
  split
  · exact ⟨h, Up.refl M⟩
  · split
    · exact ⟨h, Up.refl M⟩
    · split
      · have k := h.ok
        have k2 : St1 n M { M with ask := -1 } := ⟨⟨⟨k.ad, k.sl, k.gp, k.clock, k.silence, k.timer, k.visits, k.arrived, k.rot, k.tries, k.part, k.p8, ⟨Int.le_refl _, by show (-1 : Int) < 32; decide⟩, k.high, k.tok⟩, h.inc, h.le, h.mf⟩, Up.same rfl⟩
        exact k2.trans fun k3 => st_ask k3 _ _ h.ok.ask (by decide)
      · exact st_gap h
theorem st_six (h : Iv n M) : St1 n M { M with st := 6 } := st_same h _ rfl rfl (no8 (by show (6 : Int) ≠ 8; decide))
theorem st_chk (h : Iv n M) (hi lo : Int) : St1 n M (chkR M hi lo).m := by
  unfold chkR
  split
  · exact (st_six h).trans fun k => st_tim k hi lo
  · exact (st_six h).trans fun k => st_gap k
theorem st_chp (h : Iv n M) (hi lo : Int) : St1 (n + 1) M (chpR M hi lo).m := by
  unfold chpR
  split
  · exact (st_chk h hi lo).trans fun k => st_pass k
  · exact (st_chk h hi lo).mono (up_n n)
theorem st_leave (h : Iv n M) : St1 n M (leaveM M) := st_same h _ rfl rfl h.ok.p8
theorem st_use (h : Iv n M) (hi lo : Int) : St1 (n + 1) M (useR M hi lo).m := by
  unfold useR
  split
  · split
    · exact (st_six h).mono (up_n n)
    · exact st_chp h hi lo
  · exact (st_leave h).trans fun k => st_pass k
theorem st_skip (h : Iv n M) : St1 n M (skipM M) := st_same h _ rfl rfl h.ok.p8
theorem st_cp (h : Iv n M) : St1 (n + 1) M (cpR M).m := by
  unfold cpR
  split
  · have k := h.ok.mono (up_n n)
    have k0 := h.ok
    exact ⟨⟨⟨k.ad, k.sl, k.gp, k.clock, k.silence, ⟨Int.le_refl _, zero_n k⟩, k.visits, k.arrived, k.rot, ⟨by show 0 ≤ M.tries + 1; have := k0.tries; omega, by show M.tries + 1 ≤ n + 1; have := k0.tries; omega⟩, k.part, k.p8, k.ask, k.high, k.tok⟩, h.inc, h.le, h.mf⟩, Up.same rfl⟩
  · split
    · rename_i hm
      exact ((st_skip h).trans fun k => st_new0 k hm).trans fun k => st_pass k
    · exact ((st_skip h).trans fun k => st_off k).mono (up_n n)
theorem st_nothing (h : Iv n M) : St1 (n + 1) M (nothing M).m := ⟨h.mono (up_n n), Up.refl M⟩
theorem st_goOn (h : Iv n M) (hi lo : Int) : St1 (n + 1) M (goOnR M hi lo).m := by
  unfold goOnR
  split
  · exact st_nothing h
  · split
    · exact st_claim h
    · split
      · exact st_use h hi lo
      · split
        · exact st_chp h hi lo
        · split
          · exact st_pass h
          · split
            · exact st_cp h
            · exact st_nothing h
theorem st_act (h : Iv n M) (hi lo : Int) : St1 (n + 1) M (actR M hi lo).m := by
  unfold actR
  split
  · exact (st_same h { M with polled := false } rfl rfl h.ok.p8).mono (up_n n)
  · exact st_goOn h hi lo
theorem st_tickM (h : Iv n M) : St1 (n + 1) M (tickM M) := ⟨⟨h.ok.tick, h.inc, h.le, h.mf⟩, Up.same rfl⟩
theorem st_quiet {r : Out} (h : Iv n r.m) : St1 n r.m (quiet r).m := by
  unfold quiet
  split
  · exact ⟨h, Up.refl _⟩
  · have k := h.ok
    exact ⟨⟨⟨k.ad, k.sl, k.gp, k.clock, ⟨Int.le_refl _, zero_n k⟩, k.timer, k.visits, k.arrived, k.rot, k.tries, k.part, k.p8, k.ask, k.high, k.tok⟩, h.inc, h.le, h.mf⟩, Up.same rfl⟩
theorem st_tick (h : Iv n M) (hi lo : Int) : St1 (n + 2) M (tickR M hi lo).m := by
  unfold tickR
  split
  · exact ⟨h.mono (by omega), Up.refl M⟩
  · have h1 := (st_tickM h).trans fun k => st_act k hi lo
    have h2 := h1.trans fun k => st_quiet k
    rw [show n + 2 = n + 1 + 1 by omega]
    exact h2
end
end Go.Proofs.YtedlfognpbbhhaaGreatDoor.Ma
