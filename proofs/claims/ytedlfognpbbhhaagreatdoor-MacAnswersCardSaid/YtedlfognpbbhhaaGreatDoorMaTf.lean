/-
  Wishes, known incarnations, the known epoch's address, and that a mac which is offline has failed: over a tick and a frame. Conditions: none.
-/
import Derived.Test.YtedlfognpbbhhaaGreatDoorMaHr
namespace Go.Proofs.YtedlfognpbbhhaaGreatDoor.Ma
open Go.Proofs.YtedlfognpbbhhaaGreatDoor.Epo (Ep cmpE newB maxE numE numM cmpN orL)
open Go.Proofs.YtedlfognpbbhhaaGreatDoor.Mem (St withB woB hasB passB nextI turnI gapB)
open Go.Proofs.YtedlfognpbbhhaaGreatDoor.Frm (Fr)

def Gd2 (M : Mc) : Prop := M.st ≠ 0 ∧ M.fault = false
def Fx2 (M : Mc) : Prop := Gd2 M ∨ (M.st = 0 ∧ M.fault = true)
/-- A step that goes on. -/
structure Tg (M M' : Mc) : Prop where
  w : M'.wants = M.wants
  kn : M'.kn = M.kn
  ad : M'.ad = M.ad
  hi : M'.high = M.high ∨ M'.high.a = M.ad
  g : Gd2 M → Gd2 M'
/-- A step that may fail. -/
structure Tf (M M' : Mc) : Prop where
  w : M'.wants = M.wants
  kn : M'.kn = M.kn
  ad : M'.ad = M.ad
  hi : M'.high = M.high ∨ M'.high.a = M.ad
  g : Gd2 M → Fx2 M'
theorem hi_trans {A B C : Mc} (a : B.ad = A.ad) (h : B.high = A.high ∨ B.high.a = A.ad) (k : C.high = B.high ∨ C.high.a = B.ad) : C.high = A.high ∨ C.high.a = A.ad := by
  rcases k with k | k
  · rcases h with h | h
    · exact .inl (k.trans h)
    · exact .inr (by rw [k]; exact h)
  · exact .inr (k.trans a)
theorem Tg.tf {M M' : Mc} (h : Tg M M') : Tf M M' := ⟨h.w, h.kn, h.ad, h.hi, fun z => .inl (h.g z)⟩
theorem Tg.trans {A B C : Mc} (h : Tg A B) (k : Tg B C) : Tg A C := ⟨k.w.trans h.w, k.kn.trans h.kn, k.ad.trans h.ad, hi_trans h.ad h.hi k.hi, fun z => k.g (h.g z)⟩
theorem Tg.tail {A B C : Mc} (h : Tg A B) (k : Tf B C) : Tf A C := ⟨k.w.trans h.w, k.kn.trans h.kn, k.ad.trans h.ad, hi_trans h.ad h.hi k.hi, fun z => k.g (h.g z)⟩
theorem Tg.refl (M : Mc) : Tg M M := ⟨rfl, rfl, rfl, .inl rfl, id⟩
section
variable (M : Mc)
theorem gd_st {M : Mc} (h : Gd2 M) {s : Int} (hs : s ≠ 0) : s ≠ 0 ∧ M.fault = false := ⟨hs, h.2⟩
theorem tg_arrive : Tg M (arriveM M) := ⟨rfl, rfl, rfl, .inl rfl, fun h => ⟨by show (4 : Int) ≠ 0; decide, h.2⟩⟩
theorem tg_self : Tg M (selfM M) := ⟨rfl, rfl, rfl, .inl rfl, fun h => ⟨by show (4 : Int) ≠ 0; decide, h.2⟩⟩
theorem tg_to (a : Int) : Tg M (toM M a) := ⟨rfl, rfl, rfl, .inl rfl, fun h => ⟨by show (8 : Int) ≠ 0; decide, h.2⟩⟩
theorem tg_new : Tg M (newM M) := ⟨rfl, rfl, rfl, .inr rfl, id⟩
theorem tf_off : Tf M (offM M) := ⟨rfl, rfl, rfl, .inl rfl, fun _ => .inr ⟨rfl, rfl⟩⟩
theorem tg_hop (h : hopB M = true) : Tg M (hopM M) := by
  unfold hopM
  split
  · rename_i h1
    unfold hopB at h
    rw [decide_eq_false (by simpa using h1), Bool.false_or] at h
    rw [if_pos h]
    exact ⟨rfl, rfl, rfl, .inr rfl, id⟩
  · exact ⟨rfl, rfl, rfl, .inl rfl, id⟩
theorem tf_hop : Tf M (hopM M) := by
  unfold hopM
  split
  · split
    · exact ⟨rfl, rfl, rfl, .inr rfl, fun h => .inl h⟩
    · exact tf_off M
  · exact ⟨rfl, rfl, rfl, .inl rfl, fun h => .inl h⟩
theorem tf_go : Tf M (goR M).m := by
  unfold goR
  split
  · exact ⟨rfl, rfl, rfl, .inl rfl, fun h => .inl ⟨by show (1 : Int) ≠ 0; decide, h.2⟩⟩
  · split
    · rename_i hb
      split
      · exact ((tg_hop M hb).trans (tg_self _)).tf
      · exact ((tg_hop M hb).trans (tg_to _ _)).tf
    · exact tf_hop M
theorem tf_pass : Tf M (passR M).m := by
  unfold passR
  split
  · split
    · exact (tg_new M).tail (tf_go _)
    · exact tf_off M
  · exact tf_go M
theorem tf_claim : Tf M (claimR M).m := by
  unfold claimR
  split
  · exact ((tg_new M).trans ((⟨rfl, rfl, rfl, .inl rfl, id⟩ : Tg (newM M) { newM M with list := withB 0#32 M.ad }).trans (tg_self _))).tf
  · exact tf_off M
theorem tg_ask (a s : Int) (hs : s ≠ 0) : Tg M (askR M a s).m := ⟨rfl, rfl, rfl, .inl rfl, fun h => ⟨hs, h.2⟩⟩
theorem tg_gap : Tg M (gapR M).m := by
  unfold gapR
  split
  · exact ⟨rfl, rfl, rfl, .inl rfl, fun h => ⟨by show (9 : Int) ≠ 0; decide, h.2⟩⟩
  · exact Tg.refl M
theorem tg_tim (hi lo : Int) : Tg M (timR M hi lo).m := by
  unfold timR
  split
  · exact Tg.refl M
  · split
    · exact Tg.refl M
    · split
      · exact ⟨rfl, rfl, rfl, .inl rfl, fun h => ⟨by show (5 : Int) ≠ 0; decide, h.2⟩⟩
      · exact tg_gap M
theorem tg_six : Tg M { M with st := 6 } := ⟨rfl, rfl, rfl, .inl rfl, fun h => ⟨by show (6 : Int) ≠ 0; decide, h.2⟩⟩
theorem tg_chk (hi lo : Int) : Tg M (chkR M hi lo).m := by
  unfold chkR
  split
  · exact (tg_six M).trans (tg_tim _ hi lo)
  · exact (tg_six M).trans (tg_gap _)
theorem tf_chp (hi lo : Int) : Tf M (chpR M hi lo).m := by
  unfold chpR
  split
  · exact (tg_chk M hi lo).tail (tf_pass _)
  · exact (tg_chk M hi lo).tf
theorem tf_use (hi lo : Int) : Tf M (useR M hi lo).m := by
  unfold useR
  split
  · split
    · exact (tg_six M).tf
    · exact tf_chp M hi lo
  · exact (⟨rfl, rfl, rfl, .inl rfl, id⟩ : Tg M (leaveM M)).tail (tf_pass _)
theorem tf_cp : Tf M (cpR M).m := by
  have hs : Tg M (skipM M) := ⟨rfl, rfl, rfl, .inl rfl, id⟩
  unfold cpR
  split
  · exact ⟨rfl, rfl, rfl, .inl rfl, fun h => .inl h⟩
  · split
    · exact (hs.trans (tg_new _)).tail (tf_pass _)
    · exact hs.tail (tf_off _)
theorem tf_goOn (hi lo : Int) : Tf M (goOnR M hi lo).m := by
  unfold goOnR
  split
  · exact (Tg.refl M).tf
  · split
    · exact tf_claim M
    · split
      · exact tf_use M hi lo
      · split
        · exact tf_chp M hi lo
        · split
          · exact tf_pass M
          · split
            · exact tf_cp M
            · exact (Tg.refl M).tf
theorem tf_act (hi lo : Int) : Tf M (actR M hi lo).m := by
  unfold actR
  split
  · exact ⟨rfl, rfl, rfl, .inl rfl, fun h => .inl h⟩
  · exact tf_goOn M hi lo
theorem tf_quiet (r : Out) : (quiet r).m.wants = r.m.wants ∧ (quiet r).m.kn = r.m.kn ∧ (quiet r).m.ad = r.m.ad ∧ (quiet r).m.high = r.m.high ∧ (quiet r).m.st = r.m.st ∧ (quiet r).m.fault = r.m.fault := by
  unfold quiet
  split <;> exact ⟨rfl, rfl, rfl, rfl, rfl, rfl⟩
/-- Over a tick. -/
theorem tf_tick (hi lo : Int) (h : Fx2 M) : (tickR M hi lo).m.wants = M.wants ∧ (tickR M hi lo).m.kn = M.kn ∧ ((tickR M hi lo).m.high = M.high ∨ (tickR M hi lo).m.high.a = M.ad) ∧ Fx2 (tickR M hi lo).m := by
  unfold tickR
  split
  · exact ⟨rfl, rfl, .inl rfl, h⟩
  · rename_i h0
    have hg : Gd2 M := h.elim id (fun z => absurd z.1 h0)
    have t := (⟨rfl, rfl, rfl, .inl rfl, id⟩ : Tg M (tickM M)).tail (tf_act _ hi lo)
    obtain ⟨q1, q2, q3, q4, q5, q6⟩ := tf_quiet (actR (tickM M) hi lo)
    refine ⟨q1.trans t.w, q2.trans t.kn, ?_, ?_⟩
    · rw [q4]; exact t.hi
    · have := t.g hg
      unfold Fx2 Gd2 at this ⊢
      rw [q5, q6]
      exact this
end
end Go.Proofs.YtedlfognpbbhhaaGreatDoor.Ma
