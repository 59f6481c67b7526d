/-
  The law's closure, walked: one is taken, and put behind those of its class. Conditions: that the calls answer as is asked; fewer than a thousand.
-/
import Derived.Test.YtpbiigpnbhgilaaQuDuo
namespace Go.Proofs.Ytpbiigpnbhgilaa.Qu
open Go.RowKit

def pullM (x : Qs Int) (M : Bool → List Int) (h : Bool) : Bool → List Int := if hasC x h then updB M h (M h ++ [headD x h 0]) else M

set_option maxRecDepth 100000 in
set_option maxHeartbeats 4000000 in
theorem pull_any {F : Face Int} (C : CodeI F) {N p q ib ob : Nat} {ms is os : List Nat} {w0 w : World} {x : Qs Int} {L M : Bool → List Int} (h : Bool) (hS : OS F N w0 w p ms x q ib is L ob os M) (hl : (M h).length ≤ 1000) :
    Calls Try.prog 19 #[.bool h, .pointer (some ⟨q, 0, none⟩), .pointer (some ⟨ob, 0, none⟩)] w fun e w' => e = .returned (.tuple #[]) ∧ ∃ ns ks, OS F N w0 w' p ns (takeX x h) q ib is L ob ks (pullM x M h) := by
  have HT := Lib.hid (C.take p ms x h w hS.run.at_)
  have c8 := hS.c8
  have HS := Lib.hid hS
  unfold pullM
  obtain ⟨i0, hi0, hi1, hi2, hi3⟩ := info_parts infoInt
  have HI := Lib.hid (⟨hi0, hi1, hi2, hi3⟩ : _ ∧ _ ∧ _ ∧ _)
  clear hi0 hi1 hi2 hi3 hS
  generalize headD x h 0 = hd at *
  generalize hasC x h = hc at *
  cases hc
  · rw [if_neg (by decide)]
    go_enter Try.func19, Try.ntmps19
    go_wp2_with fail
    refine (HT.out).mono ?_
    rintro e w1 ⟨rfl, ns, h1, h2, h3⟩
    have HQ := Lib.hid (HS.out.queue h1 h2 h3)
    clear h1 h2 h3 c8 HS HT
    go_wp2
    go_end0
    exact ⟨rfl, _, _, HQ.out⟩
  · rw [if_pos rfl]
    cases h
    all_goals
      go_enter Try.func19, Try.ntmps19
      go_wp2_with fail
      refine (HT.out).mono ?_
      rintro e w1 ⟨rfl, ns, h1, h2, h3⟩
      have hQ := HS.out.queue h1 h2 h3
      have HQ := Lib.hid hQ
      obtain ⟨v, hbs, hv⟩ := hQ.out
      have HV := Lib.hid hv
      have HBs := Lib.hid hbs
      clear h1 h2 h3 c8 HS HT hQ hbs
    · have cl : w1.cell? ⟨ob, 0, none⟩ = some (v false) := hv.cl false
      have fz := hv.fz 0
      obtain ⟨A, c, hA, -⟩ := row_form (hv.row false)
      rw [hA] at cl
      have HA := Lib.hid hA
      have HO := Lib.hid (show (w1.alloc (.cells #[.int .i64 hd] 3)).ownsRow 0 3 1 (.slice A (M false).length c) (M false).length (ints (M false)) from by
        have := World.ownsRow.alloc (hv.row false) (.cells #[.int .i64 hd] 3)
        rw [hA] at this
        exact this)
      have hbw : ob < w1.heap.size := World.block_lt_of_cell? w1 ⟨ob, 0, none⟩ cl
      have HLt := Lib.hid (show ob < (w1.alloc (.cells #[.int .i64 hd] 3)).heap.size by simp; omega)
      have HBk := Lib.hid ((alloc_below w1 (.cells #[.int .i64 hd] 3)).block ob hbw)
      have HNB := Lib.hid (show (Value.slice A (M false).length c).ownBlock ≠ some ob from by have := hv.nb false; rw [hA] at this; exact this)
      clear hv hA
      go_wp2_with (at_builtin; refine wpList_append_lies _ rfl (.tmp 18) (.tmp 20) 46 rfl 0 3 i0 (.int .i64 0) 1 8 Try.underlying46 HI.out.1 HI.out.2.1 HI.out.2.2.1 HI.out.2.2.2 rfl (by decide) _ (M false).length (ints (M false)) rfl HO.out ⟨w1.heap.size, 0, none⟩ 1 1 [.int .i64 hd] rfl rfl (cell_one_new _ _ _) (by intro u hu; simp at hu; subst hu; rfl) (by decide) (by unfold maxLen; omega) (by omega) (Nat.zero_le _) _ rfl ?_)
      intro g cp w2 hown hgr hat hlt
      have q0 := (World.cell?_of_block (a := ⟨ob, 0, none⟩) ((hgr.block ob HLt.out (fun e => HNB.out e.symm)).trans HBk.out)).trans cl
      have q1 := (World.frozen?_of_block (a := ⟨ob, 0, none⟩) ((hgr.block ob HLt.out (fun e => HNB.out e.symm)).trans HBk.out)).trans fz
      have hd0 := duo_append (h := false) HV.out (alloc_below w1 (.cells #[.int .i64 hd] 3)) (by rw [HA.out]; exact hgr) hown (by rw [HA.out]; exact hat.imp id (fun e => by rw [e]; simp))
      rw [← HBs.out] at hd0
      have HD := Lib.hid hd0
      clear hown hgr hat hlt cl fz hd0
      go_wp2
      go_end0
      obtain ⟨bs', z1, z2, z3⟩ := HD.out
      exact ⟨rfl, _, _, HQ.out.went z1 z2 z3⟩
    · have cl : w1.cell? ⟨ob, 1, none⟩ = some (v true) := hv.cl true
      have fz := hv.fz 1
      obtain ⟨A, c, hA, -⟩ := row_form (hv.row true)
      rw [hA] at cl
      have HA := Lib.hid hA
      have HO := Lib.hid (show (w1.alloc (.cells #[.int .i64 hd] 3)).ownsRow 0 3 1 (.slice A (M true).length c) (M true).length (ints (M true)) from by
        have := World.ownsRow.alloc (hv.row true) (.cells #[.int .i64 hd] 3)
        rw [hA] at this
        exact this)
      have hbw : ob < w1.heap.size := World.block_lt_of_cell? w1 ⟨ob, 1, none⟩ cl
      have HLt := Lib.hid (show ob < (w1.alloc (.cells #[.int .i64 hd] 3)).heap.size by simp; omega)
      have HBk := Lib.hid ((alloc_below w1 (.cells #[.int .i64 hd] 3)).block ob hbw)
      have HNB := Lib.hid (show (Value.slice A (M true).length c).ownBlock ≠ some ob from by have := hv.nb true; rw [hA] at this; exact this)
      clear hv hA
      go_wp2_with (at_builtin; refine wpList_append_lies _ rfl (.tmp 18) (.tmp 20) 46 rfl 0 3 i0 (.int .i64 0) 1 8 Try.underlying46 HI.out.1 HI.out.2.1 HI.out.2.2.1 HI.out.2.2.2 rfl (by decide) _ (M true).length (ints (M true)) rfl HO.out ⟨w1.heap.size, 0, none⟩ 1 1 [.int .i64 hd] rfl rfl (cell_one_new _ _ _) (by intro u hu; simp at hu; subst hu; rfl) (by decide) (by unfold maxLen; omega) (by omega) (Nat.zero_le _) _ rfl ?_)
      intro g cp w2 hown hgr hat hlt
      have q0 := (World.cell?_of_block (a := ⟨ob, 1, none⟩) ((hgr.block ob HLt.out (fun e => HNB.out e.symm)).trans HBk.out)).trans cl
      have q1 := (World.frozen?_of_block (a := ⟨ob, 1, none⟩) ((hgr.block ob HLt.out (fun e => HNB.out e.symm)).trans HBk.out)).trans fz
      have hd0 := duo_append (h := true) HV.out (alloc_below w1 (.cells #[.int .i64 hd] 3)) (by rw [HA.out]; exact hgr) hown (by rw [HA.out]; exact hat.imp id (fun e => by rw [e]; simp))
      rw [← HBs.out] at hd0
      have HD := Lib.hid hd0
      clear hown hgr hat hlt cl fz hd0
      go_wp2
      go_end0
      obtain ⟨bs', z1, z2, z3⟩ := HD.out
      exact ⟨rfl, _, _, HQ.out.went z1 z2 z3⟩

end Go.Proofs.Ytpbiigpnbhgilaa.Qu
