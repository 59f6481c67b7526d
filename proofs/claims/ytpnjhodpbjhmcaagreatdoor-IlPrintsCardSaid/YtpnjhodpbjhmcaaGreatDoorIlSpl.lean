/-
  The reference's Spell, walked: all of it. Conditions: numbers that an int holds.
-/
import Derived.Test.YtpnjhodpbjhmcaaGreatDoorIlSpa
import Derived.Test.YtpnjhodpbjhmcaaGreatDoorIlSpb
import Derived.Test.YtpnjhodpbjhmcaaGreatDoorIlSpc
namespace Go.Proofs.YtpnjhodpbjhmcaaGreatDoor.Il
open Go.RowKit
open Go.Proofs.YtpnjhodpbjhmcaaGreatDoor.Ic

theorem rspell_any (i : In) (hp64 : I64 i.pl) (w : World) : Calls Tryz.prog 18 #[insV i] w (Tells (.string (S (spellL i))) w) := by
  by_cases hri : rightI i = true
  · have hr := op_range hri
    obtain ⟨o, ho⟩ : ∃ o : Nat, i.op = (o : Int) := ⟨i.op.toNat, by omega⟩
    have ho37 : o < 37 := by omega
    have hway := right_way hri
    clear hri
    obtain ⟨op, kd, ar, pl, n⟩ := i
    dsimp only at ho
    subst ho
    cases hway with
    | lit h ha hp hn =>
      dsimp only at h ha hp hn
      subst ha hp
      exact rspell_lit o ho37 kd n h hn w
    | get h h1 h4 ht hn =>
      dsimp only at h h1 h4 ht hn
      subst hn
      exact rspell_get o ho37 kd ar pl h h1 h4 ht w
    | put h h1 h4 ht hn =>
      dsimp only at h h1 h4 ht hn
      subst hn
      exact rspell_put o ho37 kd ar pl h h1 h4 ht w
    | jump h hk ha h0 h1 hn =>
      dsimp only at h hk ha h0 h1 hn
      subst hk ha hn
      exact rspell_jump o ho37 pl h h0 h1 w
    | bare h hk ha hp hn =>
      dsimp only at h hk ha hp hn
      subst hk ha hp hn
      exact rspell_bare o ho37 h w
    | close h hk ha hp hn =>
      dsimp only at h hk ha hp hn
      subst hk ha hp hn
      rw [h]
      exact rspell_close w
    | conv h hk ha hp hn =>
      dsimp only at h hk ha hp hn
      subst ha hp hn
      obtain rfl : o = 31 := by omega
      exact rspell_conv kd hk w
    | opens h hk ha hr2 hp hn =>
      dsimp only at h hk ha hr2 hp hn
      obtain ⟨k1, k2, k3, k4, k5, k6, k7, k8, k9, k10, k11⟩ := (op_facts pl).1 hr2
      obtain ⟨q, hq⟩ : ∃ q : Nat, pl = (q : Int) := ⟨pl.toNat, by omega⟩
      subst hk ha hn hq
      rw [h]
      exact rspell_opens q (by omega) hr2 hp w
    | timer h hk h3 h4 h0 h1 hn hm =>
      dsimp only at h hk h3 h4 h0 h1 hn hm
      subst hk
      exact rspell_timer o ho37 ar pl n h h3 h4 h0 h1 hn hm w
    | trig h hk h3 h4 h0 h1 hn =>
      dsimp only at h hk h3 h4 h0 h1 hn
      subst hk hn
      obtain rfl : o = 36 := by omega
      exact rspell_trig ar pl h3 h4 h0 h1 w
  · exact rspell_wrong i (by simpa using hri) hp64 w

end Go.Proofs.YtpnjhodpbjhmcaaGreatDoor.Il
