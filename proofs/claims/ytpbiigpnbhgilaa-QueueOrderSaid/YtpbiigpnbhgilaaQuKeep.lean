/-
  What the law QueueOrder stands on, plainly: what came in is what went out and what waits. Conditions: none.
-/
import Derived.Test.YtpbiigpnbhgilaaQuPull
namespace Go.Proofs.Ytpbiigpnbhgilaa.Qu
open Go.RowKit

/-- What came in is what went out, and behind it what waits; so many were dropped. -/
structure QI (x : Qs Int) (L M : Bool → List Int) (d i n : Nat) : Prop where
  fifo : ∀ h, L h = M h ++ ofC x h
  cnt : (L false).length + (L true).length + d = i
  fault : x.f = decide (0 < d)
  pl : x.pl = n
theorem QI.start (n : Nat) (hn : n ≤ 64) : QI (newX (n : Int)) (fun _ => []) (fun _ => []) 0 0 n := ⟨fun h => by cases h <;> rfl, rfl, rfl, by unfold newX placesN; show (min (max (n : Int) 0) 64).toNat = n; omega⟩
theorem QI.len {x : Qs Int} {L M : Bool → List Int} {d i n : Nat} (h : QI x L M d i n) (c : Bool) : (L c).length ≤ i ∧ (M c).length ≤ i := by
  have h1 := h.cnt
  have h2 := congrArg List.length (h.fifo c)
  rw [List.length_append] at h2
  cases c <;> omega
theorem of_other (x : Qs Int) (h : Bool) (l : List Int) : ofC (setC x h l) (!h) = ofC x (!h) := by cases h <;> rfl
theorem set_self (x : Qs Int) (h : Bool) : setC x h (ofC x h) = x := by cases h <;> rfl
theorem bool_two (c h : Bool) : c = h ∨ c = !h := by cases c <;> cases h <;> simp
theorem set_f (x : Qs Int) (h : Bool) (l : List Int) : (setC x h l).f = x.f ∧ (setC x h l).pl = x.pl := by cases h <;> exact ⟨rfl, rfl⟩
theorem QI.pull {x : Qs Int} {L M : Bool → List Int} {d i n : Nat} (q : QI x L M d i n) (h : Bool) : QI (takeX x h) L (pullM x M h) d i n := by
  have hs := set_f x h ((ofC x h).drop 1)
  refine ⟨fun c => ?_, q.cnt, hs.1.trans q.fault, hs.2.trans q.pl⟩
  unfold takeX pullM headD
  cases he : ofC x h with
  | nil =>
    have h1 : hasC x h = false := by unfold hasC; rw [he]; rfl
    have h2 : setC x h (List.drop 1 []) = x := by
      have := set_self x h
      rw [he] at this
      exact this
    rw [h1, h2]
    exact q.fifo c
  | cons a l =>
    have h1 : hasC x h = true := by unfold hasC; rw [he]; simp
    rw [if_pos h1]
    rcases bool_two c h with rfl | rfl
    · rw [updB_same, set_of, q.fifo c, he]
      simp
    · rw [updB_other, of_other]
      exact q.fifo _
theorem QI.put {x : Qs Int} {L M : Bool → List Int} {d i n : Nat} (q : QI x L M d i n) (h : Bool) (a : Int) (hf : fullB x = false) : putE x = 0 ∧ QI (putX x a h) (updB L h (L h ++ [a])) M d (i + 1) n := by
  refine ⟨by unfold putE; rw [if_neg (by simp [hf])], ?_⟩
  unfold putX
  rw [if_neg (by simp [hf])]
  have hs := set_f x h (ofC x h ++ [a])
  refine ⟨fun c => ?_, ?_, hs.1.trans q.fault, hs.2.trans q.pl⟩
  · rcases bool_two c h with rfl | rfl
    · rw [updB_same, set_of, q.fifo c, List.append_assoc]
    · rw [updB_other, of_other]
      exact q.fifo _
  · have := q.cnt
    cases h
    · rw [updB_same, show updB L false (L false ++ [a]) true = L true from updB_other L false _]; simp; omega
    · rw [updB_same, show updB L true (L true ++ [a]) false = L false from updB_other L true _]; simp; omega
theorem QI.drop {x : Qs Int} {L M : Bool → List Int} {d i n : Nat} (q : QI x L M d i n) (h : Bool) (a : Int) (hf : fullB x = true) : putE x = 8 ∧ QI (putX x a h) L M (d + 1) (i + 1) n := by
  refine ⟨by unfold putE; rw [if_pos hf], ?_⟩
  unfold putX
  rw [if_pos hf]
  exact ⟨fun c => by have := q.fifo c; cases c <;> exact this, by have := q.cnt; omega, by show true = _; rw [eq_comm, decide_eq_true_eq]; omega, q.pl⟩
theorem room_full {x : Qs Int} (h : x.Ok) : (roomN x = 0 ↔ fullB x = true) := by
  have := h.fits
  unfold roomN fullB
  rw [decide_eq_true_eq]
  omega
/-- What is left to be told when the fault was asked. -/
structure QJ (x : Qs Int) (L M : Bool → List Int) (n : Nat) : Prop where
  fifo : ∀ h, L h = M h ++ ofC x h
  pl : x.pl = n
theorem QI.calm {x : Qs Int} {L M : Bool → List Int} {d i n : Nat} (q : QI x L M d i n) : QJ (calmX x) L M n := ⟨fun c => by have := q.fifo c; cases c <;> exact this, q.pl⟩
theorem QJ.pull {x : Qs Int} {L M : Bool → List Int} {n : Nat} (q : QJ x L M n) (h : Bool) : QJ (takeX x h) L (pullM x M h) n := by
  have := QI.pull (x := ⟨x.pl, x.hi, x.lo, decide (0 < 0)⟩) (d := 0) (i := (L false).length + (L true).length) (n := n) ⟨fun c => by have := q.fifo c; cases c <;> exact this, rfl, rfl, q.pl⟩ h
  exact ⟨fun c => by have h1 := this.fifo c; cases c <;> cases h <;> exact h1, by have := (set_f x h ((ofC x h).drop 1)).2; exact this.trans q.pl⟩
theorem QJ.len {x : Qs Int} {L M : Bool → List Int} {n : Nat} (q : QJ x L M n) (c : Bool) : (M c).length ≤ (L c).length := by
  have h2 := congrArg List.length (q.fifo c)
  rw [List.length_append] at h2
  omega
/-- Both classes pulled, fewer wait. -/
theorem pull_less (x : Qs Int) (h : 0 < x.hi.length + x.lo.length) : (takeX (takeX x true) false).hi.length + (takeX (takeX x true) false).lo.length < x.hi.length + x.lo.length := by
  show (x.hi.drop 1).length + (x.lo.drop 1).length < _
  rw [List.length_drop, List.length_drop]
  omega
theorem QJ.done {x : Qs Int} {L M : Bool → List Int} {n : Nat} (q : QJ x L M n) (h : x.hi.length + x.lo.length = 0) : (∀ c, L c = M c) ∧ roomN x = n := by
  have h1 : x.hi = [] := List.eq_nil_of_length_eq_zero (by omega)
  have h2 : x.lo = [] := List.eq_nil_of_length_eq_zero (by omega)
  refine ⟨fun c => ?_, ?_⟩
  · have := q.fifo c
    cases c
    · have e : ofC x false = [] := h2
      rw [e, List.append_nil] at this; exact this
    · have e : ofC x true = [] := h1
      rw [e, List.append_nil] at this; exact this
  · unfold roomN
    rw [h1, h2, q.pl]
    rfl

/-- A slice of bools that lies below N. -/
def BLies (w : World) (N : Nat) (ao : Option Addr) (l : List Bool) : Prop := 1 ≤ l.length → ∃ b o, ao = some ⟨b, o, none⟩ ∧ b < N ∧ ∀ i (hi : i < l.length), w.cell? ⟨b, o + i, none⟩ = some (.bool l[i])
theorem BLies.below {w w' : World} {N : Nat} {ao : Option Addr} {l : List Bool} (h : BLies w N ao l) (hb : Below N w w') : BLies w' N ao l := by
  intro h1
  obtain ⟨b, o, ha, hlt, hI⟩ := h h1
  exact ⟨b, o, ha, hlt, fun i hi => (hb.cell (p := ⟨b, _, none⟩) hlt).trans (hI i hi)⟩

end Go.Proofs.Ytpbiigpnbhgilaa.Qu
