/-
  The reference's queue: Take, walked. Conditions: none.
-/
import Derived.Test.YtpbiigpnbhgilaaQuPut
namespace Go.Proofs.Ytpbiigpnbhgilaa.Qu
open Go.RowKit

theorem take_none {x : Qs ByteArray} {h : Bool} (he : ofC x h = []) : takeX x h = x := by
  unfold takeX
  rw [he]
  cases h
  · have : x.lo = [] := he
    simp [setC]; rw [← this]
  · have : x.hi = [] := he
    simp [setC]; rw [← this]
def goX (x : Qs ByteArray) (h goes : Bool) : Qs ByteArray := if goes then takeX x h else x

set_option maxRecDepth 100000 in
set_option maxHeartbeats 4000000 in
theorem rtake_empty (b : Nat) (ms : List Nat) (x : Qs ByteArray) (h goes : Bool) (w : World) (hx : RefAt w b ms x) (he : ofC x h = []) :
    Calls Try.prog 12 #[.pointer (some ⟨b, 0, none⟩), .bool h, .bool goes] w (Done refFace b ms (.tuple #[.string noStr, .bool false]) x w) := by
  have HX := Lib.hid hx
  obtain ⟨v, rfl, hv⟩ := hx
  have c := hv.cl h
  obtain ⟨A, cp, hA⟩ := (hv.row h).form0
  rw [hA] at c
  have hl : (ofC x h).length = 0 := by rw [he]; rfl
  rw [hl] at c
  have HC := Lib.hid (rclass_any h w)
  clear hv hA hl he
  cases h
  all_goals
    simp only [col, if_true, if_false, Bool.false_eq_true] at c
    go_enter Try.func12, Try.ntmps12
    go_wp2_with fail
    refine (HC.out).mono ?_
    rintro e w1 ⟨rfl, rfl⟩
    go_wp2
    go_ret2
    exact Done.same (F := refFace) HX.out (Below.refl _ _)

set_option maxRecDepth 100000 in
set_option maxHeartbeats 4000000 in
theorem rtake_peek (b : Nat) (ms : List Nat) (x : Qs ByteArray) (h : Bool) (w : World) (s : ByteArray) (l : List ByteArray) (hx : RefAt w b ms x) (he : ofC x h = s :: l) :
    Calls Try.prog 12 #[.pointer (some ⟨b, 0, none⟩), .bool h, .bool false] w (Done refFace b ms (.tuple #[.string s, .bool true]) x w) := by
  have HX := Lib.hid hx
  obtain ⟨v, rfl, hv⟩ := hx
  have c := hv.cl h
  have hrow := hv.row h
  have hle := of_le hv.ok h
  unfold TailS at hrow
  rw [he] at hrow hle
  obtain ⟨g, o, cp, hA, -, -, h1, h2, hc, -⟩ := hrow.form (by simp)
  rw [hA] at c
  have q0 : w.cell? ⟨g, o, none⟩ = some (.string s) := hc 0 (.string s) rfl
  have hl : ((l.length + 1 : Nat) : Int) = (l.length : Int) + 1 := by omega
  have HC := Lib.hid (rclass_any h w)
  rw [List.length_cons] at c h1 hle
  generalize l.length = n at *
  have hne : ¬ ((n : Int) + 1 = 0) := by omega
  clear hv hA hrow he hc
  cases h
  all_goals
    simp only [col, if_true, if_false, Bool.false_eq_true] at c
    go_enter Try.func12, Try.ntmps12
    go_wp2_with fail
    refine (HC.out).mono ?_
    rintro e w1 ⟨rfl, rfl⟩
    go_wp2
    go_ret2
    exact Done.same (F := refFace) HX.out (Below.refl _ _)

theorem RefV.two {w : World} {b : Nat} {x : Qs ByteArray} {v : Bool → Value} (hv : RefV w b x v) (h : Bool) : (v h).ownBlock = none ∨ (v h).ownBlock ≠ (v (!h)).ownBlock := by
  have ha := hv.apart
  cases h
  · exact ha
  · rcases ha with e | e
    · by_cases e5 : (v true).ownBlock = none
      · exact .inl e5
      · exact .inr (fun e2 => e5 (e2.trans e))
    · exact .inr (fun e2 => e e2.symm)
theorem take_done {w : World} {b : Nat} {x : Qs ByteArray} {v : Bool → Value} {h : Bool} {s : ByteArray} {l : List ByteArray} {u r : Value} (hv : RefV w b x v) (he : ofC x h = s :: l) (hu : TailS w u l) (ho : u.ownBlock = (v h).ownBlock) :
    Done refFace b (b :: ((v false).ownBlock.toList ++ (v true).ownBlock.toList)) r (takeX x h) w (.returned r) (w.setCell ⟨b, col h, none⟩ u).drew := by
  have hd : takeX x h = setC x h l := by unfold takeX; rw [he]; rfl
  have hR := hv.store (W := w) h u l rfl (hv.row (!h)) hu (by rw [ho]; exact hv.nb h) (by rw [ho]; exact hv.two h) (by rw [← hd]; exact hv.ok.take h)
  have hE : ∀ c, (if c = h then u else v c).ownBlock = (v c).ownBlock := fun c => by
    by_cases e : c = h
    · subst e; rw [if_pos rfl, ho]
    · rw [if_neg e]
  rw [hd]
  refine ⟨rfl, _, ⟨fun c => if c = h then u else v c, rfl, hR.c0, hR.cl, hR.c3, hR.fz, fun c => (hR.row c).drew, hR.nb, hR.apart, hR.ok⟩, (OnlyL.set (by simp) _ _).drew, fun j hj => .inl ?_⟩
  rw [hE false, hE true] at hj
  exact hj

set_option maxRecDepth 100000 in
set_option maxHeartbeats 4000000 in
theorem rtake_go (b : Nat) (ms : List Nat) (x : Qs ByteArray) (h : Bool) (w : World) (s : ByteArray) (l : List ByteArray) (hx : RefAt w b ms x) (he : ofC x h = s :: l) :
    Calls Try.prog 12 #[.pointer (some ⟨b, 0, none⟩), .bool h, .bool true] w (Done refFace b ms (.tuple #[.string s, .bool true]) (takeX x h) w) := by
  obtain ⟨v, rfl, hv⟩ := hx
  have c := hv.cl h
  have fz := hv.fz (col h)
  have hrow := hv.row h
  have hle := of_le hv.ok h
  unfold TailS at hrow
  rw [he] at hrow hle
  obtain ⟨g, o, cp, hA, -, -, h1, h2, hc, -⟩ := hrow.form (by simp)
  rw [hA] at c hrow
  have q0 : w.cell? ⟨g, o, none⟩ = some (.string s) := hc 0 (.string s) rfl
  have HC := Lib.hid (rclass_any h w)
  have HV := Lib.hid hv
  have HA := Lib.hid hA
  have HR := Lib.hid hrow
  have HE := Lib.hid he
  rw [List.length_cons] at c h1 hle
  clear hv hA hrow he hc
  generalize hn : l.length = n at *
  replace hn := Lib.hid hn
  have hne : ¬ ((n : Int) + 1 = 0) := by omega
  unfold maxLen at h2
  by_cases hcp : cp = 1
  · subst hcp
    obtain rfl : n = 0 := by omega
    have HD := Lib.hid (take_done (r := .tuple #[.string s, .bool true]) (u := .slice (some ⟨g, o, none⟩) 0 0) HV.out HE.out (by
      have hl0 : l = [] := List.eq_nil_of_length_eq_zero hn.out
      subst hl0
      have := Tail.last (HR.out)
      exact this) (by rw [HA.out]; rfl))
    cases h
    all_goals
      simp only [col, if_true, if_false, Bool.false_eq_true] at c fz
      go_enter Try.func12, Try.ntmps12
      go_wp2_with fail
      refine (HC.out).mono ?_
      rintro e w1 ⟨rfl, rfl⟩
      go_wp2_with fail
      go_region
      all_goals
        go_wp2
        go_ret2
        exact HD.out
  · have HD := Lib.hid (take_done (r := .tuple #[.string s, .bool true]) (u := .slice (some ⟨g, o + 1, none⟩) n (cp - 1)) HV.out HE.out (by
      have hr := HR.out
      unfold TailS
      rw [hn.out]
      rw [show (s :: l).length = n + 1 by rw [List.length_cons, hn.out]] at hr
      exact Tail.step hr (by omega)) (by rw [HA.out]; rfl))
    have hcp1 : ((cp : Int) - 1) = ((cp - 1 : Nat) : Int) := by omega
    have hcp2 : ¬ ((cp : Int) - 1 = 0) := by omega
    cases h
    all_goals
      simp only [col, if_true, if_false, Bool.false_eq_true] at c fz
      go_enter Try.func12, Try.ntmps12
      go_wp2_with fail
      refine (HC.out).mono ?_
      rintro e w1 ⟨rfl, rfl⟩
      go_wp2_with fail
      go_region
      all_goals
        go_wp2
        go_ret2
        exact HD.out

theorem rtake_any (b : Nat) (ms : List Nat) (x : Qs ByteArray) (h goes : Bool) (w : World) (hx : RefAt w b ms x) :
    Calls Try.prog 12 #[.pointer (some ⟨b, 0, none⟩), .bool h, .bool goes] w (Done refFace b ms (.tuple #[.string (headD x h noStr), .bool (hasC x h)]) (goX x h goes) w) := by
  cases he : ofC x h with
  | nil =>
    have h1 : headD x h noStr = noStr := by unfold headD; rw [he]; rfl
    have h2 : hasC x h = false := by unfold hasC; rw [he]; rfl
    have h3 : goX x h goes = x := by unfold goX; rw [take_none he]; split <;> rfl
    rw [h1, h2, h3]
    exact rtake_empty b ms x h goes w hx he
  | cons s l =>
    have h1 : headD x h noStr = s := by unfold headD; rw [he]; rfl
    have h2 : hasC x h = true := by unfold hasC; rw [he]; simp
    rw [h1, h2]
    cases goes
    · exact rtake_peek b ms x h w s l hx he
    · exact rtake_go b ms x h w s l hx he

end Go.Proofs.Ytpbiigpnbhgilaa.Qu
