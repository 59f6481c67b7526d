/-
  The law VerifyBehind, walked: it returns true. Conditions: none.
-/
import Derived.Test.YtbejajnhgoejhaaVwAdd
namespace Go.Proofs.Ytbejajnhgoejhaa.Ve
open Go.RowKit
open Go.Proofs.Ytbejajnhgoejhaa.Il hiding Next
open Go.Proofs.Ytbejajnhgoejhaa.Ic

set_option maxRecDepth 100000 in
set_option maxHeartbeats 8000000 in
theorem behind_long (l m : List In) (ao bo : Option Addr) (cap capb : Nat) (w : World) (hI : Lies w w.heap.size ao l) (hml : l.length ≤ maxLen) (hmm : m.length ≤ maxLen) (hlong : (100 : Int) < l.length ∨ (90 : Int) < m.length) :
    Calls Try.prog 5 #[.slice ao l.length cap, .slice bo m.length capb] w (Tells (.bool true) w) := by
  have HA := Lib.hid (At.first hI)
  have h1 : (l.length : Int) ≤ 9223372036854775807 := by unfold maxLen at hml; omega
  have h2 : (m.length : Int) ≤ 9223372036854775807 := by unfold maxLen at hmm; omega
  clear hI hml hmm
  by_cases h100 : (100 : Int) < l.length
  · clear hlong
    go_enter Try.func5, Try.ntmps5
    go_wp2_with fail
    refine (wake_any _).mono ?_
    rintro e w1 ⟨rfl, hb1⟩
    have HA1 := Lib.hid (HA.out.next hb1)
    clear hb1 HA
    go_wp2
    go_ret
    exact ⟨rfl, HA1.out.below⟩
  · have h90 : (90 : Int) < m.length := by omega
    clear hlong
    go_enter Try.func5, Try.ntmps5
    go_wp2_with fail
    refine (wake_any _).mono ?_
    rintro e w1 ⟨rfl, hb1⟩
    have HA1 := Lib.hid (HA.out.next hb1)
    clear hb1 HA
    go_wp2
    go_ret
    exact ⟨rfl, HA1.out.below⟩

set_option maxRecDepth 100000 in
set_option maxHeartbeats 8000000 in
/-- An error at an instruction: it stands so with what is behind it cut off. -/
theorem behind_err (l m : List In) (r k : Nat) (ao bo : Option Addr) (cap capb : Nat) (w : World) (hI : Lies w w.heap.size ao l) (hF : FitL l) (h100 : l.length ≤ 100) (h90 : m.length ≤ 90) (hcap : l.length ≤ cap) (hcm : cap ≤ maxLen)
    (h : allB l = .error (r, k)) (hr : r ≠ 0) (hk : k < l.length) :
    Calls Try.prog 5 #[.slice ao l.length cap, .slice bo m.length capb] w (Tells (.bool true) w) := by
  obtain ⟨b, o, rfl, -, -⟩ := hI (by omega)
  obtain ⟨x, hx⟩ : ∃ x, l[k]? = some x := ⟨_, List.getElem?_eq_getElem hk⟩
  have HA := Lib.hid (At.first hI)
  have HF := Lib.hid hF
  have HX := Lib.hid hx
  have HC : Hid (∀ W, At w W (some ⟨b, o, none⟩) l → Calls Try.prog 7 #[.slice (some ⟨b, o, none⟩) l.length cap] W (Tells (.tuple #[.int .i64 (r : Nat), .int .i64 (k : Nat)]) W)) := fun W q => by
    have := cCheck_any l (some ⟨b, o, none⟩) cap W q.lies HF.out (by unfold maxLen; omega)
    rw [chk_err h] at this
    exact this
  have hrb : ((r : Int) != 0) = true := by rw [bne_iff_ne]; omega
  have hki : (k : Int) < l.length := by omega
  have hw1 : IntKind.i64.wrap ((k : Int) + 1) = (k : Int) + 1 := by rw [IntKind.wrap_i64]; omega
  have h1 : ¬ (100 : Int) < l.length := by omega
  have h2 : ¬ (90 : Int) < m.length := by omega
  have hcap2 : (l.length : Int) ≤ cap := by omega
  have hcm2 : (cap : Int) ≤ 9223372036854775807 := by unfold maxLen at hcm; omega
  by_cases h3 : 25 ≤ x.op ∧ x.op ≤ 27
  · obtain ⟨h4, h5⟩ := h3
    have Hn := Lib.hid (And.intro hk (And.intro h100 (And.intro h90 h)))
    clear hI hF hx h hr hk h100 h90 hcap hcm
    go_enter Try.func5, Try.ntmps5
    go_wp2_with fail
    refine (wake_any _).mono ?_
    rintro e w1 ⟨rfl, hb1⟩
    have HA1 := Lib.hid (HA.out.next hb1)
    clear hb1 HA
    go_wp2_with fail
    refine (HC.out _ HA1.out).mono ?_
    rintro e w2 ⟨rfl, hb1⟩
    have HA2 := Lib.hid (HA1.out.next hb1)
    clear hb1 HA1
    obtain ⟨y0, y1, y2, y3, y4⟩ := HA2.out.cell HX.out
    go_wp2
    go_ret
    exact ⟨rfl, (HA2.out.alloc _).below⟩
  · have hjb : jumpB x.op = false := by unfold jumpB; rw [decide_eq_false_iff_not]; exact h3
    have HL := Lib.hid (And.intro hk (And.intro h100 h90))
    obtain ⟨f, q, hfq⟩ : ∃ f q, chkB (l.take (k + 1)) = (f, q) := ⟨_, _, rfl⟩
    have hno : anyJ l k k = false → f = r ∧ q = k := fun ha => by
      have := cut_chk h hk (by omega) hx hjb ha
      rw [hfq] at this
      injection this with e1 e2
      exact ⟨e1, e2⟩
    have HNo := Lib.hid hno
    have hlt : (l.take (k + 1)).length = k + 1 := by rw [List.length_take]; omega
    have HC2 : Hid (∀ W, At w W (some ⟨b, o, none⟩) l → Calls Try.prog 7 #[.slice (some ⟨b, o, none⟩) (k + 1) cap] W (Tells (.tuple #[.int .i64 (f : Nat), .int .i64 (q : Nat)]) W)) := fun W p => by
      have := cCheck_any (l.take (k + 1)) (some ⟨b, o, none⟩) cap W (p.take (k + 1)).lies (fit_take HF.out (k + 1)) (by rw [hlt]; unfold maxLen; omega)
      rw [hfq, hlt] at this
      exact this
    have Hk := Lib.hid hk
    clear hno hfq hI hF hx h hr hk h100 h90 hcap hcm hjb hlt
    by_cases h4 : 25 ≤ x.op
    all_goals
      go_enter Try.func5, Try.ntmps5
      go_wp2_with fail
      refine (wake_any _).mono ?_
      rintro e w1 ⟨rfl, hb1⟩
      have HA1 := Lib.hid (HA.out.next hb1)
      clear hb1 HA
      go_wp2_with fail
      refine (HC.out _ HA1.out).mono ?_
      rintro e w2 ⟨rfl, hb1⟩
      have HA2 := Lib.hid (HA1.out.next hb1)
      clear hb1 HA1
      obtain ⟨y0, y1, y2, y3, y4⟩ := HA2.out.cell HX.out
      go_wp2_with fail
      refine (HC2.out _ (HA2.out.alloc _)).mono ?_
      rintro e w3 ⟨rfl, hb1⟩
      have HA3 := Lib.hid ((HA2.out.alloc _).next hb1)
      clear hb1 HA2 y0 y1 y2 y3 y4
      go_wp2
      go_loopw [10, 67] (fun v i W => ∃ (j : Nat) (c : Bool), (j : Int) ≤ k ∧ i = .int .i64 j ∧ v = .bool c ∧ Hid (c = anyJ l k j ∧ At w W (some ⟨b, o, none⟩) l)) (fun _ i _ => k - (intOf i).toNat)
      case atStart => exact ⟨0, false, by omega, rfl, rfl, Lib.hid ⟨rfl, HA3.out⟩⟩
      case round =>
        obtain ⟨j, c, hj, rfl, rfl, hS⟩ := hrel
        clear HA3
        by_cases hlt : (j : Int) < k
        · obtain ⟨y, hy⟩ : ∃ y, l[j]? = some y := ⟨_, List.getElem?_eq_getElem (by have := Hk.out; omega)⟩
          have HN := Lib.hid (anyJ_next (k := k) hy)
          rw [← hS.out.1] at HN
          obtain ⟨y0, y1, y2, y3, y4⟩ := hS.out.2.cell hy
          have HA4 := fun ob => hS.out.2.alloc ob
          have HA4 := Lib.hid HA4
          clear hy hS
          have hmeas : k - (j + 1) < k - j := by omega
          cases c
          · by_cases p1 : 25 ≤ y.op
            · by_cases p2 : y.op ≤ 27
              · by_cases p3 : (k : Int) + 1 < y.pl
                · have e : farJ k y = true := by unfold farJ jumpB; simp [p1, p2, p3]
                  rw [e] at HN
                  clear e
                  go_wp2
                  exact ⟨⟨j + 1, true, by omega, by go_num, rfl, Lib.hid ⟨by rw [HN.out]; rfl, HA4.out _⟩⟩, by simp [intOf]; omega⟩
                · have e : farJ k y = false := by unfold farJ; simp [p3]
                  rw [e] at HN
                  clear e
                  go_wp2
                  exact ⟨⟨j + 1, false, by omega, by go_num, rfl, Lib.hid ⟨by rw [HN.out]; rfl, HA4.out _⟩⟩, by simp [intOf]; omega⟩
              · have e : farJ k y = false := by unfold farJ jumpB; simp [p2]
                rw [e] at HN
                clear e
                go_wp2
                exact ⟨⟨j + 1, false, by omega, by go_num, rfl, Lib.hid ⟨by rw [HN.out]; rfl, HA4.out _⟩⟩, by simp [intOf]; omega⟩
            · have e : farJ k y = false := by unfold farJ jumpB; simp [p1]
              rw [e] at HN
              clear e
              go_wp2
              exact ⟨⟨j + 1, false, by omega, by go_num, rfl, Lib.hid ⟨by rw [HN.out]; rfl, HA4.out _⟩⟩, by simp [intOf]; omega⟩
          · go_wp2
            exact ⟨⟨j + 1, true, by omega, by go_num, rfl, Lib.hid ⟨by rw [HN.out]; rfl, HA4.out _⟩⟩, by simp [intOf]; omega⟩
        · obtain rfl : j = k := by omega
          have HB := Lib.hid hS.out.2.below
          cases c
          · obtain ⟨e1, e2⟩ := HNo.out hS.out.1.symm
            have e1 : ((f : Int) == (r : Int)) = true := by rw [e1]; simp
            have e2 : ((q : Int) == (j : Int)) = true := by rw [e2]; simp
            clear hS
            go_wp2
            go_ret
            exact ⟨rfl, HB.out⟩
          · clear hS
            go_wp2
            go_ret
            exact ⟨rfl, HB.out⟩
end Go.Proofs.Ytbejajnhgoejhaa.Ve
