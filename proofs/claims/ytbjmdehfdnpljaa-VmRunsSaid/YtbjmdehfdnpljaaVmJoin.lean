/-
  The landed code's join, store, walked. Conditions: as each states.
-/
import Derived.Test.YtbjmdehfdnpljaaVmDo
namespace Go.Proofs.Ytbjmdehfdnpljaa.Vm
open Go.RowKit
open Go.Proofs.Ytbjmdehfdnpljaa.Il hiding Next S S_size S_app S_inj S_list
open Go.Proofs.Ytbjmdehfdnpljaa.Ic Go.Proofs.Ytbjmdehfdnpljaa.Ve
open Oct

section
variable {N g : Nat} {p : Int} {s : St} {ov : Value}
theorem Now.value {w W : World} {ov' : Value} (h : Now N g p s ov w W ov') (v : Int) : Now N g p ⟨s.A, s.kd, v, s.op, s.z⟩ ov w (W.setCell ⟨g, 258, none⟩ (.int .i64 v)) ov' :=
  h.trans (Now.one (h.at_.store (j := 2) (v := .int .i64 v) (by omega) rfl h.at_.own) (only1_set _ _ _ _))
theorem Now.kind {w W : World} {ov' : Value} (h : Now N g p s ov w W ov') (k : Int) : Now N g p ⟨s.A, k, s.v, s.op, s.z⟩ ov w (W.setCell ⟨g, 257, none⟩ (.int .i64 k)) ov' :=
  h.trans (Now.one (h.at_.store (j := 1) (v := .int .i64 k) (by omega) rfl h.at_.own) (only1_set _ _ _ _))
theorem Now.zero {w W : World} {ov' : Value} (h : Now N g p s ov w W ov') (z : Nat) : Now N g p ⟨s.A, s.kd, s.v, s.op, z⟩ ov w (W.setCell ⟨g, 260, none⟩ (.int .i64 (z : Nat))) ov' :=
  h.trans (Now.one (h.at_.store (j := 4) (v := .int .i64 (z : Nat)) (by omega) rfl h.at_.own) (only1_set _ _ _ _))
theorem Now.first {w : World} (h : RunAt w N g p s ov) : Now N g p s ov w w ov := ⟨h, Kp.refl _ _ _, .inl rfl⟩
set_option maxRecDepth 100000 in
set_option maxHeartbeats 4000000 in
theorem cJoin_any (w : World) (h : RunAt w N g p s ov) (op a b : Int) (hz : s.z < 1000) (ha1 : -9223372036854775808 ≤ a) (ha2 : a ≤ 9223372036854775807) (hb1 : -9223372036854775808 ≤ b) (hb2 : b ≤ 9223372036854775807) :
    Calls Try.prog 44 #[.pointer (some ⟨g, 0, none⟩), .int .i64 op, .int .i64 a, .int .i64 b] w fun e w' => e = .returned (.tuple #[]) ∧ Now N g p (joinI op s.kd a b s) ov w w' ov := by
  have HD := Lib.hid (fun W => cDo_any op s.kd a b W ha1 ha2 hb1 hb2)
  have N0 := Lib.hid (Now.first h)
  have f0 := h.free 257
  have f1 := h.free 258
  have f2 := h.free 260
  have hlt := h.lt
  have cz := h.zer
  have ck := h.kd
  have hz2 : (s.z : Int) < 1000 := by omega
  clear ha1 ha2 hb1 hb2
  by_cases hB : b = 0 ∧ (op = 17 ∨ op = 18)
  · have e : joinI op s.kd a b s = ⟨s.A, s.kd, doR op s.kd a b, s.op, s.z + 1⟩ := by
      unfold joinI madeI ordB
      rw [if_pos hB, if_neg (by simp; omega)]
    rw [e]
    clear e
    have hb0 : (b == 0) = true := by simpa using hB.1
    have hop := hB.2
    clear hB
    generalize doR op s.kd a b = V at *
    generalize doE op s.kd a b = E at *
    have N1 := N0.out.zero (s.z + 1)
    rw [show ((s.z + 1 : Nat) : Int) = (s.z : Int) + 1 by simp] at N1
    replace N1 := Lib.hid N1
    clear N0
    rcases hop with rfl | rfl
    all_goals
      go_enter Try.func44, Try.ntmps44
      go_wp2_with fail
      with_reducible refine (HD.out _).mono ?_
      rintro e w2 ⟨rfl, hb2⟩
      have N2 := Lib.hid (N1.out.next hb2)
      have d1 := N2.out.at_.val
      have e1 := N2.out.at_.free 258
      have hl2 := N2.out.at_.lt
      have N3 := Lib.hid (N2.out.value V)
      clear hb2 N1 cz ck f0 f1 f2
      go_wp2
      go_end0
      exact ⟨rfl, N3.out⟩
  · have hz1 : (if b = 0 ∧ (op = 17 ∨ op = 18) then s.z + 1 else s.z) = s.z := if_neg hB
    unfold joinI
    rw [hz1]
    have hcs : ((b == 0) = false ∨ ((b == 0) = true ∧ (op == 17) = false ∧ (op == 18) = false)) := by
      by_cases e : b = 0
      · exact .inr ⟨by simpa using e, by simp; intro h; exact hB ⟨e, .inl h⟩, by simp; intro h; exact hB ⟨e, .inr h⟩⟩
      · exact .inl (by simpa using e)
    clear hz1 hB
    by_cases ho : 19 ≤ op ∧ op ≤ 24
    · rw [show madeI op s.kd = 1 by unfold madeI ordB; rw [if_pos (decide_eq_true ho)]]
      have o1 : decide ((19 : Int) ≤ op) = true := decide_eq_true ho.1
      have o2 : decide (op ≤ (24 : Int)) = true := decide_eq_true ho.2
      clear ho
      generalize doR op s.kd a b = V at *
      generalize doE op s.kd a b = E at *
      rcases hcs with hb | ⟨hb, h17, h18⟩
      all_goals
        go_enter Try.func44, Try.ntmps44
        go_wp2_with fail
        with_reducible refine (HD.out _).mono ?_
        rintro e w2 ⟨rfl, hb2⟩
        have N2 := Lib.hid (N0.out.next hb2)
        have d1 := N2.out.at_.val
        have d2 := N2.out.at_.kd
        have e1 := N2.out.at_.free 258
        have e2 := N2.out.at_.free 257
        have hl2 := N2.out.at_.lt
        have N3 := Lib.hid ((N2.out.value V).kind 1)
        clear hb2 N0 cz ck f0 f1 f2
        go_wp2
        go_end0
        exact ⟨rfl, N3.out⟩
    · rw [show madeI op s.kd = s.kd by unfold madeI ordB; rw [if_neg (by simp; omega)]]
      have hcs2 : decide ((19 : Int) ≤ op) = false ∨ (decide ((19 : Int) ≤ op) = true ∧ decide (op ≤ (24 : Int)) = false) := by
        by_cases e : 19 ≤ op
        · exact .inr ⟨decide_eq_true e, decide_eq_false (by omega)⟩
        · exact .inl (decide_eq_false e)
      clear ho
      generalize doR op s.kd a b = V at *
      generalize doE op s.kd a b = E at *
      rcases hcs with hb | ⟨hb, h17, h18⟩
      all_goals
        rcases hcs2 with o1 | ⟨o1, o2⟩
        all_goals
          go_enter Try.func44, Try.ntmps44
          go_wp2_with fail
          with_reducible refine (HD.out _).mono ?_
          rintro e w2 ⟨rfl, hb2⟩
          have N2 := Lib.hid (N0.out.next hb2)
          have d1 := N2.out.at_.val
          have e1 := N2.out.at_.free 258
          have hl2 := N2.out.at_.lt
          have N3 := Lib.hid (N2.out.value V)
          clear hb2 N0 cz ck f0 f1 f2
          go_wp2
          go_end0
          exact ⟨rfl, N3.out⟩

end
end Go.Proofs.Ytbjmdehfdnpljaa.Vm
