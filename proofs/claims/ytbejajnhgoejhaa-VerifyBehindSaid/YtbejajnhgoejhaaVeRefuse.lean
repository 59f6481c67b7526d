/-
  The landed verify's refuse, walked: what an instruction asks for, and isn't there. Conditions: an operation that there is; what is ahead is well formed.
-/
import Derived.Test.YtbejajnhgoejhaaVeFits
namespace Go.Proofs.Ytbejajnhgoejhaa.Ve
open Go.RowKit
open Go.Proofs.Ytbejajnhgoejhaa.Il hiding Next
open Go.Proofs.Ytbejajnhgoejhaa.Ic

attribute [local go_sem ↓] exec_ldS exec_stS exec_ldO
def refC (b33 z0 q b32 z8 br zp : Bool) : Nat := if b33 && z0 then 3 else if !q then 6 else if b32 && z8 then 8 else if br && zp then 3 else 0
theorem refC_eq (i : In) (a : Ah) : refB i a = refC (i.op == 33) ((a.br.length : Int) == 0) (fitB i a) (i.op == 32) ((a.br.length : Int) == 8) (retB i.op) (decide (0 < (a.br.length : Int))) := by
  have e0 : ((a.br.length : Int) == 0) = decide (a.br.length = 0) := by
    by_cases h : a.br.length = 0
    · rw [h]; rfl
    · rw [decide_eq_false h, beq_eq_false_iff_ne]; omega
  have e8 : ((a.br.length : Int) == 8) = decide (a.br.length = 8) := by
    by_cases h : a.br.length = 8
    · rw [h]; rfl
    · rw [decide_eq_false h, beq_eq_false_iff_ne]; omega
  have ep : decide (0 < (a.br.length : Int)) = decide (0 < a.br.length) := by
    rw [decide_eq_decide]; omega
  have e33 : (i.op == 33) = decide (i.op = 33) := rfl
  have e32 : (i.op == 32) = decide (i.op = 32) := rfl
  rw [e0, e8, ep, e33, e32]
  unfold refB refC
  simp only [Bool.and_eq_true, decide_eq_true_eq, Bool.not_eq_true']
set_option maxRecDepth 100000 in
set_option maxHeartbeats 8000000 in
theorem refuse_walk (op kd ar pl n : Int) (X : Array Value) (d : Int) (w : World) (q br : Bool) (hq : ¬ ((op == 33) = true ∧ (d == 0) = true) → ∀ W, Calls Try.prog 44 #[.agg X, .agg #[.int .i64 op, .int .i64 kd, .int .i64 ar, .int .i64 pl, .int .i64 n]] W (Tells (.bool q) W))
    (hr : retB op = br) (hX : X.size = 19) (x2 : X[2]? = some (.int .i64 d)) :
    Calls Try.prog 35 #[.agg X, .agg #[.int .i64 op, .int .i64 kd, .int .i64 ar, .int .i64 pl, .int .i64 n]] w (Tells (.int .i64 (refC (op == 33) (d == 0) q (op == 32) (d == 8) br (decide (0 < d)) : Nat)) w) := by
  have HR := Lib.hid (fun W => cReturn_any op W)
  rw [hr] at HR
  have g2 := range_below (range_new w X 55) ((Below.refl _ _).alloc (Nat.le_refl _) (.cells #[.int .i64 op, .int .i64 kd, .int .i64 ar, .int .i64 pl, .int .i64 n] 41))
  have h1 := ldS_of _ w.heap.size 0 _ g2 (by simpa using hX)
  rw [show X.toList.toArray = X from rfl] at h1
  clear hX g2 hr
  have HQ := Lib.hid hq
  clear hq
  cases e33 : (op == 33) with
  | false =>
    have HQ1 := Lib.hid (HQ.out (by rw [e33]; simp))
    clear HQ
    cases q
    · go_enter Try.func35, Try.ntmps35
      go_wp2_with fail
      refine (HQ1.out _).mono ?_
      rintro e w1 ⟨rfl, hb⟩
      obtain ⟨hA, hB, hb1⟩ := two_boxes hb
      have c2 := hA 2 _ x2
      have d0 := hB 0 _ rfl
      have HB := Lib.hid hb1
      clear hb hA hB hb1 h1
      go_wp2
      go_ret
      exact ⟨rfl, HB.out⟩
    · cases e32 : (op == 32) with
      | false =>
        cases br
        · go_enter Try.func35, Try.ntmps35
          go_wp2_with fail
          refine (HQ1.out _).mono ?_
          rintro e w1 ⟨rfl, hb⟩
          obtain ⟨hA, hB, hb1⟩ := two_boxes hb
          have c2 := hA 2 _ x2
          have d0 := hB 0 _ rfl
          have HB := Lib.hid hb1
          clear hb hA hB hb1 h1
          go_wp2_with fail
          refine (HR.out _).mono ?_
          rintro e w2 ⟨rfl, rfl⟩
          go_wp2
          go_ret
          exact ⟨rfl, HB.out⟩
        · cases ep : decide (0 < d)
          · have hp : ¬ 0 < d := of_decide_eq_false ep
            clear ep
            go_enter Try.func35, Try.ntmps35
            go_wp2_with fail
            refine (HQ1.out _).mono ?_
            rintro e w1 ⟨rfl, hb⟩
            obtain ⟨hA, hB, hb1⟩ := two_boxes hb
            have c2 := hA 2 _ x2
            have d0 := hB 0 _ rfl
            have HB := Lib.hid hb1
            clear hb hA hB hb1 h1
            go_wp2_with fail
            refine (HR.out _).mono ?_
            rintro e w2 ⟨rfl, rfl⟩
            go_wp2
            go_ret
            exact ⟨rfl, HB.out⟩
          · have hp : 0 < d := of_decide_eq_true ep
            clear ep
            go_enter Try.func35, Try.ntmps35
            go_wp2_with fail
            refine (HQ1.out _).mono ?_
            rintro e w1 ⟨rfl, hb⟩
            obtain ⟨hA, hB, hb1⟩ := two_boxes hb
            have c2 := hA 2 _ x2
            have d0 := hB 0 _ rfl
            have HB := Lib.hid hb1
            clear hb hA hB hb1 h1
            go_wp2_with fail
            refine (HR.out _).mono ?_
            rintro e w2 ⟨rfl, rfl⟩
            go_wp2
            go_ret
            exact ⟨rfl, HB.out⟩
      | true =>
        cases e8 : (d == 8) with
        | true =>
          go_enter Try.func35, Try.ntmps35
          go_wp2_with fail
          refine (HQ1.out _).mono ?_
          rintro e w1 ⟨rfl, hb⟩
          obtain ⟨hA, hB, hb1⟩ := two_boxes hb
          have c2 := hA 2 _ x2
          have d0 := hB 0 _ rfl
          have HB := Lib.hid hb1
          clear hb hA hB hb1 h1
          go_wp2
          go_ret
          exact ⟨rfl, HB.out⟩
        | false =>
          cases br
          · go_enter Try.func35, Try.ntmps35
            go_wp2_with fail
            refine (HQ1.out _).mono ?_
            rintro e w1 ⟨rfl, hb⟩
            obtain ⟨hA, hB, hb1⟩ := two_boxes hb
            have c2 := hA 2 _ x2
            have d0 := hB 0 _ rfl
            have HB := Lib.hid hb1
            clear hb hA hB hb1 h1
            go_wp2_with fail
            refine (HR.out _).mono ?_
            rintro e w2 ⟨rfl, rfl⟩
            go_wp2
            go_ret
            exact ⟨rfl, HB.out⟩
          · cases ep : decide (0 < d)
            · have hp : ¬ 0 < d := of_decide_eq_false ep
              clear ep
              go_enter Try.func35, Try.ntmps35
              go_wp2_with fail
              refine (HQ1.out _).mono ?_
              rintro e w1 ⟨rfl, hb⟩
              obtain ⟨hA, hB, hb1⟩ := two_boxes hb
              have c2 := hA 2 _ x2
              have d0 := hB 0 _ rfl
              have HB := Lib.hid hb1
              clear hb hA hB hb1 h1
              go_wp2_with fail
              refine (HR.out _).mono ?_
              rintro e w2 ⟨rfl, rfl⟩
              go_wp2
              go_ret
              exact ⟨rfl, HB.out⟩
            · have hp : 0 < d := of_decide_eq_true ep
              clear ep
              go_enter Try.func35, Try.ntmps35
              go_wp2_with fail
              refine (HQ1.out _).mono ?_
              rintro e w1 ⟨rfl, hb⟩
              obtain ⟨hA, hB, hb1⟩ := two_boxes hb
              have c2 := hA 2 _ x2
              have d0 := hB 0 _ rfl
              have HB := Lib.hid hb1
              clear hb hA hB hb1 h1
              go_wp2_with fail
              refine (HR.out _).mono ?_
              rintro e w2 ⟨rfl, rfl⟩
              go_wp2
              go_ret
              exact ⟨rfl, HB.out⟩
  | true =>
    cases e0 : (d == 0) with
    | true =>
      clear HQ
      go_enter Try.func35, Try.ntmps35
      go_wp2
      go_ret
      exact ⟨rfl, box_two _ _ _ _ _⟩
    | false =>
      have HQ1 := Lib.hid (HQ.out (by rw [e0]; simp))
      clear HQ
      cases q
      · go_enter Try.func35, Try.ntmps35
        go_wp2_with fail
        refine (HQ1.out _).mono ?_
        rintro e w1 ⟨rfl, hb⟩
        obtain ⟨hA, hB, hb1⟩ := two_boxes hb
        have c2 := hA 2 _ x2
        have d0 := hB 0 _ rfl
        have HB := Lib.hid hb1
        clear hb hA hB hb1 h1
        go_wp2
        go_ret
        exact ⟨rfl, HB.out⟩
      · cases e32 : (op == 32) with
        | false =>
          cases br
          · go_enter Try.func35, Try.ntmps35
            go_wp2_with fail
            refine (HQ1.out _).mono ?_
            rintro e w1 ⟨rfl, hb⟩
            obtain ⟨hA, hB, hb1⟩ := two_boxes hb
            have c2 := hA 2 _ x2
            have d0 := hB 0 _ rfl
            have HB := Lib.hid hb1
            clear hb hA hB hb1 h1
            go_wp2_with fail
            refine (HR.out _).mono ?_
            rintro e w2 ⟨rfl, rfl⟩
            go_wp2
            go_ret
            exact ⟨rfl, HB.out⟩
          · cases ep : decide (0 < d)
            · have hp : ¬ 0 < d := of_decide_eq_false ep
              clear ep
              go_enter Try.func35, Try.ntmps35
              go_wp2_with fail
              refine (HQ1.out _).mono ?_
              rintro e w1 ⟨rfl, hb⟩
              obtain ⟨hA, hB, hb1⟩ := two_boxes hb
              have c2 := hA 2 _ x2
              have d0 := hB 0 _ rfl
              have HB := Lib.hid hb1
              clear hb hA hB hb1 h1
              go_wp2_with fail
              refine (HR.out _).mono ?_
              rintro e w2 ⟨rfl, rfl⟩
              go_wp2
              go_ret
              exact ⟨rfl, HB.out⟩
            · have hp : 0 < d := of_decide_eq_true ep
              clear ep
              go_enter Try.func35, Try.ntmps35
              go_wp2_with fail
              refine (HQ1.out _).mono ?_
              rintro e w1 ⟨rfl, hb⟩
              obtain ⟨hA, hB, hb1⟩ := two_boxes hb
              have c2 := hA 2 _ x2
              have d0 := hB 0 _ rfl
              have HB := Lib.hid hb1
              clear hb hA hB hb1 h1
              go_wp2_with fail
              refine (HR.out _).mono ?_
              rintro e w2 ⟨rfl, rfl⟩
              go_wp2
              go_ret
              exact ⟨rfl, HB.out⟩
        | true =>
          cases e8 : (d == 8) with
          | true =>
            go_enter Try.func35, Try.ntmps35
            go_wp2_with fail
            refine (HQ1.out _).mono ?_
            rintro e w1 ⟨rfl, hb⟩
            obtain ⟨hA, hB, hb1⟩ := two_boxes hb
            have c2 := hA 2 _ x2
            have d0 := hB 0 _ rfl
            have HB := Lib.hid hb1
            clear hb hA hB hb1 h1
            go_wp2
            go_ret
            exact ⟨rfl, HB.out⟩
          | false =>
            cases br
            · go_enter Try.func35, Try.ntmps35
              go_wp2_with fail
              refine (HQ1.out _).mono ?_
              rintro e w1 ⟨rfl, hb⟩
              obtain ⟨hA, hB, hb1⟩ := two_boxes hb
              have c2 := hA 2 _ x2
              have d0 := hB 0 _ rfl
              have HB := Lib.hid hb1
              clear hb hA hB hb1 h1
              go_wp2_with fail
              refine (HR.out _).mono ?_
              rintro e w2 ⟨rfl, rfl⟩
              go_wp2
              go_ret
              exact ⟨rfl, HB.out⟩
            · cases ep : decide (0 < d)
              · have hp : ¬ 0 < d := of_decide_eq_false ep
                clear ep
                go_enter Try.func35, Try.ntmps35
                go_wp2_with fail
                refine (HQ1.out _).mono ?_
                rintro e w1 ⟨rfl, hb⟩
                obtain ⟨hA, hB, hb1⟩ := two_boxes hb
                have c2 := hA 2 _ x2
                have d0 := hB 0 _ rfl
                have HB := Lib.hid hb1
                clear hb hA hB hb1 h1
                go_wp2_with fail
                refine (HR.out _).mono ?_
                rintro e w2 ⟨rfl, rfl⟩
                go_wp2
                go_ret
                exact ⟨rfl, HB.out⟩
              · have hp : 0 < d := of_decide_eq_true ep
                clear ep
                go_enter Try.func35, Try.ntmps35
                go_wp2_with fail
                refine (HQ1.out _).mono ?_
                rintro e w1 ⟨rfl, hb⟩
                obtain ⟨hA, hB, hb1⟩ := two_boxes hb
                have c2 := hA 2 _ x2
                have d0 := hB 0 _ rfl
                have HB := Lib.hid hb1
                clear hb hA hB hb1 h1
                go_wp2_with fail
                refine (HR.out _).mono ?_
                rintro e w2 ⟨rfl, rfl⟩
                go_wp2
                go_ret
                exact ⟨rfl, HB.out⟩

theorem cRefuse_any (i : In) (a : Ah) (w : World) (h1 : 1 ≤ i.op) (h36 : i.op ≤ 36) (hw : Wf a) :
    Calls Try.prog 35 #[.agg (stA a), insV i] w (Tells (.int .i64 (refB i a : Nat)) w) := by
  rw [refC_eq]
  refine refuse_walk i.op i.kd i.ar i.pl i.n (stA a) (a.br.length : Nat) w (fitB i a) (retB i.op) (fun hn W => cFits_any i a W h1 h36 hw (fun h33 h0 => hn ?_)) rfl (stA_size hw.len) (stA_2 a)
  rw [h33, h0]
  exact ⟨rfl, rfl⟩

end Go.Proofs.Ytbejajnhgoejhaa.Ve
