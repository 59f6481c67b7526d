/-
  The landed code of layer 14, walked: refuse; behind. Conditions: as each states.
-/
import Derived.Test.YtmlopacekoghkaaVeFits
namespace Go.Proofs.Ytmlopacekoghkaa.Ve
open Go.RowKit
open Go.Proofs.Ytmlopacekoghkaa.Il hiding Next
open Go.Proofs.Ytmlopacekoghkaa.Ic

attribute [local go_sem ↓] exec_ldS exec_stS exec_ldO
def refC (b33 z0 q b32 z8 br zp : Bool) : Nat := if b33 && z0 then 3 else if !q then 6 else if b32 && z8 then 8 else if br && zp then 3 else 0
theorem refC_eq (i : In) (a : Ah) : refB i a = refC (i.op == 33) ((a.br.length : Int) == 0) (fitB i a) (i.op == 32) ((a.br.length : Int) == 8) (retB i.op) (decide (0 < (a.br.length : Int))) := by
  have e0 : ((a.br.length : Int) == 0) = decide (a.br.length = 0) := by
    by_cases h : a.br.length = 0
    · rw [h]; rfl
    · rw [decide_eq_false h, beq_eq_false_iff_ne]; omega
  have e8 : ((a.br.length : Int) == 8) = decide (a.br.length = 8) := by
    by_cases h : a.br.length = 8
    · rw [h]; rfl
    · rw [decide_eq_false h, beq_eq_false_iff_ne]; omega
  have ep : decide (0 < (a.br.length : Int)) = decide (0 < a.br.length) := by
    rw [decide_eq_decide]; omega
  have e33 : (i.op == 33) = decide (i.op = 33) := rfl
  have e32 : (i.op == 32) = decide (i.op = 32) := rfl
  rw [e0, e8, ep, e33, e32]
  unfold refB refC
  simp only [Bool.and_eq_true, decide_eq_true_eq, Bool.not_eq_true']
set_option maxRecDepth 100000 in
set_option maxHeartbeats 8000000 in
theorem refuse_walk (op kd ar pl n : Int) (X : Array Value) (d : Int) (w : World) (q br : Bool) (hq : ¬ ((op == 33) = true ∧ (d == 0) = true) → ∀ W, Calls Try.prog 70 #[.agg X, .agg #[.int .i64 op, .int .i64 kd, .int .i64 ar, .int .i64 pl, .int .i64 n]] W (Tells (.bool q) W))
    (hr : retB op = br) (hX : X.size = 19) (x2 : X[2]? = some (.int .i64 d)) :
    Calls Try.prog 59 #[.agg X, .agg #[.int .i64 op, .int .i64 kd, .int .i64 ar, .int .i64 pl, .int .i64 n]] w (Tells (.int .i64 (refC (op == 33) (d == 0) q (op == 32) (d == 8) br (decide (0 < d)) : Nat)) w) := by
  have HR := Lib.hid (fun W => cReturn_any op W)
  rw [hr] at HR
  have g2 := range_below (range_new w X 96) ((Below.refl _ _).alloc (Nat.le_refl _) (.cells #[.int .i64 op, .int .i64 kd, .int .i64 ar, .int .i64 pl, .int .i64 n] 55))
  have h1 := ldS_of _ w.heap.size 0 _ g2 (by simpa using hX)
  rw [show X.toList.toArray = X from rfl] at h1
  clear hX g2 hr
  have HQ := Lib.hid hq
  clear hq
  cases e33 : (op == 33) with
  | false =>
    have HQ1 := Lib.hid (HQ.out (by rw [e33]; simp))
    clear HQ
    cases q
    · go_enter Try.func59, Try.ntmps59
      go_wp2_with fail
      refine (HQ1.out _).mono ?_
      rintro e w1 ⟨rfl, hb⟩
      obtain ⟨hA, hB, hb1⟩ := two_boxes hb
      have c2 := hA 2 _ x2
      have d0 := hB 0 _ rfl
      have HB := Lib.hid hb1
      clear hb hA hB hb1 h1
      go_wp2
      go_ret
      exact ⟨rfl, HB.out⟩
    · cases e32 : (op == 32) with
      | false =>
        cases br
        · go_enter Try.func59, Try.ntmps59
          go_wp2_with fail
          refine (HQ1.out _).mono ?_
          rintro e w1 ⟨rfl, hb⟩
          obtain ⟨hA, hB, hb1⟩ := two_boxes hb
          have c2 := hA 2 _ x2
          have d0 := hB 0 _ rfl
          have HB := Lib.hid hb1
          clear hb hA hB hb1 h1
          go_wp2_with fail
          refine (HR.out _).mono ?_
          rintro e w2 ⟨rfl, rfl⟩
          go_wp2
          go_ret
          exact ⟨rfl, HB.out⟩
        · cases ep : decide (0 < d)
          · have hp : ¬ 0 < d := of_decide_eq_false ep
            clear ep
            go_enter Try.func59, Try.ntmps59
            go_wp2_with fail
            refine (HQ1.out _).mono ?_
            rintro e w1 ⟨rfl, hb⟩
            obtain ⟨hA, hB, hb1⟩ := two_boxes hb
            have c2 := hA 2 _ x2
            have d0 := hB 0 _ rfl
            have HB := Lib.hid hb1
            clear hb hA hB hb1 h1
            go_wp2_with fail
            refine (HR.out _).mono ?_
            rintro e w2 ⟨rfl, rfl⟩
            go_wp2
            go_ret
            exact ⟨rfl, HB.out⟩
          · have hp : 0 < d := of_decide_eq_true ep
            clear ep
            go_enter Try.func59, Try.ntmps59
            go_wp2_with fail
            refine (HQ1.out _).mono ?_
            rintro e w1 ⟨rfl, hb⟩
            obtain ⟨hA, hB, hb1⟩ := two_boxes hb
            have c2 := hA 2 _ x2
            have d0 := hB 0 _ rfl
            have HB := Lib.hid hb1
            clear hb hA hB hb1 h1
            go_wp2_with fail
            refine (HR.out _).mono ?_
            rintro e w2 ⟨rfl, rfl⟩
            go_wp2
            go_ret
            exact ⟨rfl, HB.out⟩
      | true =>
        cases e8 : (d == 8) with
        | true =>
          go_enter Try.func59, Try.ntmps59
          go_wp2_with fail
          refine (HQ1.out _).mono ?_
          rintro e w1 ⟨rfl, hb⟩
          obtain ⟨hA, hB, hb1⟩ := two_boxes hb
          have c2 := hA 2 _ x2
          have d0 := hB 0 _ rfl
          have HB := Lib.hid hb1
          clear hb hA hB hb1 h1
          go_wp2
          go_ret
          exact ⟨rfl, HB.out⟩
        | false =>
          cases br
          · go_enter Try.func59, Try.ntmps59
            go_wp2_with fail
            refine (HQ1.out _).mono ?_
            rintro e w1 ⟨rfl, hb⟩
            obtain ⟨hA, hB, hb1⟩ := two_boxes hb
            have c2 := hA 2 _ x2
            have d0 := hB 0 _ rfl
            have HB := Lib.hid hb1
            clear hb hA hB hb1 h1
            go_wp2_with fail
            refine (HR.out _).mono ?_
            rintro e w2 ⟨rfl, rfl⟩
            go_wp2
            go_ret
            exact ⟨rfl, HB.out⟩
          · cases ep : decide (0 < d)
            · have hp : ¬ 0 < d := of_decide_eq_false ep
              clear ep
              go_enter Try.func59, Try.ntmps59
              go_wp2_with fail
              refine (HQ1.out _).mono ?_
              rintro e w1 ⟨rfl, hb⟩
              obtain ⟨hA, hB, hb1⟩ := two_boxes hb
              have c2 := hA 2 _ x2
              have d0 := hB 0 _ rfl
              have HB := Lib.hid hb1
              clear hb hA hB hb1 h1
              go_wp2_with fail
              refine (HR.out _).mono ?_
              rintro e w2 ⟨rfl, rfl⟩
              go_wp2
              go_ret
              exact ⟨rfl, HB.out⟩
            · have hp : 0 < d := of_decide_eq_true ep
              clear ep
              go_enter Try.func59, Try.ntmps59
              go_wp2_with fail
              refine (HQ1.out _).mono ?_
              rintro e w1 ⟨rfl, hb⟩
              obtain ⟨hA, hB, hb1⟩ := two_boxes hb
              have c2 := hA 2 _ x2
              have d0 := hB 0 _ rfl
              have HB := Lib.hid hb1
              clear hb hA hB hb1 h1
              go_wp2_with fail
              refine (HR.out _).mono ?_
              rintro e w2 ⟨rfl, rfl⟩
              go_wp2
              go_ret
              exact ⟨rfl, HB.out⟩
  | true =>
    cases e0 : (d == 0) with
    | true =>
      clear HQ
      go_enter Try.func59, Try.ntmps59
      go_wp2
      go_ret
      exact ⟨rfl, box_two _ _ _ _ _⟩
    | false =>
      have HQ1 := Lib.hid (HQ.out (by rw [e0]; simp))
      clear HQ
      cases q
      · go_enter Try.func59, Try.ntmps59
        go_wp2_with fail
        refine (HQ1.out _).mono ?_
        rintro e w1 ⟨rfl, hb⟩
        obtain ⟨hA, hB, hb1⟩ := two_boxes hb
        have c2 := hA 2 _ x2
        have d0 := hB 0 _ rfl
        have HB := Lib.hid hb1
        clear hb hA hB hb1 h1
        go_wp2
        go_ret
        exact ⟨rfl, HB.out⟩
      · cases e32 : (op == 32) with
        | false =>
          cases br
          · go_enter Try.func59, Try.ntmps59
            go_wp2_with fail
            refine (HQ1.out _).mono ?_
            rintro e w1 ⟨rfl, hb⟩
            obtain ⟨hA, hB, hb1⟩ := two_boxes hb
            have c2 := hA 2 _ x2
            have d0 := hB 0 _ rfl
            have HB := Lib.hid hb1
            clear hb hA hB hb1 h1
            go_wp2_with fail
            refine (HR.out _).mono ?_
            rintro e w2 ⟨rfl, rfl⟩
            go_wp2
            go_ret
            exact ⟨rfl, HB.out⟩
          · cases ep : decide (0 < d)
            · have hp : ¬ 0 < d := of_decide_eq_false ep
              clear ep
              go_enter Try.func59, Try.ntmps59
              go_wp2_with fail
              refine (HQ1.out _).mono ?_
              rintro e w1 ⟨rfl, hb⟩
              obtain ⟨hA, hB, hb1⟩ := two_boxes hb
              have c2 := hA 2 _ x2
              have d0 := hB 0 _ rfl
              have HB := Lib.hid hb1
              clear hb hA hB hb1 h1
              go_wp2_with fail
              refine (HR.out _).mono ?_
              rintro e w2 ⟨rfl, rfl⟩
              go_wp2
              go_ret
              exact ⟨rfl, HB.out⟩
            · have hp : 0 < d := of_decide_eq_true ep
              clear ep
              go_enter Try.func59, Try.ntmps59
              go_wp2_with fail
              refine (HQ1.out _).mono ?_
              rintro e w1 ⟨rfl, hb⟩
              obtain ⟨hA, hB, hb1⟩ := two_boxes hb
              have c2 := hA 2 _ x2
              have d0 := hB 0 _ rfl
              have HB := Lib.hid hb1
              clear hb hA hB hb1 h1
              go_wp2_with fail
              refine (HR.out _).mono ?_
              rintro e w2 ⟨rfl, rfl⟩
              go_wp2
              go_ret
              exact ⟨rfl, HB.out⟩
        | true =>
          cases e8 : (d == 8) with
          | true =>
            go_enter Try.func59, Try.ntmps59
            go_wp2_with fail
            refine (HQ1.out _).mono ?_
            rintro e w1 ⟨rfl, hb⟩
            obtain ⟨hA, hB, hb1⟩ := two_boxes hb
            have c2 := hA 2 _ x2
            have d0 := hB 0 _ rfl
            have HB := Lib.hid hb1
            clear hb hA hB hb1 h1
            go_wp2
            go_ret
            exact ⟨rfl, HB.out⟩
          | false =>
            cases br
            · go_enter Try.func59, Try.ntmps59
              go_wp2_with fail
              refine (HQ1.out _).mono ?_
              rintro e w1 ⟨rfl, hb⟩
              obtain ⟨hA, hB, hb1⟩ := two_boxes hb
              have c2 := hA 2 _ x2
              have d0 := hB 0 _ rfl
              have HB := Lib.hid hb1
              clear hb hA hB hb1 h1
              go_wp2_with fail
              refine (HR.out _).mono ?_
              rintro e w2 ⟨rfl, rfl⟩
              go_wp2
              go_ret
              exact ⟨rfl, HB.out⟩
            · cases ep : decide (0 < d)
              · have hp : ¬ 0 < d := of_decide_eq_false ep
                clear ep
                go_enter Try.func59, Try.ntmps59
                go_wp2_with fail
                refine (HQ1.out _).mono ?_
                rintro e w1 ⟨rfl, hb⟩
                obtain ⟨hA, hB, hb1⟩ := two_boxes hb
                have c2 := hA 2 _ x2
                have d0 := hB 0 _ rfl
                have HB := Lib.hid hb1
                clear hb hA hB hb1 h1
                go_wp2_with fail
                refine (HR.out _).mono ?_
                rintro e w2 ⟨rfl, rfl⟩
                go_wp2
                go_ret
                exact ⟨rfl, HB.out⟩
              · have hp : 0 < d := of_decide_eq_true ep
                clear ep
                go_enter Try.func59, Try.ntmps59
                go_wp2_with fail
                refine (HQ1.out _).mono ?_
                rintro e w1 ⟨rfl, hb⟩
                obtain ⟨hA, hB, hb1⟩ := two_boxes hb
                have c2 := hA 2 _ x2
                have d0 := hB 0 _ rfl
                have HB := Lib.hid hb1
                clear hb hA hB hb1 h1
                go_wp2_with fail
                refine (HR.out _).mono ?_
                rintro e w2 ⟨rfl, rfl⟩
                go_wp2
                go_ret
                exact ⟨rfl, HB.out⟩

theorem cRefuse_any (i : In) (a : Ah) (w : World) (h1 : 1 ≤ i.op) (h36 : i.op ≤ 36) (hw : Wf a) :
    Calls Try.prog 59 #[.agg (stA a), insV i] w (Tells (.int .i64 (refB i a : Nat)) w) := by
  rw [refC_eq]
  refine refuse_walk i.op i.kd i.ar i.pl i.n (stA a) (a.br.length : Nat) w (fitB i a) (retB i.op) (fun hn W => cFits_any i a W h1 h36 hw (fun h33 h0 => hn ?_)) rfl (stA_size hw.len) (stA_2 a)
  rw [h33, h0]
  exact ⟨rfl, rfl⟩

end Go.Proofs.Ytmlopacekoghkaa.Ve

namespace Go.Proofs.Ytmlopacekoghkaa.Ve
open Go.RowKit
open Go.Proofs.Ytmlopacekoghkaa.Il hiding Next
open Go.Proofs.Ytmlopacekoghkaa.Ic

attribute [local go_sem ↓] exec_ldS exec_stS exec_ldO

theorem stA_kind (a : Ah) (v : Int) : (stA a).setIfInBounds 1 (.int .i64 v) = stA ⟨a.on, v, a.br⟩ := by
  unfold stA
  rw [List.setIfInBounds_toArray]
  rfl
theorem pad_push {l : Br} (x : Int × Int) (h : l.length < 8) : (padB l).set l.length x = padB (l ++ [x]) := by
  unfold padB
  rw [List.set_append_right _ _ (Nat.le_refl _), Nat.sub_self, show 8 - l.length = (8 - (l ++ [x]).length) + 1 by simp; omega, List.replicate_succ, List.set_cons_zero]
  simp
theorem pad_pop {l : Br} {m : Nat} (h : l.length = m + 1) (h8 : l.length ≤ 8) : (padB l).set m (0, 0) = padB l.dropLast := by
  have e := last_split (l := l) (by omega)
  have hd : l.dropLast.length = m := by rw [List.length_dropLast]; omega
  conv => lhs; rw [e]
  unfold padB
  rw [List.append_assoc, List.set_append_right _ _ (by omega), hd, Nat.sub_self, show (l.dropLast ++ [lastB l]).length = m + 1 by simp; omega]
  show l.dropLast ++ (0, 0) :: List.replicate (8 - (m + 1)) (0, 0) = l.dropLast ++ List.replicate (8 - m) (0, 0)
  rw [show 8 - m = (8 - (m + 1)) + 1 by omega, List.replicate_succ]
theorem set_tail (x y z u : Value) (l : List Value) (j : Nat) : (x :: y :: z :: l).set (3 + j) u = x :: y :: z :: l.set j u := by
  rw [Nat.add_comm]; rfl
theorem open_push {l : Br} (p k : Int) (h : l.length < 8) : ((openC l).set (l.length * 2) (.int .i64 p)).set (l.length * 2 + 1) (.int .i64 k) = openC (l ++ [(p, k)]) := by
  have h1 := brC_set (padB l) l.length (p, k)
  rw [pad_push (p, k) h] at h1
  rw [Nat.mul_comm l.length 2]
  exact h1
theorem open_pop {l : Br} {m : Nat} (h : l.length = m + 1) (h8 : l.length ≤ 8) : ((openC l).set (m * 2) (.int .i64 0)).set (m * 2 + 1) (.int .i64 0) = openC l.dropLast := by
  have h1 := brC_set (padB l) m (0, 0)
  rw [pad_pop h h8] at h1
  rw [Nat.mul_comm m 2]
  exact h1
/-- The cells, one changed behind the other. -/
theorem stA_open3 (a : Ah) (p k : Int) (d : Nat) (hd : a.br.length = d) (h : d < 8) :
    ((((stA a).setIfInBounds (3 + d * 2) (.int .i64 p)).setIfInBounds (3 + d * 2 + 1) (.int .i64 k)).setIfInBounds 2 (.int .i64 ((d : Int) + 1))).setIfInBounds 1 (.int .i64 0) = stA ⟨a.on, 0, a.br ++ [(p, k)]⟩ := by
  unfold stA stC
  simp only [List.setIfInBounds_toArray]
  rw [set_tail, Nat.add_assoc, set_tail]
  subst hd
  rw [open_push p k h]
  simp
theorem stA_close3 (a : Ah) (v : Int) (m : Nat) (hd : a.br.length = m + 1) (h : a.br.length ≤ 8) :
    ((((stA a).setIfInBounds 2 (.int .i64 m)).setIfInBounds (3 + m * 2) (.int .i64 0)).setIfInBounds (3 + m * 2 + 1) (.int .i64 0)).setIfInBounds 1 (.int .i64 v) = stA ⟨a.on, v, a.br.dropLast⟩ := by
  unfold stA stC
  simp only [List.setIfInBounds_toArray]
  have e : ∀ x y z : Value, (x :: y :: z :: openC a.br).set 2 (.int .i64 m) = x :: y :: .int .i64 m :: openC a.br := fun _ _ _ => rfl
  rw [e, set_tail, Nat.add_assoc, set_tail, open_pop hd h]
  simp [hd]

theorem below_cells {N b : Nat} {W0 : World} (hb : N ≤ b) : ∀ (l : List Value) (o : Nat) (W : World), Below N W0 W → Below N W0 (W.setCells b o l)
  | [], _, _, h => h
  | v :: r, o, _, h => below_cells hb r (o + 1) _ (h.setCell (p := ⟨b, o, none⟩) hb v)
theorem results_S {fn : Func} {p : Tmp} (h : fn.results = #[.cell p 96]) (tmps : Array Value) (w : World) (b : Nat) (c : List Value)
    (hp : tmps.getD p undef = .pointer (some ⟨b, 0, none⟩)) (hr : w.rangeAt b 0 c) (hc : c.length = 19) : (results fn tmps).run Try.prog w = .ok (.agg c.toArray) w := by
  have hp' : tmps[p]?.getD undef = .pointer (some ⟨b, 0, none⟩) := by simpa using hp
  simp [results, h, hp', asAddr, loadVar_S w b 0 c hr hc]
section
variable (op kd ar pl n : Int) (X Y : Array Value) (w : World)
/-- The three blocks: what is ahead, the instruction, the result. -/
def three (w : World) (Y I Z : Array Value) : World := ((w.alloc (.cells Y 96)).alloc (.cells I 55)).alloc (.cells Z 96)
theorem three_below (w : World) (Y I Z : Array Value) : Below w.heap.size w (three w Y I Z) := (box_two w Y I 96 55).alloc (by simp; omega) _
theorem three_ld {Y : Array Value} (w : World) (I Z : Array Value) (hY : Y.size = 19) : ldS (.pointer (some ⟨w.heap.size, 0, none⟩)) (three w Y I Z) = .ok (.value (.agg Y)) (three w Y I Z) := by
  have g := range_below (range_below (range_new w Y 96) ((Below.refl _ _).alloc (Nat.le_refl _) (.cells I 55))) ((Below.refl _ _).alloc (Nat.le_refl _) (.cells Z 96))
  have h := ldS_of _ w.heap.size 0 _ g (by simpa using hY)
  exact h
theorem three_st {Y : Array Value} (w : World) (I Z : Array Value) (hY : Y.size = 19) (hZ : Z.size = 19) (h1 : Y.all (·.oneCell') = true) :
    stS (.pointer (some ⟨w.heap.size + 1 + 1, 0, none⟩)) (.agg Y) (three w Y I Z) = .ok .skip (three w Y I Y) :=
  stS_new _ _ Z Y _ (by simp) hZ hY h1
theorem three_end {Y : Array Value} (w : World) (I : Array Value) : (three w Y I Y).rangeAt (w.heap.size + 1 + 1) 0 Y.toList := by
  have g := range_new ((w.alloc (.cells Y 96)).alloc (.cells I 55)) Y 96
  rw [show ((w.alloc (.cells Y 96)).alloc (.cells I 55)).heap.size = w.heap.size + 1 + 1 by simp] at g
  exact g
set_option maxRecDepth 100000 in
set_option maxHeartbeats 8000000 in
theorem behind_1 (hs : X.setIfInBounds 1 (.int .i64 kd) = Y) (k0 : Int) (x1 : X[1]? = some (.int .i64 k0)) (hY : Y.size = 19) (hone : Y.all (·.oneCell') = true) :
    Calls Try.prog 60 #[.agg X, .agg #[.int .i64 (1 : Int), .int .i64 kd, .int .i64 ar, .int .i64 pl, .int .i64 n]] w (Tells (.agg Y) w) := by
  have HL := fun Z => three_ld w #[.int .i64 (1 : Int), .int .i64 kd, .int .i64 ar, .int .i64 pl, .int .i64 n] Z hY
  have HS := fun (Z : Array Value) (hZ : Z.size = 19) => three_st w #[.int .i64 (1 : Int), .int .i64 kd, .int .i64 ar, .int .i64 pl, .int .i64 n] Z hY hZ hone
  have HR := Lib.hid (three_end w (Y := Y) #[.int .i64 (1 : Int), .int .i64 kd, .int .i64 ar, .int .i64 pl, .int .i64 n])
  have HB := Lib.hid (three_below w Y #[.int .i64 (1 : Int), .int .i64 kd, .int .i64 ar, .int .i64 pl, .int .i64 n] Y)
  have hYl := Lib.hid (show Y.toList.length = 19 by simpa using hY)
  unfold three at HL HS HR HB
  clear hY hone
  go_enter Try.func60, Try.ntmps60
  go_wp2
  refine bodyPost_ret (v := .agg Y) (results_S Try.results60 _ _ _ _ rfl HR.out hYl.out) rfl ⟨rfl, HB.out⟩

set_option maxRecDepth 100000 in
set_option maxHeartbeats 8000000 in
theorem behind_2 (hs : X.setIfInBounds 1 (.int .i64 kd) = Y) (k0 : Int) (x1 : X[1]? = some (.int .i64 k0)) (hY : Y.size = 19) (hone : Y.all (·.oneCell') = true) :
    Calls Try.prog 60 #[.agg X, .agg #[.int .i64 (2 : Int), .int .i64 kd, .int .i64 ar, .int .i64 pl, .int .i64 n]] w (Tells (.agg Y) w) := by
  have HL := fun Z => three_ld w #[.int .i64 (2 : Int), .int .i64 kd, .int .i64 ar, .int .i64 pl, .int .i64 n] Z hY
  have HS := fun (Z : Array Value) (hZ : Z.size = 19) => three_st w #[.int .i64 (2 : Int), .int .i64 kd, .int .i64 ar, .int .i64 pl, .int .i64 n] Z hY hZ hone
  have HR := Lib.hid (three_end w (Y := Y) #[.int .i64 (2 : Int), .int .i64 kd, .int .i64 ar, .int .i64 pl, .int .i64 n])
  have HB := Lib.hid (three_below w Y #[.int .i64 (2 : Int), .int .i64 kd, .int .i64 ar, .int .i64 pl, .int .i64 n] Y)
  have hYl := Lib.hid (show Y.toList.length = 19 by simpa using hY)
  unfold three at HL HS HR HB
  clear hY hone
  go_enter Try.func60, Try.ntmps60
  go_wp2
  refine bodyPost_ret (v := .agg Y) (results_S Try.results60 _ _ _ _ rfl HR.out hYl.out) rfl ⟨rfl, HB.out⟩

set_option maxRecDepth 100000 in
set_option maxHeartbeats 8000000 in
theorem behind_31 (hs : X.setIfInBounds 1 (.int .i64 kd) = Y) (k0 : Int) (x1 : X[1]? = some (.int .i64 k0)) (hY : Y.size = 19) (hone : Y.all (·.oneCell') = true) :
    Calls Try.prog 60 #[.agg X, .agg #[.int .i64 (31 : Int), .int .i64 kd, .int .i64 ar, .int .i64 pl, .int .i64 n]] w (Tells (.agg Y) w) := by
  have HL := fun Z => three_ld w #[.int .i64 (31 : Int), .int .i64 kd, .int .i64 ar, .int .i64 pl, .int .i64 n] Z hY
  have HS := fun (Z : Array Value) (hZ : Z.size = 19) => three_st w #[.int .i64 (31 : Int), .int .i64 kd, .int .i64 ar, .int .i64 pl, .int .i64 n] Z hY hZ hone
  have HR := Lib.hid (three_end w (Y := Y) #[.int .i64 (31 : Int), .int .i64 kd, .int .i64 ar, .int .i64 pl, .int .i64 n])
  have HB := Lib.hid (three_below w Y #[.int .i64 (31 : Int), .int .i64 kd, .int .i64 ar, .int .i64 pl, .int .i64 n] Y)
  have hYl := Lib.hid (show Y.toList.length = 19 by simpa using hY)
  unfold three at HL HS HR HB
  clear hY hone
  go_enter Try.func60, Try.ntmps60
  go_wp2
  refine bodyPost_ret (v := .agg Y) (results_S Try.results60 _ _ _ _ rfl HR.out hYl.out) rfl ⟨rfl, HB.out⟩

set_option maxRecDepth 100000 in
set_option maxHeartbeats 8000000 in
theorem behind_32 (d : Nat) (k0 : Int) (v0 v1 : Value) (X1 X2 : Array Value) (hd : d < 8) (x1 : X[1]? = some (.int .i64 k0)) (x2 : X[2]? = some (.int .i64 d)) (x3 : X[3 + d * 2]? = some v0) (x4 : X[3 + d * 2 + 1]? = some v1)
    (s1 : (X.setIfInBounds (3 + d * 2) (.int .i64 pl)).setIfInBounds (3 + d * 2 + 1) (.int .i64 k0) = X1) (y2 : X1[2]? = some (.int .i64 d)) (s2 : X1.setIfInBounds 2 (.int .i64 ((d : Int) + 1)) = X2) (y1 : X2[1]? = some (.int .i64 k0)) (s3 : X2.setIfInBounds 1 (.int .i64 0) = Y) (hY : Y.size = 19) (hone : Y.all (·.oneCell') = true) :
    Calls Try.prog 60 #[.agg X, .agg #[.int .i64 (32 : Int), .int .i64 kd, .int .i64 ar, .int .i64 pl, .int .i64 n]] w (Tells (.agg Y) w) := by
  have HL := fun Z => three_ld w #[.int .i64 (32 : Int), .int .i64 kd, .int .i64 ar, .int .i64 pl, .int .i64 n] Z hY
  have HS := fun (Z : Array Value) (hZ : Z.size = 19) => three_st w #[.int .i64 (32 : Int), .int .i64 kd, .int .i64 ar, .int .i64 pl, .int .i64 n] Z hY hZ hone
  have HR := Lib.hid (three_end w (Y := Y) #[.int .i64 (32 : Int), .int .i64 kd, .int .i64 ar, .int .i64 pl, .int .i64 n])
  have HB := Lib.hid (three_below w Y #[.int .i64 (32 : Int), .int .i64 kd, .int .i64 ar, .int .i64 pl, .int .i64 n] Y)
  have hYl := Lib.hid (show Y.toList.length = 19 by simpa using hY)
  unfold three at HL HS HR HB
  clear hY hone
  have hdi : (d : Int) < 8 := by omega
  have hw : IntKind.i64.wrap ((d : Int) + 1) = (d : Int) + 1 := by rw [IntKind.wrap_i64]; omega
  clear hd
  go_enter Try.func60, Try.ntmps60
  go_wp2
  refine bodyPost_ret (v := .agg Y) (results_S Try.results60 _ _ _ _ rfl HR.out hYl.out) rfl ⟨rfl, HB.out⟩

set_option maxRecDepth 100000 in
set_option maxHeartbeats 8000000 in
theorem behind_other (k0 : Int) (h3 : 3 ≤ op) (h31 : ¬ op = 31) (h32 : ¬ op = 32) (h33 : ¬ op = 33) (x1 : X[1]? = some (.int .i64 k0)) (hs : X.setIfInBounds 1 (.int .i64 (madeI op k0)) = Y) (hY : Y.size = 19) (hone : Y.all (·.oneCell') = true) :
    Calls Try.prog 60 #[.agg X, .agg #[.int .i64 op, .int .i64 kd, .int .i64 ar, .int .i64 pl, .int .i64 n]] w (Tells (.agg Y) w) := by
  have HL := fun Z => three_ld w #[.int .i64 op, .int .i64 kd, .int .i64 ar, .int .i64 pl, .int .i64 n] Z hY
  have HS := fun (Z : Array Value) (hZ : Z.size = 19) => three_st w #[.int .i64 op, .int .i64 kd, .int .i64 ar, .int .i64 pl, .int .i64 n] Z hY hZ hone
  have HR := Lib.hid (three_end w (Y := Y) #[.int .i64 op, .int .i64 kd, .int .i64 ar, .int .i64 pl, .int .i64 n])
  have HB := Lib.hid (three_below w Y #[.int .i64 op, .int .i64 kd, .int .i64 ar, .int .i64 pl, .int .i64 n] Y)
  have hYl := Lib.hid (show Y.toList.length = 19 by simpa using hY)
  unfold three at HL HS HR HB
  clear hY hone
  have HM := Lib.hid (fun W => cMade_any op k0 W)
  generalize madeI op k0 = v at *
  have e31 : (op == 31) = false := by simpa using h31
  have e32 : (op == 32) = false := by simpa using h32
  have e33 : (op == 33) = false := by simpa using h33
  clear h31 h32 h33
  go_enter Try.func60, Try.ntmps60
  go_wp2_with fail
  refine (HM.out _).mono ?_
  rintro e w1 ⟨rfl, rfl⟩
  go_wp2
  refine bodyPost_ret (v := .agg Y) (results_S Try.results60 _ _ _ _ rfl HR.out hYl.out) rfl ⟨rfl, HB.out⟩

/-- .. and a bracket's block behind them. -/
theorem four_ld {Y : Array Value} (w : World) (I Z P : Array Value) (hY : Y.size = 19) : ldS (.pointer (some ⟨w.heap.size, 0, none⟩)) ((three w Y I Z).alloc (.cells P 93)) = .ok (.value (.agg Y)) ((three w Y I Z).alloc (.cells P 93)) := by
  have g := range_below (range_below (range_below (range_new w Y 96) ((Below.refl _ _).alloc (Nat.le_refl _) (.cells I 55))) ((Below.refl _ _).alloc (Nat.le_refl _) (.cells Z 96))) ((Below.refl _ _).alloc (Nat.le_refl _) (.cells P 93))
  exact ldS_of _ w.heap.size 0 _ g (by simpa using hY)
theorem there_below {W W' : World} {b o n : Nat} (h : W.there b o n) (hb : Below W.heap.size W W') : W'.there b o n := fun j hj => by
  obtain ⟨h1, h2⟩ := h j hj
  obtain ⟨v, hv⟩ := Option.isSome_iff_exists.1 h1
  have hl := World.block_lt_of_cell? W _ hv
  refine ⟨by rw [kept_cell hb hv]; rfl, ?_⟩
  rw [← h2]
  exact World.frozen?_of_block (hb.block b hl)
theorem four_there (w : World) (Y I Z P : Array Value) (hZ : Z.size = 19) : ((three w Y I Z).alloc (.cells P 93)).there (w.heap.size + 1 + 1) 0 19 := by
  have g := there_new ((w.alloc (.cells Y 96)).alloc (.cells I 55)) Z 96
  rw [show ((w.alloc (.cells Y 96)).alloc (.cells I 55)).heap.size = w.heap.size + 1 + 1 by simp, hZ] at g
  exact there_below g ((Below.refl _ _).alloc (Nat.le_refl _) (.cells P 93))

set_option maxRecDepth 100000 in
set_option maxHeartbeats 8000000 in
theorem behind_33 (m : Nat) (k0 o1 k1 v : Int) (X1 X2 : Array Value) (hd : m < 8) (x2 : X[2]? = some (.int .i64 ((m : Int) + 1))) (s1 : X.setIfInBounds 2 (.int .i64 m) = X1) (y2 : X1[2]? = some (.int .i64 m)) (y3 : X1[3 + m * 2]? = some (.int .i64 o1)) (y4 : X1[3 + m * 2 + 1]? = some (.int .i64 k1))
    (s2 : (X1.setIfInBounds (3 + m * 2) (.int .i64 0)).setIfInBounds (3 + m * 2 + 1) (.int .i64 0) = X2) (z1 : X2[1]? = some (.int .i64 k0)) (hv : madeI o1 k1 = v) (s3 : X2.setIfInBounds 1 (.int .i64 v) = Y) (hY : Y.size = 19) (hone : Y.all (·.oneCell') = true) :
    Calls Try.prog 60 #[.agg X, .agg #[.int .i64 (33 : Int), .int .i64 kd, .int .i64 ar, .int .i64 pl, .int .i64 n]] w (Tells (.agg Y) w) := by
  have HL := fun Z P => four_ld w #[.int .i64 (33 : Int), .int .i64 kd, .int .i64 ar, .int .i64 pl, .int .i64 n] Z P hY
  have HS := fun (Z P : Array Value) (hZ : Z.size = 19) => stS_of _ _ _ Y (four_there w Y #[.int .i64 (33 : Int), .int .i64 kd, .int .i64 ar, .int .i64 pl, .int .i64 n] Z P hZ) hY hone
  have HR := Lib.hid (fun (Z P : Array Value) (hZ : Z.size = 19) => World.rangeAt_setCells_same _ _ _ Y.toList (by have := four_there w Y #[.int .i64 (33 : Int), .int .i64 kd, .int .i64 ar, .int .i64 pl, .int .i64 n] Z P hZ; rw [Array.length_toList, hY]; exact this))
  have HB := Lib.hid (fun (Z P : Array Value) => below_cells (b := w.heap.size + 1 + 1) (by omega) Y.toList 0 _ ((three_below w Y #[.int .i64 (33 : Int), .int .i64 kd, .int .i64 ar, .int .i64 pl, .int .i64 n] Z).alloc (by unfold three; simp; omega) (.cells P 93)))
  have hYl := Lib.hid (show Y.toList.length = 19 by simpa using hY)
  unfold three at HL HS HR HB
  clear hY hone
  have hdi : (m : Int) < 8 := by omega
  have hw : IntKind.i64.wrap ((m : Int) + 1 - 1) = m := by rw [IntKind.wrap_i64]; omega
  have HM := Lib.hid (fun W => cMade_any o1 k1 W)
  rw [hv] at HM
  clear hd hv
  go_enter Try.func60, Try.ntmps60
  go_wp2_with fail
  refine (HM.out _).mono ?_
  rintro e w1 ⟨rfl, rfl⟩
  go_wp2
  refine bodyPost_ret (v := .agg Y) (results_S Try.results60 _ _ _ _ rfl (HR.out _ _ rfl) hYl.out) rfl ⟨rfl, HB.out _ _⟩

end

theorem cBehind_any (i : In) (a : Ah) (w : World) (h1 : 1 ≤ i.op) (hw : Wf a) (h32 : i.op = 32 → a.br.length ≠ 8) (h33 : i.op = 33 → a.br.length ≠ 0) (hN : Wf (nextB i a)) :
    Calls Try.prog 60 #[.agg (stA a), insV i] w (Tells (.agg (stA (nextB i a))) w) := by
  obtain ⟨op, kd, ar, pl, n⟩ := i
  dsimp only at h1 h32 h33
  have sX := stA_size hw.len
  have sY := stA_size hN.len
  have oY := stA_one (nextB ⟨op, kd, ar, pl, n⟩ a)
  have hl := hw.len
  unfold nextB at sY oY ⊢
  dsimp only at sY oY ⊢
  by_cases ha : op = 1 ∨ op = 2 ∨ op = 31
  · rw [if_pos ha] at sY oY ⊢
    rcases ha with rfl | rfl | rfl
    · exact behind_1 kd ar pl n _ _ w (stA_kind a kd) a.kd (stA_1 a) sY oY
    · exact behind_2 kd ar pl n _ _ w (stA_kind a kd) a.kd (stA_1 a) sY oY
    · exact behind_31 kd ar pl n _ _ w (stA_kind a kd) a.kd (stA_1 a) sY oY
  rw [if_neg ha] at sY oY ⊢
  by_cases ho : op = 32
  · rw [if_pos ho] at sY oY ⊢
    subst ho
    have hne := h32 rfl
    obtain ⟨v0, e0⟩ : ∃ v, (stA a)[3 + a.br.length * 2]? = some v := ⟨_, Array.getElem?_eq_getElem (by rw [sX]; omega)⟩
    obtain ⟨v1, e1⟩ : ∃ v, (stA a)[3 + a.br.length * 2 + 1]? = some v := ⟨_, Array.getElem?_eq_getElem (by rw [sX]; omega)⟩
    refine behind_32 kd ar pl n _ _ w a.br.length a.kd v0 v1 _ _ (by omega) (stA_1 a) (stA_2 a) e0 e1 rfl ?_ rfl ?_ (stA_open3 a pl a.kd _ rfl (by omega)) sY oY
    · rw [Array.getElem?_setIfInBounds_ne (by omega), Array.getElem?_setIfInBounds_ne (by omega)]
      exact stA_2 a
    · rw [Array.getElem?_setIfInBounds_ne (by omega), Array.getElem?_setIfInBounds_ne (by omega), Array.getElem?_setIfInBounds_ne (by omega)]
      exact stA_1 a
  rw [if_neg ho] at sY oY ⊢
  by_cases hc : op = 33
  · rw [if_pos hc] at sY oY ⊢
    subst hc
    have hne := h33 rfl
    obtain ⟨m, hm⟩ : ∃ m, a.br.length = m + 1 := ⟨a.br.length - 1, by omega⟩
    have hat := open_at a.br m _ (last_at hm)
    have a3 := stA_open a (2 * m)
    have a4 := stA_open a (2 * m + 1)
    rw [hat.2, Nat.mul_comm 2 m] at a3
    rw [hat.1, Nat.mul_comm 2 m, ← Nat.add_assoc] at a4
    have a2 := stA_2 a
    rw [hm, show ((m + 1 : Nat) : Int) = (m : Int) + 1 by omega] at a2
    refine behind_33 kd ar pl n _ _ w m a.kd (lastB a.br).1 (lastB a.br).2 _ _ _ (by omega) a2 rfl ?_ ?_ ?_ rfl ?_ rfl (stA_close3 a _ m hm hl) sY oY
    · rw [Array.getElem?_setIfInBounds_self, if_pos (by rw [sX]; omega)]
    · rw [Array.getElem?_setIfInBounds_ne (by omega)]; exact a3
    · rw [Array.getElem?_setIfInBounds_ne (by omega)]; exact a4
    · rw [Array.getElem?_setIfInBounds_ne (by omega), Array.getElem?_setIfInBounds_ne (by omega), Array.getElem?_setIfInBounds_ne (by omega)]
      exact stA_1 a
  rw [if_neg hc] at sY oY ⊢
  exact behind_other op kd ar pl n _ _ w a.kd (by omega) (by omega) ho hc (stA_1 a) (stA_kind a _) sY oY

end Go.Proofs.Ytmlopacekoghkaa.Ve
