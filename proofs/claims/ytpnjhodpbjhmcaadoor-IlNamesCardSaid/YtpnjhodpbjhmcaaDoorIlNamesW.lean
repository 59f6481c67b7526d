/-
  The law IlNames, walked: it returns true. Conditions: that the calls answer as is asked.
-/
import Derived.Test.YtpnjhodpbjhmcaaDoorIlTwinW
import Derived.Test.YtpnjhodpbjhmcaaDoorIlWords
namespace Go.Proofs.YtpnjhodpbjhmcaaDoor.Il
open Go.RowKit
open Go.Proofs.YtpnjhodpbjhmcaaDoor.Ic

theorem names_app (b : List In) : ∀ (a : List In) (k : Nat), namesFrom k (a ++ b) = namesFrom k a ++ namesFrom (k + a.length) b
  | [], k => rfl
  | i :: a, k => by
    rw [List.cons_append, namesFrom, names_app b a (k + 1), namesFrom, List.append_assoc, List.length_cons, show k + 1 + a.length = k + (a.length + 1) by omega]
theorem names_step {l : List In} {k : Nat} {x : In} (h : l[k]? = some x) : endL (namesFrom 0 (l.take (k + 1))) = endL (namesFrom 0 (l.take k)) ++ endL (nameLines k x) := by
  have hk := (List.getElem?_eq_some_iff.1 h).1
  rw [List.take_add_one, h]
  show endL (namesFrom 0 (l.take k ++ [x])) = _
  rw [names_app, end_app, List.length_take, Nat.zero_add, Nat.min_eq_left (by omega)]
  show _ ++ endL (nameLines k x ++ []) = _
  rw [List.append_nil]
theorem via_end {k : Nat} {x : In} (h : viaB x = true) : endL (nameLines k x) = [86, 65, 82, 32] ++ varL k ++ [32, 65, 84, 32] ++ argL x ++ [10] ++ opName x.op ++ [32] ++ varL k ++ [10] := by
  unfold nameLines
  rw [if_pos h]
  simp [endL]
theorem not_via_end {k : Nat} {x : In} (h : viaB x = false) : endL (nameLines k x) = spellL x ++ [10] := by
  unfold nameLines
  rw [h]
  simp [endL]
theorem var_len (k : Nat) (h : k ≤ 1000) : (varL k).length ≤ 20 := by
  unfold varL
  have := dec_len19 (u := k) (by omega)
  simp; omega
theorem op_len (op : Int) : (opName op).length ≤ 5 := by
  unfold opName
  by_cases h37 : op.toNat < 37
  · exact name_len ⟨op.toNat, h37⟩
  · have : namesL.length = 37 := rfl
    rw [List.getD_eq_getElem?_getD, List.getElem?_eq_none (by omega)]
    decide
theorem step_len {k : Nat} {x : In} (h : rightI x = true) (hk : k ≤ 1000) : (endL (nameLines k x)).length ≤ 130 := by
  have h1 := var_len k hk
  have h2 := arg_len h
  have h3 := op_len x.op
  have h4 := spell_len x
  cases hv : viaB x
  · rw [not_via_end hv]; simp; omega
  · rw [via_end hv]; simp; omega
theorem names_len {l : List In} (hr : ∀ (j : Nat) (x : In), l[j]? = some x → rightI x = true) : ∀ k : Nat, k ≤ l.length → k ≤ 1000 → (endL (namesFrom 0 (l.take k))).length ≤ k * 130
  | 0, _, _ => by simp [namesFrom, endL]
  | k + 1, h, h2 => by
    have hx : l[k]? = some (l[k]'(by omega)) := List.getElem?_eq_getElem (by omega)
    rw [names_step hx, List.length_append]
    have ih := names_len hr k (by omega) (by omega)
    have := step_len (k := k) (hr k _ hx) (by omega)
    omega
/-- The first k instructions may be, and are no jumps. -/
def Fine (l : List In) (k : Nat) : Prop := ∀ (j : Nat) (x : In), j < k → l[j]? = some x → rightI x = true ∧ jumpB x.op = false
theorem Fine.take {l : List In} {k : Nat} (h : Fine l k) : ∀ (j : Nat) (x : In), (l.take k)[j]? = some x → rightI x = true := by
  intro j x hx
  have hj : j < k := by
    have := (List.getElem?_eq_some_iff.1 hx).1
    rw [List.length_take] at this
    omega
  rw [List.getElem?_take, if_pos hj] at hx
  exact (h j x hj hx).1

set_option maxRecDepth 100000 in
set_option maxHeartbeats 8000000 in
theorem names_walk {B : Base} (C : Code B) (cap : Nat) (ao : Option Addr) (xs : List In) (w : World) (hE : B.E w.heap.size w) (hI : Lies w w.heap.size ao xs) (hF : FitL xs) :
    Calls Tryd.prog 5 #[.slice ao xs.length cap] w (Tells (.bool true) w) := by
  have CC := Lib.hid C
  have HI := Lib.hid hI
  have HF := Lib.hid hF
  have HC := Lib.hid (Cur.first hE)
  obtain ⟨N, hN⟩ : ∃ N, w.heap.size = N := ⟨_, rfl⟩
  unfold Tells
  rw [hN] at HI HC ⊢
  clear hI hF C hE
  by_cases hgd : xs.length ≤ 30
  · have hg2 : ¬ (30 : Int) < xs.length := by omega
    have hgI : (xs.length : Int) ≤ 30 := by omega
    go_enter Tryd.func5, Tryd.ntmps5
    go_wp2_with fail
    refine (awake_any CC.out _ HC.out).mono ?_
    rintro e w1 ⟨rfl, hb1⟩
    have HC1 := Lib.hid (HC.out.next hb1)
    clear hb1
    go_wp2
    go_loopw [3, 18] (fun out i wr => ∃ (k : Nat) (t : Bs), (k : Int) ≤ xs.length ∧ i = .int .i64 k ∧ out = .string (S t) ∧ Hid (t = endL (namesFrom 0 (xs.take k)) ∧ Fine xs k) ∧ Hid (Cur B N w wr)) (fun _ i _ => xs.length - (intOf i).toNat)
    case atStart => exact ⟨0, [], by omega, rfl, rfl, Lib.hid ⟨rfl, fun j x hj _ => by omega⟩, HC1⟩
    case round =>
      obtain ⟨k, t, hk, rfl, rfl, hT, hS⟩ := hrel
      by_cases hlt : (k : Int) < xs.length
      · obtain ⟨x, hx⟩ : ∃ x, xs[k]? = some x := ⟨_, List.getElem?_eq_getElem (by omega)⟩
        obtain ⟨b, o, rfl, hbN, hIt⟩ := HI.out (by omega)
        obtain ⟨x0, x1, x2, x3, x4⟩ := ins_kept hIt hS.out.below hbN hx
        have htl : t.length ≤ 3900 := by
          rw [hT.out.1]
          have := names_len (l := xs.take k) hT.out.2.take k (by simp; omega) (by omega)
          rw [List.take_take, Nat.min_self] at this
          omega
        have hFx := HF.out k x hx
        have HB := Lib.hid (Box1.new hS.out x 23)
        have HRx := Lib.hid (fun W => rright_any x hFx.2.2.2.1 W)
        have HSx := Lib.hid (fun W => rspell_any x hFx.2.2.2.1 W)
        have HZx := Lib.hid (fun W => rSize_any x.kd W)
        have HDx := Lib.hid (fun W => rdig_any k (by omega) W)
        unfold insV at HRx HSx
        have HX := Lib.hid hx
        have HIt := Lib.hid hIt
        clear hx hIt hFx
        go_wp2_with fail
        generalize hbx : wr.heap.size = bx at *
        clear x0 x1 x2 x3 x4
        obtain ⟨hcur, y0, y1, y2, y3, y4⟩ := HB.out
        replace hcur := Lib.hid hcur
        cases hr : rightI x
        · rw [hr] at HRx
          refine (HRx.out _).mono ?_
          rintro e w2 ⟨rfl, hb2⟩
          have HC2 := Lib.hid (hcur.out.next hb2)
          clear hb2 y0 y1 y2 y3 y4 hr
          go_wp2
          go_ret
          exact ⟨by simp, HC2.out.below⟩
        · rw [hr] at HRx
          have HrX := Lib.hid hr
          obtain ⟨hws, -, -⟩ := words_spell hr
          have hwn : wordsB (spellL x) ≠ [] := by
            rw [hws]
            rcases spell_form hr with ⟨a, e, -⟩ | ⟨a, b, e, -⟩ <;> rw [e] <;> simp
          have HWx : Hid (∀ W, Calls Tryd.prog 16 #[.string (S (spellL x))] W fun e w' => ∃ g n c, e = .returned (.slice (some ⟨g, 0, none⟩) n c) ∧ Hid (n = (spellW x).length ∧ TextsAt w' g (spellW x)) ∧ Below W.heap.size W w') := fun W =>
            (rWords_any (spellL x) (by have := spell_len x; omega) hwn W).mono fun e w' ⟨g, c, h1, h2, h3⟩ => ⟨g, _, c, h1, Lib.hid ⟨by rw [hws], by rw [← hws]; exact h2⟩, h3⟩
          clear hws hwn
          refine (HRx.out _).mono ?_
          rintro e w2 ⟨rfl, hb2⟩
          have HB2 := Lib.hid (HB.out.next hb2)
          clear hb2 y0 y1 y2 y3 y4 hr HRx hcur
          obtain ⟨-, y0, y1, y2, y3, y4⟩ := HB2.out
          by_cases hj : jumpB x.op = true
          · obtain ⟨j1, j2⟩ : (25 : Int) ≤ x.op ∧ x.op ≤ 27 := by unfold jumpB at hj; rw [decide_eq_true_iff] at hj; exact hj
            clear hj
            go_wp2
            go_ret
            exact ⟨by simp, HB2.out.cur.below⟩
          · have hjf : jumpB x.op = false := by simpa using hj
            have HFi := Lib.hid (show Fine xs (k + 1) from fun j y hj2 hy => by
              by_cases e : j = k
              · subst e
                rw [HX.out] at hy
                injection hy with hy
                subst hy
                exact ⟨HrX.out, hjf⟩
              · exact hT.out.2 j y (by omega) hy)
            have hj2 : ¬ (25 : Int) ≤ x.op ∨ ((25 : Int) ≤ x.op ∧ ¬ x.op ≤ 27) := by unfold jumpB at hjf; rw [decide_eq_false_iff_not] at hjf; omega
            clear hj hjf
            rcases hj2 with j1 | ⟨j1, j2⟩
            all_goals
              go_wp2_with fail
              refine (HSx.out _).mono ?_
              rintro e w3 ⟨rfl, hb3⟩
              have HB3 := Lib.hid (HB2.out.next hb3)
              clear hb3 y0 y1 y2 y3 y4
              obtain ⟨-, y0, y1, y2, y3, y4⟩ := HB3.out
              go_wp2_with fail
              refine (HWx.out _).mono ?_
              rintro e w4 ⟨gw, nw, cw, rfl, hW4, hb4⟩
              have HB4 := Lib.hid (HB3.out.next hb4)
              clear hb4 y0 y1 y2 y3 y4
              obtain ⟨-, y0, y1, y2, y3, y4⟩ := HB4.out
              by_cases ha : (0 : Int) < x.ar
              · go_wp2_with fail
                refine (HZx.out _).mono ?_
                rintro e w5 ⟨rfl, hb5⟩
                by_cases hz : szI x.kd = 0
                · have HB5 := Lib.hid (HB4.out.next hb5)
                  clear hb5 y0 y1 y2 y3 y4
                  obtain ⟨-, y0, y1, y2, y3, y4⟩ := HB5.out
                  rw [hz]
                  have hv : viaB x = false := by unfold viaB; simp; intro _; exact hz
                  have HR := Lib.hid (show t ++ (spellL x ++ [10]) = endL (namesFrom 0 (xs.take (k + 1))) by rw [names_step HX.out, not_via_end hv, hT.out.1])
                  obtain ⟨t1, e1, l1, m1⟩ := glue2 (q := (⟨#[10]⟩ : ByteArray)) (b := [10]) 60 1 (show S (spellL x) = S (spellL x) from rfl) rfl (spell_len x) (by decide) (by decide)
                  obtain ⟨t2, e2, l2, m2⟩ := glue2 (p := S t) (a := t) 3900 61 rfl e1 htl l1 (by decide)
                  have He := Lib.hid e2
                  clear e1 e2 l1 l2 hv hz
                  go_wp2_with fail
                  refine (HSx.out _).mono ?_
                  rintro e w9 ⟨rfl, hb9⟩
                  have HC9 := Lib.hid (HB5.out.cur.next hb9)
                  clear hb9 y0 y1 y2 y3 y4
                  go_wp2
                  go_roundw
                  case rel => exact ⟨k + 1, _, by omega, by go_num, by rw [He.out], Lib.hid ⟨HR.out, HFi.out⟩, HC9⟩
                  case measure => simp [intOf]; omega
                · have hz2 : szI x.kd ≠ 0 := hz
                  have hv : viaB x = true := by unfold viaB; simp [hz2, ha]
                  obtain ⟨-, hsw, -⟩ := via_arg HrX.out hv
                  rw [hsw] at hW4
                  obtain ⟨hn2, hT4⟩ := hW4.out
                  have hn3 : nw = 2 := hn2
                  subst hn3
                  have HT5 := Lib.hid (hT4.kept hb5)
                  have HB5 := Lib.hid (HB4.out.next hb5)
                  clear hb5 y0 y1 y2 y3 y4
                  obtain ⟨-, y0, y1, y2, y3, y4⟩ := HB5.out
                  obtain ⟨nm, en, ln, mn⟩ := glue2 (p := (⟨#[118]⟩ : ByteArray)) (a := [118]) (q := S (Lib.decDigits k)) (b := Lib.decDigits k) 1 19 rfl rfl (by decide) (dec_len19 (by omega)) (by decide)
                  have hvl : [118] ++ Lib.decDigits k = varL k := rfl
                  rw [hvl] at en ln
                  obtain ⟨t1, e1, l1, m1⟩ := glue2 (p := (⟨#[86, 65, 82, 32]⟩ : ByteArray)) (a := [86, 65, 82, 32]) 4 20 rfl en (by decide) ln (by decide)
                  obtain ⟨t2, e2, l2, m2⟩ := glue2 (q := (⟨#[32, 65, 84, 32]⟩ : ByteArray)) (b := [32, 65, 84, 32]) 24 4 e1 rfl l1 (by decide) (by decide)
                  obtain ⟨t3, e3, l3, m3⟩ := glue2 (q := S (argL x)) (b := argL x) 28 42 e2 rfl l2 (arg_len HrX.out) (by decide)
                  obtain ⟨t4, e4, l4, m4⟩ := glue2 (q := (⟨#[10]⟩ : ByteArray)) (b := [10]) 70 1 e3 rfl l3 (by decide) (by decide)
                  obtain ⟨t5, e5, l5, m5⟩ := glue2 (q := S (opName x.op)) (b := opName x.op) 71 5 e4 rfl l4 (op_len _) (by decide)
                  obtain ⟨t6, e6, l6, m6⟩ := glue2 (q := (⟨#[32]⟩ : ByteArray)) (b := [32]) 76 1 e5 rfl l5 (by decide) (by decide)
                  obtain ⟨t7, e7, l7, m7⟩ := glue2 77 20 e6 en l6 ln (by decide)
                  obtain ⟨t8, e8, l8, m8⟩ := glue2 (q := (⟨#[10]⟩ : ByteArray)) (b := [10]) 97 1 e7 rfl l7 (by decide) (by decide)
                  obtain ⟨t9, e9, l9, m9⟩ := glue2 (p := S t) (a := t) 3900 98 rfl e8 htl l8 (by decide)
                  have HR := Lib.hid (show t ++ ([86, 65, 82, 32] ++ varL k ++ [32, 65, 84, 32] ++ argL x ++ [10] ++ opName x.op ++ [32] ++ varL k ++ [10]) = endL (namesFrom 0 (xs.take (k + 1))) by rw [names_step HX.out, via_end hv, hT.out.1])
                  have He := Lib.hid e9
                  have hzi : (0 : Int) < (szI x.kd : Int) := by omega
                  clear en e1 e2 e3 e4 e5 e6 e7 e8 e9 ln l1 l2 l3 l4 l5 l6 l7 l8 l9 hvl hn2 hT4 hW4 hsw hv hz2 hz
                  go_wp2_with fail
                  refine (HDx.out _).mono ?_
                  rintro e w6 ⟨rfl, hb6⟩
                  have HT6 := HT5.out.kept hb6
                  have q0 := HT6 0 _ rfl
                  have q1 := HT6 1 _ rfl
                  have HC6 := Lib.hid (HB5.out.cur.next hb6)
                  clear hb6 HT6 HT5 y0 y1 y2 y3 y4
                  go_wp2_with fail
                  go_quiet (fail)
                  go_wp2
                  go_roundw
                  case rel => exact ⟨k + 1, _, by omega, by go_num, by rw [He.out], Lib.hid ⟨HR.out, HFi.out⟩, Lib.hid (HC6.out.drewN nq)⟩
                  case measure => simp [intOf]; omega
              · have hv : viaB x = false := by unfold viaB; simp; intro h; exact absurd h ha
                have HR := Lib.hid (show t ++ (spellL x ++ [10]) = endL (namesFrom 0 (xs.take (k + 1))) by rw [names_step HX.out, not_via_end hv, hT.out.1])
                obtain ⟨t1, e1, l1, m1⟩ := glue2 (q := (⟨#[10]⟩ : ByteArray)) (b := [10]) 60 1 (show S (spellL x) = S (spellL x) from rfl) rfl (spell_len x) (by decide) (by decide)
                obtain ⟨t2, e2, l2, m2⟩ := glue2 (p := S t) (a := t) 3900 61 rfl e1 htl l1 (by decide)
                have He := Lib.hid e2
                clear e1 e2 l1 l2 hv
                go_wp2_with fail
                refine (HSx.out _).mono ?_
                rintro e w9 ⟨rfl, hb9⟩
                have HC9 := Lib.hid (HB4.out.cur.next hb9)
                clear hb9 y0 y1 y2 y3 y4
                go_wp2
                go_roundw
                case rel => exact ⟨k + 1, _, by omega, by go_num, by rw [He.out], Lib.hid ⟨HR.out, HFi.out⟩, HC9⟩
                case measure => simp [intOf]; omega
      · have hkn : k = xs.length := by omega
        have hFi := hT.out.2
        have hTB := hT.out.1
        rw [hkn] at hFi hTB
        rw [List.take_length] at hTB
        have hTB2 : t = namesB xs := hTB
        have hr : ∀ i ∈ xs, rightI i = true ∧ jumpB i.op = false := fun i hi => by
          obtain ⟨j, hj, e⟩ := List.mem_iff_getElem.1 hi
          exact hFi j i hj (by rw [← e]; exact List.getElem?_eq_getElem hj)
        have HA : Hid (∀ W, Cur B N w W → t.length ≤ 4000 → Calls Tryd.prog 14 #[.string (S t)] W fun e w' => ∃ ao cap, e = .returned (.tuple #[.slice ao xs.length cap, .int .i64 0, .int .i64 0]) ∧ Lies w' w'.heap.size ao xs ∧ Below W.heap.size W w') := by
          intro W hc hle
          refine (CC.out.asm N t W hc.e hc.size hle).mono fun e w' ha => asm_back ?_ ha
          rw [hTB2] at hle ⊢
          exact asm_names xs hr (by omega) hle
        have HS := Lib.hid (fun (W : World) (a1 : Option Addr) (c1 : Nat) (h1 : Lies W W.heap.size a1 xs) (hc : Cur B N w W) => rSame_any xs a1 ao c1 cap W h1 ((HI.out.below hc.below).more hc.size) (by omega))
        have hts := S_size t
        have hkn2 := Lib.hid hkn
        clear hFi hTB hTB2 hr hkn hT
        by_cases hle : t.length ≤ 4000
        · have hle2 : ¬ (4000 : Int) < t.length := by omega
          have HA2 := Lib.hid (HA.out _ hS.out hle)
          clear hle HA
          go_wp2_with fail
          refine HA2.out.mono ?_
          rintro e w4 ⟨a1, c1, rfl, h1, hb4⟩
          have HC4 := Lib.hid (hS.out.next hb4)
          have HS4 := Lib.hid (HS.out w4 a1 c1 h1 HC4.out)
          clear hb4 h1 HS HA2
          go_wp2_with fail
          refine HS4.out.mono ?_
          rintro e w5 ⟨rfl, m, rfl⟩
          go_wp2
          go_ret
          exact ⟨by simp, (HC4.out.drewN m).below⟩
        · have hle2 : (4000 : Int) < t.length := by omega
          clear hle HA
          go_wp2
          go_ret
          exact ⟨by simp, hS.out.below⟩
  · have hg2 : (30 : Int) < xs.length := by omega
    go_enter Tryd.func5, Tryd.ntmps5
    go_wp2_with fail
    refine (awake_any CC.out _ HC.out).mono ?_
    rintro e w1 ⟨rfl, hb1⟩
    have HC1 := Lib.hid (HC.out.next hb1)
    clear hb1
    go_wp2
    go_ret
    exact ⟨by simp, HC1.out.below⟩

end Go.Proofs.YtpnjhodpbjhmcaaDoor.Il
