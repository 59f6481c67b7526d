/-
  The landed code's Print, walked. Conditions: no more than 60 instructions; the library's table of powers and MaxLen are as the program lays them.
-/
import Derived.Test.YtpnjhodpbjhmcaaGreatDoorIkY
import Derived.Test.YtpnjhodpbjhmcaaGreatDoorIlShelfB
import Derived.Test.YtpnjhodpbjhmcaaGreatDoorJa
import Derived.Test.YtpnjhodpbjhmcaaGreatDoorIlPrt
import Derived.Laws.OwnMore
namespace Go.Proofs.YtpnjhodpbjhmcaaGreatDoor.Il
open Go.RowKit
open Go.Proofs.YtpnjhodpbjhmcaaGreatDoor.Ic

/-! ### Marks -/
theorem infoBool : (Tryz.prog.info? 4).map (fun i => (i.zero, i.size, i.bytes)) = some (some (.bool false), 1, 1) := by kernel_rfl
def marksN (led : List Nat) (n : Nat) : List Value := (List.range (n + 1)).map fun j => Value.bool (decide (j ∈ led))
theorem marks_at (led : List Nat) (n k : Nat) (h : k ≤ n) : (marksN led n)[k]? = some (.bool (decide (k ∈ led))) := by
  unfold marksN
  rw [List.getElem?_map, List.getElem?_range (by omega)]
  rfl
theorem marks_nil (n : Nat) : marksN [] n = List.replicate (n + 1) (Value.bool false) := by
  apply List.ext_getElem?
  intro k
  unfold marksN
  rw [List.getElem?_map, List.getElem?_replicate]
  by_cases h : k < n + 1
  · rw [List.getElem?_range h, if_pos h]; rfl
  · rw [List.getElem?_eq_none (by simpa using h), if_neg h]; rfl
theorem marks_set (led : List Nat) (n p : Nat) (h : p ≤ n) : (marksN led n).set p (.bool true) = marksN (led ++ [p]) n := by
  apply List.ext_getElem?
  intro k
  rw [List.getElem?_set]
  have hl : (marksN led n).length = n + 1 := by simp [marksN]
  by_cases hk : k < n + 1
  · rw [marks_at _ _ k (by omega), marks_at _ _ k (by omega)]
    by_cases hpk : p = k
    · subst hpk
      rw [if_pos rfl, if_pos (by rw [hl]; exact hk)]
      simp
    · rw [if_neg hpk]
      have : k ∈ led ++ [p] ↔ k ∈ led := by simp; intro e; exact absurd e.symm hpk
      rw [decide_eq_decide.2 this]
  · have h1 : (marksN led n)[k]? = none := List.getElem?_eq_none (by rw [hl]; omega)
    have h2 : (marksN (led ++ [p]) n)[k]? = none := List.getElem?_eq_none (by simp [marksN]; omega)
    rw [h1, h2]
    split
    · rw [hl]; split <;> first | omega | rfl
    · rfl
/-- The marks so far. -/
def MarkAt (N : Nat) (w W : World) (n : Nat) (led : List Nat) : Prop := W.ownsRow N 4 1 (.slice (some ⟨N, 0, none⟩) (n + 1) (n + 1)) (n + 1) (marksN led n) ∧ Below N w W ∧ N ≤ W.heap.size ∧ Env W
theorem MarkAt.next {N n : Nat} {w W W' : World} {led : List Nat} (h : MarkAt N w W n led) (hb : Below W.heap.size W W') : MarkAt N w W' n led :=
  ⟨World.ownsRow.kept h.1 (row := none) ⟨hb.os, hb.tape, hb.output, hb.size, fun j hj _ => hb.block j hj⟩ (by cases Value.ownBlock _ <;> simp), h.2.1.trans (hb.mono h.2.2.1), Nat.le_trans h.2.2.1 hb.size, h.2.2.2.below hb⟩
theorem MarkAt.cell {N n k : Nat} {w W : World} {led : List Nat} (h : MarkAt N w W n led) (hk : k ≤ n) : W.cell? ⟨N, k, none⟩ = some (.bool (decide (k ∈ led))) := by
  rw [World.ownsRow.cellAt h.1 k (by omega)]
  exact marks_at led n k hk
theorem MarkAt.set {N n p : Nat} {w W : World} {led : List Nat} (h : MarkAt N w W n led) (hp : p ≤ n) (hN : 0 < N ∧ 1 < N) : MarkAt N w (W.setCell ⟨N, p, none⟩ (.bool true)) n (led ++ [p]) := by
  have hs := World.ownsRow.stored h.1 p (.bool true)
  rw [marks_set led n p hp] at hs
  have hb : Below N W (W.setCell ⟨N, p, none⟩ (.bool true)) := (Below.refl N W).setCell (p := ⟨N, p, none⟩) (Nat.le_refl _) _
  exact ⟨hs.1, h.2.1.trans hb, by simp [World.setCell]; exact h.2.2.1, h.2.2.2.belowN hN hb⟩
/-- What builds a text lies in a block of its own. -/
def Bld (B b : Nat) (t : Bs) (w : World) : Prop := Lib.IsBuilder 43 5 B b (Lib.byteCells t) w
theorem Bld.next {B b : Nat} {t : Bs} {w w' : World} (h : Bld B b t w) (hb : Below w.heap.size w w') : Bld B b t w' := by
  have hg : w.grownBy w' none := ⟨hb.os, hb.tape, hb.output, hb.size, fun j hj _ => hb.block j hj⟩
  have key : ∀ p, Lib.BuilderAt 43 5 B b p (Lib.byteCells t) w → Lib.BuilderAt 43 5 B b p (Lib.byteCells t) w' := fun p h => by
    have hlt := h.lt
    obtain ⟨hB, v, hbk, hown, hne⟩ := h
    exact ⟨hB, v, (hb.block b hlt).trans hbk, World.ownsRow.kept hown (row := none) hg (by cases Value.ownBlock _ <;> simp), hne⟩
  exact h.imp (key _) (key _)

theorem ins_kept_two {w0 wr w4 : World} {N B b o k : Nat} {l : List In} {x : In} (hI : Items w0 b o l) (hbN : b < N) (hb : Below N w0 wr) (_ : N ≤ wr.heap.size) (hB : N < B) (h4 : Below B wr w4) (hx : l[k]? = some x) :
    w4.cell? ⟨b, o + k * 5, none⟩ = some (.int .i64 x.op) ∧ w4.cell? ⟨b, o + k * 5 + 1, none⟩ = some (.int .i64 x.kd) ∧ w4.cell? ⟨b, o + k * 5 + 2, none⟩ = some (.int .i64 x.ar) ∧ w4.cell? ⟨b, o + k * 5 + 3, none⟩ = some (.int .i64 x.pl) ∧ w4.cell? ⟨b, o + k * 5 + 4, none⟩ = some (.int .i64 x.n) :=
  ((hI.below hb hbN).below h4 (by omega)) k x hx

set_option maxRecDepth 100000 in
set_option maxHeartbeats 4000000 in
theorem cPrint_any (l : List In) (ao : Option Addr) (cap : Nat) (w : World) (hE : Env w) (hI : Lies w w.heap.size ao l) (hF : FitL l) (hl : l.length ≤ 60) :
    Calls Tryz.prog 5 #[.slice ao l.length cap] w (Tells (.tuple #[.string (S (prtL l)), .bool (printsB l)]) w) := by
  have HI := Lib.hid hI
  have HF := Lib.hid hF
  have hli : (l.length : Int) ≤ 60 := by omega
  have hg0 := env_size hE
  obtain ⟨i0, hi0, hi1, hi2, hi3⟩ := info_parts infoBool
  obtain ⟨W1, hmk, hown, hgr⟩ := run_make_full (P := Tryz.prog) w w.heap.size 36 4 i0 (.bool false) 1 Tryz.underlying36 hi0 hi1 hi2 .i64 .i64 (l.length + 1) (by rw [hi3]; omega) (by unfold maxLen; omega) (Nat.le_refl _)
  rw [show (madeCells (Value.bool false).cells ((l.length + 1) * 1)).toList = marksN [] l.length by
    rw [Nat.mul_one, marks_nil]; exact toList_madeCells_one _ _] at hown
  rw [show ((l.length + 1 : Nat) : Int) = (l.length : Int) + 1 by omega] at hmk
  have hb1 : Below w.heap.size w W1 := ⟨hgr.os, hgr.tape, hgr.output, hgr.size, fun k hk => hgr.block k hk (by simp)⟩
  have HM1 : Hid (MarkAt w.heap.size w W1 l.length []) := ⟨hown, hb1, hgr.size, hE.below hb1⟩
  clear hi0 hi1 hi2 hi3 hI hF hl hown hgr hb1 hE
  obtain ⟨N, hN⟩ : ∃ N, w.heap.size = N := ⟨_, rfl⟩
  unfold Tells
  rw [hN] at HI HM1 hmk hg0 ⊢
  go_enter Tryz.func5, Tryz.ntmps5
  go_wp2
  go_loopw [16] (fun i wr => ∃ (k : Nat), (k : Int) ≤ l.length ∧ i = .int .i64 k ∧ Hid (Okay l k) ∧ Hid (MarkAt N w wr l.length (ledB (l.take k)))) (fun i _ => l.length - (intOf i).toNat)
  case atStart => exact ⟨0, by omega, rfl, Lib.hid (fun j x hj _ => by omega), HM1⟩
  case round =>
    obtain ⟨k, hk, rfl, hO, hS⟩ := hrel
    by_cases hlt : (k : Int) < l.length
    · obtain ⟨x, hx⟩ : ∃ x, l[k]? = some x := ⟨_, List.getElem?_eq_getElem (by omega)⟩
      obtain ⟨b, o, rfl, hbN, hIt⟩ := HI.out (by omega)
      obtain ⟨x0, x1, x2, x3, x4⟩ := ins_kept hIt hS.out.2.1 hbN hx
      have HR := Lib.hid (fun W => cRight_any x (HF.out k x hx).2.2.2.2 W)
      have HFm := Lib.hid (fun W => cForm_any x.op W)
      unfold insV at HR
      have HX := Lib.hid hx
      have hal := (Below.refl wr.heap.size wr).alloc (Nat.le_refl _) (.cells #[.int .i64 x.op, .int .i64 x.kd, .int .i64 x.ar, .int .i64 x.pl, .int .i64 x.n] 34)
      have hbx := Lib.hid (box5 wr x 34).1
      have HSa := Lib.hid (hS.out.next hal)
      obtain ⟨b0, b1, b2, b3, b4⟩ := hbx.out
      clear hx hIt hal hS
      cases hr : rightI x
      · rw [hr] at HR
        have HP := Lib.hid (not_right HX.out hr)
        clear hr HFm
        go_wp2_with fail
        refine (HR.out _).mono ?_
        rintro e w1 ⟨rfl, hb1⟩
        have HB := Lib.hid (HSa.out.next hb1)
        clear hb1
        go_wp2
        go_ret2
        exact ⟨by unfold prtL; rw [HP.out]; rfl, HB.out.2.1⟩
      · rw [hr] at HR
        have HrX := Lib.hid hr
        clear hr
        go_wp2_with fail
        refine (HR.out _).mono ?_
        rintro e w1 ⟨rfl, hb1⟩
        have hby := Lib.hid (hbx.out.next hb1)
        have HSb := Lib.hid (HSa.out.next hb1)
        clear hb1 b0 b1 b2 b3 b4 hbx HSa HR
        obtain ⟨b0, b1, b2, b3, b4⟩ := hby.out
        by_cases hj : jumpB x.op = true
        · rw [form_4.2 hj] at HFm
          obtain ⟨p, hp, hp200⟩ : ∃ p : Nat, x.pl = (p : Int) ∧ (p : Int) ≤ 200 := by
            obtain ⟨g1, g2, g3, g4, g5, g6, g7, g8, g9, g10, g11⟩ := (op_facts x.op).2.2.1 hj
            cases right_way HrX.out with
            | lit h ha hp hn => rw [h] at g1; cases g1
            | get h h1 h4 ht hn => rw [h] at g1; cases g1
            | put h h1 h4 ht hn => rw [h] at g2; cases g2
            | jump h hk ha h0 h1 hn => exact ⟨x.pl.toNat, by omega, by omega⟩
            | bare h hk ha hp hn => rw [h] at g3; cases g3
            | close h hk ha hp hn => omega
            | conv h hk ha hp hn => omega
            | opens h hk ha hr2 hp hn => omega
            | timer h hk h3 h4 h0 h1 hn hm => omega
            | trig h hk h3 h4 h0 h1 hn => omega
          have HpX := Lib.hid hp
          rw [hp] at b3
          clear hp
          have HjX := Lib.hid hj
          clear hj
          by_cases hle : (p : Int) ≤ l.length
          · have hlen : ¬ (l.length : Int) < p := by omega
            have HOk := Lib.hid (show Okay l (k + 1) from fun j y hj hy => by
              by_cases e : j = k
              · subst e
                rw [HX.out] at hy
                injection hy with hy
                subst hy
                exact ⟨HrX.out, fun _ => by rw [HpX.out]; exact hle⟩
              · exact hO.out j y (by omega) hy)
            have hE := Lib.hid (show ledB (l.take k) ++ [p] = ledB (l.take (k + 1)) by
              rw [led_snoc HX.out, HjX.out, if_pos rfl, HpX.out, Int.toNat_natCast])
            have m0 := HSb.out.cell (k := p) (by omega)
            have m1 := World.ownsRow.frozenAt HSb.out.1 p
            have HSc := Lib.hid (HSb.out.set (p := p) (by omega) hg0)
            rw [hE.out] at HSc
            have hpn : (p : Int) < (l.length : Int) + 1 := by omega
            generalize decide (p ∈ ledB (List.take k l)) = bb at *
            go_wp2_with fail
            refine (HFm.out _).mono ?_
            rintro e w2 ⟨rfl, rfl⟩
            go_wp2
            go_roundw
            case rel => exact ⟨k + 1, by omega, by go_num, HOk, HSc⟩
            case measure => simp [intOf]; omega
          · have hlen : (l.length : Int) < p := by omega
            have HP := Lib.hid (not_led HX.out HjX.out (by rw [HpX.out]; exact hlen))
            clear hle
            go_wp2_with fail
            refine (HFm.out _).mono ?_
            rintro e w2 ⟨rfl, rfl⟩
            go_wp2
            go_ret2
            exact ⟨by unfold prtL; rw [HP.out]; rfl, HSb.out.2.1⟩
        · have hjf : jumpB x.op = false := by simpa using hj
          have HOk := Lib.hid (show Okay l (k + 1) from fun j y hj2 hy => by
            by_cases e : j = k
            · subst e
              rw [HX.out] at hy
              injection hy with hy
              subst hy
              exact ⟨HrX.out, fun h => absurd h hj⟩
            · exact hO.out j y (by omega) hy)
          have HSc : Hid (MarkAt N w w1 l.length (ledB (l.take (k + 1)))) := Lib.hid (by rw [led_snoc HX.out, hjf, if_neg (by decide), List.append_nil]; exact HSb.out)
          have hz : ¬ formI x.op = 4 := fun e => hj (form_4.1 e)
          clear hj hjf
          generalize formI x.op = z at *
          go_wp2_with fail
          refine (HFm.out _).mono ?_
          rintro e w2 ⟨rfl, rfl⟩
          go_wp2
          go_roundw
          case rel => exact ⟨k + 1, by omega, by go_num, HOk, HSc⟩
          case measure => simp [intOf]; omega
    · obtain rfl : k = l.length := by omega
      rw [List.take_length] at hS
      obtain ⟨wp, hwp⟩ : ∃ W, W = wr := ⟨_, rfl⟩
      subst hwp
      have HP := Lib.hid hO.out.all
      have HQ := hS
      obtain ⟨B, hB0⟩ : ∃ B, wp.heap.size = B := ⟨_, rfl⟩
      have hB : N < B := by
        have := (World.ownsRow.lt HQ.out.1 N rfl).2
        omega
      have hgB : Hid (0 < B ∧ 1 < B) := ⟨by omega, by omega⟩
      have hfr := Lib.fresh_isBuilder 43 5 wp
      rw [hB0] at hfr
      have hT0 : Hid (Bld B B [] (wp.alloc (.cells #[.pointer none, .slice none 0 0] 43))) := hfr
      have hW0 : Hid (Below B wp (wp.alloc (.cells #[.pointer none, .slice none 0 0] 43))) := (Below.refl B wp).alloc (by omega) _
      have hE0 : Hid (Env (wp.alloc (.cells #[.pointer none, .slice none 0 0] 43))) := HQ.out.2.2.2.belowN hgB.out hW0.out
      have hBs0 : Hid (B ≤ (wp.alloc (.cells #[.pointer none, .slice none 0 0] 43)).heap.size) := Lib.hid (by simp; omega)
      have hp0 : Hid (printL l = [] ++ restOf (ledB l) l 0) := by
        unfold restOf
        rw [if_pos (Nat.zero_le _), List.drop_zero]
        rfl
      have hpl := printL_len l (by omega)
      clear hfr hS hO hmk HM1
      go_wp2
      go_loopw [39] (fun q w2 => ∃ (k : Nat) (t : Bs), (k : Int) ≤ l.length + 1 ∧ q = .int .i64 k ∧ Hid (printL l = t ++ restOf (ledB l) l k) ∧ Hid (Bld B B t w2) ∧ Hid (Env w2) ∧ Hid (Below B wp w2) ∧ Hid (B ≤ w2.heap.size)) (fun q _ => l.length + 1 - (intOf q).toNat)
      case atStart => exact ⟨0, [], by omega, rfl, hp0, hT0, hE0, hW0, hBs0⟩
      case round =>
        obtain ⟨k, t, hk, rfl, hrs, hT, hE2, hW, hBs⟩ := hrel
        by_cases hlt2 : (k : Int) < l.length + 1
        · have e0 : wr.cell? ⟨N, k, none⟩ = some (.bool (decide (k ∈ ledB l))) := (World.cell?_of_block (a := ⟨N, k, none⟩) (hW.out.block N hB)).trans (HQ.out.cell (by omega))
          have hlen : t.length + (restOf (ledB l) l k).length ≤ 6100 := by rw [← List.length_append, ← hrs.out]; exact hpl
          by_cases hkn : (k : Int) < l.length
          · obtain ⟨x, hx⟩ : ∃ x, l[k]? = some x := ⟨_, List.getElem?_eq_getElem (by omega)⟩
            have HX := Lib.hid hx
            have hn64 := Lib.hid (HF.out k x hx).2.2.2.2
            obtain ⟨b, o, rfl, hbN, hIt⟩ := HI.out (by omega)
            rw [rest_step hx] at hrs hlen
            simp only [List.length_append, List.length_cons] at hlen
            clear hx
            by_cases hled : k ∈ ledB l
            · rw [decide_eq_true hled] at e0
              have HLb : Hid (∀ W, Env W → Calls Tryz.prog 14 #[.int .i64 (k : Int)] W (Tells (.string (S (labelL k))) W)) := fun W hE => cLabel_any (k : Int) (by omega) (by omega) W hE
              have hlab : labOf (ledB l) k = labelL k ++ [58, 10] := by unfold labOf; rw [if_pos hled]
              rw [hlab] at hrs hlen
              have hla : ∀ W, (Op.stringOp .add (S (labelL k)) ⟨#[58, 10]⟩).run Tryz.prog W = .ok (.string (S (labelL k ++ [58, 10]))) W := fun W => sadd (labelL k) [58, 10] (by simp at hlen ⊢; omega) W
              have HBW := Lib.hid (fun (W : World) (h : Bld B B t W) (hB : B ≤ W.heap.size) => bd_write B B t (labelL k ++ [58, 10]) W h (by omega) hB)
              generalize labelL k ++ [58, 10] = lb at *
              have hlbl : Hid (lb = lb) := rfl
              have hsz2 := S_size lb
              generalize S (labelL k) = sl at *
              generalize S lb = sb at *
              go_wp2_with fail
              refine (HLb.out _ hE2.out).mono ?_
              rintro e w3 ⟨rfl, hb3⟩
              have hT3 := Lib.hid (hT.out.next hb3)
              have hE3 := Lib.hid (hE2.out.below hb3)
              have hW3 := Lib.hid (hW.out.trans (hb3.mono hBs.out))
              have hBs3 := Lib.hid (Nat.le_trans hBs.out hb3.size)
              clear hb3
              go_wp2_with fail
              refine (HBW.out _ hT3.out hBs3.out).mono ?_
              rintro e w4 ⟨rfl, hT4, hb4⟩
              have hT4 : Hid (Bld B B (t ++ lb) w4) := hT4
              have hE4 := Lib.hid (hE3.out.belowN hgB.out hb4)
              have hW4 := Lib.hid (hW3.out.trans hb4)
              have hBs4 := Lib.hid (Nat.le_trans hBs3.out hb4.size)
              clear hb4 hT3 hE3 hW3 hBs3 hT hE2 hW hBs HLb HBW
              have y := ins_kept_two hIt hbN HQ.out.2.1 HQ.out.2.2.1 hB hW4.out HX.out
              obtain ⟨y0, y1, y2, y3, y4⟩ := y
              have HSp := Lib.hid (fun W hE => cSpell_any x hn64.out W hE)
              unfold insV at HSp
              have hsa : ∀ W, (Op.stringOp .add (S (spellL x)) ⟨#[10]⟩).run Tryz.prog W = .ok (.string (S (spellL x ++ [10]))) W := fun W => sadd (spellL x) [10] (by simp; omega) W
              have HBX := Lib.hid (fun (W : World) (h : Bld B B (t ++ lb) W) (hB : B ≤ W.heap.size) => bd_write B B (t ++ lb) (spellL x ++ [10]) W h (by simp; omega) hB)
              have hrs2 : Hid (printL l = (t ++ lb) ++ (spellL x ++ [10]) ++ restOf (ledB l) l (k + 1)) := Lib.hid (by rw [hrs.out]; simp)
              have hsz3 := S_size (spellL x ++ [10])
              generalize spellL x ++ [10] = sx at *
              generalize S (spellL x) = ss at *
              generalize S sx = sy at *
              go_wp2_with fail
              refine (HSp.out _ hE4.out).mono ?_
              rintro e w5 ⟨rfl, hb5⟩
              have hT5 := Lib.hid (hT4.out.next hb5)
              have hE5 := Lib.hid (hE4.out.below hb5)
              have hW5 := Lib.hid (hW4.out.trans (hb5.mono hBs4.out))
              have hBs5 := Lib.hid (Nat.le_trans hBs4.out hb5.size)
              clear hb5
              go_wp2_with fail
              refine (HBX.out _ hT5.out hBs5.out).mono ?_
              rintro e w6 ⟨rfl, hT6, hb6⟩
              have hT6 : Hid (Bld B B ((t ++ lb) ++ sx) w6) := hT6
              have hE6 := Lib.hid (hE5.out.belowN hgB.out hb6)
              have hW6 := Lib.hid (hW5.out.trans hb6)
              have hBs6 := Lib.hid (Nat.le_trans hBs5.out hb6.size)
              clear hb6
              go_wp2
              go_roundw
              case rel => exact ⟨k + 1, _, by omega, by go_num, hrs2, hT6, hE6, hW6, hBs6⟩
              case measure => first | (simp [intOf]; done) | (simp [intOf]; omega)
            · rw [decide_eq_false hled] at e0
              have hlab : labOf (ledB l) k = [] := by unfold labOf; rw [if_neg hled]
              rw [hlab] at hrs hlen
              obtain ⟨lb, hlb0⟩ : ∃ lb : Bs, lb = [] := ⟨_, rfl⟩
              rw [← hlb0] at hrs hlen
              have hT4 : Hid (Bld B B (t ++ lb) wr) := by rw [hlb0, List.append_nil]; exact hT
              have hE4 := hE2
              have hW4 := hW
              have hBs4 := hBs
              clear hlb0 hT hE2 hW hBs
              have y := ins_kept_two hIt hbN HQ.out.2.1 HQ.out.2.2.1 hB hW4.out HX.out
              obtain ⟨y0, y1, y2, y3, y4⟩ := y
              have HSp := Lib.hid (fun W hE => cSpell_any x hn64.out W hE)
              unfold insV at HSp
              have hsa : ∀ W, (Op.stringOp .add (S (spellL x)) ⟨#[10]⟩).run Tryz.prog W = .ok (.string (S (spellL x ++ [10]))) W := fun W => sadd (spellL x) [10] (by simp; omega) W
              have HBX := Lib.hid (fun (W : World) (h : Bld B B (t ++ lb) W) (hB : B ≤ W.heap.size) => bd_write B B (t ++ lb) (spellL x ++ [10]) W h (by simp; omega) hB)
              have hrs2 : Hid (printL l = (t ++ lb) ++ (spellL x ++ [10]) ++ restOf (ledB l) l (k + 1)) := Lib.hid (by rw [hrs.out]; simp)
              have hsz3 := S_size (spellL x ++ [10])
              generalize spellL x ++ [10] = sx at *
              generalize S (spellL x) = ss at *
              generalize S sx = sy at *
              go_wp2_with fail
              refine (HSp.out _ hE4.out).mono ?_
              rintro e w5 ⟨rfl, hb5⟩
              have hT5 := Lib.hid (hT4.out.next hb5)
              have hE5 := Lib.hid (hE4.out.below hb5)
              have hW5 := Lib.hid (hW4.out.trans (hb5.mono hBs4.out))
              have hBs5 := Lib.hid (Nat.le_trans hBs4.out hb5.size)
              clear hb5
              go_wp2_with fail
              refine (HBX.out _ hT5.out hBs5.out).mono ?_
              rintro e w6 ⟨rfl, hT6, hb6⟩
              have hT6 : Hid (Bld B B ((t ++ lb) ++ sx) w6) := hT6
              have hE6 := Lib.hid (hE5.out.belowN hgB.out hb6)
              have hW6 := Lib.hid (hW5.out.trans hb6)
              have hBs6 := Lib.hid (Nat.le_trans hBs5.out hb6.size)
              clear hb6
              go_wp2
              go_roundw
              case rel => exact ⟨k + 1, _, by omega, by go_num, hrs2, hT6, hE6, hW6, hBs6⟩
              case measure => first | (simp [intOf]; done) | (simp [intOf]; omega)
          · obtain rfl : k = l.length := by omega
            rw [rest_last] at hrs hlen
            have hr2 : restOf (ledB l) l (l.length + 1) = [] := by unfold restOf; rw [if_neg (by omega)]
            by_cases hled : l.length ∈ ledB l
            · rw [decide_eq_true hled] at e0
              have HLb : Hid (∀ W, Env W → Calls Tryz.prog 14 #[.int .i64 (l.length : Int)] W (Tells (.string (S (labelL l.length))) W)) := fun W hE => cLabel_any (l.length : Int) (by omega) (by omega) W hE
              have hlab : labOf (ledB l) l.length = labelL l.length ++ [58, 10] := by unfold labOf; rw [if_pos hled]
              rw [hlab] at hrs hlen
              have hla : ∀ W, (Op.stringOp .add (S (labelL l.length)) ⟨#[58, 10]⟩).run Tryz.prog W = .ok (.string (S (labelL l.length ++ [58, 10]))) W := fun W => sadd (labelL l.length) [58, 10] (by simp at hlen ⊢; omega) W
              have HBW := Lib.hid (fun (W : World) (h : Bld B B t W) (hB : B ≤ W.heap.size) => bd_write B B t (labelL l.length ++ [58, 10]) W h (by omega) hB)
              generalize labelL l.length ++ [58, 10] = lb at *
              have hlbl : Hid (lb = lb) := rfl
              have hsz2 := S_size lb
              generalize S (labelL l.length) = sl at *
              generalize S lb = sb at *
              go_wp2_with fail
              refine (HLb.out _ hE2.out).mono ?_
              rintro e w3 ⟨rfl, hb3⟩
              have hT3 := Lib.hid (hT.out.next hb3)
              have hE3 := Lib.hid (hE2.out.below hb3)
              have hW3 := Lib.hid (hW.out.trans (hb3.mono hBs.out))
              have hBs3 := Lib.hid (Nat.le_trans hBs.out hb3.size)
              clear hb3
              go_wp2_with fail
              refine (HBW.out _ hT3.out hBs3.out).mono ?_
              rintro e w4 ⟨rfl, hT4, hb4⟩
              have hT4 : Hid (Bld B B (t ++ lb) w4) := hT4
              have hE4 := Lib.hid (hE3.out.belowN hgB.out hb4)
              have hW4 := Lib.hid (hW3.out.trans hb4)
              have hBs4 := Lib.hid (Nat.le_trans hBs3.out hb4.size)
              clear hb4 hT3 hE3 hW3 hBs3 hT hE2 hW hBs HLb HBW
              have hrs2 : Hid (printL l = (t ++ lb) ++ restOf (ledB l) l (l.length + 1)) := by rw [hr2, List.append_nil]; exact hrs
              go_wp2
              go_roundw
              case rel => exact ⟨l.length + 1, t ++ lb, by omega, by go_num, hrs2, hT4, hE4, hW4, hBs4⟩
              case measure => first | (simp [intOf]; done) | (simp [intOf]; omega)
            · rw [decide_eq_false hled] at e0
              have hlab : labOf (ledB l) l.length = [] := by unfold labOf; rw [if_neg hled]
              rw [hlab] at hrs hlen
              obtain ⟨lb, hlb0⟩ : ∃ lb : Bs, lb = [] := ⟨_, rfl⟩
              rw [← hlb0] at hrs hlen
              have hT4 : Hid (Bld B B (t ++ lb) wr) := by rw [hlb0, List.append_nil]; exact hT
              have hE4 := hE2
              have hW4 := hW
              have hBs4 := hBs
              clear hlb0 hT hE2 hW hBs
              have hrs2 : Hid (printL l = (t ++ lb) ++ restOf (ledB l) l (l.length + 1)) := by rw [hr2, List.append_nil]; exact hrs
              go_wp2
              go_roundw
              case rel => exact ⟨l.length + 1, t ++ lb, by omega, by go_num, hrs2, hT4, hE4, hW4, hBs4⟩
              case measure => first | (simp [intOf]; done) | (simp [intOf]; omega)
        · obtain rfl : k = l.length + 1 := by omega
          have hr2 : restOf (ledB l) l (l.length + 1) = [] := by unfold restOf; rw [if_neg (by omega)]
          rw [hr2, List.append_nil] at hrs
          have HST := Lib.hid (Tryz.Builder_String_any B B t wr hT.out hBs.out)
          have hprt : Hid (prtL l = t) := by unfold prtL; rw [HP.out, if_pos rfl]; exact hrs
          have hbb : Hid (Below N w wr) := HQ.out.2.1.trans (hW.out.mono (by omega))
          clear hT hr2 hrs
          go_wp2_with fail
          refine HST.out.mono ?_
          rintro e w3 ⟨rfl, hb3⟩
          have hbc := Lib.hid (hbb.out.trans (hb3.mono (by omega)))
          clear hb3
          go_wp2
          go_ret2
          exact ⟨by rw [hprt.out, HP.out]; rfl, hbc.out⟩

theorem the_print : CodeP noB where
  print := fun _ ao cap l w h _ hI hF hl => cPrint_any l ao cap w h.1 hI hF hl

end Go.Proofs.YtpnjhodpbjhmcaaGreatDoor.Il
