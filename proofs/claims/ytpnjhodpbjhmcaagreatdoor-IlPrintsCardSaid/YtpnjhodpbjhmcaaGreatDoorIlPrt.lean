/-
  The reference's Print, walked. Conditions: no more than 60 instructions.
-/
import Derived.Test.YtpnjhodpbjhmcaaGreatDoorIlCode
import Derived.Test.YtpnjhodpbjhmcaaGreatDoorIlSplit
namespace Go.Proofs.YtpnjhodpbjhmcaaGreatDoor.Il
open Go.RowKit
open Go.Proofs.YtpnjhodpbjhmcaaGreatDoor.Ic

theorem arg_len {i : In} (h : rightI i = true) : (argL i).length ≤ 42 := by
  have hk := kind_len i.kd
  have hd := fun (h : i.pl ≤ 1000) => dec_len19 (u := i.pl.toNat) (by omega)
  have hway := right_way h
  have hb : i.pl ≤ 1000 ∧ -1000000000000000000 ≤ i.n ∧ i.n ≤ 1000000000000000000 ∨ argL i = nmI i.kd := by
    cases hway with
    | lit h ha hp hn => have := is_bd hn; left; omega
    | get h h1 h4 ht hn => have := there_bd ht; left; omega
    | put h h1 h4 ht hn => have := there_bd ht; left; omega
    | jump h hk ha h0 h1 hn => left; omega
    | bare h hk ha hp hn => left; omega
    | close h hk ha hp hn => left; omega
    | conv h hk ha hp hn => left; omega
    | opens h hk ha hr2 hp hn =>
      obtain ⟨k1, k2, k3, k4, k5, k6, k7, k8, k9, k10, k11⟩ := (op_facts i.pl).1 hr2
      left; omega
    | timer h hk h3 h4 h0 h1 hn hm => left; omega
    | trig h hk h3 h4 h0 h1 hn => left; omega
  rcases hb with ⟨b1, b2, b3⟩ | hb
  · have hd := dec_len19 (u := i.pl.toNat) (by omega)
    have ha := area_len i.ar i.pl (by omega)
    have hi := itoa_len i.n b2 b3
    unfold argL
    split
    · simp; omega
    split
    · omega
    split
    · simp; omega
    split
    · omega
    split <;> (simp; omega)
  · rw [hb]; omega
theorem spell_len (i : In) : (spellL i).length ≤ 60 := by
  unfold spellL
  split
  · next h =>
    have ha := arg_len h
    have hn : ∀ op : Int, (opName op).length ≤ 5 := fun op => by
      unfold opName
      by_cases h37 : op.toNat < 37
      · exact name_len ⟨op.toNat, h37⟩
      · have : namesL.length = 37 := rfl
        rw [List.getD_eq_getElem?_getD, List.getElem?_eq_none (by omega)]
        decide
    have h1 := hn i.op
    have h2 := hn i.pl
    unfold spellW
    split
    · simp [joinW]
    split
    · simp [joinW]; omega
    split
    · simp [joinW]; omega
    · simp [joinW]; omega
  · simp
theorem label_len (k : Nat) (h : k ≤ 1000) : (labelL k).length ≤ 20 := by
  unfold labelL
  have := dec_len19 (u := k) (by omega)
  simp; omega
theorem print_len (led : List Nat) : ∀ (l : List In) (k : Nat), k + l.length ≤ 1000 → (printFrom led k l).length ≤ (l.length + 1) * 100
  | [], k, h => by
    have := label_len k (by simp at h; omega)
    unfold printFrom
    split <;> simp; omega
  | i :: r, k, h => by
    simp at h
    have ih := print_len led r (k + 1) (by omega)
    have h1 := label_len k (by omega)
    have h2 := spell_len i
    unfold printFrom
    simp only [List.length_append, List.length_cons]
    have h3 : (if k ∈ led then labelL k ++ [58, 10] else []).length ≤ 22 := by split <;> simp; omega
    omega
def intsN (l : List Nat) : List Value := l.map fun j : Nat => Value.int .i64 (j : Int)
theorem infoInt : (Tryz.prog.info? 3).map (fun i => (i.zero, i.size, i.bytes)) = some (some (.int .i64 0), 1, 8) := by kernel_rfl
/-- The first k instructions may be printed. -/
def Okay (l : List In) (k : Nat) : Prop := ∀ (j : Nat) (x : In), j < k → l[j]? = some x → rightI x = true ∧ (jumpB x.op = true → x.pl ≤ l.length)
theorem Okay.all {l : List In} (h : Okay l l.length) : printsB l = true := by
  unfold printsB
  rw [List.all_eq_true]
  intro x hx
  obtain ⟨j, hj, e⟩ := List.mem_iff_getElem.1 hx
  obtain ⟨h1, h2⟩ := h j x hj (by rw [← e]; exact List.getElem?_eq_getElem hj)
  by_cases hj : jumpB x.op = true
  · simp [h1, hj, h2 hj]
  · simp [h1, hj]
theorem not_right {l : List In} {k : Nat} {x : In} (hx : l[k]? = some x) (h : rightI x = false) : printsB l = false := by
  unfold printsB
  rw [List.all_eq_false]
  exact ⟨x, List.mem_of_getElem? hx, by simp [h]⟩
theorem not_led {l : List In} {k : Nat} {x : In} (hx : l[k]? = some x) (h : jumpB x.op = true) (h2 : (l.length : Int) < x.pl) : printsB l = false := by
  unfold printsB
  rw [List.all_eq_false]
  refine ⟨x, List.mem_of_getElem? hx, ?_⟩
  have : ¬ x.pl ≤ l.length := by omega
  simp [h, this]
theorem led_snoc {l : List In} {k : Nat} {x : In} (hx : l[k]? = some x) : ledB (l.take (k + 1)) = ledB (l.take k) ++ (if jumpB x.op then [x.pl.toNat] else []) := by
  unfold ledB
  rw [List.take_add_one, hx]
  simp only [Option.toList, List.filter_append, List.map_append]
  congr 1
  by_cases h : jumpB x.op = true <;> simp [h]
theorem led_length (l : List In) : (ledB l).length ≤ l.length := by
  unfold ledB
  rw [List.length_map]
  exact List.length_filter_le _ _
def labOf (led : List Nat) (k : Nat) : Bs := if k ∈ led then labelL k ++ [58, 10] else []
/-- What is still to be printed, from instruction k on. -/
def restOf (led : List Nat) (l : List In) (k : Nat) : Bs := if k ≤ l.length then printFrom led k (l.drop k) else []
theorem rest_step {led : List Nat} {l : List In} {k : Nat} {x : In} (hx : l[k]? = some x) : restOf led l k = labOf led k ++ (spellL x ++ 10 :: restOf led l (k + 1)) := by
  obtain ⟨h1, h2⟩ := List.getElem?_eq_some_iff.1 hx
  unfold restOf labOf
  rw [if_pos (show k ≤ l.length by omega), if_pos (show k + 1 ≤ l.length by omega), List.drop_eq_getElem_cons h1, h2]
  show (if k ∈ led then labelL k ++ [58, 10] else []) ++ spellL x ++ 10 :: printFrom led (k + 1) (l.drop (k + 1)) = _
  rw [List.append_assoc]
theorem rest_last (led : List Nat) (l : List In) : restOf led l l.length = labOf led l.length := by
  unfold restOf labOf
  rw [if_pos (Nat.le_refl _), List.drop_length]
  rfl
theorem restOf_len (led : List Nat) (l : List In) (k : Nat) (h : l.length ≤ 60) : (restOf led l k).length ≤ 6100 := by
  unfold restOf
  split
  · have := print_len led (l.drop k) k (by simp; omega)
    simp at this; omega
  · simp

theorem glue2 {p q : ByteArray} {a b : Bs} (m n : Nat) (hp : p = S a) (hq : q = S b) (ha : a.length ≤ m) (hb : b.length ≤ n) (h : m + n ≤ 100000) : ∃ t, t = S (a ++ b) ∧ (a ++ b).length ≤ m + n ∧ ∀ W, (Op.stringOp .add p q).run Tryz.prog W = .ok (.string t) W := by
  subst hp hq
  exact ⟨_, rfl, by rw [List.length_append]; omega, sadd a b (by omega)⟩
theorem printL_len (l : List In) (h : l.length ≤ 60) : (printL l).length ≤ 6100 := by
  unfold printL
  have := print_len (ledB l) l 0 (by omega)
  omega
/-- Where jumps lead, in a row of the call's own. -/
def LedAt (N : Nat) (w W : World) (A : Option Addr) (m c : Nat) (l : List In) : Prop := W.ownsRow N 3 1 (.slice A m c) m (intsN (ledB l)) ∧ Below N w W ∧ N ≤ W.heap.size
theorem led_form {N m : Nat} {W : World} {v : Value} {l : List In} (h : W.ownsRow N 3 1 v m (intsN (ledB l))) : ∃ A c, v = .slice A m c ∧ True := by
  rcases h.2 with ⟨rfl, h0⟩ | ⟨g, cap, cur, rfl, _⟩
  · exact ⟨none, 0, by rw [h0], trivial⟩
  · exact ⟨_, _, rfl, trivial⟩
theorem led_cell {N m c j y : Nat} {w W : World} {A : Option Addr} {l : List In} (h : LedAt N w W A m c l) (hy : (ledB l)[j]? = some y) (hj : j < m) : ∃ g, A = some ⟨g, 0, none⟩ ∧ W.cell? ⟨g, j, none⟩ = some (.int .i64 (y : Int)) := by
  rcases h.1.2 with ⟨h1, h0⟩ | ⟨g, cap, cur, h1, _⟩
  · omega
  · injection h1 with h1 _ _
    subst h1
    refine ⟨g, rfl, ?_⟩
    rw [World.ownsRow.cellAt h.1 j (by omega)]
    simp [intsN, hy]
theorem led_next {N m c : Nat} {w W W' : World} {A : Option Addr} {l : List In} (h : LedAt N w W A m c l) (hb : Below W.heap.size W W') : LedAt N w W' A m c l :=
  ⟨World.ownsRow.kept h.1 (row := none) ⟨hb.os, hb.tape, hb.output, hb.size, fun j hj _ => hb.block j hj⟩ (by cases Value.ownBlock _ <;> simp), h.2.1.trans (hb.mono h.2.2), Nat.le_trans h.2.2 hb.size⟩
/-- A call told of an instruction that lies in memory. -/
theorem ins_kept {w0 wr : World} {N b o k : Nat} {l : List In} {x : In} (hI : Items w0 b o l) (hb : Below N w0 wr) (hlt : b < N) (hx : l[k]? = some x) :
    wr.cell? ⟨b, o + k * 5, none⟩ = some (.int .i64 x.op) ∧ wr.cell? ⟨b, o + k * 5 + 1, none⟩ = some (.int .i64 x.kd) ∧ wr.cell? ⟨b, o + k * 5 + 2, none⟩ = some (.int .i64 x.ar) ∧ wr.cell? ⟨b, o + k * 5 + 3, none⟩ = some (.int .i64 x.pl) ∧ wr.cell? ⟨b, o + k * 5 + 4, none⟩ = some (.int .i64 x.n) :=
  (hI.below hb hlt) k x hx

set_option maxRecDepth 100000 in
set_option maxHeartbeats 8000000 in
theorem rPrint_any (l : List In) (ao : Option Addr) (cap : Nat) (w : World) (hI : Lies w w.heap.size ao l) (hF : FitL l) (hl : l.length ≤ 60) :
    Calls Tryz.prog 6 #[.slice ao l.length cap] w (Tells (.tuple #[.string (S (prtL l)), .bool (printsB l)]) w) := by
  have HI := Lib.hid hI
  have HF := Lib.hid hF
  have hli : (l.length : Int) ≤ 60 := by omega
  obtain ⟨i0, hi0, hi1, hi2, hi3⟩ := info_parts infoInt
  have HN := Lib.hid (⟨hi0, hi1, hi2, hi3⟩ : _ ∧ _ ∧ _ ∧ _)
  clear hi0 hi1 hi2 hi3 hI hF hl
  have HO0 := Lib.hid (World.ownsRow_nil w w.heap.size 3 1)
  obtain ⟨N, hN⟩ : ∃ N, w.heap.size = N := ⟨_, rfl⟩
  unfold Tells
  rw [hN] at HI HO0 ⊢
  go_enter Tryz.func6, Tryz.ntmps6
  go_wp2
  go_loopw [4, 5] (fun v i wr => ∃ (k m : Nat), (k : Int) ≤ l.length ∧ (m : Int) ≤ k ∧ i = .int .i64 k ∧ Hid (Okay l k) ∧ Hid (wr.ownsRow N 3 1 v m (intsN (ledB (l.take k))) ∧ Below N w wr ∧ N ≤ wr.heap.size)) (fun _ i _ => l.length - (intOf i).toNat)
  case atStart => exact ⟨0, 0, by omega, by omega, rfl, Lib.hid (fun j x hj _ => by omega), Lib.hid ⟨HO0.out, Below.refl _ _, by omega⟩⟩
  case round =>
    obtain ⟨k, m, hk, hm, rfl, hO, hS⟩ := hrel
    by_cases hlt : (k : Int) < l.length
    · obtain ⟨x, hx⟩ : ∃ x, l[k]? = some x := ⟨_, List.getElem?_eq_getElem (by omega)⟩
      obtain ⟨b, o, rfl, hbN, hIt⟩ := HI.out (by omega)
      obtain ⟨x0, x1, x2, x3, x4⟩ := ins_kept hIt hS.out.2.1 hbN hx
      have HR := Lib.hid (fun W => rright_any x (HF.out k x hx).2.2.2.1 W)
      unfold insV at HR
      have HX := Lib.hid hx
      have HIt := Lib.hid hIt
      clear hx hIt
      cases hr : rightI x
      · rw [hr] at HR
        have HP := Lib.hid (not_right HX.out hr)
        clear hr
        go_wp2_with fail
        refine (HR.out _).mono ?_
        rintro e w1 ⟨rfl, hb1⟩
        have HB := Lib.hid (hS.out.2.1.trans (hb1.mono hS.out.2.2))
        clear hb1
        go_wp2
        go_ret2
        exact ⟨by unfold prtL; rw [HP.out]; rfl, HB.out⟩
      · rw [hr] at HR
        have HrX := Lib.hid hr
        clear hr
        go_wp2_with fail
        refine (HR.out _).mono ?_
        rintro e w1 ⟨rfl, hb1⟩
        have z0 := kept_cell hb1 x0
        have z1 := kept_cell hb1 x1
        have z2 := kept_cell hb1 x2
        have z3 := kept_cell hb1 x3
        have z4 := kept_cell hb1 x4
        have HS1 := Lib.hid (show w1.ownsRow N 3 1 _ m (intsN (ledB (l.take k))) ∧ Below N w w1 ∧ N ≤ w1.heap.size from ⟨World.ownsRow.kept hS.out.1 (row := none) ⟨hb1.os, hb1.tape, hb1.output, hb1.size, fun j hj _ => hb1.block j hj⟩ (by cases Value.ownBlock _ <;> simp), hS.out.2.1.trans (hb1.mono hS.out.2.2), Nat.le_trans hS.out.2.2 hb1.size⟩)
        clear hb1 x0 x1 x2 x3 x4 HR hS
        by_cases hj : jumpB x.op = true
        · have hj2 : (25 : Int) ≤ x.op ∧ x.op ≤ 27 := by unfold jumpB at hj; rw [decide_eq_true_iff] at hj; exact hj
          obtain ⟨j1, j2⟩ := hj2
          obtain ⟨p, hp, hp200⟩ : ∃ p : Nat, x.pl = (p : Int) ∧ (p : Int) ≤ 200 := by
            obtain ⟨g1, g2, g3, g4, g5, g6, g7, g8, g9, g10, g11⟩ := (op_facts x.op).2.2.1 hj
            cases right_way HrX.out with
            | lit h ha hp hn => rw [h] at g1; cases g1
            | get h h1 h4 ht hn => rw [h] at g1; cases g1
            | put h h1 h4 ht hn => rw [h] at g2; cases g2
            | jump h hk ha h0 h1 hn => exact ⟨x.pl.toNat, by omega, by omega⟩
            | bare h hk ha hp hn => rw [h] at g3; cases g3
            | close h hk ha hp hn => omega
            | conv h hk ha hp hn => omega
            | opens h hk ha hr2 hp hn => omega
            | timer h hk h3 h4 h0 h1 hn hm => omega
            | trig h hk h3 h4 h0 h1 hn => omega
          have HpX := Lib.hid hp
          rw [hp] at z3
          clear hp
          have HjX := Lib.hid hj
          clear hj
          by_cases hle : (p : Int) ≤ l.length
          · have hlen : ¬ (l.length : Int) < p := by omega
            have HO1 := Lib.hid (World.ownsRow.alloc HS1.out.1 (.cells #[.int .i64 (p : Int)] 3))
            have HOk := Lib.hid (show Okay l (k + 1) from fun j y hj hy => by
              by_cases e : j = k
              · subst e
                rw [HX.out] at hy
                injection hy with hy
                subst hy
                exact ⟨HrX.out, fun _ => by rw [HpX.out]; exact hle⟩
              · exact hO.out j y (by omega) hy)
            have hE := Lib.hid (show intsN (ledB (l.take k)) ++ [.int .i64 (p : Int)] = intsN (ledB (l.take (k + 1))) by
              rw [led_snoc HX.out, HjX.out, if_pos rfl, HpX.out, Int.toNat_natCast]
              simp [intsN])
            go_wp2_with (at_builtin; refine wpList_append_lies _ rfl (.tmp 43) (.tmp 49) 50 rfl N 3 i0 (.int .i64 0) 1 8 Tryz.underlying50 HN.out.1 HN.out.2.1 HN.out.2.2.1 HN.out.2.2.2 rfl (by decide) _ m (intsN (ledB (l.take k))) rfl HO1.out ⟨w1.heap.size, 0, none⟩ 1 1 [.int .i64 (p : Int)] rfl rfl (cell_one_new _ _ _) (by intro u hu; simp at hu; subst hu; rfl) (by decide) (by unfold maxLen; omega) (by omega) (by have := HS1.out.2.2; simp; omega) _ rfl ?_)
            intro g1 cp1 W hown hgr hat hlt1
            have HW := Lib.hid (show W.ownsRow N 3 1 (.slice (some ⟨g1, 0, none⟩) (m + 1) cp1) (m + 1) (intsN (ledB (l.take (k + 1)))) ∧ Below N w W ∧ N ≤ W.heap.size from ⟨by rw [← hE.out]; exact hown, below_grown HS1.out.2.1 HS1.out.2.2 hgr (fun j hj => (World.ownsRow.lt HS1.out.1 j hj).1), by have h1 := hgr.size; have h2 := HS1.out.2.2; simp at h1; omega⟩)
            clear hown hgr hat hlt1 HO1 z0 z1 z2 z3 z4 HS1
            go_wp2
            go_roundw
            case rel => exact ⟨k + 1, m + 1, by omega, by omega, by go_num, HOk, HW⟩
            case measure => simp [intOf]; omega
          · have hlen : (l.length : Int) < p := by omega
            have HP := Lib.hid (not_led HX.out HjX.out (by rw [HpX.out]; exact hlen))
            clear hle
            go_wp2
            go_ret2
            exact ⟨by unfold prtL; rw [HP.out]; rfl, HS1.out.2.1⟩
        · have hjf : jumpB x.op = false := by simpa using hj
          have HOk := Lib.hid (show Okay l (k + 1) from fun j y hj2 hy => by
            by_cases e : j = k
            · subst e
              rw [HX.out] at hy
              injection hy with hy
              subst hy
              exact ⟨HrX.out, fun h => absurd h hj⟩
            · exact hO.out j y (by omega) hy)
          have HW : Hid (w1.ownsRow N 3 1 _ m (intsN (ledB (l.take (k + 1)))) ∧ Below N w w1 ∧ N ≤ w1.heap.size) := Lib.hid (by rw [led_snoc HX.out, hjf, if_neg (by decide), List.append_nil]; exact HS1.out)
          have hj2 : ¬ (25 : Int) ≤ x.op ∨ ((25 : Int) ≤ x.op ∧ ¬ x.op ≤ 27) := by unfold jumpB at hjf; rw [decide_eq_false_iff_not] at hjf; omega
          clear hj hjf
          rcases hj2 with j1 | ⟨j1, j2⟩
          all_goals
            go_wp2
            go_roundw
            case rel => exact ⟨k + 1, m, by omega, by omega, by go_num, HOk, HW⟩
            case measure => simp [intOf]; omega
    · obtain rfl : k = l.length := by omega
      rw [List.take_length] at hS
      have HP := Lib.hid hO.out.all
      have hml : m = (ledB l).length := by
        have := hS.out.1.1
        simp [intsN] at this
        omega
      obtain ⟨A, c, hv, hcell⟩ := led_form hS.out.1
      subst hv
      have HQ0 : Hid (LedAt N w wr A m c l) := Lib.hid ⟨hS.out.1, hS.out.2.1, hS.out.2.2⟩
      have HM := Lib.hid hml
      have hm60 : (m : Int) ≤ 60 := by omega
      clear hS hcell hml hm hlt hk
      go_wp2
      go_loopw [6, 7] (fun out i w2 => ∃ (k : Nat) (t : Bs), (k : Int) ≤ l.length + 1 ∧ i = .int .i64 k ∧ out = .string (S t) ∧ Hid (printL l = t ++ restOf (ledB l) l k) ∧ Hid (LedAt N w w2 A m c l)) (fun _ i _ => l.length + 1 - (intOf i).toNat)
      case atStart => exact ⟨0, [], by omega, rfl, rfl, Lib.hid (by rw [List.nil_append]; unfold restOf printL; rw [if_pos (Nat.zero_le _), List.drop_zero]), HQ0⟩
      case round =>
        obtain ⟨k, t, hk, rfl, rfl, hEq, hQ⟩ := hrel
        have HEq := hEq
        by_cases hlt : (k : Int) ≤ l.length
        · have htl : t.length ≤ 6100 := by
            have h := congrArg List.length HEq.out
            have h2 := printL_len l (by omega)
            simp at h; omega
          go_wp2
          go_loopw [6, 8] (fun out q w3 => ∃ j : Nat, (j : Int) ≤ m ∧ q = .int .i64 j ∧ out = .string (S t) ∧ w3 = wr ∧ Hid (∀ i, i < j → (ledB l)[i]? ≠ some k)) (fun _ q _ => m - (intOf q).toNat)
          case atStart => exact ⟨0, by omega, rfl, rfl, rfl, Lib.hid (fun i hi => by omega)⟩
          case round =>
            obtain ⟨j, hj, rfl, rfl, rfl, hno⟩ := hrel
            by_cases hjm : (j : Int) < m
            · obtain ⟨y, hy⟩ : ∃ y, (ledB l)[j]? = some y := ⟨_, List.getElem?_eq_getElem (by have := HM.out; omega)⟩
              obtain ⟨g, hA, cy⟩ := led_cell hQ.out hy (by omega)
              subst hA
              by_cases hyk : y = k
              · subst hyk
                have hyy : ((y : Int) == (y : Int)) = true := by simp
                have HD := Lib.hid (fun W => rdig_any y (by omega) W)
                have hdl := dec_len19 (u := y) (by omega)
                have hmem : y ∈ ledB l := List.mem_of_getElem? hy
                obtain ⟨t5, e5, l5, m5⟩ := glue2 (q := (⟨#[76]⟩ : ByteArray)) (b := [76]) 6100 1 (show S t = S t from rfl) rfl htl (by decide) (by decide)
                obtain ⟨t6, e6, l6, m6⟩ := glue2 (q := S (Lib.decDigits y)) (b := Lib.decDigits y) 6101 19 e5 rfl l5 hdl (by decide)
                obtain ⟨t7, e7, l7, m7⟩ := glue2 (q := (⟨#[58, 10]⟩ : ByteArray)) (b := [58, 10]) 6120 2 e6 rfl l6 (by decide) (by decide)
                obtain ⟨t2, ht2⟩ : ∃ t2, t2 = t ++ [76] ++ Lib.decDigits y ++ [58, 10] := ⟨_, rfl⟩
                rw [← ht2] at e7 l7
                subst e7
                have HLab := Lib.hid (show t ++ labOf (ledB l) y = t2 by rw [ht2]; unfold labOf labelL; rw [if_pos hmem]; simp)
                have HT := Lib.hid (show True ∧ t2.length ≤ 10000 from ⟨trivial, by omega⟩)
                clear e5 e6 l5 l6 l7 ht2 hdl hmem hy
                obtain ⟨k, hky⟩ : ∃ k, k = y := ⟨_, rfl⟩
                subst hky
                go_wp2_with fail
                refine (HD.out _).mono ?_
                rintro e w5 ⟨rfl, hb5⟩
                have HQ5 := Lib.hid (led_next hQ.out hb5)
                clear hb5 cy hQ HD
                by_cases hk2 : (k : Int) < l.length
                · obtain ⟨x, hx⟩ : ∃ x, l[k]? = some x := ⟨_, List.getElem?_eq_getElem (by omega)⟩
                  obtain ⟨b, o, rfl, hbN, hIt⟩ := HI.out (by omega)
                  obtain ⟨x0, x1, x2, x3, x4⟩ := ins_kept hIt HQ5.out.2.1 hbN hx
                  have HSp := Lib.hid (fun W => rspell_any x (HF.out k x hx).2.2.2.1 W)
                  unfold insV at HSp
                  have hr2 := rest_step (led := ledB l) hx
                  have hT2 := HT.out
                  obtain ⟨t3, e3, l3, m3⟩ := glue2 (q := S (spellL x)) (b := spellL x) 10000 60 rfl rfl hT2.2 (spell_len x) (by decide)
                  obtain ⟨t4, e4, l4, m4⟩ := glue2 (q := (⟨#[10]⟩ : ByteArray)) (b := [10]) 10060 1 e3 rfl l3 (by decide) (by decide)
                  have HE := Lib.hid (show printL l = (t2 ++ spellL x ++ [10]) ++ restOf (ledB l) l (k + 1) by
                    rw [HEq.out, hr2, ← HLab.out]
                    simp)
                  have HIt := Lib.hid hIt
                  have He4 := Lib.hid e4
                  clear hx hIt hr2 hT2 e3 l3 l4 e4 HT
                  go_wp2_with fail
                  refine (HSp.out _).mono ?_
                  rintro e w9 ⟨rfl, hb9⟩
                  have HQ9 := Lib.hid (led_next HQ5.out hb9)
                  clear hb9 x0 x1 x2 x3 x4
                  go_wp2
                  go_roundw
                  case rel => exact ⟨k + 1, _, by omega, by go_num, by rw [He4.out], HE, HQ9⟩
                  case measure => simp [intOf]; omega
                · have hk3 := Lib.hid (show k = l.length by omega)
                  have HE := Lib.hid (show printL l = t2 ++ restOf (ledB l) l (k + 1) by
                    rw [HEq.out, ← HLab.out, hk3.out, rest_last, restOf, if_neg (by omega), List.append_nil])
                  clear hk3
                  go_wp2
                  go_roundw
                  case rel => exact ⟨k + 1, t2, by omega, by go_num, rfl, HE, HQ5⟩
                  case measure => simp [intOf]; omega
              · have hyy : ((y : Int) == (k : Int)) = false := by rw [beq_eq_false_iff_ne]; omega
                have hno2 := Lib.hid (show ∀ i, i < j + 1 → (ledB l)[i]? ≠ some k from fun i hi e => by
                  by_cases e2 : i = j
                  · subst e2
                    rw [hy] at e
                    exact hyk (Option.some.inj e)
                  · exact hno.out i (by omega) e)
                clear hy hyk
                go_wp2
                go_roundw
                case rel => exact ⟨j + 1, by omega, by go_num, by first | trivial | rfl, by first | trivial | rfl, hno2⟩
                case measure => simp [intOf]; omega
            · have hjm2 : j = m := by omega
              have hmem : k ∉ ledB l := fun h => by
                obtain ⟨i, hi, e⟩ := List.mem_iff_getElem.1 h
                exact hno.out i (by have := HM.out; omega) (by rw [← e]; exact List.getElem?_eq_getElem hi)
              obtain ⟨t2, ht2⟩ : ∃ t2, t2 = t := ⟨_, rfl⟩
              have HLab := Lib.hid (show t ++ labOf (ledB l) k = t2 by rw [ht2]; unfold labOf; rw [if_neg hmem, List.append_nil])
              have HT := Lib.hid (show True ∧ t2.length ≤ 10000 from ⟨trivial, by rw [ht2]; omega⟩)
              rw [← ht2]
              have Ht2 := Lib.hid ht2
              clear hmem ht2 hno
              subst hjm2
              by_cases hk2 : (k : Int) < l.length
              · obtain ⟨x, hx⟩ : ∃ x, l[k]? = some x := ⟨_, List.getElem?_eq_getElem (by omega)⟩
                obtain ⟨b, o, rfl, hbN, hIt⟩ := HI.out (by omega)
                obtain ⟨x0, x1, x2, x3, x4⟩ := ins_kept hIt hQ.out.2.1 hbN hx
                have HSp := Lib.hid (fun W => rspell_any x (HF.out k x hx).2.2.2.1 W)
                unfold insV at HSp
                have hr2 := rest_step (led := ledB l) hx
                have hT2 := HT.out
                obtain ⟨t3, e3, l3, m3⟩ := glue2 (q := S (spellL x)) (b := spellL x) 10000 60 rfl rfl hT2.2 (spell_len x) (by decide)
                obtain ⟨t4, e4, l4, m4⟩ := glue2 (q := (⟨#[10]⟩ : ByteArray)) (b := [10]) 10060 1 e3 rfl l3 (by decide) (by decide)
                have HE := Lib.hid (show printL l = (t2 ++ spellL x ++ [10]) ++ restOf (ledB l) l (k + 1) by
                  rw [HEq.out, hr2, ← HLab.out]
                  simp)
                have HIt := Lib.hid hIt
                have He4 := Lib.hid e4
                clear hx hIt hr2 hT2 e3 l3 l4 e4 HT
                go_wp2_with fail
                refine (HSp.out _).mono ?_
                rintro e w9 ⟨rfl, hb9⟩
                have HQ9 := Lib.hid (led_next hQ.out hb9)
                clear hb9 x0 x1 x2 x3 x4
                go_wp2
                go_roundw
                case rel => exact ⟨k + 1, _, by omega, by go_num, by rw [He4.out], HE, HQ9⟩
                case measure => simp [intOf]; omega
              · have hk3 := Lib.hid (show k = l.length by omega)
                have HE := Lib.hid (show printL l = t2 ++ restOf (ledB l) l (k + 1) by
                  rw [HEq.out, ← HLab.out, hk3.out, rest_last, restOf, if_neg (by omega), List.append_nil])
                clear hk3
                go_wp2
                go_roundw
                case rel => exact ⟨k + 1, t2, by omega, by go_num, rfl, HE, hQ⟩
                case measure => simp [intOf]; omega
        · have hk4 : k = l.length + 1 := by omega
          have HE := Lib.hid (show t = printL l by rw [HEq.out, hk4, restOf, if_neg (by omega), List.append_nil])
          go_wp2
          go_ret2
          exact ⟨by unfold prtL; rw [HP.out, ← HE.out]; rfl, hQ.out.2.1⟩

end Go.Proofs.YtpnjhodpbjhmcaaGreatDoor.Il
