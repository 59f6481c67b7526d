/-
  The landed code: letters, digits, names, numbers, the first byte of a place, walked. Conditions: the texts are of at most 100000 bytes.
-/
import Derived.Test.YtpnjhodpbjhmcaaGreatDoorIkE
import Derived.Lib.ConvBytes
namespace Go.Proofs.YtpnjhodpbjhmcaaGreatDoor.Il
open Go.RowKit
open Go.Proofs.YtpnjhodpbjhmcaaGreatDoor.Ic

/-- A text's bytes in a block. -/
def BytesAt (W : World) (g : Nat) (s : Bs) : Prop := ∀ (j : Nat) (x : UInt8), s[j]? = some x → W.cell? ⟨g, j, none⟩ = some (.int .u8 x.toNat)
theorem bytes_box (w : World) (s : Bs) (t : TypeId) : BytesAt (Lib.bytesWorld w t (S s)) w.heap.size s ∧ Below w.heap.size w (Lib.bytesWorld w t (S s)) := by
  refine ⟨fun j x hx => ?_, ⟨rfl, rfl, rfl, by rw [Lib.bytesWorld_size]; omega, fun j hj => Lib.bytesWorld_at_old w t (S s) j hj⟩⟩
  have hj := (List.getElem?_eq_some_iff.1 hx).1
  rw [Lib.bytesWorld_cell w t (S s) j (by rw [S_size]; exact hj)]
  have : (S s).data.toList.getD j 0 = x := by
    show s.getD j 0 = x
    rw [List.getD_eq_getElem?_getD, hx]
    rfl
  rw [this]

theorem letter_eq (c : UInt8) : letterB c = ((decide (65 ≤ (c.toNat : Int)) && decide ((c.toNat : Int) ≤ 90)) || (decide (97 ≤ (c.toNat : Int)) && decide ((c.toNat : Int) ≤ 122))) := by
  unfold letterB
  by_cases h1 : (97 : UInt8) ≤ c <;> by_cases h2 : c ≤ 122 <;> by_cases h3 : (65 : UInt8) ≤ c <;> by_cases h4 : c ≤ 90 <;>
    (have a1 := h1; have a2 := h2; have a3 := h3; have a4 := h4
     rw [UInt8.le_iff_toNat_le] at a1 a2 a3 a4
     have e1 : (97 : UInt8).toNat = 97 := rfl
     have e2 : (122 : UInt8).toNat = 122 := rfl
     have e3 : (65 : UInt8).toNat = 65 := rfl
     have e4 : (90 : UInt8).toNat = 90 := rfl
     rw [e1] at a1; rw [e2] at a2; rw [e3] at a3; rw [e4] at a4
     simp only [h1, h2, h3, h4]
     symm
     simp
     omega)
theorem digit_eq (c : UInt8) : digitB c = (decide (48 ≤ (c.toNat : Int)) && decide ((c.toNat : Int) ≤ 57)) := by
  unfold digitB
  by_cases h1 : (48 : UInt8) ≤ c <;> by_cases h2 : c ≤ 57 <;>
    (have a1 := h1; have a2 := h2
     rw [UInt8.le_iff_toNat_le] at a1 a2
     have e1 : (48 : UInt8).toNat = 48 := rfl
     have e2 : (57 : UInt8).toNat = 57 := rfl
     rw [e1] at a1; rw [e2] at a2
     simp only [h1, h2]
     symm
     simp
     omega)
theorem cLetter (c : UInt8) (w : World) : Calls Tryz.prog 65 #[.int .u8 c.toNat] w fun e w' => e = .returned (.bool (letterB c)) ∧ w = w' := by
  rw [letter_eq]
  generalize (c.toNat : Int) = z
  by_cases h1 : 65 ≤ z <;> by_cases h2 : z ≤ 90 <;> by_cases h3 : 97 ≤ z <;> by_cases h4 : z ≤ 122
  all_goals first | (exfalso; omega) | skip
  all_goals
    simp only [h1, h2, h3, h4, decide_true, decide_false]
    go_enter Tryz.func65, Tryz.ntmps65
    go_wp2
    go_ret
    exact ⟨rfl, rfl⟩
theorem cDigit (c : UInt8) (w : World) : Calls Tryz.prog 66 #[.int .u8 c.toNat] w fun e w' => e = .returned (.bool (digitB c)) ∧ w = w' := by
  rw [digit_eq]
  generalize (c.toNat : Int) = z
  by_cases h1 : 48 ≤ z <;> by_cases h2 : z ≤ 57
  all_goals
    simp only [h1, h2, decide_true, decide_false]
    go_enter Tryz.func66, Tryz.ntmps66
    go_wp2
    go_ret
    exact ⟨rfl, rfl⟩

/-- What may stand in a name. -/
def charB (x : UInt8) : Bool := letterB x || digitB x || decide (x = 95)
theorem name_eq (s : Bs) : nameB s = (decide (1 ≤ s.length) && decide (s.length ≤ 16) && (match s with | [] => false | c :: _ => letterB c) && s.all charB) := by
  cases s with
  | nil => rfl
  | cons c s =>
    show (letterB c && s.all charB && decide (s.length < 16)) = (decide (1 ≤ (c :: s).length) && decide ((c :: s).length ≤ 16) && letterB c && (c :: s).all charB)
    rw [List.all_cons]
    cases hl : letterB c with
    | false => simp
    | true =>
      have hc : charB c = true := by unfold charB; rw [hl]; rfl
      rw [hc]
      by_cases h : s.length < 16
      · rw [decide_eq_true h, decide_eq_true (show 1 ≤ (c :: s).length by simp), decide_eq_true (show (c :: s).length ≤ 16 by simp; omega)]
        simp
      · rw [decide_eq_false h, decide_eq_false (show ¬ (c :: s).length ≤ 16 by simp; omega)]
        simp
theorem all_split {P : UInt8 → Bool} {s : Bs} {i : Nat} {x : UInt8} (hx : s[i]? = some x) (h : (s.take i).all P = true) : (s.take (i + 1)).all P = P x ∧ (P x = false → s.all P = false) := by
  constructor
  · rw [List.take_add_one, hx, List.all_append, h]
    simp
  · intro hp
    rw [← Bool.not_eq_true, List.all_eq_true]
    intro ha
    rw [ha x (List.mem_of_getElem? hx)] at hp
    cases hp
theorem u8_95 (x : UInt8) : ((x.toNat : Int) != 95) = !(decide (x = 95)) := by
  by_cases h : x = 95
  · subst h; rfl
  · rw [decide_eq_false h]
    simp only [bne, Bool.not_false]
    rw [Bool.not_eq_true', beq_eq_false_iff_ne]
    intro e
    apply h
    exact UInt8.toNat_inj.1 (by have : (95 : UInt8).toNat = 95 := rfl; omega)

set_option maxRecDepth 100000 in
set_option maxHeartbeats 4000000 in
theorem cIsName (s : Bs) (hs : s.length ≤ 100000) (w : World) : Calls Tryz.prog 48 #[.string (S s)] w (Tells (.bool (nameB s)) w) := by
  have hsz := S_size s
  rw [name_eq]
  by_cases h1 : 1 ≤ s.length
  · by_cases h16 : s.length ≤ 16
    · rw [decide_eq_true h1, decide_eq_true h16]
      obtain ⟨c, t, rfl⟩ : ∃ c t, s = c :: t := by
        cases s with
        | nil => simp at h1
        | cons c t => exact ⟨c, t, rfl⟩
      simp only [Bool.true_and]
      have i0 : 0 < (S (c :: t)).size := by rw [hsz]; exact h1
      have hx0 : ∀ h, (S (c :: t))[0]'h = c := fun h => S_at (c :: t) 0 c rfl h
      have HL := Lib.hid (fun (x : UInt8) W => cLetter x W)
      have HG := Lib.hid (fun (x : UInt8) W => cDigit x W)
      have h1i : (1 : Int) ≤ ((c :: t).length : Int) := by omega
      have h16i : ((c :: t).length : Int) ≤ 16 := by omega
      have hL0 := fun W => HL.out c W
      cases hl : letterB c with
      | false =>
        rw [hl] at hL0
        replace hL0 := Lib.hid hL0
        simp only [Bool.false_and]
        generalize hn : (c :: t).length = n at *
        generalize S (c :: t) = b at *
        go_enter Tryz.func48, Tryz.ntmps48
        go_wp2_with fail
        refine (hL0.out _).mono ?_
        rintro e w1 ⟨rfl, rfl⟩
        go_wp2
        go_ret
        exact ⟨rfl, Below.refl _ _⟩
      | true =>
        rw [hl] at hL0
        replace hL0 := Lib.hid hL0
        simp only [Bool.true_and]
        have hconv := Lib.run_convert_string_bytes (P := Tryz.prog) w 9 41 5 (S (c :: t)) Tryz.underlying9 Tryz.underlying41 Tryz.underlying5
        obtain ⟨hB, hW⟩ := bytes_box w (c :: t) 5
        replace hB := Lib.hid hB
        replace hW := Lib.hid hW
        generalize hss : c :: t = ss at *
        generalize Lib.bytesWorld w 5 (S ss) = W1 at *
        generalize hNN : w.heap.size = NN at *
        rw [hsz] at hconv
        have hhs := Lib.hid hss
        clear hss
        generalize hn : ss.length = n at *
        generalize S ss = b at *
        clear h1 h16
        go_enter Tryz.func48, Tryz.ntmps48
        go_wp2_with fail
        refine (hL0.out _).mono ?_
        rintro e w1 ⟨rfl, rfl⟩
        go_wp2
        go_loopw [22] (fun q wr => ∃ i : Nat, i ≤ n ∧ q = .int .i64 i ∧ Hid ((ss.take i).all charB = true) ∧ wr = W1) (fun q _ => n - (intOf q).toNat)
        case atStart => exact ⟨0, by omega, rfl, Lib.hid rfl, rfl⟩
        case round =>
          obtain ⟨i, hi, rfl, ha, rfl⟩ := hrel
          by_cases hlt : i < n
          · have hI : (i : Int) < (n : Int) := by omega
            obtain ⟨x, hx⟩ : ∃ x, ss[i]? = some x := ⟨_, List.getElem?_eq_getElem (by omega)⟩
            have c0 := hB.out i x hx
            have hLx := Lib.hid (fun W => HL.out x W)
            have hGx := Lib.hid (fun W => HG.out x W)
            have h95 := u8_95 x
            have hsp := Lib.hid (all_split hx ha.out)
            have hch : charB x = (letterB x || digitB x || decide (x = 95)) := rfl
            cases hlx : letterB x with
            | true =>
              rw [hlx] at hLx hch
              rw [hch] at hsp
              clear hch h95 hGx
              go_wp2_with fail
              refine (hLx.out _).mono ?_
              rintro e w2 ⟨rfl, rfl⟩
              go_wp2
              go_roundw
              case rel => exact ⟨i + 1, by omega, by go_num, Lib.hid hsp.out.1, trivial⟩
              case measure => simp [intOf]; omega
            | false =>
              rw [hlx] at hLx hch
              cases hgx : digitB x with
              | true =>
                rw [hgx] at hGx hch
                rw [hch] at hsp
                clear hch h95
                go_wp2_with fail
                refine (hLx.out _).mono ?_
                rintro e w2 ⟨rfl, rfl⟩
                go_wp2_with fail
                refine (hGx.out _).mono ?_
                rintro e w3 ⟨rfl, rfl⟩
                go_wp2
                go_roundw
                case rel => exact ⟨i + 1, by omega, by go_num, Lib.hid hsp.out.1, trivial⟩
                case measure => simp [intOf]; omega
              | false =>
                rw [hgx] at hGx hch
                by_cases hx95 : x = 95
                · rw [decide_eq_true hx95] at h95 hch
                  rw [hch] at hsp
                  clear hch hx95
                  go_wp2_with fail
                  refine (hLx.out _).mono ?_
                  rintro e w2 ⟨rfl, rfl⟩
                  go_wp2_with fail
                  refine (hGx.out _).mono ?_
                  rintro e w3 ⟨rfl, rfl⟩
                  go_wp2
                  go_roundw
                  case rel => exact ⟨i + 1, by omega, by go_num, Lib.hid hsp.out.1, trivial⟩
                  case measure => simp [intOf]; omega
                · rw [decide_eq_false hx95] at h95 hch
                  rw [hch] at hsp
                  have hfl := Lib.hid (hsp.out.2 rfl)
                  clear hch hx95 hsp
                  go_wp2_with fail
                  refine (hLx.out _).mono ?_
                  rintro e w2 ⟨rfl, rfl⟩
                  go_wp2_with fail
                  refine (hGx.out _).mono ?_
                  rintro e w3 ⟨rfl, rfl⟩
                  go_wp2
                  go_ret
                  exact ⟨by rw [hfl.out]; rfl, by rw [hNN]; exact hW.out⟩
          · obtain rfl : i = n := by omega
            have hfa := Lib.hid (show ss.all charB = true by
              have := ha.out
              rwa [List.take_of_length_le (by omega)] at this)
            go_wp2
            go_ret
            exact ⟨by rw [hfa.out]; rfl, by rw [hNN]; exact hW.out⟩
    · rw [decide_eq_true h1, decide_eq_false h16]
      simp only [Bool.true_and, Bool.false_and]
      have h1i : (1 : Int) ≤ (s.length : Int) := by omega
      have h16i : (16 : Int) < (s.length : Int) := by omega
      generalize s.length = n at *
      generalize S s = b at *
      clear h1 h16 hs
      go_enter Tryz.func48, Tryz.ntmps48
      go_wp2
      go_ret
      exact ⟨rfl, Below.refl _ _⟩
  · rw [decide_eq_false h1]
    simp only [Bool.false_and]
    have h1i : (s.length : Int) < 1 := by omega
    generalize s.length = n at *
    generalize S s = b at *
    clear h1 hs
    go_enter Tryz.func48, Tryz.ntmps48
    go_wp2
    go_ret
    exact ⟨rfl, Below.refl _ _⟩

end Go.Proofs.YtpnjhodpbjhmcaaGreatDoor.Il

namespace Go.Proofs.YtpnjhodpbjhmcaaGreatDoor.Il
open Go.RowKit
open Go.Proofs.YtpnjhodpbjhmcaaGreatDoor.Ic

theorem val_take {s : Bs} {i : Nat} {x : UInt8} (hx : s[i]? = some x) : valB (s.take (i + 1)) = 10 * valB (s.take i) + (x.toNat - 48) := by
  rw [List.take_add_one, hx]
  exact val_snoc _ x
theorem digit_val {x : UInt8} (h : digitB x = true) : 48 ≤ x.toNat ∧ x.toNat ≤ 57 := by
  rw [digit_eq] at h
  simp at h
  omega
theorem val_lt_take (s : Bs) (h : s.all digitB = true) : ∀ i, i ≤ s.length → valB (s.take i) < 10 ^ i
  | 0, _ => by rw [List.take_zero]; decide
  | i + 1, hi => by
    have hx : s[i]? = some s[i] := List.getElem?_eq_getElem (by omega)
    rw [val_take hx]
    have ih := val_lt_take s h i (by omega)
    have hd := digit_val (List.all_eq_true.1 h s[i] (List.getElem_mem _))
    rw [Nat.pow_succ]
    omega
theorem val_lt (s : Bs) (h : s.all digitB = true) : valB s < 10 ^ s.length := by
  have := val_lt_take s h s.length (Nat.le_refl _)
  rwa [List.take_length] at this
/-- What readDigits answers. -/
def numV (most : Nat) (s : Bs) : Value := match numB most s with
  | some v => .tuple #[.int .i64 v, .bool true]
  | none => .tuple #[.int .i64 0, .bool false]

set_option maxRecDepth 100000 in
set_option maxHeartbeats 4000000 in
theorem cDigits (s : Bs) (most : Nat) (hm : 1 ≤ most ∧ most ≤ 10) (w : World) : Calls Tryz.prog 96 #[.string (S s), .int .i64 most] w (Tells (numV most s) w) := by
  have hsz := S_size s
  by_cases h1 : 1 ≤ s.length
  · by_cases hle : s.length ≤ most
    · have hne : s ≠ [] := fun e => by subst e; simp at h1
      have hv : numV most s = if s.all digitB = true then .tuple #[.int .i64 (valB s : Nat), .bool true] else .tuple #[.int .i64 0, .bool false] := by
        unfold numV numB
        by_cases ha : s.all digitB = true
        · rw [if_pos ⟨hne, hle, ha⟩, if_pos ha]
        · rw [if_neg (fun h => ha h.2.2), if_neg ha]
      have HV := Lib.hid hv
      clear hv
      generalize numV most s = V at *
      have HG := Lib.hid (fun (x : UInt8) W => cDigit x W)
      have hconv := Lib.run_convert_string_bytes (P := Tryz.prog) w 9 41 5 (S s) Tryz.underlying9 Tryz.underlying41 Tryz.underlying5
      obtain ⟨hB, hW⟩ := bytes_box w s 5
      replace hB := Lib.hid hB
      replace hW := Lib.hid hW
      have h1i : (1 : Int) ≤ (s.length : Int) := by omega
      have hli : (s.length : Int) ≤ (most : Int) := by omega
      have hml : s.length ≤ 10 := by omega
      generalize Lib.bytesWorld w 5 (S s) = W1 at *
      generalize hNN : w.heap.size = NN at *
      rw [hsz] at hconv
      clear hne
      generalize hn : s.length = n at *
      generalize S s = b at *
      have d1 : decide ((n : Int) < 1) = false := by simp; omega
      have d2 : decide ((most : Int) < (n : Int)) = false := by simp; omega
      have d3 : decide (most < n) = false := by simp; omega
      clear h1 hle h1i hli
      go_enter Tryz.func96, Tryz.ntmps96
      go_wp2
      go_loopw [6, 21] (fun v q wr => ∃ i : Nat, i ≤ n ∧ q = .int .i64 i ∧ Hid ((s.take i).all digitB = true) ∧ v = .int .i64 (valB (s.take i) : Nat) ∧ wr = W1) (fun _ q _ => n - (intOf q).toNat)
      case atStart => exact ⟨0, by omega, rfl, Lib.hid rfl, rfl, rfl⟩
      case round =>
        obtain ⟨i, hi, rfl, ha, rfl, rfl⟩ := hrel
        by_cases hlt : i < n
        · have hI : (i : Int) < (n : Int) := by omega
          obtain ⟨x, hx⟩ : ∃ x, s[i]? = some x := ⟨_, List.getElem?_eq_getElem (by omega)⟩
          have c0 := hB.out i x hx
          have hGx := Lib.hid (fun W => HG.out x W)
          have hsp := Lib.hid (all_split hx ha.out)
          cases hgx : digitB x with
          | true =>
            rw [hgx] at hGx hsp
            have hdv := digit_val hgx
            have hbd : valB (s.take i) < 1000000000 := by
              have h2 := val_lt _ ha.out
              have h3 : (s.take i).length ≤ 9 := by rw [List.length_take]; omega
              have h4 : 10 ^ (s.take i).length ≤ 10 ^ 9 := Nat.pow_le_pow_right (by omega) h3
              omega
            have hvt := Lib.hid (val_take hx)
            generalize valB (s.take i) = v at *
            obtain ⟨v2, hv2⟩ : ∃ v2, v2 = valB (s.take (i + 1)) := ⟨_, rfl⟩
            rw [← hv2] at hvt
            replace hv2 := Lib.hid hv2
            have e1 : IntKind.i64.wrap ((v : Int) * 10) = (v : Int) * 10 := by rw [IntKind.wrap_i64]; omega
            have e2 : IntKind.u8.wrap ((x.toNat : Int) - 48) = ((x.toNat - 48 : Nat) : Int) := by
              simp [IntKind.wrap, IntKind.bits, IntKind.signed]; omega
            have e3 : IntKind.i64.wrap ((x.toNat - 48 : Nat) : Int) = ((x.toNat - 48 : Nat) : Int) := by rw [IntKind.wrap_i64]; omega
            have e4 : IntKind.i64.wrap ((v : Int) * 10 + ((x.toNat - 48 : Nat) : Int)) = (v2 : Int) := by rw [IntKind.wrap_i64, hvt.out]; omega
            clear hdv hbd
            go_wp2_with fail
            refine (hGx.out _).mono ?_
            rintro e w3 ⟨rfl, rfl⟩
            go_wp2
            go_roundw
            case rel => exact ⟨i + 1, by omega, by go_num, Lib.hid hsp.out.1, by rw [hv2.out], trivial⟩
            case measure => simp [intOf]; omega
          | false =>
            rw [hgx] at hGx hsp
            have hfl := Lib.hid (hsp.out.2 rfl)
            clear hsp
            go_wp2_with fail
            refine (hGx.out _).mono ?_
            rintro e w3 ⟨rfl, rfl⟩
            go_wp2
            go_ret2
            exact ⟨by rw [HV.out, hfl.out]; rfl, by rw [hNN]; exact hW.out⟩
        · obtain rfl : i = n := by omega
          have hfa := Lib.hid (show s.all digitB = true ∧ s.take i = s by
            have := ha.out
            rw [List.take_of_length_le (by omega)] at this
            exact ⟨this, List.take_of_length_le (by omega)⟩)
          go_wp2
          go_ret2
          exact ⟨by rw [HV.out, if_pos hfa.out.1, show valB s = valB (s.take s.length) by rw [List.take_length]]; subst hn; rfl, by rw [hNN]; exact hW.out⟩
    · have hv : numV most s = .tuple #[.int .i64 0, .bool false] := by
        unfold numV numB
        rw [if_neg (fun h => hle h.2.1)]
      rw [hv]
      have h1i : (1 : Int) ≤ (s.length : Int) := by omega
      have hli : (most : Int) < (s.length : Int) := by omega
      clear hv
      generalize s.length = n at *
      generalize S s = b at *
      clear h1 hle
      go_enter Tryz.func96, Tryz.ntmps96
      go_wp2
      go_ret2
      exact ⟨rfl, Below.refl _ _⟩
  · have hv : numV most s = .tuple #[.int .i64 0, .bool false] := by
      unfold numV numB
      rw [if_neg (fun h => by have := List.length_pos_iff.2 h.1; omega)]
    rw [hv]
    have h1i : (s.length : Int) < 1 := by omega
    clear hv
    generalize s.length = n at *
    generalize S s = b at *
    clear h1
    go_enter Tryz.func96, Tryz.ntmps96
    go_wp2
    go_ret2
    exact ⟨rfl, Below.refl _ _⟩

end Go.Proofs.YtpnjhodpbjhmcaaGreatDoor.Il

namespace Go.Proofs.YtpnjhodpbjhmcaaGreatDoor.Il
open Go.RowKit
open Go.Proofs.YtpnjhodpbjhmcaaGreatDoor.Ic

theorem area_index (a : UInt8) : (Lib.indexByte [73, 81, 77, 82] a = -1 ∧ areaOf a = none) ∨ ∃ k : Nat, k < 4 ∧ Lib.indexByte [73, 81, 77, 82] a = (k : Int) ∧ areaOf a = some ((k : Int) + 1) := by
  by_cases h1 : a = 73
  · subst h1; exact .inr ⟨0, by omega, rfl, rfl⟩
  by_cases h2 : a = 81
  · subst h2; exact .inr ⟨1, by omega, rfl, rfl⟩
  by_cases h3 : a = 77
  · subst h3; exact .inr ⟨2, by omega, rfl, rfl⟩
  by_cases h4 : a = 82
  · subst h4; exact .inr ⟨3, by omega, rfl, rfl⟩
  · left
    constructor
    · simp [Lib.indexByte, Ne.symm h1, Ne.symm h2, Ne.symm h3, Ne.symm h4]
    · unfold areaOf
      rw [if_neg h1, if_neg h2, if_neg h3, if_neg h4]
theorem ext_two (c a : UInt8) (t : Bs) : (S (c :: a :: t)).extract 2 (S (c :: a :: t)).size = S t := by
  rw [ext_S, S_size]
  congr 1
  unfold Lib.pieceU
  rw [List.take_of_length_le (by simp)]
  rfl
/-- What readSpot answers. -/
def spotV (s : Bs) : Value := match spotB s with
  | some q => .tuple #[.int .i64 q.1, .int .i64 q.2, .bool true]
  | none => .tuple #[.int .i64 0, .int .i64 0, .bool false]
theorem spot_none {s : Bs} (h : spotB s = none) : spotV s = .tuple #[.int .i64 0, .int .i64 0, .bool false] := by unfold spotV; rw [h]

theorem u8_at (c : UInt8) (z : Int) (d : UInt8) (hd : (d.toNat : Int) = z) : ((c.toNat : Int) == z) = decide (c = d) := by
  by_cases h : c = d
  · subst h; rw [hd]; simp
  · rw [decide_eq_false h, beq_eq_false_iff_ne]
    intro e
    exact h (UInt8.toNat_inj.1 (by omega))

set_option maxRecDepth 100000 in
set_option maxHeartbeats 4000000 in
theorem cSpot0 (s : Bs) (hs : s.length ≤ 100000) (w : World) : Calls Tryz.prog 79 #[.string (S s)] w (Tells (spotV s) w) := by
  have hsz := S_size s
  by_cases h3 : s.length < 3
  · have hv : spotB s = none := by
      match s, h3 with
      | [], _ => rfl
      | [c], _ => rfl
      | [c, a], _ =>
        show (if c = 37 then (areaOf a).bind fun ar => (smallB []).map fun p : Nat => (ar, (p : Int)) else none) = none
        have : smallB [] = none := by decide
        rw [this]
        split
        · cases areaOf a <;> rfl
        · rfl
      | c :: a :: b :: t, h => simp at h; omega
    rw [spot_none hv]
    have hI : (s.length : Int) < 3 := by omega
    clear hv h3 hs
    generalize s.length = n at *
    generalize S s = b at *
    go_enter Tryz.func79, Tryz.ntmps79
    go_wp2
    go_ret3
    exact ⟨rfl, Below.refl _ _⟩
  · obtain ⟨c, a, t, rfl, ht⟩ : ∃ c a t, s = c :: a :: t ∧ t ≠ [] := by
      match s, h3 with
      | [], h => simp at h
      | [c], h => simp at h
      | [c, a], h => simp at h
      | c :: a :: b :: t, h => exact ⟨c, a, b :: t, rfl, by simp⟩
    have i0 : 0 < (S (c :: a :: t)).size := by rw [hsz]; omega
    have i1 : 1 < (S (c :: a :: t)).size := by rw [hsz]; omega
    have i2 : 2 < (S (c :: a :: t)).size := by rw [hsz]; omega
    have hx0 : ∀ h, (S (c :: a :: t))[0]'h = c := fun h => S_at (c :: a :: t) 0 c rfl h
    have hx1 : ∀ h, (S (c :: a :: t))[1]'h = a := fun h => S_at (c :: a :: t) 1 a rfl h
    have hI : (3 : Int) ≤ ((c :: a :: t).length : Int) := by omega
    have hsp : spotB (c :: a :: t) = if c = 37 then (areaOf a).bind fun ar => (smallB t).map fun p : Nat => (ar, (p : Int)) else none := rfl
    have hq := u8_at c 37 37 rfl
    by_cases hc : c = 37
    · rw [if_pos hc] at hsp
      rw [decide_eq_true hc] at hq
      have HI := Lib.hid (fun W => cIndex [73, 81, 77, 82] a W)
      have HD := Lib.hid (fun W => cDigits t 2 (by omega) W)
      have he2 := ext_two c a t
      rw [hsz] at he2
      have hq2 : ((c.toNat : Int) != 37) = false := by rw [bne]; rw [show ((c.toNat : Int) == 37) = true from hq]; rfl
      have d3 : decide (((c :: a :: t).length : Int) < 3) = false := by rw [decide_eq_false_iff_not]; omega
      clear hq
      obtain ⟨d, t', rfl⟩ : ∃ d t', t = d :: t' := by
        cases t with
        | nil => exact absurd rfl ht
        | cons d t' => exact ⟨d, t', rfl⟩
      have hx2 : ∀ h, (S (c :: a :: d :: t'))[2]'h = d := fun h => S_at (c :: a :: d :: t') 2 d rfl h
      have hq48 := u8_at d 48 48 rfl
      have hlen : (c :: a :: d :: t').length = t'.length + 3 := rfl
      clear hs h3 hI ht hc
      rcases area_index a with ⟨hz, ha⟩ | ⟨k, hk, hz, ha⟩
      · have hv : spotB (c :: a :: d :: t') = none := by rw [hsp, ha]; rfl
        rw [spot_none hv]
        rw [hz] at HI
        clear hv hsp ha hz hq48 hlen
        have e1 : IntKind.i64.wrap (-1 + 1) = 0 := rfl
        unfold numV at HD
        generalize (c :: a :: d :: t').length = n at *
        generalize S (c :: a :: d :: t') = b at *
        generalize S (d :: t') = tl at *
        cases hnm : numB 2 (d :: t') with
        | none =>
          rw [hnm] at HD
          clear hnm
          go_enter Tryz.func79, Tryz.ntmps79
          go_wp2_with fail
          refine (HI.out _).mono ?_
          rintro e w1 ⟨rfl, rfl⟩
          go_wp2_with fail
          refine (HD.out _).mono ?_
          rintro e w2 ⟨rfl, hb2⟩
          go_wp2
          go_ret3
          exact ⟨rfl, hb2⟩
        | some v =>
          rw [hnm] at HD
          clear hnm
          go_enter Tryz.func79, Tryz.ntmps79
          go_wp2_with fail
          refine (HI.out _).mono ?_
          rintro e w1 ⟨rfl, rfl⟩
          go_wp2_with fail
          refine (HD.out _).mono ?_
          rintro e w2 ⟨rfl, hb2⟩
          go_wp2
          go_ret3
          exact ⟨rfl, hb2⟩
      · rw [hz] at HI
        have e1 : IntKind.i64.wrap ((k : Int) + 1) = (k : Int) + 1 := by rw [IntKind.wrap_i64]; omega
        have hk1 : decide ((k : Int) + 1 < 1) = false := by rw [decide_eq_false_iff_not]; omega
        rw [ha] at hsp
        unfold numV at HD
        cases hnm : numB 2 (d :: t') with
        | none =>
          have hv : spotB (c :: a :: d :: t') = none := by
            rw [hsp]
            show (smallB (d :: t')).map _ = none
            unfold smallB
            rw [hnm]
            split <;> rfl
          rw [spot_none hv]
          rw [hnm] at HD
          clear hv hsp ha hz hnm hq48 hlen
          generalize (c :: a :: d :: t').length = n at *
          generalize S (c :: a :: d :: t') = b at *
          generalize S (d :: t') = tl at *
          go_enter Tryz.func79, Tryz.ntmps79
          go_wp2_with fail
          refine (HI.out _).mono ?_
          rintro e w1 ⟨rfl, rfl⟩
          go_wp2_with fail
          refine (HD.out _).mono ?_
          rintro e w2 ⟨rfl, hb2⟩
          go_wp2
          go_ret3
          exact ⟨rfl, hb2⟩
        | some v =>
          have hl2 : t'.length ≤ 1 := by
            unfold numB at hnm
            split at hnm
            · next h => have := h.2.1; simp at this; omega
            · cases hnm
          rw [hnm] at HD
          by_cases hd : d = 48
          · rw [decide_eq_true hd] at hq48
            by_cases ht' : t'.length = 1
            · have hv : spotB (c :: a :: d :: t') = none := by
                rw [hsp]
                show (smallB (d :: t')).map _ = none
                unfold smallB
                rw [if_pos ⟨by simp; omega, by rw [hd]; rfl⟩]
                rfl
              rw [spot_none hv]
              have hn4 : (((c :: a :: d :: t').length : Nat) : Int) = 4 := by rw [hlen]; omega
              clear hv hsp ha hz hnm hd ht' hl2 hlen d3
              generalize (c :: a :: d :: t').length = n at *
              generalize S (c :: a :: d :: t') = b at *
              generalize S (d :: t') = tl at *
              go_enter Tryz.func79, Tryz.ntmps79
              go_wp2_with fail
              refine (HI.out _).mono ?_
              rintro e w1 ⟨rfl, rfl⟩
              go_wp2_with fail
              refine (HD.out _).mono ?_
              rintro e w2 ⟨rfl, hb2⟩
              go_wp2
              go_ret3
              exact ⟨rfl, hb2⟩
            · have hv : spotV (c :: a :: d :: t') = .tuple #[.int .i64 ((k : Int) + 1), .int .i64 (v : Int), .bool true] := by
                unfold spotV
                rw [hsp]
                show (match (smallB (d :: t')).map (fun p : Nat => ((k : Int) + 1, (p : Int))) with | some q => _ | none => _) = _
                unfold smallB
                rw [if_neg (fun h => by have := h.1; simp at this; omega), hnm]
                rfl
              rw [hv]
              have hn3 : decide (3 < (((c :: a :: d :: t').length : Nat) : Int)) = false := by rw [decide_eq_false_iff_not, hlen]; omega
              have hn3' : decide (3 < (c :: a :: d :: t').length) = false := by rw [decide_eq_false_iff_not, hlen]; omega
              clear hv hsp ha hz hnm hd ht' hl2 hlen
              generalize (c :: a :: d :: t').length = n at *
              generalize S (c :: a :: d :: t') = b at *
              generalize S (d :: t') = tl at *
              go_enter Tryz.func79, Tryz.ntmps79
              go_wp2_with fail
              refine (HI.out _).mono ?_
              rintro e w1 ⟨rfl, rfl⟩
              go_wp2_with fail
              refine (HD.out _).mono ?_
              rintro e w2 ⟨rfl, hb2⟩
              go_wp2
              go_ret3
              exact ⟨rfl, hb2⟩
          · rw [decide_eq_false hd] at hq48
            have hv : spotV (c :: a :: d :: t') = .tuple #[.int .i64 ((k : Int) + 1), .int .i64 (v : Int), .bool true] := by
              unfold spotV
              rw [hsp]
              show (match (smallB (d :: t')).map (fun p : Nat => ((k : Int) + 1, (p : Int))) with | some q => _ | none => _) = _
              unfold smallB
              rw [if_neg (fun h => hd (Option.some.inj h.2)), hnm]
              rfl
            rw [hv]
            clear hv hsp ha hz hnm hd hl2 hlen
            generalize (c :: a :: d :: t').length = n at *
            generalize S (c :: a :: d :: t') = b at *
            generalize S (d :: t') = tl at *
            go_enter Tryz.func79, Tryz.ntmps79
            go_wp2_with fail
            refine (HI.out _).mono ?_
            rintro e w1 ⟨rfl, rfl⟩
            go_wp2_with fail
            refine (HD.out _).mono ?_
            rintro e w2 ⟨rfl, hb2⟩
            go_wp2
            go_ret3
            exact ⟨rfl, hb2⟩
    · rw [if_neg hc] at hsp
      rw [decide_eq_false hc] at hq
      rw [spot_none hsp]
      have hq2 : ((c.toNat : Int) != 37) = true := by rw [bne]; rw [show ((c.toNat : Int) == 37) = false from hq]; rfl
      have d3 : decide (((c :: a :: t).length : Int) < 3) = false := by rw [decide_eq_false_iff_not]; omega
      clear hsp hc h3 hs hI hq ht
      generalize (c :: a :: t).length = n at *
      generalize S (c :: a :: t) = b at *
      go_enter Tryz.func79, Tryz.ntmps79
      go_wp2
      go_ret3
      exact ⟨rfl, Below.refl _ _⟩

end Go.Proofs.YtpnjhodpbjhmcaaGreatDoor.Il
