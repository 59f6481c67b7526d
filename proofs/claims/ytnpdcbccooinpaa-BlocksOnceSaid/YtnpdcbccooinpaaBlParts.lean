/-
  BlocksParts: it returns true. Conditions: none.
-/
import Derived.Test.YtnpdcbccooinpaaBlLaw
namespace Go.Proofs.Ytnpdcbccooinpaa.Bl
open Go.RowKit

theorem S_app (a b : Bs) : S a ++ S b = S (a ++ b) := by
  unfold S
  apply ByteArray.ext
  simp
theorem sadd (a b : Bs) (h : a.length + b.length ≤ 1000) (W : World) : (Op.stringOp .add (S a) (S b)).run Try.prog W = .ok (.string (S (a ++ b))) W :=
  run_string_add_lists (P := Try.prog) W a b (by omega) (by omega)
theorem take_all (v : Bs) : v.take (16 * numN v) = v := List.take_of_length_le (by unfold numN; omega)
theorem SRow.kept {N : Nat} {w w' : World} {v : Value} {l : List Bs} (h : SRow N w v l) (hb : Below w.heap.size w w') : SRow N w' v l := own_kept h hb

set_option maxRecDepth 100000 in
set_option maxHeartbeats 8000000 in
theorem parts_walk (v : Bs) (p : Int) (w : World) (hp : I64 p) (hv : v.length ≤ maxLen) :
    Calls Try.prog 4 #[.string (S v), .int .i64 p] w (Tells (.bool true) w) := by
  have hs : (S v).size = v.length := S_size v
  have hmi : (v.length : Int) ≤ 9223372036854775807 := by unfold maxLen at hv; omega
  by_cases h100 : 100 < v.length
  · have e1 : decide ((100 : Int) < (v.length : Int)) = true := by simp; omega
    go_enter Try.func4, Try.ntmps4
    go_wp2_with fail
    refine (wake_any _).mono ?_
    rintro e w1 ⟨rfl, hb1⟩
    have HB1 := Lib.hid hb1
    clear hb1
    go_wp2
    go_ret
    exact ⟨rfl, HB1.out⟩
  have e1 : decide ((100 : Int) < (v.length : Int)) = false := by simp; omega
  have HAl := Lib.hid (fun W => rAll_any v W (by omega))
  have HPa := Lib.hid (fun W => cParts_any v.length W)
  have HPi := Lib.hid (fun q W (h : I64 q) => cPiece_any v.length q W h)
  have HCu := Lib.hid (fun q W (h : I64 q) => cCut_any v q W hv h)
  by_cases h64 : 64 < v.length
  · have e2 : decide ((64 : Int) < (v.length : Int)) = true := by simp; omega
    have hpn := parts_long h64
    have hh : hasP v.length p = false := by
      rw [← Bool.not_eq_true, has_iff, hpn]; omega
    obtain ⟨c1, c2, c3⟩ := cut_none hh
    have HI := Lib.hid (fun W => HPi.out p W hp)
    have HC := Lib.hid (fun W => HCu.out p W hp)
    rw [c2, c3] at HI
    rw [c1] at HC
    rw [hpn] at HPa
    have hne : (S v).toList.isEmpty = false := by
      rw [toL, ← Bool.not_eq_true, List.isEmpty_iff]
      intro h
      rw [h] at h64
      simp at h64
    have hne2 : ((S []).toList) = [] := toL []
    have hne3 : ((S []).toList == (S v).toList) = false := by
      rw [beq_eq_false_iff_ne, toL, toL]
      intro h
      rw [← h] at h64
      simp at h64
    clear hh c1 c2 c3 HPi HCu hpn h64
    by_cases h0 : p < 0
    · have e3 : decide (p < 0) = true := decide_eq_true h0
      go_enter Try.func4, Try.ntmps4
      go_wp2_with fail
      refine (wake_any _).mono ?_
      rintro e w1 ⟨rfl, hb1⟩
      have HB1 := Lib.hid hb1
      clear hb1
      go_wp2_with fail
      refine (HAl.out _).mono ?_
      rintro e w2 ⟨u, rfl, hr, hb1⟩
      have HB2 := Lib.hid (HB1.out.trans (hb1.mono HB1.out.size))
      clear hb1 HB1
      obtain ⟨A, c, rfl⟩ := own_form hr
      clear hr
      go_wp2_with fail
      refine (HPa.out _).mono ?_
      rintro e w3 ⟨rfl, rfl⟩
      go_wp2
      go_loopw [6, 31] (fun t i W => t = .string (S []) ∧ i = .int .i64 0 ∧ Hid (Below w.heap.size w W)) (fun _ _ _ => 0)
      case atStart => exact ⟨rfl, rfl, HB2⟩
      case round =>
        obtain ⟨rfl, rfl, HB5⟩ := hrel
        clear HB2
        go_wp2_with fail
        refine (HI.out _).mono ?_
        rintro e w5 ⟨rfl, rfl⟩
        go_wp2_with fail
        refine (HC.out _).mono ?_
        rintro e w6 ⟨rfl, rfl⟩
        go_wp2
        go_ret
        exact ⟨rfl, HB5.out⟩
    · have e3 : decide (p < 0) = false := decide_eq_false h0
      have e4 : decide (0 ≤ p) = true := decide_eq_true (by omega)
      go_enter Try.func4, Try.ntmps4
      go_wp2_with fail
      refine (wake_any _).mono ?_
      rintro e w1 ⟨rfl, hb1⟩
      have HB1 := Lib.hid hb1
      clear hb1
      go_wp2_with fail
      refine (HAl.out _).mono ?_
      rintro e w2 ⟨u, rfl, hr, hb1⟩
      have HB2 := Lib.hid (HB1.out.trans (hb1.mono HB1.out.size))
      clear hb1 HB1
      obtain ⟨A, c, rfl⟩ := own_form hr
      clear hr
      go_wp2_with fail
      refine (HPa.out _).mono ?_
      rintro e w3 ⟨rfl, rfl⟩
      go_wp2
      go_loopw [6, 31] (fun t i W => t = .string (S []) ∧ i = .int .i64 0 ∧ Hid (Below w.heap.size w W)) (fun _ _ _ => 0)
      case atStart => exact ⟨rfl, rfl, HB2⟩
      case round =>
        obtain ⟨rfl, rfl, HB5⟩ := hrel
        clear HB2
        go_wp2_with fail
        refine (HI.out _).mono ?_
        rintro e w5 ⟨rfl, rfl⟩
        go_wp2_with fail
        refine (HC.out _).mono ?_
        rintro e w6 ⟨rfl, rfl⟩
        go_wp2
        go_ret
        exact ⟨rfl, HB5.out⟩
  · have e2 : decide ((64 : Int) < (v.length : Int)) = false := by simp; omega
    have hnp := num_parts (v := v) (by omega)
    rw [hnp] at HPa
    have hm4 : numN v ≤ 4 := by unfold numN; omega
    have hcut := Lib.hid (fun (k : Nat) (h : k < numN v) => cut_pc (v := v) (k := k) (by omega) h)
    have hta := Lib.hid (take_all v)
    have hno := Lib.hid (fun (h : ¬ (0 ≤ p ∧ p < (numN v : Nat))) => cut_none (v := v) (p := p) (by rw [← Bool.not_eq_true, has_iff, hnp]; exact h))
    have hpcl := pcs_len v (numN v)
    generalize numN v = m at *
    have hpcl := Lib.hid hpcl
    clear hnp
    go_enter Try.func4, Try.ntmps4
    go_wp2_with fail
    refine (wake_any _).mono ?_
    rintro e w1 ⟨rfl, hb1⟩
    have HB1 := Lib.hid hb1
    clear hb1
    go_wp2_with fail
    refine (HAl.out _).mono ?_
    rintro e w2 ⟨u, rfl, hr, hb1⟩
    have HB2 := Lib.hid (HB1.out.trans (hb1.mono HB1.out.size))
    generalize w1.heap.size = N1 at *
    clear hb1 HB1
    obtain ⟨A, c, rfl⟩ := own_form hr
    have HR2 : Hid (w2.ownsRow N1 9 1 (.slice A m c) m (strs (pcsL v m))) := Lib.hid (by have := hr; unfold SRow at this; rwa [hpcl.out] at this)
    rw [hpcl.out]
    clear hr
    go_wp2_with fail
    refine (HPa.out _).mono ?_
    rintro e w3 ⟨rfl, rfl⟩
    go_wp2
    go_loopw [6, 31] (fun t i W => ∃ q : Nat, q ≤ m ∧ t = .string (S (v.take (16 * q))) ∧ i = .int .i64 q ∧ Hid (Below w.heap.size w W ∧ W.ownsRow N1 9 1 (.slice A m c) m (strs (pcsL v m)))) (fun _ i _ => m - (intOf i).toNat)
    case atStart => exact ⟨0, by omega, rfl, rfl, Lib.hid ⟨HB2.out, HR2.out⟩⟩
    case round =>
      obtain ⟨q, hq, rfl, rfl, hP⟩ := hrel
      clear HB2 HR2
      by_cases hqm : q < m
      · have e9 : decide ((q : Int) < (m : Int)) = true := by simp; omega
        obtain ⟨g, rfl⟩ : ∃ g, A = some ⟨g, 0, none⟩ := by
          rcases hP.out.2.2 with ⟨h, h0⟩ | ⟨g', cap, cur, h, _⟩
          · injection h with _ h _; omega
          · injection h with h _ _; exact ⟨g', h⟩
        have hc0 : wr.cell? ⟨g, q, none⟩ = some (.string (S (pcL v q))) := (World.ownsRow.cellAt hP.out.2 q (by omega)).trans (by
          unfold strs
          rw [List.getElem?_map, pcs_at v hqm]
          rfl)
        obtain ⟨x1, x2, x3, x4, x5⟩ := hcut.out q hqm
        have HIq := fun W => HPi.out q W ⟨by omega, by omega⟩
        have HCq := fun W => HCu.out q W ⟨by omega, by omega⟩
        simp only [x2, x3] at HIq
        simp only [x1] at HCq
        replace HIq := Lib.hid HIq
        replace HCq := Lib.hid HCq
        have hlq : (S (v.take (16 * q))).size = 16 * q := by
          rw [S_size, List.length_take]
          have : (pcL v q).length ≤ v.length - 16 * q := by unfold pcL; rw [List.length_take, List.length_drop]; omega
          omega
        have hsx := S_size (pcL v q)
        have hadd := sadd (v.take (16 * q)) (pcL v q) (by rw [List.length_take]; omega)
        rw [pc_all] at hadd
        have ht : ∃ t, t = v.take (16 * (q + 1)) := ⟨_, rfl⟩
        clear x1 x2 x3
        generalize pcL v q = x at *
        generalize v.take (16 * q) = t0 at *
        obtain ⟨t, ht⟩ := ht
        rw [← ht] at hadd
        have HT := Lib.hid ht
        clear ht
        obtain ⟨n, hn⟩ : ∃ n : Nat, n = x.length := ⟨_, rfl⟩
        rw [← hn] at hsx x4 x5 HIq
        have e5 : decide ((n : Int) < 1) = false := by simp; omega
        have e6 : decide ((16 : Int) < (n : Int)) = false := by simp; omega
        have ex : ((16 : Int) * (q : Int)) = ((16 * q : Nat) : Int) := by omega
        rw [ex] at HIq
        clear ex hn
        go_wp2_with fail
        refine (HIq.out _).mono ?_
        rintro e w5 ⟨rfl, rfl⟩
        go_wp2_with fail
        refine (HCq.out _).mono ?_
        rintro e w6 ⟨rfl, rfl⟩
        go_wp2
        go_roundw
        case rel => exact ⟨q + 1, by omega, by rw [HT.out], by go_num, hP⟩
        case measure => simp [intOf]; omega
      · obtain rfl : q = m := by omega
        rw [hta.out]
        have e7 : ((S v).toList == (S v).toList) = true := by simp
        by_cases h0 : p < 0
        · have e3 : decide (p < 0) = true := decide_eq_true h0
          obtain ⟨c1, c2, c3⟩ := hno.out (by omega)
          have HI := fun W => HPi.out p W hp
          have HC := fun W => HCu.out p W hp
          simp only [c2, c3] at HI
          simp only [c1] at HC
          have hne2 : ((S []).toList) = [] := toL []
          clear c1 c2 c3
          replace HI := Lib.hid HI
          replace HC := Lib.hid HC
          go_wp2_with fail
          refine (HI.out _).mono ?_
          rintro e w5 ⟨rfl, rfl⟩
          go_wp2_with fail
          refine (HC.out _).mono ?_
          rintro e w6 ⟨rfl, rfl⟩
          go_wp2
          go_ret
          exact ⟨rfl, hP.out.1⟩
        · have e3 : decide (p < 0) = false := decide_eq_false h0
          by_cases h1 : (q : Int) ≤ p
          · have e4 : decide ((q : Int) ≤ p) = true := decide_eq_true h1
            obtain ⟨c1, c2, c3⟩ := hno.out (by omega)
            have HI := fun W => HPi.out p W hp
            have HC := fun W => HCu.out p W hp
            simp only [c2, c3] at HI
            simp only [c1] at HC
            have hne2 : ((S []).toList) = [] := toL []
            clear c1 c2 c3
            replace HI := Lib.hid HI
            replace HC := Lib.hid HC
            go_wp2_with fail
            refine (HI.out _).mono ?_
            rintro e w5 ⟨rfl, rfl⟩
            go_wp2_with fail
            refine (HC.out _).mono ?_
            rintro e w6 ⟨rfl, rfl⟩
            go_wp2
            go_ret
            exact ⟨rfl, hP.out.1⟩
          · have e4 : decide ((q : Int) ≤ p) = false := decide_eq_false h1
            go_wp2
            go_ret
            exact ⟨rfl, hP.out.1⟩
end Go.Proofs.Ytnpdcbccooinpaa.Bl
