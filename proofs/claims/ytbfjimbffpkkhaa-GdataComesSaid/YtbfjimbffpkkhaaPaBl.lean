/-
  Parts, Piece, Cut, and the reference's All: walked. Conditions: as each states.
-/
import Derived.Test.YtbfjimbffpkkhaaPaBase
namespace Go.Proofs.Ytbfjimbffpkkhaa.Pa
open Go.RowKit

theorem info_parts {P : Program} {t : TypeId} {z : Option Value} {a b : Nat} (h : (P.info? t).map (fun i => (i.zero, i.size, i.bytes)) = some (z, a, b)) : ∃ i, P.info? t = some i ∧ i.zero = z ∧ i.size = a ∧ i.bytes = b := by
  cases hi : P.info? t with
  | none => rw [hi] at h; cases h
  | some i =>
    rw [hi] at h
    simp at h
    exact ⟨i, rfl, h.1, h.2.1, h.2.2⟩
theorem own_base {w : World} {base n size : Nat} {e : TypeId} {v : Value} {xs : List Value} (h : w.ownsRow base e size v n xs) (g : Nat) (hg : v.ownBlock = some g) : base ≤ g := by
  rcases h.2 with ⟨rfl, _⟩ | ⟨g', cap, cur, rfl, hb, _⟩
  · simp [Value.ownBlock] at hg
  · simp [Value.ownBlock] at hg; omega
theorem own_form {w : World} {base n size : Nat} {e : TypeId} {v : Value} {xs : List Value} (h : w.ownsRow base e size v n xs) : ∃ A c, v = .slice A n c := by
  rcases h.2 with ⟨rfl, h0⟩ | ⟨g', cap, cur, rfl, _⟩
  · exact ⟨none, 0, by rw [h0]⟩
  · exact ⟨_, _, rfl⟩
theorem cell_one_new (w : World) (v : Value) (t : TypeId) : ∀ (j : Nat) (u : Value), [v][j]? = some u → (w.alloc (.cells #[v] t)).cell? ((⟨w.heap.size, 0, none⟩ : Addr).add j) = some u := by
  intro j u hu
  match j with
  | 0 =>
    simp at hu
    subst hu
    simp [Addr.add]
  | j + 1 => simp at hu

theorem cParts_any (n : Int) (w : World) : Calls Try.prog 26 #[.int .i64 n] w (fun e w' => e = .returned (.int .i64 (partsN n)) ∧ w = w') := by
  obtain ⟨R, hR⟩ : ∃ R : Int, R = partsN n := ⟨_, rfl⟩
  rw [← hR]
  unfold partsN at hR
  by_cases h1 : n < 1
  · obtain rfl : R = 0 := by rw [hR, if_neg (by omega)]
    have e1 : decide (n < 1) = true := decide_eq_true h1
    clear hR h1
    go_enter Try.func26, Try.ntmps26
    go_wp2
    go_ret
    exact ⟨rfl, rfl⟩
  · have e1 : decide (n < 1) = false := decide_eq_false h1
    by_cases h2 : 64 < n
    · obtain rfl : R = 0 := by rw [hR, if_neg (by omega)]
      have e2 : decide (64 < n) = true := decide_eq_true h2
      clear hR
      go_enter Try.func26, Try.ntmps26
      go_wp2
      go_ret
      exact ⟨rfl, rfl⟩
    · have e2 : decide (64 < n) = false := decide_eq_false h2
      rw [if_pos (by omega)] at hR
      have hw1 : IntKind.i64.wrap (n + 16) = n + 16 := by rw [IntKind.wrap_i64]; omega
      have hw2 : IntKind.i64.wrap (n + 16 - 1) = n + 15 := by rw [IntKind.wrap_i64]; omega
      have hd : (n + 15).tdiv 16 = R := by rw [hR, Int.tdiv_eq_ediv_of_nonneg (by omega)]
      have hw3 : IntKind.i64.wrap R = R := by rw [IntKind.wrap_i64]; omega
      go_enter Try.func26, Try.ntmps26
      go_wp2
      go_ret
      exact ⟨rfl, rfl⟩
set_option maxRecDepth 100000 in
set_option maxHeartbeats 4000000 in
theorem cPiece_any (n p : Int) (w : World) (hp : I64 p) : Calls Try.prog 40 #[.int .i64 n, .int .i64 p] w (fun e w' => e = .returned (.tuple #[.int .i64 (atP n p), .int .i64 (lenP n p)]) ∧ w = w') := by
  obtain ⟨A, hA⟩ : ∃ A : Int, A = atP n p := ⟨_, rfl⟩
  obtain ⟨L, hL⟩ : ∃ L : Int, L = lenP n p := ⟨_, rfl⟩
  rw [← hA, ← hL]
  unfold atP at hA
  unfold lenP at hL
  unfold I64 at hp
  by_cases h1 : p < 0
  · have hh : ¬ hasP n p = true := by rw [has_iff]; omega
    rw [if_neg hh] at hA hL
    subst hA hL
    have e1 : decide (p < 0) = true := decide_eq_true h1
    clear h1 hh hp
    go_enter Try.func40, Try.ntmps40
    go_wp2
    go_ret2
    exact ⟨rfl, rfl⟩
  · have e1 : decide (p < 0) = false := decide_eq_false h1
    have HP := Lib.hid (cParts_any n w)
    by_cases h2 : partsN n ≤ p
    · have hh : ¬ hasP n p = true := by rw [has_iff]; omega
      rw [if_neg hh] at hA hL
      subst hA hL
      have e2 : decide (partsN n ≤ p) = true := decide_eq_true h2
      clear h1 hh hp h2
      generalize partsN n = P at *
      go_enter Try.func40, Try.ntmps40
      go_wp2_with fail
      refine (HP.out).mono ?_
      rintro e w1 ⟨rfl, rfl⟩
      go_wp2
      go_ret2
      exact ⟨rfl, rfl⟩
    · have hh : hasP n p = true := by rw [has_iff]; omega
      rw [if_pos hh] at hA hL
      have hb := has_bd hh
      have e2 : decide (partsN n ≤ p) = false := decide_eq_false h2
      have hw1 : IntKind.i64.wrap (p * 16) = A := by rw [IntKind.wrap_i64]; omega
      have hw2 : IntKind.i64.wrap (n - A) = n - A := by rw [IntKind.wrap_i64]; omega
      have hmin : ∀ (ts : Array TypeId) (t : TypeId) (W : World), (Builtin.min_ ts t #[.int .i64 (n - A), .int .i64 16]).run Try.prog W = .ok (.int .i64 L) W := fun ts t W => by
        rw [run_min_int2, hL, hA]
        by_cases h : 16 < n - p * 16
        · rw [if_pos h, show min (n - p * 16) 16 = 16 by omega]
        · rw [if_neg h, show min (n - p * 16) 16 = n - p * 16 by omega]
      clear h1 hh hp h2 hA hL hb
      generalize partsN n = P at *
      go_enter Try.func40, Try.ntmps40
      go_wp2_with fail
      refine (HP.out).mono ?_
      rintro e w1 ⟨rfl, rfl⟩
      go_wp2
      go_ret2
      exact ⟨rfl, rfl⟩

set_option maxRecDepth 100000 in
set_option maxHeartbeats 4000000 in
theorem cCut_any (v : Bs) (p : Int) (w : World) (hv : v.length ≤ maxLen) (hp : I64 p) : Calls Try.prog 34 #[.string (S v), .int .i64 p] w (fun e w' => e = .returned (.string (S (cutL v p))) ∧ w = w') := by
  have hs : (S v).size = v.length := S_size v
  have HP := Lib.hid (cPiece_any v.length p w hp)
  have hb := at_bd v.length p (by omega)
  have hmi : (v.length : Int) ≤ 9223372036854775807 := by unfold maxLen at hv; omega
  have hC : cutL v p = (v.take ((atP v.length p).toNat + (lenP v.length p).toNat)).drop (atP v.length p).toNat := by
    unfold cutL
    rw [List.drop_take]
    congr 1
    omega
  obtain ⟨a, ha⟩ : ∃ a : Nat, (a : Int) = atP v.length p := ⟨(atP v.length p).toNat, by omega⟩
  obtain ⟨n, hn⟩ : ∃ n : Nat, (n : Int) = lenP v.length p := ⟨(lenP v.length p).toNat, by omega⟩
  rw [← ha, ← hn] at hC hb HP
  rw [Int.toNat_natCast, Int.toNat_natCast] at hC
  have hr := (S_cut v a (a + n)).trans (congrArg S hC.symm)
  obtain ⟨R, hR⟩ : ∃ R, R = S (cutL v p) := ⟨_, rfl⟩
  rw [← hR] at hr ⊢
  have hw1 : IntKind.i64.wrap ((a : Int) + n) = ((a + n : Nat) : Int) := by rw [IntKind.wrap_i64]; omega
  have hle : a + n ≤ (S v).size := by rw [hs]; omega
  clear ha hn hC hR
  go_enter Try.func34, Try.ntmps34
  go_wp2_with fail
  refine (HP.out).mono ?_
  rintro e w1 ⟨rfl, rfl⟩
  go_wp2
  go_ret
  exact ⟨by rw [← hr]; rfl, rfl⟩

theorem infoStr : (Try.prog.info? 9).map (fun i => (i.zero, i.size, i.bytes)) = some (some (.string ⟨#[]⟩), 1, 16) := by kernel_rfl
def strs (l : List Bs) : List Value := l.map (fun x => .string (S x))
theorem strs_length (l : List Bs) : (strs l).length = l.length := by simp [strs]
theorem strs_at (l : List Bs) (i : Nat) (h : i < l.length) : (strs l)[i]? = some (.string (S (l.getD i []))) := by
  simp [strs, h]
/-- Texts in a row of the call's own. -/
def SRow (N : Nat) (w : World) (v : Value) (l : List Bs) : Prop := w.ownsRow N 9 1 v l.length (strs l)
theorem SRow.nil (N : Nat) (w : World) : SRow N w (.slice none 0 0) [] := ⟨rfl, .inl ⟨rfl, rfl⟩⟩
theorem SRow.cellAt {N : Nat} {w : World} {g cap : Nat} {l : List Bs} (h : SRow N w (.slice (some ⟨g, 0, none⟩) l.length cap) l) {i : Nat} (hi : i < l.length) : w.cell? ⟨g, i, none⟩ = some (.string (S (l.getD i []))) :=
  (World.ownsRow.cellAt (show w.ownsRow N 9 1 _ l.length (strs l) from h) i (by omega)).trans (strs_at l i hi)

set_option maxRecDepth 100000 in
set_option maxHeartbeats 4000000 in
theorem rAll_any (v : Bs) (w : World) (hv : v.length ≤ 100) : Calls Try.prog 36 #[.string (S v)] w fun e w' => ∃ u, e = .returned u ∧ SRow w.heap.size w' u (pcsL v (numN v)) ∧ Below w.heap.size w w' := by
  obtain ⟨i0, hi, hz0, hz1, hz2⟩ := info_parts infoStr
  have HZ := Lib.hid (⟨hi, hz0, hz1, hz2⟩ : _ ∧ _ ∧ _ ∧ _)
  have HS := Lib.hid (show Below w.heap.size w w ∧ SRow w.heap.size w (.slice none 0 0) (pcsL v 0) from ⟨Below.refl _ _, SRow.nil _ _⟩)
  clear hi hz0 hz1 hz2
  go_enter Try.func36, Try.ntmps36
  go_wp2
  generalize hN : w.heap.size = N at *
  go_loopw [0, 3] (fun t u W => ∃ k : Nat, 16 * k ≤ v.length ∧ (k = 0 ∨ 16 * k < v.length) ∧ t = .string (S (v.drop (16 * k))) ∧ Hid (Below N w W ∧ SRow N W u (pcsL v k))) (fun t _ _ => match t with | .string s => s.size | _ => 0)
  case atStart => exact ⟨0, Nat.zero_le _, .inl rfl, rfl, HS⟩
  case round =>
    obtain ⟨k, hk, hk0, rfl, hS⟩ := hrel
    clear HS
    have hpl := pcs_len v k
    obtain ⟨A, c, rfl⟩ := own_form hS.out.2
    have hsz : N ≤ wr.heap.size := by have := hS.out.1.size; omega
    have hlen : (v.drop (16 * k)).length = v.length - 16 * k := List.length_drop
    have hs : (S (v.drop (16 * k))).size = v.length - 16 * k := by rw [S_size]; exact hlen
    obtain ⟨t, ht⟩ : ∃ t, t = v.drop (16 * k) := ⟨_, rfl⟩
    obtain ⟨m, hm⟩ : ∃ m, m = v.length - 16 * k := ⟨_, rfl⟩
    rw [← ht, ← hm] at hs hlen
    rw [← ht]
    have hk8 : (pcsL v k).length ≤ 100 := by rw [hpl]; omega
    by_cases h16 : 16 < m
    · have e1 : decide ((16 : Int) < (m : Int)) = true := by simp; omega
      have hx : (S t).extract 0 16 = S (pcL v k) := by rw [S_cut]; unfold pcL; rw [← ht]; rfl
      have hy : (S t).extract 16 m = S (v.drop (16 * (k + 1))) := by
        rw [S_cut, List.take_of_length_le (by omega), ht, drop_next]
      have hy2 : (S (v.drop (16 * (k + 1)))).size < m := by rw [S_size, List.length_drop]; omega
      have hk1 : 16 * (k + 1) ≤ v.length ∧ 16 * (k + 1) < v.length := by omega
      have hpn := pcs_next v k
      generalize pcL v k = x at *
      have HY := Lib.hid hy
      have HX := Lib.hid hx
      have HO := Lib.hid (hS.out.2.alloc (.cells #[.string ((S t).extract 0 16)] 9))
      have HP := Lib.hid hpn
      clear hpn hx hy ht hm hk hk0 hlen hpl
      go_wp2_with (at_builtin; refine wpList_append_own _ rfl (.tmp 7) (.tmp 10) 23 rfl N 9 i0 (.string ⟨#[]⟩) 1 16 Try.underlying23 HZ.out.1 HZ.out.2.1 HZ.out.2.2.1 HZ.out.2.2.2 rfl (by decide) _ (pcsL v k).length (strs (pcsL v k)) rfl HO.out ⟨wr.heap.size, 0, none⟩ 1 1 [.string ((S t).extract 0 16)] rfl rfl (cell_one_new _ _ _) (by intro u hu; simp at hu; subst hu; rfl) (by unfold maxLen; omega) (by omega) (by simp; omega) ?_)
      intro v1 w1 hown hgrow _
      have hS1 := Lib.hid (show Below N w w1 ∧ SRow N w1 v1 (pcsL v (k + 1)) by
        have hbel : Below N wr w1 := ((Below.refl N wr).alloc hsz _).grown hgrow (by simp; omega) (fun g hg => own_base hS.out.2 g hg)
        refine ⟨hS.out.1.trans hbel, ?_⟩
        rw [HP.out]
        rw [HX.out] at hown
        unfold SRow; simpa [strs] using hown)
      clear hown hgrow HO
      go_wp2
      go_roundw
      case rel => exact ⟨k + 1, hk1.1, .inr hk1.2, by rw [HY.out], hS1⟩
      case measure => rw [HY.out]; show (S (v.drop (16 * (k + 1)))).size < (S t).size; omega
    · have e1 : decide ((16 : Int) < (m : Int)) = false := by simp; omega
      by_cases hz : t = []
      · have hs0 : (S t).toList.isEmpty = true := by rw [toL, hz]; rfl
        have hnum : numN v = k := by
          unfold numN
          have : m = 0 := by rw [← hlen, hz]; rfl
          omega
        have hH := Lib.hid (show SRow N wr _ (pcsL v (numN v)) ∧ Below N w wr from ⟨by rw [hnum]; exact hS.out.2, hS.out.1⟩)
        clear hnum hz ht hm hk hk0 hlen hpl
        go_wp2
        go_ret
        exact ⟨_, rfl, hN ▸ hH.out.1, hN ▸ hH.out.2⟩
      · have hs0 : (S t).toList.isEmpty = false := by rw [toL, ← Bool.not_eq_true, List.isEmpty_iff]; exact hz
        have hm0 : 0 < m := by rw [← hlen]; exact List.length_pos_iff.2 hz
        have hnum : numN v = k + 1 := by unfold numN; omega
        have hx : S t = S (pcL v k) := by unfold pcL; rw [← ht, List.take_of_length_le (by omega)]
        have hpn := Lib.hid (pcs_next v k)
        have HX := Lib.hid hx
        have HN := Lib.hid hnum
        have HO := Lib.hid (hS.out.2.alloc (.cells #[.string (S t)] 9))
        clear hnum hz ht hm hk hk0 hlen hpl hx
        go_wp2_with (at_builtin; refine wpList_append_own _ rfl (.tmp 16) (.tmp 18) 23 rfl N 9 i0 (.string ⟨#[]⟩) 1 16 Try.underlying23 HZ.out.1 HZ.out.2.1 HZ.out.2.2.1 HZ.out.2.2.2 rfl (by decide) _ (pcsL v k).length (strs (pcsL v k)) rfl HO.out ⟨wr.heap.size, 0, none⟩ 1 1 [.string (S t)] rfl rfl (cell_one_new _ _ _) (by intro u hu; simp at hu; subst hu; rfl) (by unfold maxLen; omega) (by omega) (by simp; omega) ?_)
        intro v1 w1 hown hgrow _
        have hS1 := Lib.hid (show SRow N w1 v1 (pcsL v (numN v)) ∧ Below N w w1 by
          have hbel : Below N wr w1 := ((Below.refl N wr).alloc hsz _).grown hgrow (by simp; omega) (fun g hg => own_base hS.out.2 g hg)
          refine ⟨?_, hS.out.1.trans hbel⟩
          rw [HN.out, hpn.out]
          rw [HX.out] at hown
          unfold SRow; simpa [strs] using hown)
        clear hown hgrow HO
        go_wp2
        go_ret
        exact ⟨_, rfl, hN ▸ hS1.out.1, hN ▸ hS1.out.2⟩
end Go.Proofs.Ytbfjimbffpkkhaa.Pa
