/-
  The landed verify's Check and Kinds, walked. Conditions: numbers that an int holds.
-/
import Derived.Test.YtbejajnhgoejhaaVeFollow
namespace Go.Proofs.Ytbejajnhgoejhaa.Ve
open Go.RowKit
open Go.Proofs.Ytbejajnhgoejhaa.Il hiding Next
open Go.Proofs.Ytbejajnhgoejhaa.Ic

/-- The first error, and where. -/
def chkB (c : List In) : Nat × Nat := match allB c with
  | .error p => p
  | .ok _ => (0, 0)
theorem chk_err {c : List In} {p : Nat × Nat} (h : allB c = .error p) : chkB c = p := by unfold chkB; rw [h]
theorem chk_ok {c : List In} {l : List Ah} (h : allB c = .ok l) : chkB c = (0, 0) := by unfold chkB; rw [h]
theorem all_cases (c : List In) : (∃ r k, allB c = .error (r, k) ∧ r ≠ 0 ∧ r ≤ 10 ∧ k ≤ c.length + 200) ∨ ∃ l, allB c = .ok l ∧ WfL l ∧ l.length = c.length + 1 ∧ c.length ≤ 200 := by
  cases h : allB c with
  | ok l =>
    obtain ⟨h1, h2, _⟩ := all_ok h
    exact .inr ⟨l, rfl, (run_ok h2).1, (run_ok h2).2, h1⟩
  | error p =>
    refine .inl ⟨p.1, p.2, rfl, ?_⟩
    by_cases h2 : 200 < c.length
    · rw [all_long h2] at h
      injection h with h
      rw [← h]
      exact ⟨by decide, by decide, by show 200 ≤ _; omega⟩
    · have hgo : ∀ m, m ≤ c.length → ∀ p, runB c m = .error p → p.1 ≠ 0 ∧ p.1 ≤ 8 ∧ p.2 ≤ c.length := by
        intro m
        induction m with
        | zero => intro _ p h; cases h
        | succ m ih =>
          intro hm p hp
          cases h0 : runB c m with
          | error q =>
            have h1 := run_error 1 h0
            rw [hp] at h1
            injection h1 with h1
            rw [h1]
            exact ih (by omega) q h0
          | ok l0 =>
            obtain ⟨x, hx⟩ : ∃ x, c[m]? = some x := ⟨_, List.getElem?_eq_getElem (by omega)⟩
            by_cases hz : (stepB x m c.length l0).1 = 0
            · rw [run_next h0 hx hz] at hp; cases hp
            · rw [run_stop h0 hx hz] at hp
              injection hp with hp
              rw [← hp]
              exact ⟨hz, err_pos _ _ _ _, by show m ≤ _; omega⟩
      unfold allB at h
      rw [if_neg h2] at h
      split at h
      · next q hq =>
        injection h with h
        have := hgo _ (Nat.le_refl _) q hq
        rw [← h]
        omega
      · split at h
        · cases h
        · injection h with h
          rw [← h]
          exact ⟨by show 3 ≠ 0; omega, by show 3 ≤ 10; omega, by show c.length ≤ _; omega⟩

section
variable {c : List In} {ao : Option Addr} {cap : Nat} {w : World}
set_option maxRecDepth 100000 in
set_option maxHeartbeats 4000000 in
theorem cCheck_any (c : List In) (ao : Option Addr) (cap : Nat) (w : World) (hI : Lies w w.heap.size ao c) (hF : FitL c) (hm : c.length ≤ maxLen) :
    Calls Try.prog 7 #[.slice ao c.length cap] w (Tells (.tuple #[.int .i64 ((chkB c).1 : Nat), .int .i64 ((chkB c).2 : Nat)]) w) := by
  have HC := Lib.hid (cFollow_any c ao cap w hI hF hm)
  unfold Follows at HC
  rcases all_cases c with ⟨r, k, h, -⟩ | ⟨l, h, -⟩
  · rw [h] at HC
    rw [chk_err h]
    clear h hI hF hm
    go_enter Try.func7, Try.ntmps7
    go_wp2_with fail
    refine HC.out.mono ?_
    rintro e w1 ⟨rfl, hb⟩
    go_wp2
    go_ret2
    exact ⟨rfl, hb⟩
  · rw [h] at HC
    rw [chk_ok h]
    clear h hI hF hm
    go_enter Try.func7, Try.ntmps7
    go_wp2_with fail
    refine HC.out.mono ?_
    rintro e w1 ⟨g, rfl, -, hb⟩
    go_wp2
    go_ret2
    exact ⟨rfl, hb⟩

/-! ### Kinds -/
def kindB (a : Ah) : Int := if a.on then a.kd else -1
def kindsV (l : List Ah) (n : Nat) : List Value := (List.range n).map fun k => .int .i64 (kindB (gt l k))
/-- The row when k of n are told. -/
def kindsK (l : List Ah) (n k : Nat) : List Value := (List.range n).map fun j => if j < k then .int .i64 (kindB (gt l j)) else .int .i64 0
theorem kindsK_at {l : List Ah} {n k j : Nat} (h : j < n) : (kindsK l n k)[j]? = some (if j < k then .int .i64 (kindB (gt l j)) else .int .i64 0) := by
  unfold kindsK
  rw [List.getElem?_map, List.getElem?_range h]; rfl
theorem kindsK_len (l : List Ah) (n k : Nat) : (kindsK l n k).length = n := by unfold kindsK; simp
theorem kindsK_zero (l : List Ah) (n : Nat) : kindsK l n 0 = List.replicate n (.int .i64 0) := by
  apply List.ext_getElem?
  intro j
  by_cases h : j < n
  · rw [kindsK_at h, List.getElem?_replicate, if_pos h, if_neg (by omega)]
  · rw [List.getElem?_eq_none (by rw [kindsK_len]; omega), List.getElem?_eq_none (by simp; omega)]
theorem kindsK_set {l : List Ah} {n k : Nat} (h : k < n) : (kindsK l n k).set k (.int .i64 (kindB (gt l k))) = kindsK l n (k + 1) := by
  apply List.ext_getElem?
  intro j
  rw [List.getElem?_set, kindsK_len]
  by_cases hj : j < n
  · rw [kindsK_at hj, kindsK_at hj]
    by_cases e : k = j
    · subst e
      rw [if_pos rfl, if_pos h, if_pos (by omega)]
    · rw [if_neg e]
      congr 1
      by_cases h2 : j < k
      · rw [if_pos h2, if_pos (by omega)]
      · rw [if_neg h2, if_neg (by omega)]
  · rw [if_neg (by omega), List.getElem?_eq_none (by rw [kindsK_len]; omega), List.getElem?_eq_none (by rw [kindsK_len]; omega)]
theorem kindsK_all (l : List Ah) (n : Nat) : kindsK l n n = kindsV l n := by
  apply List.ext_getElem?
  intro j
  by_cases hj : j < n
  · rw [kindsK_at hj, if_pos hj]
    unfold kindsV
    rw [List.getElem?_map, List.getElem?_range hj]; rfl
  · rw [List.getElem?_eq_none (by rw [kindsK_len]; omega), List.getElem?_eq_none (by unfold kindsV; simp; omega)]
/-- What Kinds answers. -/
def KindsOf (w : World) (c : List In) (e : Ending) (w' : World) : Prop :=
  match allB c with
  | .error _ => e = .returned (.tuple #[.slice none 0 0, .bool false]) ∧ Below w.heap.size w w'
  | .ok l => ∃ h, e = .returned (.tuple #[.slice (some ⟨h, 0, none⟩) c.length c.length, .bool true]) ∧ w'.ownsRow w.heap.size 3 1 (.slice (some ⟨h, 0, none⟩) c.length c.length) c.length (kindsV l c.length) ∧ Below w.heap.size w w'
theorem Try.infoI : (Try.prog.info? 3).map (fun i => (i.zero, i.size, i.bytes)) = some (some (.int .i64 0), 1, 8) := by kernel_rfl
theorem mkI (n : Nat) (hn : n ≤ 4000) (w : World) : (Instr.makeSlice 30 (.int .i64 (n : Int)) (.int .i64 (n : Int))).run Try.prog w = .ok (.slice (some ⟨w.heap.size, 0, none⟩) n n) (w.alloc (.cells (madeCells #[.int .i64 0] n) 3)) := by
  obtain ⟨i0, hi0, hi1, hi2, hi3⟩ := info_parts Try.infoI
  have h := run_make (P := Try.prog) w 30 3 i0 _ Try.underlying30 hi0 hi1 .i64 .i64 n n (by omega) (by omega) (by rw [hi3]; omega) (by omega)
  rw [hi2, Int.toNat_natCast, Nat.mul_one] at h
  exact h
/-- How far Kinds has come. -/
structure Kn (w wr : World) (g h n : Nat) (l : List Ah) (k : Nat) : Prop where
  row : SRow wr w.heap.size g (n + 1) l
  own : wr.ownsRow w.heap.size 3 1 (.slice (some ⟨h, 0, none⟩) n n) n (kindsK l n k)
  below : Below w.heap.size w wr
  lt : g < h
  hg : w.heap.size ≤ g
section
variable {wr : World} {g h n k : Nat} {l : List Ah}
theorem Kn.first {w1 : World} (hR : SRow w1 w.heap.size g (n + 1) l) (hb : Below w.heap.size w w1) (hn : n ≤ 4000) : Kn w (w1.alloc (.cells (madeCells #[.int .i64 0] n) 3)) g w1.heap.size n l 0 := by
  have h := World.ownsRow_lit (base := w.heap.size) (e := 3) (size := 1) w1 (madeCells #[.int .i64 0] n) n hb.size (by unfold maxLen; omega) (by unfold madeCells; simp)
  rw [toList_madeCells_one, ← kindsK_zero l] at h
  exact ⟨hR.alloc _, h, hb.alloc hb.size _, hR.lt.2, hR.lt.1⟩
theorem SRow.other {W : World} {N g n : Nat} {l : List Ah} (h : SRow W N g n l) {b j : Nat} (hne : g ≠ b) (v : Value) : SRow (W.setCell ⟨b, j, none⟩ v) N g n l :=
  ⟨World.ownsRow.kept h.own (only_setv W b j v) (.inr (fun e => hne (by simpa [Value.ownBlock] using e))), h.len, h.wf⟩
theorem Kn.put (h0 : Kn w wr g h n l k) (hk : k < n) (u : Value) (v : Int) (hv : v = kindB (gt l k)) : Kn w ((wr.setCell ⟨h, k, none⟩ u).setCell ⟨h, k, none⟩ (.int .i64 v)) g h n l (k + 1) := by
  have hne : g ≠ h := Nat.ne_of_lt h0.lt
  have hh : w.heap.size ≤ h := Nat.le_of_lt (Nat.lt_of_le_of_lt h0.hg h0.lt)
  refine ⟨(h0.row.other hne _).other hne _, ?_, (h0.below.setCell hh _).setCell hh _, h0.lt, h0.hg⟩
  have h1 := (World.ownsRow.stored (World.ownsRow.stored h0.own k u).1 k (.int .i64 v)).1
  rw [List.set_set, hv, kindsK_set hk] at h1
  rw [hv]
  exact h1
theorem Kn.put1 (h0 : Kn w wr g h n l k) (hk : k < n) (v : Int) (hv : v = kindB (gt l k)) : Kn w (wr.setCell ⟨h, k, none⟩ (.int .i64 v)) g h n l (k + 1) := by
  have hne : g ≠ h := Nat.ne_of_lt h0.lt
  have hh : w.heap.size ≤ h := Nat.le_of_lt (Nat.lt_of_le_of_lt h0.hg h0.lt)
  refine ⟨h0.row.other hne _, ?_, h0.below.setCell hh _, h0.lt, h0.hg⟩
  have h1 := (World.ownsRow.stored h0.own k (.int .i64 v)).1
  rw [hv, kindsK_set hk] at h1
  rw [hv]
  exact h1
end

set_option maxRecDepth 100000 in
set_option maxHeartbeats 4000000 in
theorem cKinds_any (c : List In) (ao : Option Addr) (cap : Nat) (w : World) (hI : Lies w w.heap.size ao c) (hF : FitL c) (hm : c.length ≤ maxLen) :
    Calls Try.prog 9 #[.slice ao c.length cap] w (KindsOf w c) := by
  have HC := Lib.hid (cFollow_any c ao cap w hI hF hm)
  unfold Follows at HC
  unfold KindsOf
  rcases all_cases c with ⟨r, k, h, hr, hr2, -⟩ | ⟨l, h, hw, -, h200⟩
  · rw [h] at HC ⊢
    dsimp only at HC ⊢
    have hrb : ((r : Int) != 0) = true := by rw [bne_iff_ne]; omega
    clear h hI hF hm hr
    go_enter Try.func9, Try.ntmps9
    go_wp2_with fail
    refine HC.out.mono ?_
    rintro e w1 ⟨rfl, hb⟩
    go_wp2
    go_ret2
    exact ⟨rfl, hb⟩
  · rw [h] at HC ⊢
    dsimp only at HC ⊢
    have hmk := mkI c.length (by omega)
    generalize c.length = n at *
    have hn2 : (n : Int) ≤ 200 := by omega
    clear h hI hF hm
    go_enter Try.func9, Try.ntmps9
    go_wp2_with fail
    refine HC.out.mono ?_
    rintro e w1 ⟨g, rfl, hR, hb⟩
    have HK0 := Lib.hid (Kn.first hR hb (by omega))
    clear hR hb HC
    generalize madeCells #[Value.int .i64 0] n = Z at *
    go_wp2
    go_loopw [22] (fun i wr => ∃ (k : Nat), (k : Int) ≤ n ∧ i = .int .i64 k ∧ Hid (Kn w wr g w1.heap.size n l k)) (fun i _ => n - (intOf i).toNat)
    case atStart => exact ⟨0, by omega, rfl, HK0⟩
    case round =>
      obtain ⟨k, hk, rfl, hS⟩ := hrel
      clear HK0 hmk
      generalize w1.heap.size = hh at *
      by_cases hlt : (k : Int) < n
      · have hkn : k < n := by omega
        have hlt2 := hS.out.lt
        have r0 := hS.out.row.cell (k := k) (by omega) (j := 0) rfl
        have r1 := hS.out.row.cell (k := k) (by omega) (j := 1) rfl
        rw [Nat.add_zero] at r0
        have o1 := World.ownsRow.cellAt hS.out.own k (by omega)
        rw [kindsK_at hkn, if_neg (by omega)] at o1
        have o2 := World.ownsRow.frozenAt hS.out.own k
        cases hon : (gt l k).on
        · rw [hon] at r0
          have HK2 := Lib.hid (hS.out.put1 hkn (-1) (by unfold kindB; rw [hon]; rfl))
          clear hon hS
          go_wp2
          go_roundw
          case rel => exact ⟨k + 1, by omega, by go_num, HK2⟩
          case measure => simp [intOf]; omega
        · rw [hon] at r0
          have HK2 := Lib.hid (hS.out.put hkn (.int .i64 (-1)) (gt l k).kd (by unfold kindB; rw [hon]; rfl))
          clear hon hS
          generalize (gt l k).kd = kk at *
          go_wp2
          go_roundw
          case rel => exact ⟨k + 1, by omega, by go_num, HK2⟩
          case measure => simp [intOf]; omega
      · obtain rfl : k = n := by omega
        have HK := hS.out.own
        rw [kindsK_all] at HK
        have HE := Lib.hid (⟨HK, hS.out.below⟩ : _ ∧ _)
        clear hS HK
        go_wp2
        go_ret2
        exact ⟨_, rfl, HE.out.1, HE.out.2⟩
end
end Go.Proofs.Ytbejajnhgoejhaa.Ve
