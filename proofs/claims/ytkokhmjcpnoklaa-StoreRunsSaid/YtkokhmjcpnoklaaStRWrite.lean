/-
  The reference's Write, walked. Conditions: none but on sizes.
-/
import Derived.Test.YtkokhmjcpnoklaaStRef
namespace Go.Proofs.Ytkokhmjcpnoklaa.Sto
open Go.RowKit

/-- One more byte laid. -/
theorem Row.one {w : World} {h : Nat} {l s : List UInt8} {k i : Nat} (hr : Row w h (lay l k (s.take i))) (hi : i < s.length) (hfit : k + s.length ≤ l.length) :
    Row (w.setCell ⟨h, k + i, none⟩ (.int .u8 ((s.getD i 0).toNat : Int))) h (lay l k (s.take (i + 1))) := by
  have hl1 : (s.take i).length = i := by rw [List.length_take]; omega
  have hl2 : (s.take (i + 1)).length = i + 1 := by rw [List.length_take]; omega
  have e1 : k + (s.take i).length ≤ l.length := by omega
  have e2 : k + (s.take (i + 1)).length ≤ l.length := by omega
  intro j hj
  rw [lay_length e2] at hj
  obtain ⟨hc, hf⟩ := hr j (by rw [lay_length e1]; exact hj)
  refine ⟨?_, (World.frozen?_setCell _ _ _ _).trans hf⟩
  by_cases hji : j = k + i
  · subst hji
    rw [World.cell?_setCell_same _ _ _ hc, lay_getD e2, if_pos (by omega)]
    simp [List.getD_eq_getElem?_getD, hi]
  · rw [World.cell?_setCell_other _ _ _ _ (by intro e; injection e with _ e; exact hji e.symm), hc, lay_getD e1, lay_getD e2]
    have : (if k ≤ j ∧ j < k + (s.take i).length then (s.take i).getD (j - k) 0 else l.getD j 0) = (if k ≤ j ∧ j < k + (s.take (i + 1)).length then (s.take (i + 1)).getD (j - k) 0 else l.getD j 0) := by
      by_cases hin : k ≤ j ∧ j < k + i
      · rw [if_pos (by omega), if_pos (by omega)]
        simp only [List.getD_eq_getElem?_getD, List.getElem?_take]
        rw [if_pos (by omega), if_pos (by omega)]
      · rw [if_neg (by omega), if_neg (by omega)]
    rw [this]

theorem RefAt.one {w : World} {q h cap : Nat} {l s : List UInt8} {u : Bool} {z n : Int} {k i : Nat} (hr : RefAt w q h cap (lay l k (s.take i)) u z n) (hi : i < s.length) (hfit : k + s.length ≤ l.length) :
    RefAt (w.setCell ⟨h, k + i, none⟩ (.int .u8 ((s.getD i 0).toNat : Int))) q h cap (lay l k (s.take (i + 1))) u z n := by
  have hf : ∀ o, (w.setCell ⟨h, k + i, none⟩ (.int .u8 ((s.getD i 0).toNat : Int))).frozen? ⟨q, o, none⟩ = w.frozen? ⟨q, o, none⟩ := fun o => World.frozen?_setCell _ _ _ _
  have hc : ∀ o, (w.setCell ⟨h, k + i, none⟩ (.int .u8 ((s.getD i 0).toNat : Int))).cell? ⟨q, o, none⟩ = w.cell? ⟨q, o, none⟩ := fun o => World.cell?_setCell_other _ _ _ _ (by intro e; injection e with e _; exact hr.ne e.symm)
  have e1 : (lay l k (s.take i)).length = l.length := lay_length (by rw [List.length_take]; omega)
  have e2 : (lay l k (s.take (i + 1))).length = l.length := lay_length (by rw [List.length_take]; omega)
  have c0 := hr.c0
  rw [e1] at c0
  exact ⟨hr.ne, by rw [heap_set_size]; exact hr.lt, by rw [e2, ← e1]; exact hr.hcap, hr.big, by rw [e2, ← e1]; exact hr.few, by rw [e2]; exact (hc 0).trans c0, (hc 1).trans hr.c1, (hc 2).trans hr.c2, (hc 3).trans hr.c3, (hf 1).trans hr.f1, (hf 2).trans hr.f2, (hf 3).trans hr.f3, hr.row.one hi hfit⟩

theorem Only.setH {q h : Nat} {a w : World} (ho : Only q h a w) (o : Nat) (v : Value) : Only q h a (w.setCell ⟨h, o, none⟩ v) :=
  ho.trans ⟨rfl, rfl, rfl, by simp [World.setCell], fun k _ _ hk => Below.heap_setCell _ _ _ _ hk⟩

/-- What the reference's Write leaves. -/
def RWrote (q h cap : Nat) (x : St) (a : Int) (s : List UInt8) (w : World) (e : Ending) (w' : World) : Prop := e = .returned (.int .i64 (wroteE x a s)) ∧ SameAt w' q h cap (wrote x a s) ∧ Only q h w w'

set_option maxHeartbeats 1600000 in
theorem rwrite_free (q h cap : Nat) (l : List UInt8) (n k : Nat) (s : ByteArray) (w : World) (hx : SameAt w q h cap ⟨l, true, none, n⟩) (hfit : k + s.data.toList.length ≤ l.length) (hn : (n : Int) ≤ 4611686018427387904) :
    Calls Try.prog 20 #[.pointer (some ⟨q, 0, none⟩), .int .i64 (k : Int), .string s] w fun e w' => e = .returned (.int .i64 0) ∧ SameAt w' q h cap ⟨lay l k s.data.toList, true, none, n + s.data.toList.length⟩ ∧ Only q h w w' := by
  have hfw : l.length ≤ 1000 := hx.few
  have ht : there l (k : Int) (s.size : Int) = true := by rw [size_list] at hfit; exact there_of (by omega) (by omega) (by omega)
  have HT := Lib.hid ht
  have c1 := hx.c1
  have HX := Lib.hid hx
  have hsz := size_list s
  rw [hsz] at hfit ⊢
  have HL := Lib.hid hsz
  clear ht hx hsz
  go_enter Try.func20, Try.ntmps20
  go_wp2_with fail
  refine (rthere_any q h cap _ _ _ _ _ _ _ HX.out (by omega) (by omega)).mono ?_
  rintro e w1 ⟨rfl, rfl⟩
  rw [HT.out]
  go_wp2_with fail
  go_loopw [7] (fun i wr => ∃ j : Nat, j ≤ s.size ∧ i = .int .i64 j ∧ SameAt wr q h cap ⟨lay l k (s.data.toList.take j), true, none, n + j⟩ ∧ Only q h w wr) (fun i _ => s.size - (intOf i).toNat)
  case atStart => exact ⟨0, Nat.zero_le _, rfl, by rw [List.take_zero, lay_nil]; exact HX.out, Only.refl _ _ _⟩
  case round =>
    obtain ⟨j, hj, rfl, hxr, hor⟩ := hrel
    have c0 := hxr.c0
    have e1 : (lay l k (s.data.toList.take j)).length = l.length := lay_length (by rw [List.length_take, HL.out]; omega)
    have c0' : wr.cell? ⟨q, 0, none⟩ = some (.slice (some ⟨h, 0, none⟩) l.length cap) := by rw [← e1]; exact c0
    have c2 : wr.cell? ⟨q, 2, none⟩ = some (.int .i64 (-1)) := hxr.c2
    have c3 : wr.cell? ⟨q, 3, none⟩ = some (.int .i64 ((n : Int) + j)) := by rw [← Int.natCast_add]; exact hxr.c3
    have f3 := hxr.f3
    by_cases hlt : j < s.size
    · have hv : s.data.toList.getD j 0 = s[j] := by simp [List.getD_eq_getElem?_getD, hlt]; rfl
      obtain ⟨r1, r2⟩ := hxr.row (k + j) (by show _ < (lay l k (s.data.toList.take j)).length; rw [e1]; omega)
      have HN := Lib.hid (((RefAt.drew hxr).one (s := s.data.toList) (by rw [HL.out]; exact hlt) (by rw [HL.out]; exact hfit)).set3 ((n : Int) + j + 1))
      have HO := Lib.hid (((hor.drew).setH (k + j) (.int .u8 ((s.data.toList.getD j 0).toNat : Int))).set 3 (.int .i64 ((n : Int) + j + 1)))
      rw [hv] at HN HO
      have hne := hxr.ne
      have hkl : (k : Int) + j < (l.length : Int) := by omega
      have hk0 : 0 ≤ (k : Int) + j := by omega
      generalize (lay l k (s.data.toList.take j)).getD (k + j) 0 = c at *
      clear e1 hxr hor hv c0
      go_wp2
      go_region
      all_goals
        go_wp2
        go_roundw
        case rel => exact ⟨j + 1, by omega, by go_num, by unfold SameAt; rw [show ((n + (j + 1) : Nat) : Int) = (n : Int) + j + 1 by omega]; exact HN.out, HO.out⟩
        case measure => simp [intOf]; omega
    · obtain rfl : j = s.size := by omega
      rw [List.take_of_length_le (by rw [HL.out]; exact Nat.le_refl _)] at hxr
      have HE := Lib.hid hxr
      clear hxr
      go_wp2
      go_ret
      exact ⟨rfl, HE.out, hor⟩

set_option maxHeartbeats 1600000 in
theorem rwrite_arm (q h cap : Nat) (l : List UInt8) (n m k : Nat) (s : ByteArray) (w : World) (hx : SameAt w q h cap ⟨l, true, some m, n⟩) (hfit : k + s.data.toList.length ≤ l.length) (hn : (n : Int) ≤ 4611686018427387904) (hm : (m : Int) ≤ 9223372036854775807) :
    Calls Try.prog 20 #[.pointer (some ⟨q, 0, none⟩), .int .i64 (k : Int), .string s] w (RWrote q h cap ⟨l, true, some m, n⟩ k s.data.toList w) := by
  have hfw : l.length ≤ 1000 := hx.few
  have ht : there l (k : Int) (s.size : Int) = true := by rw [size_list] at hfit; exact there_of (by omega) (by omega) (by omega)
  have HT := Lib.hid ht
  have HTL : Hid (there l (k : Int) (s.data.toList.length : Int) = true) := by rw [size_list]; exact ht
  have c1 := hx.c1
  have HX := Lib.hid hx
  have hsz := size_list s
  rw [hsz] at hfit
  have HL := Lib.hid hsz
  clear ht hx hsz
  go_enter Try.func20, Try.ntmps20
  go_wp2_with fail
  refine (rthere_any q h cap _ _ _ _ _ _ _ HX.out (by omega) (by omega)).mono ?_
  rintro e w1 ⟨rfl, rfl⟩
  rw [HT.out]
  go_wp2_with fail
  go_loopw [7] (fun i wr => ∃ j : Nat, j ≤ s.size ∧ j ≤ m ∧ i = .int .i64 j ∧ SameAt wr q h cap ⟨lay l k (s.data.toList.take j), true, some (m - j), n + j⟩ ∧ Only q h w wr) (fun i _ => s.size - (intOf i).toNat)
  case atStart => exact ⟨0, Nat.zero_le _, Nat.zero_le _, rfl, by rw [List.take_zero, lay_nil]; exact HX.out, Only.refl _ _ _⟩
  case round =>
    obtain ⟨j, hj, hjm, rfl, hxr, hor⟩ := hrel
    have c0 := hxr.c0
    have e1 : (lay l k (s.data.toList.take j)).length = l.length := lay_length (by rw [List.length_take, HL.out]; omega)
    have c0' : wr.cell? ⟨q, 0, none⟩ = some (.slice (some ⟨h, 0, none⟩) l.length cap) := by rw [← e1]; exact c0
    have c1' : wr.cell? ⟨q, 1, none⟩ = some (.bool true) := hxr.c1
    have c2 : wr.cell? ⟨q, 2, none⟩ = some (.int .i64 ((m : Int) - j)) := by rw [show ((m : Int) - j) = ((m - j : Nat) : Int) by omega]; exact hxr.c2
    have c3 : wr.cell? ⟨q, 3, none⟩ = some (.int .i64 ((n : Int) + j)) := by rw [← Int.natCast_add]; exact hxr.c3
    have f1 := hxr.f1
    have f2 := hxr.f2
    have f3 := hxr.f3
    by_cases hlt : j < s.size
    · by_cases hz : j < m
      · have hv : s.data.toList.getD j 0 = s[j] := by simp [List.getD_eq_getElem?_getD, hlt]; rfl
        obtain ⟨r1, r2⟩ := hxr.row (k + j) (by show _ < (lay l k (s.data.toList.take j)).length; rw [e1]; omega)
        have HN := Lib.hid ((((RefAt.drew hxr).one (s := s.data.toList) (by rw [HL.out]; exact hlt) (by rw [HL.out]; exact hfit)).set3 ((n : Int) + j + 1)).set2 ((m : Int) - j - 1))
        have HO := Lib.hid ((((hor.drew).setH (k + j) (.int .u8 ((s.data.toList.getD j 0).toNat : Int))).set 3 (.int .i64 ((n : Int) + j + 1))).set 2 (.int .i64 ((m : Int) - j - 1)))
        rw [hv] at HN HO
        have hne := hxr.ne
        have hkl : (k : Int) + j < (l.length : Int) := by omega
        have hk0 : 0 ≤ (k : Int) + j := by omega
        have hz1 : ¬ ((m : Int) - j = 0) := by omega
        have hz2 : 0 < (m : Int) - j := by omega
        generalize (lay l k (s.data.toList.take j)).getD (k + j) 0 = c at *
        clear e1 hxr hor hv c0
        go_wp2
        go_region
        all_goals
          go_wp2
          go_roundw
          case rel => exact ⟨j + 1, by omega, by omega, by go_num, by unfold SameAt left; rw [show ((n + (j + 1) : Nat) : Int) = (n : Int) + j + 1 by omega]; show RefAt _ _ _ _ _ _ ((m - (j + 1) : Nat) : Int) _; rw [show ((m - (j + 1) : Nat) : Int) = (m : Int) - j - 1 by omega]; exact HN.out, HO.out⟩
          case measure => simp [intOf]; omega
      · have hz1 : (m : Int) - j = 0 := by omega
        have HS := Lib.hid ((RefAt.set1 hxr false).set2 (-1))
        have HO := Lib.hid ((hor.set 1 (.bool false)).set 2 (.int .i64 (-1)))
        obtain rfl : j = m := by omega
        obtain ⟨q1, q2⟩ := wrote_torn (n := n) (j := j) HTL.out (by rw [HL.out]; exact hlt)
        have HQ1 := Lib.hid q1
        have HQ2 := Lib.hid q2
        clear q1 q2 hxr hor
        go_wp2
        go_ret
        exact ⟨by rw [HQ1.out]; rfl, by rw [HQ2.out]; exact HS.out, HO.out⟩
    · obtain rfl : j = s.size := by omega
      rw [List.take_of_length_le (by rw [HL.out]; exact Nat.le_refl _)] at hxr
      obtain ⟨q1, q2⟩ := wrote_full (n := n) (j := m) HTL.out (by rw [HL.out]; omega)
      rw [HL.out] at q2
      have HQ1 := Lib.hid q1
      have HQ2 := Lib.hid q2
      have HE := Lib.hid hxr
      clear hxr q1 q2
      go_wp2
      go_ret
      exact ⟨by rw [HQ1.out]; rfl, by rw [HQ2.out]; exact HE.out, hor⟩

set_option maxHeartbeats 1600000 in
theorem rwrite_any (q h cap : Nat) (x : St) (a : Int) (s : ByteArray) (w : World) (hx : SameAt w q h cap x) (ha : -9223372036854775808 ≤ a) (hb : a ≤ 9223372036854775807)
    (hn : x.n ≤ 4611686018427387904) (hk : ∀ k, x.arm = some k → k ≤ 9223372036854775807) :
    Calls Try.prog 20 #[.pointer (some ⟨q, 0, none⟩), .int .i64 a, .string s] w (RWrote q h cap x a s.data.toList w) := by
  cases ht : there x.l a (s.data.toList.length : Int) with
  | false =>
    obtain ⟨e1, e2⟩ := wrote_no ht
    have HE := Lib.hid e1
    have HX := Lib.hid e2
    rw [size_list] at ht
    have HT := Lib.hid ht
    clear ht hn hk e1 e2
    go_enter Try.func20, Try.ntmps20
    go_wp2_with (go_at_call 21; refine (rthere_any q h cap _ _ _ _ _ _ _ hx ha hb).mono ?_; rintro e w1 ⟨rfl, rfl⟩; rw [HT.out])
    go_ret
    exact ⟨by rw [HE.out]; rfl, by rw [HX.out]; exact hx, Only.refl _ _ _⟩
  | true =>
    obtain ⟨h1, h2, h3⟩ := there_yes ht
    obtain ⟨k, rfl⟩ := Int.eq_ofNat_of_zero_le h1
    obtain ⟨l, up, arm, n⟩ := x
    have hfit : k + s.data.toList.length ≤ l.length := by show _ ≤ _; have : (s.data.toList.length : Int) ≤ (l.length : Int) - k := h3; omega
    have ht1 : there l (k : Int) (s.data.toList.length : Int) = true := ht
    have hn1 : (n : Int) ≤ 4611686018427387904 := by have : n ≤ 4611686018427387904 := hn; omega
    cases up with
    | false =>
      have ht0 : there l (k : Int) (s.size : Int) = true := by rw [size_list] at ht1; exact ht1
      have HT := Lib.hid ht0
      have c1 := hx.c1
      obtain ⟨e1, e2⟩ := wrote_down (arm := arm) (n := n) ht1
      have HE := Lib.hid e1
      have HX := Lib.hid e2
      have HX0 := Lib.hid hx
      clear ht hn hk h1 h2 h3 hfit ht0 ht1 e1 e2 hx hn1
      go_enter Try.func20, Try.ntmps20
      go_wp2_with (go_at_call 21; refine (rthere_any q h cap _ _ _ _ _ _ _ HX0.out ha hb).mono ?_; rintro e w1 ⟨rfl, rfl⟩; rw [HT.out])
      go_ret
      exact ⟨by rw [HE.out]; rfl, by rw [HX.out]; exact HX0.out, Only.refl _ _ _⟩
    | true =>
      cases arm with
      | none =>
        obtain ⟨e1, e2⟩ := wrote_free (n := n) ht1
        exact (rwrite_free q h cap l n k s w hx hfit hn1).mono fun e w' ⟨he, hx', ho⟩ => ⟨by rw [e1]; exact he, by rw [e2]; exact hx', ho⟩
      | some m => exact rwrite_arm q h cap l n m k s w hx hfit hn1 (by have := hk m rfl; omega)

end Go.Proofs.Ytkokhmjcpnoklaa.Sto
