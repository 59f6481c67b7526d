/-
  A store's Read, walked. Conditions: none but on sizes.
-/
import Derived.Test.YtahmngmbgbcmhaaDoorStNew
namespace Go.Proofs.YtahmngmbgbcmhaaDoor.Sto
open Go.RowKit

/-- What Read tells. -/
def got (l : List UInt8) (a n : Int) : ByteArray := if there l a n = true then S ((l.drop a.toNat).take n.toNat) else S []

theorem got_no {l : List UInt8} {a n : Int} (h : there l a n = false) : got l a n = ⟨#[]⟩ := by unfold got; rw [if_neg (by simp [h])]; rfl

theorem strOfNums_bytes (l : List UInt8) : strOfNums (l.map fun c => (c.toNat : Int)) = S l := by
  unfold strOfNums S
  rw [List.map_map]
  congr 2
  have : ((fun n : Int => UInt8.ofNat n.toNat) ∘ fun c : UInt8 => (c.toNat : Int)) = id := by
    funext c; simp
  rw [this, List.map_id]

/-- A part of a row, as a text. -/
theorem row_text {w : World} {g : Nat} {l : List UInt8} (h : Row w g l) (a n cap : Nat) (hfit : a + n ≤ l.length) (src : TypeId) (hs : Tryd.prog.underlying src = some (.slice 5)) :
    (convert src 9 (.slice (some ⟨g, a, none⟩) n cap)).run Tryd.prog w = .ok (.string (S ((l.drop a).take n))) w := by
  have hlen : ((l.drop a).take n).length = n := by simp; omega
  have := run_convert_bytes_arg (P := Tryd.prog) w src 5 hs Tryd.underlying5 g a n cap (((l.drop a).take n).map fun c => (c.toNat : Int)) (by rw [List.length_map]; exact hlen) (fun i hi => by
    rw [(h (a + i) (by omega)).1]
    simp [List.getD_eq_getElem?_getD, List.getElem?_drop, hi, show a + i < l.length by omega]) 9 Tryd.underlying9
  rw [strOfNums_bytes] at this
  exact this

theorem ret_two {a b : ByteArray} {c d : Bool} (h : a = b) (k : c = d) : Ending.returned (.tuple #[.string a, .bool c]) = .returned (.tuple #[.string b, .bool d]) := by rw [h, k]

set_option maxHeartbeats 800000 in
theorem read_any (p g cap : Nat) (x : St) (a m : Int) (w : World) (hx : CodeAt w p g cap x) (ha : -9223372036854775808 ≤ a) (hb : a ≤ 9223372036854775807) :
    Calls Tryd.prog 31 #[.pointer (some ⟨p, 0, none⟩), .int .i64 a, .int .i64 m] w fun e w' => e = .returned (.tuple #[.string (got x.l a m), .bool (there x.l a m)]) ∧ w = w' := by
  obtain ⟨y, hs, hy⟩ := hx
  have h0 := hs.c0
  have hl := hs.hcap
  have hm := hs.big
  have hfw := hs.few
  unfold maxLen at hm
  cases ht : there x.l a m with
  | false =>
    have HG := Lib.hid (got_no ht)
    have HT := Lib.hid ht
    clear ht hy
    go_enter Tryd.func31, Tryd.ntmps31
    go_wp2_with (go_at_call 37; refine (has_any p g cap _ _ _ _ _ a m _ hs ha hb).mono ?_; rintro e w1 ⟨rfl, rfl⟩; rw [HT.out])
    go_ret2
    exact ⟨ret_two HG.out.symm rfl, rfl⟩
  | true =>
    have hyes := there_yes ht
    have HG := Lib.hid (show got x.l a m = S ((x.l.drop a.toNat).take m.toNat) by unfold got; rw [if_pos ht])
    obtain ⟨h1, h2, h3⟩ := hyes
    obtain ⟨k, rfl⟩ := Int.eq_ofNat_of_zero_le h1
    have HT := Lib.hid ht
    clear ht hy
    by_cases hk : cap = k
    · subst hk
      obtain rfl : m = 0 := by omega
      have hc := row_text hs.row 0 0 0 (by omega) 44 Tryd.underlying44
      rw [List.take_zero] at hc
      have HG2 := Lib.hid (show S [] = got x.l cap 0 by rw [HG.out]; rfl)
      go_enter Tryd.func31, Tryd.ntmps31
      go_wp2_with (go_at_call 37; refine (has_any p g cap _ _ _ _ _ _ _ _ hs ha hb).mono ?_; rintro e w1 ⟨rfl, rfl⟩; rw [HT.out])
      go_ret2
      exact ⟨ret_two HG2.out rfl, rfl⟩
    · obtain ⟨n, rfl⟩ := Int.eq_ofNat_of_zero_le h2
      have hfit : k + n ≤ x.l.length := by omega
      have hc := row_text hs.row k n (cap - k) hfit 44 Tryd.underlying44
      have hkl : k + n ≤ cap := by omega
      have hkc : k ≤ cap := by omega
      go_enter Tryd.func31, Tryd.ntmps31
      go_wp2_with (go_at_call 37; refine (has_any p g cap _ _ _ _ _ _ _ _ hs ha hb).mono ?_; rintro e w1 ⟨rfl, rfl⟩; rw [HT.out])
      go_ret2
      exact ⟨ret_two HG.out.symm rfl, rfl⟩

/-- What Write leaves: the error, and the store, turned. -/
def Wrote (p g cap : Nat) (x : St) (a : Int) (s : List UInt8) (w : World) (e : Ending) (w' : World) : Prop := e = .returned (.int .i64 (wroteE x a s)) ∧ CodeAt w' p g cap (wrote x a s) ∧ Only p g w w'

set_option maxHeartbeats 1600000 in
theorem write_any (p g cap : Nat) (x : St) (a : Int) (s : ByteArray) (w : World) (hx : CodeAt w p g cap x) (ha : -9223372036854775808 ≤ a) (hb : a ≤ 9223372036854775807)
    (hn : x.n ≤ 4611686018427387904) (hk : ∀ k, x.arm = some k → k ≤ 9223372036854775807) :
    Calls Tryd.prog 40 #[.pointer (some ⟨p, 0, none⟩), .int .i64 a, .string s] w (Wrote p g cap x a s.data.toList w) := by
  have hx0 := Lib.hid hx
  obtain ⟨y, hs, hy⟩ := hx
  have hn : (x.n : Int) ≤ 4611686018427387904 := by omega
  cases ht : there x.l a (s.data.toList.length : Int) with
  | false =>
    obtain ⟨e1, e2⟩ := wrote_no ht
    have HE := Lib.hid e1
    have HX := Lib.hid e2
    rw [size_list] at ht
    have HT := Lib.hid ht
    clear ht hy hn hk e1 e2
    go_enter Tryd.func40, Tryd.ntmps40
    go_wp2_with (go_at_call 37; refine (has_any p g cap _ _ _ _ _ _ _ _ hs ha hb).mono ?_; rintro e w1 ⟨rfl, rfl⟩; rw [HT.out])
    go_ret
    exact ⟨by rw [HE.out]; rfl, by rw [HX.out]; exact hx0.out, Only.refl _ _ _⟩
  | true =>
    obtain ⟨h1, h2, h3⟩ := there_yes ht
    obtain ⟨k, rfl⟩ := Int.eq_ofNat_of_zero_le h1
    have hfit : k + s.data.toList.length ≤ x.l.length := by omega
    have hfw := hs.few
    obtain ⟨l, up, arm, n⟩ := x
    have ht1 : there l (k : Int) (s.data.toList.length : Int) = true := ht
    have ht0 : there l (k : Int) (s.size : Int) = true := by rw [size_list] at ht1; exact ht1
    have HT := Lib.hid ht0
    have c1 := hs.c1
    have c2 := hs.c2
    have c3 := hs.c3
    cases up with
    | false =>
      obtain ⟨e1, e2⟩ := wrote_down (arm := arm) (n := n) ht1
      have HE := Lib.hid e1
      have HX := Lib.hid e2
      clear ht hn hk hy h1 h2 h3 c2 c3 hfit hfw ht0 ht1 e1 e2
      go_enter Tryd.func40, Tryd.ntmps40
      go_wp2_with (go_at_call 37; refine (has_any p g cap _ _ _ _ _ _ _ _ hs ha hb).mono ?_; rintro e w1 ⟨rfl, rfl⟩; rw [HT.out])
      go_ret
      exact ⟨by rw [HE.out]; rfl, by rw [HX.out]; exact hx0.out, Only.refl _ _ _⟩
    | true =>
      cases arm with
      | none =>
        obtain ⟨e1, e2⟩ := wrote_free (n := n) ht1
        have HE := Lib.hid e1
        have HX := Lib.hid e2
        have HN := Lib.hid hn
        have HF := Lib.hid hfit
        clear ht hn hk hy h1 h2 h3 hfit hfw ht0 ht1 e1 e2
        go_enter Tryd.func40, Tryd.ntmps40
        go_wp2_with (go_at_call 37; refine (has_any p g cap _ _ _ _ _ _ _ _ hs ha hb).mono ?_; rintro e w1 ⟨rfl, rfl⟩; rw [HT.out])
        refine (put_any p g cap l false false y n k s _ hs HF.out (by omega) HN.out (Or.inr rfl)).mono ?_
        rintro e w1 ⟨rfl, hs1, ho1⟩
        have HS := Lib.hid hs1
        have HO := Lib.hid ho1
        clear hs1 ho1
        go_wp2
        go_ret
        exact ⟨by rw [HE.out]; rfl, by rw [HX.out]; exact ⟨y, HS.out, fun k hk => by injection hk⟩, HO.out⟩
      | some j =>
        obtain rfl := hy j rfl
        have hj0 : (j : Int) ≤ 9223372036854775807 := by have := hk j rfl; omega
        by_cases hj : j < s.size
        · obtain ⟨e1, e2⟩ := wrote_torn (n := n) ht1 (by rw [size_list]; exact hj)
          have HE := Lib.hid e1
          have HX := Lib.hid e2
          have HN := Lib.hid hn
          have HF := Lib.hid (show k + (s.extract 0 j).data.toList.length ≤ l.length by rw [head_list, List.length_take, size_list]; rw [size_list] at hfit; show _ ≤ _; have : k + s.size ≤ l.length := hfit; omega)
          have HZ := Lib.hid (show ((s.extract 0 j).size : Int) = j by rw [head_size]; omega)
          have HL := Lib.hid (head_list s j)
          clear ht hn hk hy h1 h2 h3 hfit hfw ht0 ht1 e1 e2
          go_enter Tryd.func40, Tryd.ntmps40
          go_wp2_with (go_at_call 37; refine (has_any p g cap _ _ _ _ _ _ _ _ hs ha hb).mono ?_; rintro e w1 ⟨rfl, rfl⟩; rw [HT.out])
          refine (put_any p g cap l false true j n k (s.extract 0 j) _ hs HF.out (by omega) HN.out (Or.inl ⟨by omega, hj0⟩)).mono ?_
          rintro e w1 ⟨rfl, hs1, ho1⟩
          rw [HL.out, HZ.out] at hs1
          have hx1 : CodeAt w1 p g cap ⟨lay l k (s.data.toList.take j), true, some 0, n + j⟩ := ⟨_, hs1, fun k hk => by injection hk with hk; subst hk; simp [less]⟩
          have HO := Lib.hid ho1
          clear hs1 ho1
          go_wp2_with fail
          refine (off_any p g cap _ _ hx1).mono ?_
          rintro e w2 ⟨rfl, hx2, ho2⟩
          have HX2 := Lib.hid hx2
          have HO2 := Lib.hid (HO.out.trans ho2)
          clear hx1 hx2 ho2
          go_wp2
          go_ret
          exact ⟨by rw [HE.out]; rfl, by rw [HX.out]; exact HX2.out, HO2.out⟩
        · obtain ⟨e1, e2⟩ := wrote_full (n := n) ht1 (by rw [size_list]; exact hj)
          have HE := Lib.hid e1
          have HX := Lib.hid e2
          have HN := Lib.hid hn
          have HF := Lib.hid hfit
          have HZ := Lib.hid (size_list s)
          clear ht hn hk hy h1 h2 h3 hfit hfw ht0 ht1 e1 e2
          go_enter Tryd.func40, Tryd.ntmps40
          go_wp2_with (go_at_call 37; refine (has_any p g cap _ _ _ _ _ _ _ _ hs ha hb).mono ?_; rintro e w1 ⟨rfl, rfl⟩; rw [HT.out])
          refine (put_any p g cap l false true j n k s _ hs HF.out (by omega) HN.out (Or.inl ⟨by omega, hj0⟩)).mono ?_
          rintro e w1 ⟨rfl, hs1, ho1⟩
          have HS := Lib.hid hs1
          have HO := Lib.hid ho1
          clear hs1 ho1
          go_wp2
          go_ret
          refine ⟨by rw [HE.out]; rfl, ?_, HO.out⟩
          rw [HX.out]
          exact ⟨_, by rw [HZ.out]; exact HS.out, fun k hk => by injection hk with hk; subst hk; rw [HZ.out]; simp [less]; omega⟩

end Go.Proofs.YtahmngmbgbcmhaaDoor.Sto
