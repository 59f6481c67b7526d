/-
  The law's 'from', walked: true where a text that was sent is one from which these bytes may come. Conditions: the bytes are at most 255.
-/
import Derived.Test.YthepnckbooioeaaBuBits
import Derived.Maps.RangeWalk
import Derived.Sort.MapsRangeIn
namespace Go.Proofs.Ythepnckbooioeaa.Bus
open Go.RowKit Go.Maps

theorem law_str : Keyed Try.prog 9 := string_keyed Try.underlying9
theorem plain_bool_inv {H : Type} {v : Value} {z : DataW H × List MemPlace} (h : plainElem Try.prog 4 v = some z) : ∃ c : Bool, v = .bool c := by
  unfold plainElem at h
  rw [Try.underlying4] at h
  cases v <;> simp at h
  exact ⟨_, rfl⟩
theorem key_str {x : ByteArray} {kl : Lit} (h : keyOf Try.prog 9 (.string x) = some kl) : kl = .string x.data.toList ∧ x.size ≤ maxLen := by
  simp [keyOf, Try.underlying9, mapKey] at h
  exact ⟨h.2.symm, h.1⟩
theorem str_lit_ne {a b : ByteArray} (h : a ≠ b) : (Lit.string a.data.toList).sameKey (.string b.data.toList) = false := by
  apply sameKey_ne
  intro e
  injection e with e
  apply h
  cases a; cases b
  simp only [ByteArray.mk.injEq]
  exact Array.toList_inj.1 e

theorem from_no1 {x s : ByteArray} (h1 : ¬ s = x) (h2 : ¬ s.size = x.size) (h3 : ¬ (s.size < x.size ∧ x.extract 0 s.size = s)) : fromB x s = false := by
  unfold fromB
  rw [decide_eq_false h1, decide_eq_false h2]
  by_cases h4 : s.size < x.size
  · rw [decide_eq_false (fun e => h3 ⟨h4, e⟩)]; simp
  · rw [decide_eq_false h4]; simp
theorem from_no2 {x s : ByteArray} (h1 : ¬ s = x) (h2 : s.size = x.size) (h3 : ¬ lstTo s x (8 * s.size) - fstTo s x (8 * s.size) < 16) : fromB x s = false := by
  unfold fromB
  rw [decide_eq_false h1, decide_eq_false h3, decide_eq_false (show ¬ s.size < x.size by omega)]; simp

set_option maxRecDepth 100000 in
set_option maxHeartbeats 4000000 in
theorem from_any {H : Type} (b n : Nat) (D : DataW H) (s t : ByteArray) (w : World) (hs : s.size ≤ 255) (hown : w.ownsMap Try.prog 9 (plainElem Try.prog 4) b n D)
    (hhas : has D (.string t.data.toList) = true) (hf : fromB t s = true) :
    Calls Try.prog 15 #[.map (some b), .string s] w (Tells (.bool true) w) := by
  have HT := Lib.hid (fun (x : ByteArray) (h : fromB x s = false) => show (Lit.string t.data.toList).sameKey (.string x.data.toList) = false from str_lit_ne (fun e => by rw [e, h] at hf; cases hf))
  have HH := Lib.hid hhas
  clear hhas hf
  go_enter Try.func15, Try.ntmps15
  go_wp2_with (first
    | (at_range; refine wpList_range_own _ rfl _ 47 rfl 9 4 law_str Try.underlying47 _ b n D rfl hown ?_; intro w0 hrg0 hg0 hs0)
    | go_in)
  go_frame
  clear hs0
  go_loopw [5] (fun _ wr => ∃ (left : Lit → Bool) (cnt : Nat), wr.ranges Try.prog 9 (plainElem Try.prog 4) b w.heap.size n D left cnt ∧ Hid (left (.string t.data.toList) = true ∧ Below w.heap.size w wr)) (fun _ wr => wr.rangeLeft b w.heap.size)
  case atStart => exact ⟨_, _, hrg0, Lib.hid ⟨HH.out, (Below.refl _ _).grown hg0 (Nat.le_refl _) (fun j hj => by cases hj)⟩⟩
  case round =>
    obtain ⟨left, cnt, hrg, hS⟩ := hrel
    clear hrg0 hg0 hown HH
    go_wp2_with (first
      | (at_next; refine wpList_next_ranges _ rfl _ rfl 9 law_str (plainElem Try.prog 4) Value.string (fun v : Value => v) (fun key kl hk => keyOf_string_inv Try.underlying9 hk) (fun v y hv => ⟨v, rfl⟩) b w.heap.size n _ _ _ rfl hrg ?_ ?_)
      | go_in)
    · intro _ hl0
      have := hl0 (.string t.data.toList)
      rw [hS.out.1] at this
      cases this
    · intro x c kl yd yp w2 cnt2 hkey hlk hv hat hrg2 hlt hg2 hs2 hen
      obtain ⟨rfl, hxm⟩ := key_str hkey
      have HB2 := Lib.hid (hS.out.2.grown hg2 hS.out.2.size (fun j hj => by cases hj; exact Nat.le_refl _))
      have HL := Lib.hid (show fromB x s = false → (left (.string t.data.toList) && !(Lit.string t.data.toList).sameKey (.string x.data.toList)) = true from fun h => by rw [HT.out x h, hS.out.1]; rfl)
      have HM := Lib.hid (show w2.rangeLeft b w.heap.size < wr.rangeLeft b w.heap.size by rw [hrg2.left_eq, hrg.left_eq]; exact hlt)
      have HR2 := Lib.hid hrg2
      clear hkey hlk hv hat hrg2 hlt hg2 hs2 hrg hS
      unfold maxLen at hxm
      by_cases hsx : s = x
      · subst hsx
        go_wp2
        go_ret
        exact ⟨rfl, HB2.out⟩
      · have hq : (s.toList == x.toList) = false := str_ne hsx
        by_cases hlt : s.size < x.size
        · have hlti : (s.size : Int) < x.size := by omega
          have hle : s.size ≤ x.size := by omega
          by_cases he : x.extract 0 s.size = s
          · go_wp2
            go_ret
            exact ⟨rfl, HB2.out⟩
          · have hq2 : ((x.extract 0 s.size).toList == s.toList) = false := str_ne he
            have hne : ¬ (s.size : Int) = x.size := by omega
            have HL2 := Lib.hid (HL.out (from_no1 hsx (by omega) (fun h => he h.2)))
            go_wp2
            go_roundw
            case rel => exact ⟨_, cnt2, HR2.out, Lib.hid ⟨HL2.out, HB2.out⟩⟩
            case measure => exact HM.out
        · have hlti : ¬ (s.size : Int) < x.size := by omega
          by_cases hsz : s.size = x.size
          · obtain ⟨m, hsS⟩ : ∃ m, s.size = m := ⟨_, rfl⟩
            have hsX : x.size = m := by omega
            have HFr := Lib.hid (show ¬ (lstTo s x (8 * s.size) - fstTo s x (8 * s.size) < 16) → fromB x s = false from fun h => from_no2 hsx hsz h)
            rw [hsS] at HFr
            have hm : m ≤ 255 := by omega
            have HSS := Lib.hid hsS
            have HSX := Lib.hid hsX
            clear hsx hsz hlti hlt hxm HT hs
            obtain ⟨n8, hn8⟩ : ∃ n8, 8 * m = n8 := ⟨_, rfl⟩
            have h8 : IntKind.i64.wrap (8 * (m : Int)) = (n8 : Int) := by rw [IntKind.wrap_i64]; omega
            have hn82 : n8 ≤ 2040 := by omega
            have HN8 := Lib.hid hn8
            clear hn8
            go_wp2
            clear hen hsS hsX h8
            go_loop [6, 7, 41] (fun f l i => ∃ k : Nat, k ≤ n8 ∧ f = .int .i64 (fstTo s x k) ∧ l = .int .i64 (lstTo s x k) ∧ i = .int .i64 k) (fun _ _ i => n8 - (intOf i).toNat)
            case atStart => exact ⟨0, Nat.zero_le _, rfl, rfl, rfl⟩
            case round =>
              obtain ⟨k, hk, rfl, rfl, rfl⟩ := hrel
              have hbd := fst_bound s x k
              by_cases hlt : k < n8
              · have hki : (k : Int) < n8 := by omega
                have HB1 := Lib.hid (bit_any s k w2 (by rw [HSS.out]; omega) (by rw [HSS.out, HN8.out]; exact hlt))
                have HB3 := Lib.hid (bit_any x k w2 (by rw [HSX.out]; omega) (by rw [HSX.out, HN8.out]; exact hlt))
                have HF1 := Lib.hid (show fstTo s x (k + 1) = if difB s x k = true ∧ fstTo s x k < 0 then (k : Int) else fstTo s x k from rfl)
                have HL1 := Lib.hid (show lstTo s x (k + 1) = if difB s x k = true then (k : Int) else lstTo s x k from rfl)
                have HD := Lib.hid (show difB s x k = (bitB s k != bitB x k) from rfl)
                obtain ⟨e1, e2, e3, e4⟩ := hbd
                generalize fstTo s x k = f at *
                generalize lstTo s x k = l at *
                generalize bitB s k = p at *
                generalize bitB x k = q at *
                generalize difB s x k = d at *
                by_cases hpq : p = q
                · have hd : d = false := by rw [HD.out, hpq]; simp
                  have HF2 := Lib.hid (show fstTo s x (k + 1) = f by rw [HF1.out, if_neg (by simp [hd])])
                  have HL2 := Lib.hid (show lstTo s x (k + 1) = l by rw [HL1.out, if_neg (by simp [hd])])
                  subst hpq
                  clear hd HF1 HL1 HD
                  go_wp2_with fail
                  refine (HB1.out).mono ?_
                  rintro e w4 ⟨rfl, rfl⟩
                  go_wp2_with fail
                  refine (HB3.out).mono ?_
                  rintro e w4 ⟨rfl, rfl⟩
                  go_wp2
                  go_round
                  case rel => exact ⟨k + 1, by omega, by rw [HF2.out], by rw [HL2.out], by go_num⟩
                  case measure => simp [intOf]; omega
                · have hd : d = true := by rw [HD.out]; simpa [bne] using hpq
                  have hbi : ¬ bitI p = bitI q := by
                    intro e
                    apply hpq
                    cases p <;> cases q <;> simp [bitI] at e ⊢
                  have HL2 := Lib.hid (show lstTo s x (k + 1) = k by rw [HL1.out, if_pos hd])
                  by_cases hf0 : f < 0
                  · have HF2 := Lib.hid (show fstTo s x (k + 1) = k by rw [HF1.out, if_pos ⟨hd, hf0⟩])
                    clear hd HF1 HL1 HD hpq
                    generalize bitI p = p1 at *
                    generalize bitI q = q1 at *
                    go_wp2_with fail
                    refine (HB1.out).mono ?_
                    rintro e w4 ⟨rfl, rfl⟩
                    go_wp2_with fail
                    refine (HB3.out).mono ?_
                    rintro e w4 ⟨rfl, rfl⟩
                    go_wp2
                    go_round
                    case rel => exact ⟨k + 1, by omega, by rw [HF2.out], by rw [HL2.out], by go_num⟩
                    case measure => simp [intOf]; omega
                  · have HF2 := Lib.hid (show fstTo s x (k + 1) = f by rw [HF1.out, if_neg (fun h => hf0 h.2)])
                    clear hd HF1 HL1 HD hpq
                    generalize bitI p = p1 at *
                    generalize bitI q = q1 at *
                    go_wp2_with fail
                    refine (HB1.out).mono ?_
                    rintro e w4 ⟨rfl, rfl⟩
                    go_wp2_with fail
                    refine (HB3.out).mono ?_
                    rintro e w4 ⟨rfl, rfl⟩
                    go_wp2
                    go_round
                    case rel => exact ⟨k + 1, by omega, by rw [HF2.out], by rw [HL2.out], by go_num⟩
                    case measure => simp [intOf]; omega
              · obtain rfl : k = n8 := by omega
                obtain ⟨e1, e2, e3, e4⟩ := hbd
                rw [HN8.out] at HFr
                generalize fstTo s x k = f at *
                generalize lstTo s x k = l at *
                by_cases h16 : l - f < 16
                · go_wp2
                  go_ret
                  exact ⟨rfl, HB2.out⟩
                · have HL2 := Lib.hid (HL.out (HFr.out (by omega)))
                  go_wp2
                  go_roundw
                  case rel => exact ⟨_, cnt2, HR2.out, Lib.hid ⟨HL2.out, HB2.out⟩⟩
                  case measure => exact HM.out
          · have hne : ¬ (s.size : Int) = x.size := by omega
            have HL2 := Lib.hid (HL.out (from_no1 hsx hsz (fun h => hlt h.1)))
            go_wp2
            go_roundw
            case rel => exact ⟨_, cnt2, HR2.out, Lib.hid ⟨HL2.out, HB2.out⟩⟩
            case measure => exact HM.out

end Go.Proofs.Ythepnckbooioeaa.Bus
