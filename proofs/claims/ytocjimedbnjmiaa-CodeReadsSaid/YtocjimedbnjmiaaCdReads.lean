/-
  The law CodeReads, walked: it returns true. Conditions: none.
-/
import Derived.Test.YtocjimedbnjmiaaCdLaw
namespace Go.Proofs.Ytocjimedbnjmiaa.Co
open Go.RowKit
open Go.Proofs.Ytocjimedbnjmiaa.Il hiding S S_size S_app S_list S_inj
open Go.Proofs.Ytocjimedbnjmiaa.Ic Go.Proofs.Ytocjimedbnjmiaa.Oct Sums

theorem fit_dec {t : Bs} {l : List In} (h : decC t = .ok l) : FitL l := fun k x hx => by
  obtain ⟨-, h2⟩ := err_zero (enc_of_dec h).1
  rw [List.all_eq_true] at h2
  obtain ⟨a1, a2, a3, a4, a5, a6, a7, a8, a9, a10⟩ := right_bd (h2 x (List.mem_of_getElem? hx))
  have h9 : -2147483648 ≤ x.n ∧ x.n < 4294967296 := by
    by_cases h7 : x.kd = 7
    · have := a9 h7; omega
    · have := a10 h7; omega
  exact ⟨by constructor <;> omega, by constructor <;> omega, by constructor <;> omega, by constructor <;> omega, by constructor <;> omega⟩
/-- A world behind the law's first one, in which two texts lie. -/
structure Two (w wr : World) (b : Nat) (x y : ByteArray) : Prop where
  c0 : wr.cell? ⟨b, 0, none⟩ = some (.string x)
  c1 : wr.cell? ⟨b, 1, none⟩ = some (.string y)
  below : Below w.heap.size w wr
theorem Two.next {w wr w' : World} {b : Nat} {x y : ByteArray} (h : Two w wr b x y) (hb : Below wr.heap.size wr w') : Two w w' b x y := ⟨kept_cell hb h.c0, kept_cell hb h.c1, h.below.trans (hb.mono h.below.size)⟩
theorem Two.new {w wr : World} (h : Below w.heap.size w wr) (x y : ByteArray) (t : TypeId) : Two w (wr.alloc (.cells #[.string x, .string y] t)) wr.heap.size x y := by
  obtain ⟨hc, hN⟩ := one_box wr #[.string x, .string y] t
  exact ⟨hc 0 _ rfl, hc 1 _ rfl, h.alloc h.size _⟩
theorem Two.at_ {w wr : World} {b k : Nat} {t : Bs} (h : Two w wr b (S t) (S (sealL t))) (hk : k < 2) : ∃ q : Bs, q.length ≤ t.length + 2 ∧ wr.cell? ⟨b, k, none⟩ = some (.string (S q)) := by
  match k, hk with
  | 0, _ => exact ⟨t, by omega, h.c0⟩
  | 1, _ => exact ⟨sealL t, by rw [seal_len]; omega, h.c1⟩
theorem same_none (a1 a2 : Option Addr) (c1 c2 : Nat) (W : World) : Calls Try.prog 14 #[.slice a1 0 c1, .slice a2 0 c2] W fun e w' => e = .returned (.bool true) ∧ ∃ k, w' = W.drewN k :=
  rSame_any [] a1 a2 c1 c2 W (fun h => by simp at h) (fun h => by simp at h) (by simp)

set_option maxRecDepth 100000 in
set_option maxHeartbeats 4000000 in
theorem reads_walk (s : ByteArray) (w : World) (hm : s.size ≤ maxLen) : Calls Try.prog 4 #[.string s] w (Tells (.bool true) w) := by
  obtain ⟨t, rfl⟩ : ∃ t, s = S t := ⟨s.data.toList, rfl⟩
  have hsz := S_size t
  have hmi : ((S t).size : Int) ≤ 9223372036854775807 := by unfold maxLen at hm; omega
  clear hm
  by_cases h2000 : (2000 : Int) < (S t).size
  · go_enter Try.func4, Try.ntmps4
    go_wp2_with fail
    refine (wake_any _).mono ?_
    rintro e w1 ⟨rfl, hb1⟩
    replace hb1 := Lib.hid hb1
    go_wp2
    go_ret
    exact ⟨rfl, hb1.out⟩
  · have ht := Lib.hid (show t.length ≤ 2000 by omega)
    have HSe := Lib.hid (fun W => rsealed_any (S t) W (by omega))
    rw [seal_S] at HSe
    clear hsz
    go_enter Try.func4, Try.ntmps4
    go_wp2_with fail
    refine (wake_any _).mono ?_
    rintro e w1 ⟨rfl, hb1⟩
    have HB1 := Lib.hid hb1
    clear hb1
    go_wp2_with fail
    refine (HSe.out _).mono ?_
    rintro e w2 ⟨rfl, hb2⟩
    have HT := Lib.hid (Two.new (HB1.out.trans (hb2.mono HB1.out.size)) (S t) (S (sealL t)) 9)
    clear hb2 HB1
    go_wp2
    go_loopw [21] (fun i wr => ∃ (k : Nat), k ≤ 2 ∧ i = .int .i64 k ∧ Hid (Two w wr w2.heap.size (S t) (S (sealL t)))) (fun i _ => 2 - (intOf i).toNat)
    case atStart => exact ⟨0, by omega, rfl, HT⟩
    case round =>
      obtain ⟨k, hk, rfl, hS⟩ := hrel
      clear HT
      generalize w2.heap.size = b at *
      by_cases hlt : k < 2
      · obtain ⟨q, hq, hc⟩ := hS.out.at_ hlt
        have hq2 : q.length ≤ 2100 := by have := ht.out; omega
        rcases dec_ways q with ⟨l, hd⟩ | ⟨n, hd, hn2, hn10⟩
        · have HD := Lib.hid (fun W => decode_ok hd hq2 W)
          have HR := Lib.hid (fun W => rdecode_ok hd hq2 W)
          obtain ⟨he, hen⟩ := enc_of_dec hd
          have HE : Hid (∀ (ao : Option Addr) (cap : Nat) (W : World), Lies W W.heap.size ao l → Calls Try.prog 7 #[.slice ao l.length cap] W (Tells (.tuple #[.string (S q), .int .i64 0]) W)) := fun ao cap W h => by
            have := cEncode_any l ao cap W h (fit_dec hd)
            rw [he, hen] at this
            exact this
          have HQ : Hid (∀ (W : World) (a1 a2 : Option Addr) (c1 c2 : Nat), Lies W W.heap.size a1 l → Lies W W.heap.size a2 l → Calls Try.prog 14 #[.slice a1 l.length c1, .slice a2 l.length c2] W fun e w' => e = .returned (.bool true) ∧ ∃ k, w' = W.drewN k) := fun W a1 a2 c1 c2 h1 h2 => rSame_any l a1 a2 c1 c2 W h1 h2 (by have := (err_zero he).1; omega)
          have heq : ((S q).toList != (S q).toList) = false := by simp
          clear hd he hen hq hq2
          generalize S q = z at *
          go_wp2_with fail
          refine (HD.out _).mono ?_
          rintro e w3 ⟨a3, c3, rfl, hl3, hb3⟩
          have HA3 := Lib.hid (⟨hS.out.next hb3, hl3⟩ : _ ∧ _)
          clear hb3 hl3 hS
          go_wp2_with fail
          refine (HR.out _).mono ?_
          rintro e w4 ⟨a4, c4, rfl, hl4, hb4⟩
          have HA4 := Lib.hid (⟨HA3.out.1.next hb4, (HA3.out.2.below hb4).more hb4.size, hl4⟩ : _ ∧ _ ∧ _)
          clear hb4 hl4 HA3
          go_wp2_with fail
          refine (HQ.out _ _ _ _ _ HA4.out.2.1 HA4.out.2.2).mono ?_
          rintro e w5 ⟨rfl, kd, rfl⟩
          have hbq : Below w4.heap.size w4 (w4.drewN kd) := ⟨rfl, rfl, rfl, Nat.le_refl _, fun _ _ => rfl⟩
          have HA5 := Lib.hid (⟨HA4.out.1.next hbq, (HA4.out.2.1.below hbq).more hbq.size⟩ : _ ∧ _)
          clear hbq HA4
          go_wp2_with fail
          refine (HE.out _ _ _ HA5.out.2).mono ?_
          rintro e w6 ⟨rfl, hb6⟩
          have HA6 := Lib.hid (HA5.out.1.next hb6)
          clear hb6 HA5
          go_wp2
          go_roundw
          case rel => exact ⟨k + 1, by omega, by go_num, HA6⟩
          case measure => simp [intOf]; omega
        · have HD := Lib.hid (fun W => decode_no hd hq2 W)
          have HR := Lib.hid (fun W => rdecode_no hd hq2 W)
          have hb : ((n : Int) != (n : Int)) = false := by simp
          have hb0 : ((n : Int) != 0) = true := by rw [bne_iff_ne]; omega
          have hw : IntKind.i64.wrap (n : Int) = n := by rw [IntKind.wrap_i64]; omega
          clear hd hq hq2 hn2 hn10
          generalize S q = z at *
          go_wp2_with fail
          refine (HD.out _).mono ?_
          rintro e w3 ⟨a3, c3, rfl, hb3⟩
          have HA3 := Lib.hid (hS.out.next hb3)
          clear hb3 hS
          go_wp2_with fail
          refine (HR.out _).mono ?_
          rintro e w4 ⟨a4, c4, rfl, hb4⟩
          have HA4 := Lib.hid (HA3.out.next hb4)
          clear hb4 HA3
          go_wp2_with fail
          refine (same_none _ _ _ _ _).mono ?_
          rintro e w5 ⟨rfl, kd, rfl⟩
          have hbq : Below w4.heap.size w4 (w4.drewN kd) := ⟨rfl, rfl, rfl, Nat.le_refl _, fun _ _ => rfl⟩
          have HA5 := Lib.hid (HA4.out.next hbq)
          clear hbq HA4
          go_wp2
          go_roundw
          case rel => exact ⟨k + 1, by omega, by go_num, HA5⟩
          case measure => simp [intOf]; omega
      · obtain rfl : k = 2 := by omega
        go_wp2
        go_ret
        exact ⟨rfl, hS.out.below⟩

end Go.Proofs.Ytocjimedbnjmiaa.Co
