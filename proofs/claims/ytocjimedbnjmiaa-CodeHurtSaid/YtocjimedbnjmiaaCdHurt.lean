/-
  The law CodeHurt, walked: it returns true. Conditions: none.
-/
import Derived.Test.YtocjimedbnjmiaaCdLaw
namespace Go.Proofs.Ytocjimedbnjmiaa.Co
open Go.RowKit
open Go.Proofs.Ytocjimedbnjmiaa.Il hiding S S_size S_app S_list S_inj
open Go.Proofs.Ytocjimedbnjmiaa.Ic Go.Proofs.Ytocjimedbnjmiaa.Oct Sums

theorem dec_err_of {t : Bs} (h : ∀ m, decC t ≠ .ok m) : ∃ k, decC t = .error k ∧ 2 ≤ k ∧ k ≤ 10 := by
  rcases dec_ways t with ⟨l, hl⟩ | h2
  · exact absurd hl (h l)
  · exact h2
theorem decode_text {b : ByteArray} {k : Nat} (h : decC b.data.toList = .error k) (hb : b.size ≤ 2100) (W : World) :
    Calls Try.prog 11 #[.string b] W fun e w' => ∃ ao cap, e = .returned (.tuple #[.slice ao 0 cap, .int .i64 (k : Nat)]) ∧ Below W.heap.size W w' :=
  decode_no h (by rw [← Lib.size_eq]; exact hb) W
/-- What is cut off is no program: the law's last call. -/
theorem decode_cut {l : List In} (he : errC l = 0) (k : Nat) (hk : k < (encL l).length) : ∃ j : Nat, 2 ≤ j ∧ j ≤ 10 ∧ ∀ W, Calls Try.prog 11 #[.string ((S (encL l)).extract 0 k)] W fun e w' => ∃ ao cap, e = .returned (.tuple #[.slice ao 0 cap, .int .i64 (j : Nat)]) ∧ Below W.heap.size W w' := by
  have hn : ∀ m, decC ((encL l).take k) ≠ .ok m := fun m => by
    rw [enc_ok he] at hk ⊢
    exact dec_cut (err_zero he).1 k hk m
  obtain ⟨j, hj, h2, h10⟩ := dec_err_of hn
  refine ⟨j, h2, h10, fun W => ?_⟩
  rw [S_take]
  exact decode_no hj (by rw [List.length_take]; have := enc_short l; omega) W

/-- A world behind the law's first one, in which a list and the two numbers lie. -/
structure Hr (w wr : World) (ao : Option Addr) (l : List In) (b : Nat) (p c : BitVec 16) : Prop where
  at_ : At w wr ao l
  c0 : wr.cell? ⟨b, 0, none⟩ = some (.int .u16 (p.toNat : Int))
  c1 : wr.cell? ⟨b, 1, none⟩ = some (.int .u16 (c.toNat : Int))
section
variable {w wr w' : World} {ao : Option Addr} {l : List In} {b : Nat} {p c : BitVec 16}
theorem Hr.next (h : Hr w wr ao l b p c) (hb : Below wr.heap.size wr w') : Hr w w' ao l b p c := ⟨h.at_.next hb, kept_cell hb h.c0, kept_cell hb h.c1⟩
theorem Hr.drewN (h : Hr w wr ao l b p c) (k : Nat) : Hr w (wr.drewN k) ao l b p c := h.next ⟨rfl, rfl, rfl, Nat.le_refl _, fun _ _ => rfl⟩
theorem Hr.new (h : At w wr ao l) (p c : BitVec 16) (t : TypeId) : Hr w (wr.alloc (.cells #[.int .u16 (p.toNat : Int), .int .u16 (c.toNat : Int)] t)) ao l wr.heap.size p c := by
  obtain ⟨hc, hN⟩ := one_box wr #[.int .u16 (p.toNat : Int), .int .u16 (c.toNat : Int)] t
  exact ⟨h.next hN.1, hc 0 _ rfl, hc 1 _ rfl⟩
end

set_option maxRecDepth 100000 in
set_option maxHeartbeats 4000000 in
theorem hurt_walk (l : List In) (ao : Option Addr) (cap : Nat) (n : Int) (p c : BitVec 16) (w : World) (hI : Lies w w.heap.size ao l) (hF : FitL l) (hm : l.length ≤ maxLen) (hn : n ≤ 9223372036854775807) :
    Calls Try.prog 5 #[.slice ao l.length cap, .int .i64 n, .agg #[.int .u16 (p.toNat : Int), .int .u16 (c.toNat : Int)]] w (Tells (.bool true) w) := by
  have HF := Lib.hid hF
  have HA := Lib.hid (At.first hI)
  have HE : Hid (∀ W, At w W ao l → Calls Try.prog 7 #[.slice ao l.length cap] W (Tells (.tuple #[.string (S (encL l)), .int .i64 (errC l : Nat)]) W)) := fun W h => tells_encode HF.out ao cap h
  have hmi : (l.length : Int) ≤ 9223372036854775807 := by unfold maxLen at hm; omega
  clear hI hF hm
  have HH := Lib.hid (Hr.new HA.out p c 41)
  clear HA
  unfold Tells at HE ⊢
  by_cases h100 : (100 : Int) < l.length
  · generalize errC l = ec at *
    generalize S (encL l) = z at *
    go_enter Try.func5, Try.ntmps5
    go_wp2_with fail
    refine (wake_any _).mono ?_
    rintro e w1 ⟨rfl, hb1⟩
    have HH1 := Lib.hid (HH.out.next hb1)
    clear hb1 HH
    generalize w.heap.size = b at *
    go_wp2_with fail
    refine (HE.out _ HH1.out.at_).mono ?_
    rintro e w2 ⟨rfl, hb1⟩
    have HH2 := Lib.hid (HH1.out.next hb1)
    clear hb1 HH1
    go_wp2
    go_ret
    exact ⟨rfl, HH2.out.at_.below⟩
  · by_cases he : errC l = 0
    · obtain ⟨j, hj2, hj10, hC0⟩ := decode_cut he (c.toNat % (encL l).length) (Nat.mod_lt _ (by rw [enc_len he]; omega))
      have hzs : (S (encL l)).size = (encL l).length := S_size _
      have hel := enc_len he
      obtain ⟨b1, hB0, hcase⟩ := burst_one (S (encL l)) (by rw [hzs]; omega) n hn p
      have hB := Lib.hid hB0
      have hC := Lib.hid hC0
      clear hB0 hC0
      rw [he] at HE
      have hk : ((c.toNat : Int) % ((S (encL l)).size : Int)) = ((c.toNat % (encL l).length : Nat) : Int) := by rw [hzs]; omega
      have hkl : c.toNat % (encL l).length < (encL l).length := Nat.mod_lt _ (by omega)
      have hz3 : (3 : Int) ≤ (S (encL l)).size := by omega
      have hz4 : ((S (encL l)).size : Int) ≤ 4000 := by omega
      have hkz : ((c.toNat % (encL l).length : Nat) : Int) < (S (encL l)).size := by omega
      have hcw : IntKind.i64.wrap (c.toNat : Int) = c.toNat := by rw [IntKind.wrap_i64]; have := c.isLt; omega
      have hj0 : ((j : Int) != 0) = true := by rw [bne_iff_ne]; omega
      by_cases hbz : b1 = S (encL l)
      · subst hbz
        have HD := Lib.hid (fun W => decode_ok (dec_of_enc he) (by omega) W)
        have heq : ((S (encL l)).toList == (S (encL l)).toList) = true := by simp
        have hne : ((S (encL l)).toList != (S (encL l)).toList) = false := by simp
        have HQ : Hid (∀ (W : World) (a2 : Option Addr) (c2 : Nat), At w W ao l → Lies W W.heap.size a2 l → Calls Try.prog 14 #[.slice ao l.length cap, .slice a2 l.length c2] W fun e w' => e = .returned (.bool true) ∧ ∃ k, w' = W.drewN k) := fun W a2 c2 h1 h2 => rSame_any l ao a2 cap c2 W h1.lies h2 (by omega)
        clear he hcase hzs hel
        generalize c.toNat % (encL l).length = k at *
        generalize S (encL l) = z at *
        go_enter Try.func5, Try.ntmps5
        go_wp2_with fail
        refine (wake_any _).mono ?_
        rintro e w1 ⟨rfl, hb1⟩
        have HH1 := Lib.hid (HH.out.next hb1)
        clear hb1 HH
        generalize w.heap.size = b at *
        go_wp2_with fail
        refine (HE.out _ HH1.out.at_).mono ?_
        rintro e w2 ⟨rfl, hb1⟩
        have HH2 := Lib.hid (HH1.out.next hb1)
        clear hb1 HH1
        obtain ⟨q0, q1⟩ := (⟨HH2.out.c0, HH2.out.c1⟩ : _ ∧ _)
        go_wp2_with fail
        refine (hB.out _).mono ?_
        rintro e w3 ⟨rfl, hb1⟩
        have HH3 := Lib.hid (HH2.out.next hb1)
        clear hb1 HH2 q0 q1
        go_wp2_with fail
        refine (HD.out _).mono ?_
        rintro e w4 ⟨a4, c4, rfl, hl4, hb1⟩
        have HH4 := Lib.hid (⟨HH3.out.next hb1, hl4⟩ : _ ∧ _)
        clear hb1 hl4 HH3
        go_wp2_with fail
        refine (HQ.out _ _ _ HH4.out.1.at_ HH4.out.2).mono ?_
        rintro e w5 ⟨rfl, kd, rfl⟩
        have HH5 := Lib.hid (HH4.out.1.drewN kd)
        clear HH4
        obtain ⟨q0, q1⟩ := (⟨HH5.out.c0, HH5.out.c1⟩ : _ ∧ _)
        go_wp2_with fail
        refine (hC.out _).mono ?_
        rintro e w6 ⟨a6, c6, rfl, hb1⟩
        have HH6 := Lib.hid (HH5.out.next hb1)
        clear hb1 HH5 q0 q1
        go_wp2
        go_ret
        exact ⟨rfl, HH6.out.at_.below⟩
      · obtain ⟨a, ha, rfl⟩ := hcase.resolve_left hbz
        have hdb : decC (burstB (S (encL l)) a p).data.toList = .error 9 := by
          rw [enc_ok he] at ha hbz ⊢
          exact dec_burst (by rw [← S_size (sealL (bareL l))]; exact ha) hbz
        have HD := Lib.hid (fun W => decode_text hdb (by rw [burst_size, hzs]; omega) W)
        have heq : ((burstB (S (encL l)) a p).toList == (S (encL l)).toList) = false := str_ne hbz
        have hne : ((burstB (S (encL l)) a p).toList != (S (encL l)).toList) = true := by rw [bne, heq]; rfl
        clear he hcase hzs hel hdb ha hbz
        generalize c.toNat % (encL l).length = k at *
        generalize burstB (S (encL l)) a p = z2 at *
        generalize S (encL l) = z at *
        go_enter Try.func5, Try.ntmps5
        go_wp2_with fail
        refine (wake_any _).mono ?_
        rintro e w1 ⟨rfl, hb1⟩
        have HH1 := Lib.hid (HH.out.next hb1)
        clear hb1 HH
        generalize w.heap.size = b at *
        go_wp2_with fail
        refine (HE.out _ HH1.out.at_).mono ?_
        rintro e w2 ⟨rfl, hb1⟩
        have HH2 := Lib.hid (HH1.out.next hb1)
        clear hb1 HH1
        obtain ⟨q0, q1⟩ := (⟨HH2.out.c0, HH2.out.c1⟩ : _ ∧ _)
        go_wp2_with fail
        refine (hB.out _).mono ?_
        rintro e w3 ⟨rfl, hb1⟩
        have HH3 := Lib.hid (HH2.out.next hb1)
        clear hb1 HH2 q0 q1
        go_wp2_with fail
        refine (HD.out _).mono ?_
        rintro e w4 ⟨a4, c4, rfl, hb1⟩
        have HH5 := Lib.hid (HH3.out.next hb1)
        clear hb1 HH3
        obtain ⟨q0, q1⟩ := (⟨HH5.out.c0, HH5.out.c1⟩ : _ ∧ _)
        go_wp2_with fail
        refine (hC.out _).mono ?_
        rintro e w6 ⟨a6, c6, rfl, hb1⟩
        have HH6 := Lib.hid (HH5.out.next hb1)
        clear hb1 HH5 q0 q1
        go_wp2
        go_ret
        exact ⟨rfl, HH6.out.at_.below⟩
    · have hb : (((errC l : Nat) : Int) != 0) = true := by rw [bne_iff_ne]; omega
      clear he
      generalize errC l = ec at *
      generalize S (encL l) = z at *
      go_enter Try.func5, Try.ntmps5
      go_wp2_with fail
      refine (wake_any _).mono ?_
      rintro e w1 ⟨rfl, hb1⟩
      have HH1 := Lib.hid (HH.out.next hb1)
      clear hb1 HH
      generalize w.heap.size = b at *
      go_wp2_with fail
      refine (HE.out _ HH1.out.at_).mono ?_
      rintro e w2 ⟨rfl, hb1⟩
      have HH2 := Lib.hid (HH1.out.next hb1)
      clear hb1 HH1
      go_wp2
      go_ret
      exact ⟨rfl, HH2.out.at_.below⟩

end Go.Proofs.Ytocjimedbnjmiaa.Co
