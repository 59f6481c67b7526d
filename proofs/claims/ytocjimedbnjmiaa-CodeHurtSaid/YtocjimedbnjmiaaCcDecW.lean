/-
  The code's Decode, walked. Conditions: texts of up to 2100 bytes.
-/
import Derived.Test.YtocjimedbnjmiaaCcDec
import Derived.Test.YtocjimedbnjmiaaIkS
namespace Go.Proofs.Ytocjimedbnjmiaa.Co
open Go.RowKit
open Go.Proofs.Ytocjimedbnjmiaa.Il hiding S S_size S_app S_list S_inj
open Go.Proofs.Ytocjimedbnjmiaa.Ic Go.Proofs.Ytocjimedbnjmiaa.Oct Sums

def decR : Bs → Except Nat (List In)
  | [] => .error 10
  | c :: r => if r.length ≠ 8 * c.toNat then .error 10 else if 200 < c.toNat then .error 2 else if (listOf r).all rightI then .ok (listOf r) else .error 3
theorem dec_seal {t b : Bs} (hb : b = t.take (t.length - 2)) (h2 : 2 ≤ t.length) (hse : sealL b = t) : decC t = decR b := by
  unfold decC
  rw [if_neg (by rw [← hb, hse]; simp; omega), ← hb]
  cases b <;> rfl

set_option maxRecDepth 100000 in
set_option maxHeartbeats 8000000 in
theorem cDecode_any (t : Bs) (ht : t.length ≤ 2100) (w : World) : Calls Try.prog 11 #[.string (S t)] w (Decs t w) := by
  by_cases h2 : t.length < 2
  · have HD := Lib.hid (show decC t = .error 9 by unfold decC; rw [if_pos (.inl h2)])
    have HO := Lib.hid (fun W => cOpen_short h2 W)
    clear h2 ht
    go_enter Try.func11, Try.ntmps11
    go_wp2_with fail
    refine (HO.out _).mono ?_
    rintro e w1 ⟨rfl, hb1⟩
    replace hb1 := Lib.hid hb1
    go_wp2
    go_ret2
    exact dec_err HD.out rfl hb1.out
  · obtain ⟨b, hb⟩ : ∃ b, b = t.take (t.length - 2) := ⟨_, rfl⟩
    have hbl : b.length = t.length - 2 := by rw [hb, List.length_take]; omega
    by_cases hse : sealL b = t
    · have HO := Lib.hid (fun W => cOpen_ok hb (by omega) (by omega) hse W)
      have hD0 := dec_seal hb (by omega) hse
      have HN := Lib.hid (fun W => neweye_any (S b) W)
      rw [show (S b).data.toList = b from rfl] at HN
      cases b with
      | nil =>
        have HD := Lib.hid (show decC t = .error 10 from hD0)
        clear hse hb hbl hD0
        go_enter Try.func11, Try.ntmps11
        go_wp2_with fail
        refine (HO.out _).mono ?_
        rintro e w1 ⟨rfl, hb1⟩
        have HB1 := Lib.hid hb1
        clear hb1
        go_wp2_with fail
        refine (HN.out _).mono ?_
        rintro e w2 ⟨rfl, he2, hb2⟩
        have HE2 := Lib.hid he2
        have HB2 := Lib.hid (⟨HB1.out.trans (hb2.mono HB1.out.size), HB1.out.size, show w1.heap.size < w2.heap.size from he2.lt⟩ : _ ∧ _ ∧ _)
        clear he2 hb2 HB1
        generalize w1.heap.size = p at *
        go_wp2_with fail
        refine (cbyte0 p _ HE2.out).mono ?_
        rintro e w3 ⟨rfl, he3, hg3⟩
        have HE3 := Lib.hid he3
        have HB3 := Lib.hid (HB2.out.1.trans (below_only hg3 HB2.out.2.1 (by have := HB2.out.2; omega)))
        clear he3 hg3 HB2 HE2
        go_wp2_with fail
        refine (blind_any p _ _ _ HE3.out).mono ?_
        rintro e w4 ⟨rfl, rfl⟩
        go_wp2
        go_ret2
        exact dec_err HD.out rfl HB3.out
      | cons c r =>
        by_cases hlen : r.length ≠ 8 * c.toNat
        · have HD := Lib.hid (show decC t = .error 10 by rw [hD0]; unfold decR; dsimp only; rw [if_pos hlen])
          have hlb : ((r.length : Int) != (c.toNat : Int) * 8) = true := by rw [bne_iff_ne]; omega
          have hcw : IntKind.i64.wrap (c.toNat : Int) = c.toNat := by rw [IntKind.wrap_i64]; have := c.toNat_lt; omega
          have hc8 : IntKind.i64.wrap ((c.toNat : Int) * 8) = (c.toNat : Int) * 8 := by rw [IntKind.wrap_i64]; have := c.toNat_lt; omega
          clear hse hb hbl hD0 hlen
          go_enter Try.func11, Try.ntmps11
          go_wp2_with fail
          refine (HO.out _).mono ?_
          rintro e w1 ⟨rfl, hb1⟩
          have HB1 := Lib.hid hb1
          clear hb1
          go_wp2_with fail
          refine (HN.out _).mono ?_
          rintro e w2 ⟨rfl, he2, hb2⟩
          have HE2 := Lib.hid he2
          have HB2 := Lib.hid (⟨HB1.out.trans (hb2.mono HB1.out.size), HB1.out.size, show w1.heap.size < w2.heap.size from he2.lt⟩ : _ ∧ _ ∧ _)
          clear he2 hb2 HB1
          generalize w1.heap.size = p at *
          go_wp2_with fail
          refine (cbyte1 p c r _ HE2.out).mono ?_
          rintro e w3 ⟨rfl, he3, hg3⟩
          have HE3 := Lib.hid he3
          have HB3 := Lib.hid (HB2.out.1.trans (below_only hg3 HB2.out.2.1 (by have := HB2.out.2; omega)))
          clear he3 hg3 HB2 HE2
          go_wp2_with fail
          refine (blind_any p _ _ _ HE3.out).mono ?_
          rintro e w4 ⟨rfl, rfl⟩
          go_wp2_with fail
          refine (left_any p _ _ _ HE3.out).mono ?_
          rintro e w5 ⟨rfl, rfl⟩
          go_wp2
          go_ret2
          exact dec_err HD.out rfl HB3.out
        · have hlen' : r.length = 8 * c.toNat := by omega
          have hlb : ((r.length : Int) != (c.toNat : Int) * 8) = false := by rw [bne_eq_false_iff_eq]; omega
          have hcw : IntKind.i64.wrap (c.toNat : Int) = c.toNat := by rw [IntKind.wrap_i64]; have := c.toNat_lt; omega
          have hc8 : IntKind.i64.wrap ((c.toNat : Int) * 8) = (c.toNat : Int) * 8 := by rw [IntKind.wrap_i64]; have := c.toNat_lt; omega
          have hc255 : c.toNat ≤ 255 := by have := c.toNat_lt; omega
          by_cases h200 : 200 < c.toNat
          · have HD := Lib.hid (show decC t = .error 2 by rw [hD0]; unfold decR; dsimp only; rw [if_neg hlen, if_pos h200])
            have h2c : (200 : Int) < c.toNat := by omega
            clear hse hb hbl hD0 hlen hlen' h200 hc255
            go_enter Try.func11, Try.ntmps11
            go_wp2_with fail
            refine (HO.out _).mono ?_
            rintro e w1 ⟨rfl, hb1⟩
            have HB1 := Lib.hid hb1
            clear hb1
            go_wp2_with fail
            refine (HN.out _).mono ?_
            rintro e w2 ⟨rfl, he2, hb2⟩
            have HE2 := Lib.hid he2
            have HB2 := Lib.hid (⟨HB1.out.trans (hb2.mono HB1.out.size), HB1.out.size, show w1.heap.size < w2.heap.size from he2.lt⟩ : _ ∧ _ ∧ _)
            clear he2 hb2 HB1
            generalize w1.heap.size = p at *
            go_wp2_with fail
            refine (cbyte1 p c r _ HE2.out).mono ?_
            rintro e w3 ⟨rfl, he3, hg3⟩
            have HE3 := Lib.hid he3
            have HB3 := Lib.hid (HB2.out.1.trans (below_only hg3 HB2.out.2.1 (by have := HB2.out.2; omega)))
            clear he3 hg3 HB2 HE2
            go_wp2_with fail
            refine (blind_any p _ _ _ HE3.out).mono ?_
            rintro e w4 ⟨rfl, rfl⟩
            go_wp2_with fail
            refine (left_any p _ _ _ HE3.out).mono ?_
            rintro e w5 ⟨rfl, rfl⟩
            go_wp2
            go_ret2
            exact dec_err HD.out rfl HB3.out
          · have h2c : ¬ (200 : Int) < c.toNat := by omega
            have HDc := Lib.hid (show decC t = if (listOf r).all rightI then .ok (listOf r) else .error 3 by rw [hD0]; unfold decR; dsimp only; rw [if_neg hlen, if_neg h200])
            have HL := Lib.hid hlen'
            obtain ⟨n, hn⟩ : ∃ n, n = c.toNat := ⟨_, rfl⟩
            rw [← hn] at hcw hc8 h2c hlb HL hc255
            have hmk := mk5 n hc255
            have HC := Lib.hid (fun W he => cbyte1 (w.heap.size) c r W he)
            have hcb : Hid (∀ (p : Nat) (W : World), EyeAt W p (c :: r) false → Calls Try.prog 24 #[.pointer (some ⟨p, 0, none⟩)] W (Reads (.int .u8 (n : Int)) W p r false)) := Lib.hid (fun p W he => by rw [hn]; exact cbyte1 p c r W he)
            have h200' := Lib.hid (show n ≤ 200 by omega)
            have hn2 : (n : Int) ≤ 200 := by omega
            clear hse hb hbl hD0 hlen hlen' h200 hc255 HC hn
            go_enter Try.func11, Try.ntmps11
            go_wp2_with fail
            refine (HO.out _).mono ?_
            rintro e w1 ⟨rfl, hb1⟩
            have HB1 := Lib.hid hb1
            clear hb1
            go_wp2_with fail
            refine (HN.out _).mono ?_
            rintro e w2 ⟨rfl, he2, hb2⟩
            have HE2 := Lib.hid he2
            have HB2 := Lib.hid (⟨HB1.out.trans (hb2.mono HB1.out.size), HB1.out.size, show w1.heap.size < w2.heap.size from he2.lt⟩ : _ ∧ _ ∧ _)
            clear he2 hb2 HB1
            generalize w1.heap.size = p at *
            go_wp2_with fail
            refine (hcb.out p _ HE2.out).mono ?_
            rintro e w3 ⟨rfl, he3, hg3⟩
            have HE3 := Lib.hid he3
            have HB3 := Lib.hid (⟨HB2.out.1.trans (below_only hg3 HB2.out.2.1 (by have := HB2.out.2; omega)), HB2.out.2.1, show p < w3.heap.size from he3.lt⟩ : _ ∧ _ ∧ _)
            clear he3 hg3 HB2 HE2
            go_wp2_with fail
            refine (blind_any p _ _ _ HE3.out).mono ?_
            rintro e w4 ⟨rfl, rfl⟩
            go_wp2_with fail
            refine (left_any p _ _ _ HE3.out).mono ?_
            rintro e w5 ⟨rfl, rfl⟩
            have HDn := Lib.hid (show Dn w.heap.size w (w3.alloc (.cells (madeCells zero5 (n * 5)) 45)) p w3.heap.size n r r 0 (List.replicate n zeroIn) from
              ⟨eye_alloc HE3.out _, made_row w3 _ n (by have := HB3.out.2; omega) (by have := h200'.out; omega), HB3.out.1.alloc (by have := HB3.out.2; omega) _, HB3.out.2.1, by have := HB3.out.2; omega, by have := HB3.out.2; simp; omega, by have := HB3.out.2.2; omega, by simp, by rw [HL.out]; omega, by simp, fun j x hj _ => by omega⟩)
            clear HE3 HB3
            go_wp2
            go_loopw [37] (fun i wr => ∃ (k : Nat) (q : Bs) (xs : List In), (k : Int) ≤ n ∧ i = .int .i64 k ∧ Hid (Dn w.heap.size w wr p w3.heap.size n r q k xs)) (fun i _ => n - (intOf i).toNat)
            case atStart => exact ⟨0, r, _, by omega, rfl, HDn⟩
            case round =>
              obtain ⟨k, q, xs, hk, rfl, hS⟩ := hrel
              clear HDn
              generalize w3.heap.size = g at *
              by_cases hlt : (k : Int) < n
              · obtain ⟨o, kk, a, l, m1, m2, m3, m4, q2, rfl, hq2⟩ := eight (q := q) (n := n - k - 1) (by rw [hS.out.rest]; omega)
                have HRd := Lib.hid (cReadIns_any p o kk a l m1 m2 m3 m4 q2 wr hS.out.eye)
                obtain ⟨x, hx⟩ : ∃ x : In, x = ⟨o.toNat, kk.toNat, a.toNat, l.toNat, sgnI kk.toNat (num [m1, m2, m3, m4])⟩ := ⟨_, rfl⟩
                rw [← hx] at HRd
                have hkl : k < xs.length := by rw [hS.out.len]; omega
                go_wp2_with fail
                refine HRd.out.mono ?_
                rintro e w6 ⟨rfl, he6, hg6⟩
                have HP := hS.out.read (u := insV x) (e := .returned (insV x)) ⟨rfl, he6, hg6⟩
                have HD2 := Lib.hid (hS.out.put (by omega) HP.1 HP.2.1 HP.2.2.1 HP.2.2.2 hx)
                obtain ⟨y, hy⟩ : ∃ y, xs[k]? = some y := ⟨_, List.getElem?_eq_getElem hkl⟩
                obtain ⟨y0, y1, y2, y3, y4⟩ := row_at HP.2.1 hy
                have z0 := World.ownsRow.frozenAt HP.2.1 (k * 5)
                have z1 := World.ownsRow.frozenAt HP.2.1 (k * 5 + 1)
                have z2 := World.ownsRow.frozenAt HP.2.1 (k * 5 + 2)
                have z3 := World.ownsRow.frozenAt HP.2.1 (k * 5 + 3)
                have z4 := World.ownsRow.frozenAt HP.2.1 (k * 5 + 4)
                have HX : I64 x.n := by
                  have h1 := hS.out.all
                  have h3 : listOf (o :: kk :: a :: l :: m1 :: m2 :: m3 :: m4 :: q2) = x :: listOf q2 := by rw [hx]; rfl
                  rw [h3] at h1
                  exact (fit_list r k x (by rw [h1, List.getElem?_append_right (by rw [List.length_take]; omega), List.length_take, show k - min k xs.length = 0 by omega]; rfl)).2.2.2.2
                have HR := Lib.hid (fun W => cRight_any x HX W)
                unfold insV at HR ⊢
                clear HP hy he6 hg6 hx HX HRd hS hq2
                cases hr : rightI x
                · rw [hr] at HR
                  have HDe := Lib.hid (show decC t = .error 3 by rw [HDc.out, HD2.out.stop hr (by omega)]; rfl)
                  clear hr
                  go_wp2_with fail
                  refine (HR.out _).mono ?_
                  rintro e w7 ⟨rfl, hb7⟩
                  have HB7 := Lib.hid (HD2.out.below.trans (hb7.mono HD2.out.hN))
                  clear hb7 HD2 y0 y1 y2 y3 y4 z0 z1 z2 z3 z4
                  go_wp2
                  go_ret2
                  exact dec_err HDe.out rfl HB7.out
                · rw [hr] at HR
                  have Hr := Lib.hid hr
                  clear hr
                  go_wp2_with fail
                  refine (HR.out _).mono ?_
                  rintro e w7 ⟨rfl, hb7⟩
                  have HD3 := Lib.hid (HD2.out.next Hr.out hb7)
                  clear hb7 HD2 y0 y1 y2 y3 y4 z0 z1 z2 z3 z4
                  go_wp2
                  go_roundw
                  case rel => exact ⟨k + 1, q2, xs.set k x, by omega, by go_num, HD3⟩
                  case measure => simp [intOf]; omega
              · obtain rfl : k = n := by omega
                have hxs := hS.out.done
                have hal := hS.out.fine
                rw [← hS.out.len] at hal
                have HDe := Lib.hid (show decC t = .ok xs by rw [HDc.out, ← hxs, hal.all]; rfl)
                obtain ⟨hkl, ao, cap, hv, hL⟩ := row_lies hS.out.row
                injection hv with hv1 _ hv2
                subst hv1
                have HLs := Lib.hid (⟨hL, hS.out.below, show xs.length ≤ 200 by have := h200'.out; omega, hkl⟩ : _ ∧ _ ∧ _ ∧ _)
                clear hL hS hxs hal hkl hv2
                go_wp2
                go_ret2
                unfold Decs
                rw [HDe.out]
                exact ⟨_, k, by show _ = Ending.returned (.tuple #[.slice _ xs.length k, _]); rw [← HLs.out.2.2.2]; rfl, HLs.out.1, HLs.out.2.2.1, HLs.out.2.1⟩
    · have HD := Lib.hid (show decC t = .error 9 by unfold decC; rw [if_pos (.inr (by rw [← hb]; exact hse))])
      have HO := Lib.hid (fun W => cOpen_no hb (by omega) (by omega) hse W)
      clear hse hb hbl h2 ht
      go_enter Try.func11, Try.ntmps11
      go_wp2_with fail
      refine (HO.out _).mono ?_
      rintro e w1 ⟨rfl, hb1⟩
      replace hb1 := Lib.hid hb1
      go_wp2
      go_ret2
      exact dec_err HD.out rfl hb1.out

end Go.Proofs.Ytocjimedbnjmiaa.Co
