/-
  The reference's Bytes, walked: which bytes a program writes, or reads. Conditions: numbers that an int holds.
-/
import Derived.Test.YtbjmdehfdnpljaaVrAll
import Derived.Test.YtbjmdehfdnpljaaVeD
namespace Go.Proofs.Ytbjmdehfdnpljaa.Ve
open Go.RowKit
open Go.Proofs.Ytbjmdehfdnpljaa.Il hiding Next
open Go.Proofs.Ytbjmdehfdnpljaa.Ic hiding I64

theorem mask_next (t p : Nat) : (2 ^ t - 1) * 2 ^ p ||| 2 ^ (p + t) = (2 ^ (t + 1) - 1) * 2 ^ p := by
  have h2 : 0 < 2 ^ t := Nat.two_pow_pos t
  have h3 : 0 < 2 ^ p := Nat.two_pow_pos p
  have hlt : (2 ^ t - 1) * 2 ^ p < 2 ^ (p + t) := by
    rw [Nat.pow_add, Nat.mul_comm (2 ^ p)]
    exact Nat.mul_lt_mul_of_pos_right (by omega) h3
  have h := Nat.two_pow_add_eq_or_of_lt hlt 1
  rw [Nat.mul_one] at h
  rw [Nat.or_comm, ← h, Nat.pow_add, Nat.pow_succ]
  have e1 : (2 ^ t - 1) * 2 ^ p + 2 ^ p = 2 ^ t * 2 ^ p := by
    rw [← Nat.succ_mul]
    congr 1
    omega
  have e2 : (2 ^ t * 2 - 1) * 2 ^ p + 2 ^ p = 2 ^ t * 2 * 2 ^ p := by
    rw [← Nat.succ_mul]
    congr 1
    omega
  have e3 : 2 ^ t * 2 * 2 ^ p = 2 ^ t * 2 ^ p + 2 ^ t * 2 ^ p := by
    rw [Nat.mul_assoc, Nat.mul_comm 2, ← Nat.mul_assoc, Nat.mul_two]
  rw [Nat.mul_comm (2 ^ p) (2 ^ t)]
  omega
theorem uses_eq {b : Bool} {op : Int} (h1 : 1 ≤ op) (h36 : op ≤ 36) : usesB b op = (decide (34 ≤ op) || (storeB op == b)) := by
  unfold usesB storeB blockB
  by_cases h : 34 ≤ op
  · rw [decide_eq_true h, decide_eq_true (show 34 ≤ op ∧ op ≤ 36 by omega), decide_eq_false (show ¬ (3 ≤ op ∧ op ≤ 6) by omega)]
    cases b <;> rfl
  · rw [decide_eq_false h, decide_eq_false (show ¬ (34 ≤ op ∧ op ≤ 36) by omega)]
    generalize decide (3 ≤ op ∧ op ≤ 6) = s
    cases b <;> cases s <;> rfl
theorem pow_lt {m : Nat} (h : m < 64) : 2 ^ m < 18446744073709551616 := by
  have h1 : 2 ^ m < 2 ^ 64 := Nat.pow_lt_pow_right (by decide) h
  have : (2 : Nat) ^ 64 = 18446744073709551616 := by decide
  omega
theorem shl_one (m : Nat) (h : m < 64) : IntKind.u64.wrap ((2 : Int) ^ m) = ((2 ^ m : Nat) : Int) := by
  have h1 := pow_lt h
  rw [IntKind.wrap_u64, show (2 : Int) ^ m = ((2 ^ m : Nat) : Int) by rw [Int.natCast_pow]; rfl]
  generalize 2 ^ m = z at *
  omega
theorem pow_cast (m : Nat) : ((2 ^ m : Nat) : Int) = (2 : Int) ^ m := by rw [Int.natCast_pow]; rfl
/-- How far Bytes has come. -/
structure Tb (w W : World) (g n : Nat) (l : List Ah) (f : Nat → Nat) : Prop where
  row : RRow W (w.heap.size + 2) g (n + 1) l
  used : U4 W (w.heap.size + 1) f
  res : U4 W w.heap.size (fun _ => 0)
  below : Below w.heap.size w W
/-- .. with an instruction of its own, in block b. -/
structure Ti (w W : World) (g n : Nat) (l : List Ah) (f : Nat → Nat) (b : Nat) (x : In) : Prop where
  tb : Tb w W g n l f
  ins : W.rangeAt b 0 (insC x)
  nb : b ≠ w.heap.size + 1
section
variable {w W W' : World} {g n b q v : Nat} {l : List Ah} {f f' : Nat → Nat} {x : In}
theorem Tb.kept (t : Tb w W g n l f) (hb : Below W.heap.size W W') : Tb w W' g n l f :=
  ⟨t.row.kept hb, t.used.kept hb, t.res.kept hb, t.below.trans (hb.mono t.below.size)⟩
theorem Tb.drew (t : Tb w W g n l f) : Tb w W.drew g n l f := ⟨t.row.drew, t.used.drew, t.res.drew, t.below.drew⟩
theorem Tb.at (t : Tb w W g n l f) (h : ∀ j, f' j = f j) : Tb w W g n l f' := ⟨t.row, t.used.at (fun j _ => h j), t.res, t.below⟩
theorem Tb.put (t : Tb w W g n l f) (hq : q < 4) (hf : ∀ j, j < 4 → f' j = if j = q then v else f j) : Tb w (W.setCell ⟨w.heap.size + 1, q, none⟩ (.int .u64 (v : Nat))) g n l f' :=
  ⟨t.row.other (by have := t.row.lt; omega) _, t.used.set hq hf, t.res.other (by omega) _, t.below.setCell (by show w.heap.size ≤ w.heap.size + 1; omega) _⟩
theorem Tb.with (t : Tb w W g n l f) (x : In) : Ti w (W.alloc (.cells (insC x).toArray 54)) g n l f W.heap.size x :=
  ⟨t.kept ((Below.refl _ _).alloc (Nat.le_refl _) _), range_new _ _ _, Nat.ne_of_gt t.used.lt⟩
theorem Ti.kept (t : Ti w W g n l f b x) (hb : Below W.heap.size W W') : Ti w W' g n l f b x := ⟨t.tb.kept hb, range_below t.ins hb, t.nb⟩
theorem Ti.drew (t : Ti w W g n l f b x) : Ti w W.drew g n l f b x := ⟨t.tb.drew, t.ins, t.nb⟩
theorem Ti.put (t : Ti w W g n l f b x) (hq : q < 4) (hf : ∀ j, j < 4 → f' j = if j = q then v else f j) : Ti w (W.setCell ⟨w.heap.size + 1, q, none⟩ (.int .u64 (v : Nat))) g n l f' b x :=
  ⟨t.tb.put hq hf, range_set t.ins t.nb _, t.nb⟩
theorem Ti.cells (t : Ti w W g n l f b x) (hq : q < 4) : W.cell? ⟨b, 0, none⟩ = some (.int .i64 x.op) ∧ W.cell? ⟨b, 1, none⟩ = some (.int .i64 x.kd) ∧ W.cell? ⟨b, 2, none⟩ = some (.int .i64 x.ar) ∧ W.cell? ⟨b, 3, none⟩ = some (.int .i64 x.pl) ∧ W.cell? ⟨b, 4, none⟩ = some (.int .i64 x.n) ∧ W.cell? ⟨w.heap.size + 1, q, none⟩ = some (.int .u64 (f q : Nat)) ∧ W.frozen? ⟨w.heap.size + 1, q, none⟩ = false :=
  ⟨t.ins 0 _ rfl, t.ins 1 _ rfl, t.ins 2 _ rfl, t.ins 3 _ rfl, t.ins 4 _ rfl, t.tb.used.cell q hq, t.tb.used.free q hq⟩
end
/-- Area q + 1 with t bytes more, from p on. -/
def moreB (f : Nat → Nat) (q t p : Nat) (j : Nat) : Nat := if j = q then f q ||| (2 ^ t - 1) * 2 ^ p else f j
theorem more_zero (f : Nat → Nat) (q p j : Nat) : moreB f q 0 p j = f j := by
  unfold moreB
  split
  · next h => subst h; simp
  · rfl
theorem more_next (f : Nat → Nat) (q t p j : Nat) : moreB f q (t + 1) p j = if j = q then moreB f q t p q ||| 2 ^ (p + t) else moreB f q t p j := by
  unfold moreB
  by_cases h : j = q
  · rw [if_pos h, if_pos h, if_pos rfl, Nat.or_assoc, mask_next]
  · rw [if_neg h, if_neg h, if_neg h]
theorem more_lt {f : Nat → Nat} {q t p : Nat} (hf : f q < 18446744073709551616) (h : p + t ≤ 64) : moreB f q t p q < 18446744073709551616 := by
  unfold moreB
  rw [if_pos rfl]
  exact Nat.or_lt_two_pow (n := 64) hf (mask_lt t p h)

set_option maxRecDepth 100000 in
set_option maxHeartbeats 16000000 in
theorem rBytes_any (ws : Bool) (c : List In) (ao : Option Addr) (cap : Nat) (w : World) (hI : Lies w w.heap.size ao c) (hF : FitL c) (hm : c.length ≤ maxLen) :
    Calls Try.prog 18 #[.slice ao c.length cap, .bool ws] w (Tells (u4V (useB ws c)) w) := by
  have HI := Lib.hid hI
  have HF := Lib.hid hF
  have hb2 : Below w.heap.size w ((w.alloc (.cells #[.int .u64 0, .int .u64 0, .int .u64 0, .int .u64 0] 47)).alloc (.cells #[.int .u64 0, .int .u64 0, .int .u64 0, .int .u64 0] 47)) := box_two _ _ _ _ _
  have hs2 : ((w.alloc (.cells #[.int .u64 0, .int .u64 0, .int .u64 0, .int .u64 0] 47)).alloc (.cells #[.int .u64 0, .int .u64 0, .int .u64 0, .int .u64 0] 47)).heap.size = w.heap.size + 2 := by simp
  have hu1 := U4.new (w.alloc (.cells #[.int .u64 0, .int .u64 0, .int .u64 0, .int .u64 0] 47)) 47
  rw [show (w.alloc (.cells #[.int .u64 0, .int .u64 0, .int .u64 0, .int .u64 0] 47)).heap.size = w.heap.size + 1 by simp] at hu1
  have hu0 := (U4.new w 47).kept ((Below.refl _ _).alloc (Nat.le_refl _) (.cells #[.int .u64 0, .int .u64 0, .int .u64 0, .int .u64 0] 47))
  have HC := Lib.hid (rAll_any c ao cap _ ((hI.below hb2).more (by rw [hs2]; omega)) hF hm)
  unfold Alls at HC
  rw [hs2] at HC
  have H0 := Lib.hid (⟨hu0, hu1, hb2, hs2⟩ : _ ∧ _ ∧ _ ∧ _)
  clear hu0 hu1 hb2 hs2 hI
  rcases all_cases c with ⟨r, k, h, hr0, hr10, -⟩ | ⟨l, h, hw, -, h200⟩
  · rw [h] at HC
    dsimp only at HC
    have HV := Lib.hid (show useB ws c = fun _ => 0 by funext j; unfold useB; rw [h])
    rw [HV.out]
    have hrb : ((r : Int) != 0) = true := by rw [bne_iff_ne]; omega
    clear h hF hm hr0
    go_enter Try.func18, Try.ntmps18
    go_wp2_with fail
    refine HC.out.mono ?_
    rintro e w1 ⟨rfl, hb⟩
    rw [← H0.out.2.2.2] at hb
    have u0 := H0.out.1.kept hb
    have u1 := H0.out.2.1.kept hb
    have HB := Lib.hid (H0.out.2.2.1.trans (hb.mono (by rw [H0.out.2.2.2]; omega)))
    have HU0 := Lib.hid u0
    have a0 := u0.cell 0 (by omega)
    have a1 := u0.cell 1 (by omega)
    have a2 := u0.cell 2 (by omega)
    have a3 := u0.cell 3 (by omega)
    have f0 := u0.free 0 (by omega)
    have f1 := u0.free 1 (by omega)
    have f2 := u0.free 2 (by omega)
    have f3 := u0.free 3 (by omega)
    have b0 := u1.cell 0 (by omega)
    have b1 := u1.cell 1 (by omega)
    have b2 := u1.cell 2 (by omega)
    have b3 := u1.cell 3 (by omega)
    clear hb u0 u1
    go_wp2
    refine bodyPost_ret (v := u4V fun _ => 0) (result_u4 Try.results18 _ _ _ (fun _ => 0) rfl (u4_four HU0.out _ _ _ _ rfl rfl rfl rfl)) rfl ⟨rfl, below_four (Nat.le_refl _) HB.out _ _ _ _⟩
  · rw [h] at HC
    dsimp only at HC
    obtain ⟨n, hn⟩ : ∃ n, n = c.length := ⟨_, rfl⟩
    have HV := Lib.hid (show useB ws c = accB ws c l n by funext j; unfold useB; rw [h, hn])
    rw [HV.out]
    have HRi := Lib.hid (right_all h)
    have HW := Lib.hid hw
    have HN := Lib.hid hn
    rw [← hn] at HC ⊢
    have hn2 : (n : Int) ≤ 200 := by omega
    clear h hF hm hw hn h200
    go_enter Try.func18, Try.ntmps18
    go_wp2_with fail
    refine HC.out.mono ?_
    rintro e w1 ⟨g, rfl, hk, hb⟩
    have T0 := Lib.hid (show Tb w w1 g n l (accB ws c l 0) from ⟨hk, by
        rw [← H0.out.2.2.2] at hb
        exact (H0.out.2.1.kept hb).at (fun _ _ => rfl), by
        rw [← H0.out.2.2.2] at hb
        exact H0.out.1.kept hb, H0.out.2.2.1.trans (hb.mono (by omega))⟩)
    clear hk hb HC H0
    go_wp2
    go_loopw [9] (fun i W => ∃ (k : Nat), (k : Int) ≤ n ∧ i = .int .i64 k ∧ Hid (Tb w W g n l (accB ws c l k))) (fun i _ => n - (intOf i).toNat)
    case atStart => exact ⟨0, by omega, rfl, T0⟩
    case round =>
      obtain ⟨k, hk, rfl, hS⟩ := hrel
      clear T0
      by_cases hlt : (k : Int) < n
      · have hkn : k < n := by omega
        have hkn1 : (k : Int) < n + 1 := by omega
        have hadd1 : IntKind.i64.wrap ((k : Int) + 1) = (k : Int) + 1 := by rw [IntKind.wrap_i64]; omega
        obtain ⟨r0, r1, r2, -, -, -⟩ := hS.out.row.cells (k := k) (by omega)
        obtain ⟨x, hx⟩ : ∃ x, c[k]? = some x := ⟨_, List.getElem?_eq_getElem (by rw [← HN.out]; omega)⟩
        have HX := Lib.hid hx
        obtain ⟨b, o, rfl, -, hIt⟩ := (HI.out.below hS.out.below) (by rw [← HN.out]; omega)
        obtain ⟨y0, y1, y2, y3, y4⟩ := hIt k x hx
        have HT := Lib.hid (hS.out.with x)
        unfold insC at HT
        have Hkn := Lib.hid hkn
        have hgl := hS.out.row.lt.2
        have hlt1 := hS.out.used.lt
        have hbl : b < wr.heap.size := World.block_lt_of_cell? wr _ y0
        clear hIt hx hkn
        cases hon : (gt l k).on
        · rw [hon] at r0
          have HT2 := Lib.hid (HT.out.tb.at (f' := accB ws c l (k + 1)) (fun j => acc_skip HX.out (.inl hon) j))
          clear hon hS HT
          go_wp2
          exact ⟨⟨k + 1, by omega, by go_num, HT2⟩, by simp [intOf]; omega⟩
        · rw [hon] at r0
          have Hon := Lib.hid hon
          clear hon
          by_cases ha : x.ar = 0
          · have hab : (x.ar == 0) = true := by simpa using ha
            have HT2 := Lib.hid (HT.out.tb.at (f' := accB ws c l (k + 1)) (fun j => acc_skip HX.out (.inr (.inl ha)) j))
            clear hS HT ha
            go_wp2
            exact ⟨⟨k + 1, by omega, by go_num, HT2⟩, by simp [intOf]; omega⟩
          · have hab : (x.ar == 0) = false := by simpa using ha
            have hrs := Lib.hid (right_size (HRi.out k x HX.out) ha)
            have hop := Lib.hid (right_op (HRi.out k x HX.out))
            have HSz := Lib.hid (fun W => rSize_any x.kd W)
            clear ha hS
            go_wp2_with fail
            refine (HSz.out _).mono ?_
            rintro e w2 ⟨rfl, hb⟩
            have P := Lib.hid (HT.out.kept hb)
            clear hb HT y0 y1 y2 y3 y4 r0 r1 r2 hgl hlt1 hbl HSz
            generalize wr.heap.size = z at *
            obtain ⟨q, hq⟩ : ∃ q : Nat, x.ar = (q : Int) + 1 := ⟨(x.ar - 1).toNat, by have := hrs.out; omega⟩
            obtain ⟨p, hp⟩ : ∃ p : Nat, p = x.pl.toNat := ⟨_, rfl⟩
            have hpl : x.pl = (p : Int) := by have := hrs.out; omega
            have HP := Lib.hid hp
            have hq4 : (q : Int) < 4 := by have := hrs.out; omega
            have HQ := Lib.hid hq
            have HQ4 := Lib.hid (show q < 4 by omega)
            have hps := Lib.hid (show p + sizeI x ≤ 64 by have := hrs.out; omega)
            have hsub : IntKind.i64.wrap ((q : Int) + 1 - 1) = q := by rw [IntKind.wrap_i64]; omega
            have hwq : IntKind.i64.wrap (q : Int) = q := by rw [IntKind.wrap_i64]; omega
            have hq0 : (0 : Int) ≤ q := by omega
            obtain ⟨x0, x1, x2, x3, x4, -, -⟩ := P.out.cells HQ4.out
            rw [hq] at x2
            rw [hpl] at x3
            have HSI := Lib.hid (show sizeI x = if x.op = 34 ∨ x.op = 35 then 5 else if x.op = 36 then 1 else szI x.kd from rfl)
            have hszk : (szI x.kd : Int) ≤ 4 := by have := Ic.sz_le x.kd; omega
            generalize szI x.kd = sz at *
            have HU := Lib.hid (uses_eq (b := ws) hop.out.1 hop.out.2)
            clear hp hpl hq hab
            by_cases h34 : 34 ≤ x.op
            · have h36 := hop.out.2
              rcases (by omega : x.op = 34 ∨ x.op = 35 ∨ x.op = 36) with ho | ho | ho
              · rw [ho] at x0
                have HUT := Lib.hid (show usesB ws x.op = true by rw [HU.out, ho]; rfl)
                have HSS : Hid (sizeI x = 5) := Lib.hid (by rw [HSI.out, ho]; rfl)
                clear ho h34 h36
                go_wp2
                go_loopw [13] (fun i W => ∃ (t : Nat), (t : Int) ≤ 5 ∧ i = .int .i64 t ∧ Hid (Ti w W g n l (moreB (accB ws c l k) q t p) z x)) (fun i _ => 5 - (intOf i).toNat)
                case atStart =>
                  refine ⟨0, by omega, rfl, Lib.hid ?_⟩
                  rw [show moreB (accB ws c l k) q 0 p = accB ws c l k from funext (more_zero _ q p)]
                  exact P.out
                case round =>
                  obtain ⟨t, ht, rfl, hR⟩ := hrel
                  clear P x0 x1 x2 x3 x4
                  by_cases htl : (t : Int) < 5
                  · obtain ⟨x0, x1, x2, x3, x4, x5, x6⟩ := hR.out.cells HQ4.out
                    have hpt : (p : Int) + t < 64 := by have h1 := hps.out; rw [HSS.out] at h1; omega
                    have HPT := Lib.hid (show p + t < 64 by omega)
                    have hm1 : IntKind.i64.wrap ((p : Int) + t) = (p : Int) + t := by rw [IntKind.wrap_i64]; omega
                    have hm2 : IntKind.i64.wrap ((t : Int) + 1) = (t : Int) + 1 := by rw [IntKind.wrap_i64]; omega
                    have hA := more_lt (t := t) (p := p) (acc_lt (wr := ws) (l := l) HRi.out q k) (by omega)
                    have hB : 2 ^ (p + t) < 18446744073709551616 := pow_lt (by omega)
                    have hor := bits_or_u64_nat _ _ hA hB
                    rw [pow_cast] at hor
                    have hsh : IntKind.u64.wrap ((2 : Int) ^ (p + t)) = (2 : Int) ^ (p + t) := by rw [shl_one (p + t) (by omega), pow_cast]
                    rw [HQ.out] at x2
                    rw [show x.pl = (p : Int) by have h1 := hrs.out.2.2.1; rw [← HP.out] at h1; exact h1] at x3
                    obtain ⟨A, hAe⟩ : ∃ A, A = moreB (accB ws c l k) q t p q := ⟨_, rfl⟩
                    rw [← hAe] at x5 hor hA
                    have HA := Lib.hid hAe
                    clear hAe hA hB
                    have HR2 := Lib.hid (hR.out.put (f' := moreB (accB ws c l k) q (t + 1) p) (v := A ||| 2 ^ (p + t)) HQ4.out (fun j _ => by rw [HA.out]; exact more_next _ q t p j)).drew
                    clear hR
                    go_wp2_with fail
                    go_region
                    go_wp2
                    exact ⟨⟨t + 1, by omega, by go_num, HR2⟩, by simp [intOf]; omega⟩
                  · obtain rfl : t = 5 := by omega
                    have HT2 := Lib.hid (hR.out.tb.at (f' := accB ws c l (k + 1)) (fun j => by
                      rw [acc_put HX.out Hon.out HQ.out HUT.out j]
                      unfold moreB maskI
                      rw [HSS.out, HP.out]))
                    clear hR
                    go_wp2
                    exact ⟨⟨k + 1, by omega, by go_num, HT2⟩, by simp [intOf]; omega⟩
              · rw [ho] at x0
                have HUT := Lib.hid (show usesB ws x.op = true by rw [HU.out, ho]; rfl)
                have HSS : Hid (sizeI x = 5) := Lib.hid (by rw [HSI.out, ho]; rfl)
                clear ho h34 h36
                go_wp2
                go_loopw [13] (fun i W => ∃ (t : Nat), (t : Int) ≤ 5 ∧ i = .int .i64 t ∧ Hid (Ti w W g n l (moreB (accB ws c l k) q t p) z x)) (fun i _ => 5 - (intOf i).toNat)
                case atStart =>
                  refine ⟨0, by omega, rfl, Lib.hid ?_⟩
                  rw [show moreB (accB ws c l k) q 0 p = accB ws c l k from funext (more_zero _ q p)]
                  exact P.out
                case round =>
                  obtain ⟨t, ht, rfl, hR⟩ := hrel
                  clear P x0 x1 x2 x3 x4
                  by_cases htl : (t : Int) < 5
                  · obtain ⟨x0, x1, x2, x3, x4, x5, x6⟩ := hR.out.cells HQ4.out
                    have hpt : (p : Int) + t < 64 := by have h1 := hps.out; rw [HSS.out] at h1; omega
                    have HPT := Lib.hid (show p + t < 64 by omega)
                    have hm1 : IntKind.i64.wrap ((p : Int) + t) = (p : Int) + t := by rw [IntKind.wrap_i64]; omega
                    have hm2 : IntKind.i64.wrap ((t : Int) + 1) = (t : Int) + 1 := by rw [IntKind.wrap_i64]; omega
                    have hA := more_lt (t := t) (p := p) (acc_lt (wr := ws) (l := l) HRi.out q k) (by omega)
                    have hB : 2 ^ (p + t) < 18446744073709551616 := pow_lt (by omega)
                    have hor := bits_or_u64_nat _ _ hA hB
                    rw [pow_cast] at hor
                    have hsh : IntKind.u64.wrap ((2 : Int) ^ (p + t)) = (2 : Int) ^ (p + t) := by rw [shl_one (p + t) (by omega), pow_cast]
                    rw [HQ.out] at x2
                    rw [show x.pl = (p : Int) by have h1 := hrs.out.2.2.1; rw [← HP.out] at h1; exact h1] at x3
                    obtain ⟨A, hAe⟩ : ∃ A, A = moreB (accB ws c l k) q t p q := ⟨_, rfl⟩
                    rw [← hAe] at x5 hor hA
                    have HA := Lib.hid hAe
                    clear hAe hA hB
                    have HR2 := Lib.hid (hR.out.put (f' := moreB (accB ws c l k) q (t + 1) p) (v := A ||| 2 ^ (p + t)) HQ4.out (fun j _ => by rw [HA.out]; exact more_next _ q t p j)).drew
                    clear hR
                    go_wp2_with fail
                    go_region
                    go_wp2
                    exact ⟨⟨t + 1, by omega, by go_num, HR2⟩, by simp [intOf]; omega⟩
                  · obtain rfl : t = 5 := by omega
                    have HT2 := Lib.hid (hR.out.tb.at (f' := accB ws c l (k + 1)) (fun j => by
                      rw [acc_put HX.out Hon.out HQ.out HUT.out j]
                      unfold moreB maskI
                      rw [HSS.out, HP.out]))
                    clear hR
                    go_wp2
                    exact ⟨⟨k + 1, by omega, by go_num, HT2⟩, by simp [intOf]; omega⟩
              · rw [ho] at x0
                have HUT := Lib.hid (show usesB ws x.op = true by rw [HU.out, ho]; rfl)
                have HSS : Hid (sizeI x = 1) := Lib.hid (by rw [HSI.out, ho]; rfl)
                clear ho h34 h36
                go_wp2
                go_loopw [13] (fun i W => ∃ (t : Nat), (t : Int) ≤ 1 ∧ i = .int .i64 t ∧ Hid (Ti w W g n l (moreB (accB ws c l k) q t p) z x)) (fun i _ => 1 - (intOf i).toNat)
                case atStart =>
                  refine ⟨0, by omega, rfl, Lib.hid ?_⟩
                  rw [show moreB (accB ws c l k) q 0 p = accB ws c l k from funext (more_zero _ q p)]
                  exact P.out
                case round =>
                  obtain ⟨t, ht, rfl, hR⟩ := hrel
                  clear P x0 x1 x2 x3 x4
                  by_cases htl : (t : Int) < 1
                  · obtain ⟨x0, x1, x2, x3, x4, x5, x6⟩ := hR.out.cells HQ4.out
                    have hpt : (p : Int) + t < 64 := by have h1 := hps.out; rw [HSS.out] at h1; omega
                    have HPT := Lib.hid (show p + t < 64 by omega)
                    have hm1 : IntKind.i64.wrap ((p : Int) + t) = (p : Int) + t := by rw [IntKind.wrap_i64]; omega
                    have hm2 : IntKind.i64.wrap ((t : Int) + 1) = (t : Int) + 1 := by rw [IntKind.wrap_i64]; omega
                    have hA := more_lt (t := t) (p := p) (acc_lt (wr := ws) (l := l) HRi.out q k) (by omega)
                    have hB : 2 ^ (p + t) < 18446744073709551616 := pow_lt (by omega)
                    have hor := bits_or_u64_nat _ _ hA hB
                    rw [pow_cast] at hor
                    have hsh : IntKind.u64.wrap ((2 : Int) ^ (p + t)) = (2 : Int) ^ (p + t) := by rw [shl_one (p + t) (by omega), pow_cast]
                    rw [HQ.out] at x2
                    rw [show x.pl = (p : Int) by have h1 := hrs.out.2.2.1; rw [← HP.out] at h1; exact h1] at x3
                    obtain ⟨A, hAe⟩ : ∃ A, A = moreB (accB ws c l k) q t p q := ⟨_, rfl⟩
                    rw [← hAe] at x5 hor hA
                    have HA := Lib.hid hAe
                    clear hAe hA hB
                    have HR2 := Lib.hid (hR.out.put (f' := moreB (accB ws c l k) q (t + 1) p) (v := A ||| 2 ^ (p + t)) HQ4.out (fun j _ => by rw [HA.out]; exact more_next _ q t p j)).drew
                    clear hR
                    go_wp2_with fail
                    go_region
                    go_wp2
                    exact ⟨⟨t + 1, by omega, by go_num, HR2⟩, by simp [intOf]; omega⟩
                  · obtain rfl : t = 1 := by omega
                    have HT2 := Lib.hid (hR.out.tb.at (f' := accB ws c l (k + 1)) (fun j => by
                      rw [acc_put HX.out Hon.out HQ.out HUT.out j]
                      unfold moreB maskI
                      rw [HSS.out, HP.out]))
                    clear hR
                    go_wp2
                    exact ⟨⟨k + 1, by omega, by go_num, HT2⟩, by simp [intOf]; omega⟩
            · by_cases hst : 3 ≤ x.op ∧ x.op ≤ 6
              · have hsb : storeB x.op = true := by unfold storeB; exact decide_eq_true hst
                have HSS : Hid (sizeI x = sz) := Lib.hid (by rw [HSI.out, if_neg (by omega), if_neg (by omega)])
                obtain ⟨hs1, hs2⟩ := hst
                have e34 : (x.op == 34) = false := by rw [beq_eq_false_iff_ne]; omega
                have e35 : (x.op == 35) = false := by rw [beq_eq_false_iff_ne]; omega
                have e36 : (x.op == 36) = false := by rw [beq_eq_false_iff_ne]; omega
                cases ws
                · have HF0 : usesB false x.op = false := by rw [HU.out, hsb, decide_eq_false h34]; rfl
                  clear hsb
                  have HT2 := Lib.hid (P.out.tb.at (f' := accB false c l (k + 1)) (fun j => acc_skip HX.out (.inr (.inr HF0)) j))
                  go_wp2
                  exact ⟨⟨k + 1, by omega, by go_num, HT2⟩, by simp [intOf]; omega⟩
                · have HUT := Lib.hid (show usesB true x.op = true by rw [HU.out, hsb]; simp)
                  clear hsb
                  go_wp2
                  go_loopw [13] (fun i W => ∃ (t : Nat), (t : Int) ≤ sz ∧ i = .int .i64 t ∧ Hid (Ti w W g n l (moreB (accB true c l k) q t p) z x)) (fun i _ => sz - (intOf i).toNat)
                  case atStart =>
                    refine ⟨0, by omega, rfl, Lib.hid ?_⟩
                    rw [show moreB (accB true c l k) q 0 p = accB true c l k from funext (more_zero _ q p)]
                    exact P.out
                  case round =>
                    obtain ⟨t, ht, rfl, hR⟩ := hrel
                    clear P x0 x1 x2 x3 x4
                    by_cases htl : (t : Int) < sz
                    · obtain ⟨x0, x1, x2, x3, x4, x5, x6⟩ := hR.out.cells HQ4.out
                      have hpt : (p : Int) + t < 64 := by have h1 := hps.out; rw [HSS.out] at h1; omega
                      have HPT := Lib.hid (show p + t < 64 by omega)
                      have hm1 : IntKind.i64.wrap ((p : Int) + t) = (p : Int) + t := by rw [IntKind.wrap_i64]; omega
                      have hm2 : IntKind.i64.wrap ((t : Int) + 1) = (t : Int) + 1 := by rw [IntKind.wrap_i64]; omega
                      have hA := more_lt (t := t) (p := p) (acc_lt (wr := true) (l := l) HRi.out q k) (by omega)
                      have hB : 2 ^ (p + t) < 18446744073709551616 := pow_lt (by omega)
                      have hor := bits_or_u64_nat _ _ hA hB
                      rw [pow_cast] at hor
                      have hsh : IntKind.u64.wrap ((2 : Int) ^ (p + t)) = (2 : Int) ^ (p + t) := by rw [shl_one (p + t) (by omega), pow_cast]
                      rw [HQ.out] at x2
                      rw [show x.pl = (p : Int) by have h1 := hrs.out.2.2.1; rw [← HP.out] at h1; exact h1] at x3
                      obtain ⟨A, hAe⟩ : ∃ A, A = moreB (accB true c l k) q t p q := ⟨_, rfl⟩
                      rw [← hAe] at x5 hor hA
                      have HA := Lib.hid hAe
                      clear hAe hA hB
                      have HR2 := Lib.hid (hR.out.put (f' := moreB (accB true c l k) q (t + 1) p) (v := A ||| 2 ^ (p + t)) HQ4.out (fun j _ => by rw [HA.out]; exact more_next _ q t p j)).drew
                      clear hR
                      go_wp2_with fail
                      go_region
                      go_wp2
                      exact ⟨⟨t + 1, by omega, by go_num, HR2⟩, by simp [intOf]; omega⟩
                    · obtain rfl : t = sz := by omega
                      have HT2 := Lib.hid (hR.out.tb.at (f' := accB true c l (k + 1)) (fun j => by
                        rw [acc_put HX.out Hon.out HQ.out HUT.out j]
                        unfold moreB maskI
                        rw [HSS.out, HP.out]))
                      clear hR
                      go_wp2
                      exact ⟨⟨k + 1, by omega, by go_num, HT2⟩, by simp [intOf]; omega⟩
              · have hsb : storeB x.op = false := by unfold storeB; exact decide_eq_false hst
                have HSS : Hid (sizeI x = sz) := Lib.hid (by rw [HSI.out, if_neg (by omega), if_neg (by omega)])
                have e34 : (x.op == 34) = false := by rw [beq_eq_false_iff_ne]; omega
                have e35 : (x.op == 35) = false := by rw [beq_eq_false_iff_ne]; omega
                have e36 : (x.op == 36) = false := by rw [beq_eq_false_iff_ne]; omega
                by_cases h3 : 3 ≤ x.op
                · have d6 : decide (x.op ≤ 6) = false := decide_eq_false (fun h => hst ⟨h3, h⟩)
                  clear hst
                  cases ws
                  · have HUT := Lib.hid (show usesB false x.op = true by rw [HU.out, hsb]; simp)
                    clear hsb
                    go_wp2
                    go_loopw [13] (fun i W => ∃ (t : Nat), (t : Int) ≤ sz ∧ i = .int .i64 t ∧ Hid (Ti w W g n l (moreB (accB false c l k) q t p) z x)) (fun i _ => sz - (intOf i).toNat)
                    case atStart =>
                      refine ⟨0, by omega, rfl, Lib.hid ?_⟩
                      rw [show moreB (accB false c l k) q 0 p = accB false c l k from funext (more_zero _ q p)]
                      exact P.out
                    case round =>
                      obtain ⟨t, ht, rfl, hR⟩ := hrel
                      clear P x0 x1 x2 x3 x4
                      by_cases htl : (t : Int) < sz
                      · obtain ⟨x0, x1, x2, x3, x4, x5, x6⟩ := hR.out.cells HQ4.out
                        have hpt : (p : Int) + t < 64 := by have h1 := hps.out; rw [HSS.out] at h1; omega
                        have HPT := Lib.hid (show p + t < 64 by omega)
                        have hm1 : IntKind.i64.wrap ((p : Int) + t) = (p : Int) + t := by rw [IntKind.wrap_i64]; omega
                        have hm2 : IntKind.i64.wrap ((t : Int) + 1) = (t : Int) + 1 := by rw [IntKind.wrap_i64]; omega
                        have hA := more_lt (t := t) (p := p) (acc_lt (wr := false) (l := l) HRi.out q k) (by omega)
                        have hB : 2 ^ (p + t) < 18446744073709551616 := pow_lt (by omega)
                        have hor := bits_or_u64_nat _ _ hA hB
                        rw [pow_cast] at hor
                        have hsh : IntKind.u64.wrap ((2 : Int) ^ (p + t)) = (2 : Int) ^ (p + t) := by rw [shl_one (p + t) (by omega), pow_cast]
                        rw [HQ.out] at x2
                        rw [show x.pl = (p : Int) by have h1 := hrs.out.2.2.1; rw [← HP.out] at h1; exact h1] at x3
                        obtain ⟨A, hAe⟩ : ∃ A, A = moreB (accB false c l k) q t p q := ⟨_, rfl⟩
                        rw [← hAe] at x5 hor hA
                        have HA := Lib.hid hAe
                        clear hAe hA hB
                        have HR2 := Lib.hid (hR.out.put (f' := moreB (accB false c l k) q (t + 1) p) (v := A ||| 2 ^ (p + t)) HQ4.out (fun j _ => by rw [HA.out]; exact more_next _ q t p j)).drew
                        clear hR
                        go_wp2_with fail
                        go_region
                        go_wp2
                        exact ⟨⟨t + 1, by omega, by go_num, HR2⟩, by simp [intOf]; omega⟩
                      · obtain rfl : t = sz := by omega
                        have HT2 := Lib.hid (hR.out.tb.at (f' := accB false c l (k + 1)) (fun j => by
                          rw [acc_put HX.out Hon.out HQ.out HUT.out j]
                          unfold moreB maskI
                          rw [HSS.out, HP.out]))
                        clear hR
                        go_wp2
                        exact ⟨⟨k + 1, by omega, by go_num, HT2⟩, by simp [intOf]; omega⟩
                  · have HF0 : usesB true x.op = false := by rw [HU.out, hsb, decide_eq_false h34]; rfl
                    clear hsb
                    have HT2 := Lib.hid (P.out.tb.at (f' := accB true c l (k + 1)) (fun j => acc_skip HX.out (.inr (.inr HF0)) j))
                    go_wp2
                    exact ⟨⟨k + 1, by omega, by go_num, HT2⟩, by simp [intOf]; omega⟩
                · clear hst
                  cases ws
                  · have HUT := Lib.hid (show usesB false x.op = true by rw [HU.out, hsb]; simp)
                    clear hsb
                    go_wp2
                    go_loopw [13] (fun i W => ∃ (t : Nat), (t : Int) ≤ sz ∧ i = .int .i64 t ∧ Hid (Ti w W g n l (moreB (accB false c l k) q t p) z x)) (fun i _ => sz - (intOf i).toNat)
                    case atStart =>
                      refine ⟨0, by omega, rfl, Lib.hid ?_⟩
                      rw [show moreB (accB false c l k) q 0 p = accB false c l k from funext (more_zero _ q p)]
                      exact P.out
                    case round =>
                      obtain ⟨t, ht, rfl, hR⟩ := hrel
                      clear P x0 x1 x2 x3 x4
                      by_cases htl : (t : Int) < sz
                      · obtain ⟨x0, x1, x2, x3, x4, x5, x6⟩ := hR.out.cells HQ4.out
                        have hpt : (p : Int) + t < 64 := by have h1 := hps.out; rw [HSS.out] at h1; omega
                        have HPT := Lib.hid (show p + t < 64 by omega)
                        have hm1 : IntKind.i64.wrap ((p : Int) + t) = (p : Int) + t := by rw [IntKind.wrap_i64]; omega
                        have hm2 : IntKind.i64.wrap ((t : Int) + 1) = (t : Int) + 1 := by rw [IntKind.wrap_i64]; omega
                        have hA := more_lt (t := t) (p := p) (acc_lt (wr := false) (l := l) HRi.out q k) (by omega)
                        have hB : 2 ^ (p + t) < 18446744073709551616 := pow_lt (by omega)
                        have hor := bits_or_u64_nat _ _ hA hB
                        rw [pow_cast] at hor
                        have hsh : IntKind.u64.wrap ((2 : Int) ^ (p + t)) = (2 : Int) ^ (p + t) := by rw [shl_one (p + t) (by omega), pow_cast]
                        rw [HQ.out] at x2
                        rw [show x.pl = (p : Int) by have h1 := hrs.out.2.2.1; rw [← HP.out] at h1; exact h1] at x3
                        obtain ⟨A, hAe⟩ : ∃ A, A = moreB (accB false c l k) q t p q := ⟨_, rfl⟩
                        rw [← hAe] at x5 hor hA
                        have HA := Lib.hid hAe
                        clear hAe hA hB
                        have HR2 := Lib.hid (hR.out.put (f' := moreB (accB false c l k) q (t + 1) p) (v := A ||| 2 ^ (p + t)) HQ4.out (fun j _ => by rw [HA.out]; exact more_next _ q t p j)).drew
                        clear hR
                        go_wp2_with fail
                        go_region
                        go_wp2
                        exact ⟨⟨t + 1, by omega, by go_num, HR2⟩, by simp [intOf]; omega⟩
                      · obtain rfl : t = sz := by omega
                        have HT2 := Lib.hid (hR.out.tb.at (f' := accB false c l (k + 1)) (fun j => by
                          rw [acc_put HX.out Hon.out HQ.out HUT.out j]
                          unfold moreB maskI
                          rw [HSS.out, HP.out]))
                        clear hR
                        go_wp2
                        exact ⟨⟨k + 1, by omega, by go_num, HT2⟩, by simp [intOf]; omega⟩
                  · have HF0 : usesB true x.op = false := by rw [HU.out, hsb, decide_eq_false h34]; rfl
                    clear hsb
                    have HT2 := Lib.hid (P.out.tb.at (f' := accB true c l (k + 1)) (fun j => acc_skip HX.out (.inr (.inr HF0)) j))
                    go_wp2
                    exact ⟨⟨k + 1, by omega, by go_num, HT2⟩, by simp [intOf]; omega⟩
      · obtain rfl : k = n := by omega
        have u0 := hS.out.res
        have u1 := hS.out.used
        have HU0 := Lib.hid u0
        have HB := Lib.hid hS.out.below
        have a0 := u0.cell 0 (by omega)
        have a1 := u0.cell 1 (by omega)
        have a2 := u0.cell 2 (by omega)
        have a3 := u0.cell 3 (by omega)
        have f0 := u0.free 0 (by omega)
        have f1 := u0.free 1 (by omega)
        have f2 := u0.free 2 (by omega)
        have f3 := u0.free 3 (by omega)
        have b0 := u1.cell 0 (by omega)
        have b1 := u1.cell 1 (by omega)
        have b2 := u1.cell 2 (by omega)
        have b3 := u1.cell 3 (by omega)
        clear u0 u1 hS
        go_wp2
        refine bodyPost_ret (v := u4V (accB ws c l k)) (result_u4 Try.results18 _ _ _ (accB ws c l k) rfl (u4_four HU0.out _ _ _ _ rfl rfl rfl rfl)) rfl ⟨rfl, below_four (Nat.le_refl _) HB.out _ _ _ _⟩
end Go.Proofs.Ytbjmdehfdnpljaa.Ve
