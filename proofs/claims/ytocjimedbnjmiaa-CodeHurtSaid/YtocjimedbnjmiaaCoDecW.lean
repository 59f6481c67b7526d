/-
  The reference's Decode, walked. Conditions: texts of up to 3000 bytes.
-/
import Derived.Test.YtocjimedbnjmiaaCoDec
namespace Go.Proofs.Ytocjimedbnjmiaa.Co
open Go.RowKit
open Go.Proofs.Ytocjimedbnjmiaa.Il hiding S S_size S_app S_list S_inj
open Go.Proofs.Ytocjimedbnjmiaa.Ic Go.Proofs.Ytocjimedbnjmiaa.Oct Sums

def codeE : Except Nat (List In) → List In
  | .ok l => l
  | .error _ => []
def errE : Except Nat (List In) → Nat
  | .ok _ => 0
  | .error e => e
/-- What Decode answers. -/
def Decs (t : Bs) (w : World) (e : Ending) (w' : World) : Prop :=
  ∃ ao cap, e = .returned (.tuple #[.slice ao (codeE (decC t)).length cap, .int .i64 (errE (decC t) : Nat)]) ∧ Lies w' w'.heap.size ao (codeE (decC t)) ∧ (codeE (decC t)).length ≤ 200 ∧ Below w.heap.size w w'
theorem dec_err {t : Bs} {k : Nat} (h : decC t = .error k) {w w' : World} {e : Ending} {cap : Nat} (he : e = .returned (.tuple #[.slice none 0 cap, .int .i64 (k : Nat)])) (hb : Below w.heap.size w w') : Decs t w e w' := by
  unfold Decs
  rw [h]
  exact ⟨none, cap, he, fun h1 => by simp [codeE] at h1, by simp [codeE], hb⟩

/-- How far Decode has come: what the eye still sees, what was read. -/
structure Dec (N : Nat) (w wr : World) (p : Nat) (q : Bs) (v : Value) (k : Nat) (acc : List In) : Prop where
  eye : EyeAt wr p q false
  row : wr.ownsRow (p + 1) 45 5 v k (flat5 acc)
  below : Below N w wr
  hp : N ≤ p
  hN : N ≤ wr.heap.size
section
variable {N p k b : Nat} {w wr w' : World} {q q' : Bs} {v u : Value} {acc : List In} {e : Ending}
theorem Dec.ne (h : Dec N w wr p q v k acc) : v.ownBlock = none ∨ v.ownBlock ≠ some p := by
  by_cases hv : v.ownBlock = none
  · exact .inl hv
  · refine .inr (fun e => ?_)
    have := (World.ownsRow.lt h.row p e).1
    omega
theorem Dec.free (h : Dec N w wr p q v k acc) (hb : wr.heap.size ≤ b) : v.ownBlock = none ∨ v.ownBlock ≠ some b := by
  by_cases hv : v.ownBlock = none
  · exact .inl hv
  · refine .inr (fun e => ?_)
    have := (World.ownsRow.lt h.row b e).2
    omega
theorem Dec.number (h : Dec N w wr p q v k acc) (hr : Reads u wr p q' false e w') : e = .returned u ∧ Dec N w w' p q' v k acc ∧ wr.grownBy w' (some p) :=
  ⟨hr.1, ⟨hr.2.1, World.ownsRow.kept h.row hr.2.2 h.ne, h.below.trans ⟨hr.2.2.os, hr.2.2.tape, hr.2.2.output, hr.2.2.size, fun j hj => hr.2.2.block j (by have := h.hN; omega) (fun e => by injection e with e; have := h.hp; omega)⟩, h.hp, Nat.le_trans h.hN hr.2.2.size⟩, hr.2.2⟩
theorem Dec.alloc (h : Dec N w wr p q v k acc) (o : Obj) : Dec N w (wr.alloc o) p q v k acc :=
  ⟨eye_alloc h.eye o, World.ownsRow.alloc h.row o, h.below.alloc h.hN o, h.hp, by have := h.hN; simp; omega⟩
theorem Dec.set (h : Dec N w wr p q v k acc) (hb : b ≠ p) (hN : N ≤ b) (hv : v.ownBlock = none ∨ v.ownBlock ≠ some b) (j : Nat) (x : Value) : Dec N w (wr.setCell ⟨b, j, none⟩ x) p q v k acc :=
  ⟨eye_set h.eye hb, World.ownsRow.kept h.row (only_set wr b j x) hv, h.below.setCell (p := ⟨b, j, none⟩) hN x, h.hp, by have := h.hN; simp [World.setCell]; omega⟩
theorem Dec.appended {g1 cp1 : Nat} {o : Obj} {x : In} {W : World} (h : Dec N w wr p q v k acc) (hgr : (wr.alloc o).grownBy W v.ownBlock) (hown : W.ownsRow (p + 1) 45 5 (.slice (some ⟨g1, 0, none⟩) (k + 1) cp1) (k + 1) (flat5 acc ++ cells5 x)) : Dec N w W p q (.slice (some ⟨g1, 0, none⟩) (k + 1) cp1) (k + 1) (acc ++ [x]) := by
  have h2 := h.alloc o
  refine ⟨h2.eye.kept hgr (fun e => ?_), ?_, h2.below.trans ⟨hgr.os, hgr.tape, hgr.output, hgr.size, fun j hj => hgr.block j (by have := h2.hN; omega) (fun e => ?_)⟩, h.hp, Nat.le_trans h2.hN hgr.size⟩
  · rcases h.ne with e2 | e2
    · rw [e2] at e; cases e
    · exact e2 e.symm
  · rw [flat5_app]
    have e : flat5 [x] = cells5 x := by simp [flat5]
    rw [e]; exact hown
  · have := (World.ownsRow.lt h.row j e.symm).1
    have := h.hp
    omega
theorem Dec.lt (h : Dec N w wr p q v k acc) : p < wr.heap.size := h.eye.lt
end

set_option maxRecDepth 100000 in
set_option maxHeartbeats 8000000 in
theorem rDec_any (t : Bs) (ht : t.length ≤ 3000) (w : World) : Calls Try.prog 15 #[.string (S t)] w (Decs t w) := by
  have hsz : (S t).size = t.length := S_size t
  by_cases h2 : t.length < 2
  · have HD := Lib.hid (show decC t = .error 9 by unfold decC; rw [if_pos (.inl h2)])
    have h2i : (t.length : Int) < 2 := by omega
    clear h2 ht
    go_enter Try.func15, Try.ntmps15
    go_wp2
    go_ret2
    exact dec_err HD.out rfl (Below.refl _ _)
  · have h2i : ¬ (t.length : Int) < 2 := by omega
    have htl : (t.length : Int) ≤ 3000 := by omega
    obtain ⟨b, hb⟩ : ∃ b, b = t.take (t.length - 2) := ⟨_, rfl⟩
    have hbl : b.length = t.length - 2 := by rw [hb, List.length_take]; omega
    have hex : (S t).extract 0 (t.length - 2) = S b := by rw [S_take, hb]
    have HSe : Hid (∀ W, Calls Try.prog 12 #[.string (S b)] W fun e w' => e = .returned (.string (S (sealL b))) ∧ Below W.heap.size W w') := fun W => by
      have := rsealed_any (S b) W (by rw [S_size]; omega)
      rw [seal_S] at this
      exact this
    have hbs : (S b).size = b.length := S_size b
    have hbi : (b.length : Int) = t.length - 2 := by omega
    by_cases hse : sealL b = t
    · cases b with
      | nil =>
        have heq : ((S (sealL [])).toList == (S t).toList) = true := by rw [hse]; simp
        have HD := Lib.hid (show decC t = .error 10 by unfold decC; rw [if_neg (by rw [← hb, hse]; simp; omega), ← hb])
        clear hse hb hbl
        go_enter Try.func15, Try.ntmps15
        go_wp2_with fail
        refine (HSe.out _).mono ?_
        rintro e w1 ⟨rfl, hb1⟩
        have HE := Lib.hid (EyeAt.new w1 [] 60)
        have HB1 := Lib.hid (hb1.alloc hb1.size (.cells #[.string (S []), .bool false] 60))
        have HN1 := Lib.hid hb1.size
        clear hb1
        go_wp2_with fail
        generalize hp : w1.heap.size = p at *
        refine (number0 p _ HE.out).mono ?_
        rintro e w2 ⟨rfl, ⟨d0, d1, -, -⟩, hg2⟩
        have HB2 := Lib.hid (show Below w.heap.size w w2 from HB1.out.trans ⟨hg2.os, hg2.tape, hg2.output, hg2.size, fun j hj => hg2.block j (by simp; have := HN1.out; omega) (fun e => by injection e with e; have := HN1.out; omega)⟩)
        clear hg2 HE HB1
        go_wp2
        go_ret2
        exact dec_err HD.out rfl HB2.out
      | cons c r =>
        have hbl2 : r.length + 1 = t.length - 2 := by simpa using hbl
        have hcl : (S (c :: r)).size = r.length + 1 := by rw [S_size]; rfl
        by_cases hlen : r.length ≠ 8 * c.toNat
        · have heq : ((S (sealL (c :: r))).toList == (S t).toList) = true := by rw [hse]; simp
          have HD := Lib.hid (show decC t = .error 10 by unfold decC; rw [if_neg (by rw [← hb, hse]; simp; omega), ← hb]; dsimp only; rw [if_pos hlen])
          have hlb : ((r.length : Int) != 8 * (c.toNat : Int)) = true := by rw [bne_iff_ne]; omega
          clear hlen hse hb hbl
          go_enter Try.func15, Try.ntmps15
          go_wp2_with fail
          refine (HSe.out _).mono ?_
          rintro e w1 ⟨rfl, hb1⟩
          have HE := Lib.hid (EyeAt.new w1 (c :: r) 60)
          have HB1 := Lib.hid (hb1.alloc hb1.size (.cells #[.string (S (c :: r)), .bool false] 60))
          have HN1 := Lib.hid hb1.size
          clear hb1
          go_wp2_with fail
          generalize hp : w1.heap.size = p at *
          refine (number1 p c r _ HE.out).mono ?_
          rintro e w2 ⟨rfl, he2, hg2⟩
          have HE2 := Lib.hid he2
          have HB2 := Lib.hid (show Below w.heap.size w w2 ∧ w.heap.size ≤ p ∧ w.heap.size ≤ w2.heap.size from ⟨HB1.out.trans ⟨hg2.os, hg2.tape, hg2.output, hg2.size, fun j hj => hg2.block j (by simp; have := HN1.out; omega) (fun e => by injection e with e; have := HN1.out; omega)⟩, by have := HN1.out; omega, by have h1 := hg2.size; have := HN1.out; simp at h1; omega⟩)
          have hcw : IntKind.i64.wrap (c.toNat : Int) = c.toNat := by rw [IntKind.wrap_i64]; have := c.toNat_lt; omega
          have hc8 : IntKind.i64.wrap (8 * (c.toNat : Int)) = 8 * (c.toNat : Int) := by rw [IntKind.wrap_i64]; have := c.toNat_lt; omega
          have hc255 : (c.toNat : Int) ≤ 255 := by have := c.toNat_lt; omega
          obtain ⟨d0, d1, -, -⟩ := he2
          have hrs := S_size r
          clear hg2 HE HB1
          go_wp2
          go_ret2
          exact dec_err HD.out rfl HB2.out.1
        · by_cases h200 : 200 < c.toNat
          · have heq : ((S (sealL (c :: r))).toList == (S t).toList) = true := by rw [hse]; simp
            have HD := Lib.hid (show decC t = .error 2 by unfold decC; rw [if_neg (by rw [← hb, hse]; simp; omega), ← hb]; dsimp only; rw [if_neg hlen, if_pos h200])
            have hlb : ((r.length : Int) != 8 * (c.toNat : Int)) = false := by rw [bne_eq_false_iff_eq]; omega
            have h2c : (200 : Int) < c.toNat := by omega
            clear hlen h200 hse hb hbl
            go_enter Try.func15, Try.ntmps15
            go_wp2_with fail
            refine (HSe.out _).mono ?_
            rintro e w1 ⟨rfl, hb1⟩
            have HE := Lib.hid (EyeAt.new w1 (c :: r) 60)
            have HB1 := Lib.hid (hb1.alloc hb1.size (.cells #[.string (S (c :: r)), .bool false] 60))
            have HN1 := Lib.hid hb1.size
            clear hb1
            go_wp2_with fail
            generalize hp : w1.heap.size = p at *
            refine (number1 p c r _ HE.out).mono ?_
            rintro e w2 ⟨rfl, he2, hg2⟩
            have HE2 := Lib.hid he2
            have HB2 := Lib.hid (show Below w.heap.size w w2 ∧ w.heap.size ≤ p ∧ w.heap.size ≤ w2.heap.size from ⟨HB1.out.trans ⟨hg2.os, hg2.tape, hg2.output, hg2.size, fun j hj => hg2.block j (by simp; have := HN1.out; omega) (fun e => by injection e with e; have := HN1.out; omega)⟩, by have := HN1.out; omega, by have h1 := hg2.size; have := HN1.out; simp at h1; omega⟩)
            have hcw : IntKind.i64.wrap (c.toNat : Int) = c.toNat := by rw [IntKind.wrap_i64]; have := c.toNat_lt; omega
            have hc8 : IntKind.i64.wrap (8 * (c.toNat : Int)) = 8 * (c.toNat : Int) := by rw [IntKind.wrap_i64]; have := c.toNat_lt; omega
            have hc255 : (c.toNat : Int) ≤ 255 := by have := c.toNat_lt; omega
            obtain ⟨d0, d1, -, -⟩ := he2
            have hrs := S_size r
            clear hg2 HE HB1
            go_wp2
            go_ret2
            exact dec_err HD.out rfl HB2.out.1
          · have heq : ((S (sealL (c :: r))).toList == (S t).toList) = true := by rw [hse]; simp
            obtain ⟨n, hn⟩ : ∃ n, n = c.toNat := ⟨_, rfl⟩
            have hlen' : r.length = 8 * c.toNat := by omega
            have h2c : ¬ (200 : Int) < c.toNat := by omega
            have hlb : ((r.length : Int) != 8 * (c.toNat : Int)) = false := by rw [bne_eq_false_iff_eq]; omega
            have HDc := Lib.hid (show decC t = if (listOf r).all rightI then .ok (listOf r) else .error 3 by unfold decC; rw [if_neg (by rw [← hb, hse]; simp; omega), ← hb]; dsimp only; rw [if_neg hlen, if_neg h200])
            have HL := Lib.hid hlen'
            obtain ⟨i0, hi0, hi1, hi2, hi3⟩ := info_parts infoIns
            have HI := Lib.hid (⟨hi0, hi1, hi2, hi3⟩ : _ ∧ _ ∧ _ ∧ _)
            clear hi0 hi1 hi2 hi3 hlen h200 hse hb hbl hlen' hn
            go_enter Try.func15, Try.ntmps15
            go_wp2_with fail
            refine (HSe.out _).mono ?_
            rintro e w1 ⟨rfl, hb1⟩
            have HE := Lib.hid (EyeAt.new w1 (c :: r) 60)
            have HB1 := Lib.hid (hb1.alloc hb1.size (.cells #[.string (S (c :: r)), .bool false] 60))
            have HN1 := Lib.hid hb1.size
            clear hb1
            go_wp2_with fail
            generalize hp : w1.heap.size = p at *
            refine (number1 p c r _ HE.out).mono ?_
            rintro e w2 ⟨rfl, he2, hg2⟩
            have HE2 := Lib.hid he2
            have HB2 := Lib.hid (show Below w.heap.size w w2 ∧ w.heap.size ≤ p ∧ w.heap.size ≤ w2.heap.size from ⟨HB1.out.trans ⟨hg2.os, hg2.tape, hg2.output, hg2.size, fun j hj => hg2.block j (by simp; have := HN1.out; omega) (fun e => by injection e with e; have := HN1.out; omega)⟩, by have := HN1.out; omega, by have h1 := hg2.size; have := HN1.out; simp at h1; omega⟩)
            have hcw : IntKind.i64.wrap (c.toNat : Int) = c.toNat := by rw [IntKind.wrap_i64]; have := c.toNat_lt; omega
            have hc8 : IntKind.i64.wrap (8 * (c.toNat : Int)) = 8 * (c.toNat : Int) := by rw [IntKind.wrap_i64]; have := c.toNat_lt; omega
            have hc255 : (c.toNat : Int) ≤ 255 := by have := c.toNat_lt; omega
            obtain ⟨d0, d1, -, -⟩ := he2
            have hrs := S_size r
            clear hg2 HE HB1
            have HDe := Lib.hid (show Dec w.heap.size w w2 p r (.slice none 0 0) 0 [] from ⟨HE2.out, World.ownsRow_nil _ _ _ _, HB2.out.1, HB2.out.2.1, HB2.out.2.2⟩)
            have hc200 : (c.toNat : Int) ≤ 200 := by omega
            clear HE2 HB2
            go_wp2
            go_loopw [6, 7] (fun v i wr => ∃ (k : Nat) (q : Bs) (acc : List In), (k : Int) ≤ c.toNat ∧ i = .int .i64 k ∧ Hid (q.length = 8 * (c.toNat - k) ∧ listOf r = acc ++ listOf q) ∧ Hid (Dec w.heap.size w wr p q v k acc)) (fun _ i _ => c.toNat - (intOf i).toNat)
            case atStart => exact ⟨0, r, [], by omega, rfl, Lib.hid ⟨by have := HL.out; omega, rfl⟩, HDe⟩
            case round =>
              obtain ⟨k, q, acc, hk, rfl, hq, hD⟩ := hrel
              by_cases hlt : (k : Int) < c.toNat
              · obtain ⟨o, k1, a1, p1, n1, n2, n3, n4, q8, hq8, hq8l⟩ := eight (q := q) (n := c.toNat - k - 1) (by have := hq.out.1; omega)
                have hq8' := hq8
                subst hq8
                have HQ := Lib.hid (show q8.length = 8 * (c.toNat - (k + 1)) ∧ listOf r = (acc ++ [⟨o.toNat, k1.toNat, a1.toNat, p1.toNat, sgnI k1.toNat (num [n1, n2, n3, n4])⟩]) ++ listOf q8 from ⟨by omega, by rw [hq.out.2]; simp [listOf]⟩)
                have b0 := o.toNat_lt
                have b1 := k1.toNat_lt
                have b2 := a1.toNat_lt
                have b3 := p1.toNat_lt
                have b4 := num_lt4 n1 n2 n3 n4
                have u0 : IntKind.i64.wrap (o.toNat : Int) = o.toNat := by rw [IntKind.wrap_i64]; omega
                have u1 : IntKind.i64.wrap (k1.toNat : Int) = k1.toNat := by rw [IntKind.wrap_i64]; omega
                have u2 : IntKind.i64.wrap (a1.toNat : Int) = a1.toNat := by rw [IntKind.wrap_i64]; omega
                have u3 : IntKind.i64.wrap (p1.toNat : Int) = p1.toNat := by rw [IntKind.wrap_i64]; omega
                have u4 : IntKind.i64.wrap (num [n1, n2, n3, n4] : Int) = num [n1, n2, n3, n4] := by rw [IntKind.wrap_i64]; omega
                have H4 := Lib.hid (fun W hW => number4 p n1 n2 n3 n4 q8 W hW)
                have hNp := Lib.hid hD.out.hp
                clear hq8' hq b0 b1 b2 b3
                go_wp2_with fail
                refine (number1 p o _ _ hD.out.eye).mono ?_
                rintro e w3 hr3
                obtain ⟨rfl, hD3, hg3⟩ := hD.out.number hr3
                obtain ⟨bx, hbx⟩ : ∃ bx, bx = w3.heap.size := ⟨_, rfl⟩
                have hbp : bx ≠ p := by have := hD3.lt; omega
                have hNb : w.heap.size ≤ bx := by have := hD3.lt; have := hNp.out; omega
                have hvb := hD3.free (b := bx) (by omega)
                have HD3 := Lib.hid (hD3.alloc (.cells #[.int .i64 (o.toNat : Int), .int .i64 0, .int .i64 0, .int .i64 0, .int .i64 0] 45))
                have HB3 := Lib.hid (BoxI.new w3 (o.toNat : Int) 0 0 0 0 45)
                clear hr3 hD3 hg3
                go_wp2_with fail
                rw [← hbx] at HB3
                generalize w3.alloc (.cells #[.int .i64 (o.toNat : Int), .int .i64 0, .int .i64 0, .int .i64 0, .int .i64 0] 45) = W3 at *
                rw [← hbx]
                have Hbx := Lib.hid hbx
                clear hbx
                refine (number1 p k1 _ _ HD3.out.eye).mono ?_
                rintro e w4 hr4
                obtain ⟨rfl, hD4, hg4⟩ := HD3.out.number hr4
                have hB4 := HB3.out.grown hg4 (fun e => by injection e with e; exact hbp e)
                have y4 := hB4.c1
                have f4 := hB4.fz 1
                have HD4 := Lib.hid (hD4.set hbp hNb hvb 1 (.int .i64 (k1.toNat : Int)))
                have HB4 := Lib.hid (hB4.set1 (k1.toNat : Int))
                clear hr4 hD4 hg4 hB4
                go_wp2_with fail
                clear y4 f4
                refine (number1 p a1 _ _ HD4.out.eye).mono ?_
                rintro e w5 hr5
                obtain ⟨rfl, hD5, hg5⟩ := HD4.out.number hr5
                have hB5 := HB4.out.grown hg5 (fun e => by injection e with e; exact hbp e)
                have y5 := hB5.c2
                have f5 := hB5.fz 2
                have HD5 := Lib.hid (hD5.set hbp hNb hvb 2 (.int .i64 (a1.toNat : Int)))
                have HB5 := Lib.hid (hB5.set2 (a1.toNat : Int))
                clear hr5 hD5 hg5 hB5
                go_wp2_with fail
                clear y5 f5
                refine (number1 p p1 _ _ HD5.out.eye).mono ?_
                rintro e w6 hr6
                obtain ⟨rfl, hD6, hg6⟩ := HD5.out.number hr6
                have hB6 := HB5.out.grown hg6 (fun e => by injection e with e; exact hbp e)
                have y6 := hB6.c3
                have f6 := hB6.fz 3
                have HD6 := Lib.hid (hD6.set hbp hNb hvb 3 (.int .i64 (p1.toNat : Int)))
                have HB6 := Lib.hid (hB6.set3 (p1.toNat : Int))
                clear hr6 hD6 hg6 hB6
                go_wp2_with fail
                clear y6 f6
                refine (H4.out _ HD6.out.eye).mono ?_
                rintro e w7 hr7
                obtain ⟨rfl, hD7, hg7⟩ := HD6.out.number hr7
                have hB7 := HB6.out.grown hg7 (fun e => by injection e with e; exact hbp e)
                have y7 := hB7.c4
                have f7 := hB7.fz 4
                have HD7 := Lib.hid (hD7.set hbp hNb hvb 4 (.int .i64 (num [n1, n2, n3, n4] : Nat)))
                have HB7 := Lib.hid (hB7.set4 (num [n1, n2, n3, n4] : Nat))
                obtain ⟨z0, z1, z2, z3, -, -⟩ := hB7
                have hb4 : ¬ (4294967296 : Int) ≤ (num [n1, n2, n3, n4] : Int) := by omega
                clear hr7 hD7 hg7 HD3 HD4 HD5 HD6 HB3 HB4 HB5 HB6 b4
                obtain ⟨M, hM⟩ : ∃ M, M = num [n1, n2, n3, n4] := ⟨_, rfl⟩
                rw [← hM] at HD7 HB7 HQ u4 hb4
                rw [← hM]
                have HM := Lib.hid hM
                clear hM
                have hkI : (k : Int) ≤ 200 := by omega
                by_cases h7 : (k1.toNat : Int) = 7
                · have hsg : sgnI k1.toNat M = (M : Int) := by unfold sgnI; rw [if_neg (by omega)]
                  rw [hsg, h7] at HQ
                  rw [h7] at z1 HB7
                  clear h7 hsg hb4
                  have HO1 := Lib.hid (World.ownsRow.alloc HD7.out.row (.cells #[.int .i64 (o.toNat : Int), .int .i64 (7 : Int), .int .i64 (a1.toNat : Int), .int .i64 (p1.toNat : Int), .int .i64 (M : Int)] 45))
                  have HNw : Hid (∀ j u, (cells5 ⟨o.toNat, 7, a1.toNat, p1.toNat, (M : Int)⟩)[j]? = some u → ((w7.setCell ⟨bx, 4, none⟩ (.int .i64 (M : Int))).alloc (.cells #[.int .i64 (o.toNat : Int), .int .i64 (7 : Int), .int .i64 (a1.toNat : Int), .int .i64 (p1.toNat : Int), .int .i64 (M : Int)] 45)).cell? ((⟨w7.heap.size, 0, none⟩ : Addr).add j) = some u) := fun j u hu => by
                    have e : (w7.setCell ⟨bx, 4, none⟩ (.int .i64 (M : Int))).heap.size = w7.heap.size := by simp [World.setCell]
                    rw [← e]
                    exact five_new _ ⟨o.toNat, 7, a1.toNat, p1.toNat, (M : Int)⟩ _ j u hu
                  have hpl := HD7.out.lt
                  have hpl2 : p + 1 ≤ w7.heap.size := Nat.succ_le_of_lt (by simpa [World.setCell] using hpl)
                  clear hpl
                  go_wp2_with (at_builtin; refine wpList_append_lies _ rfl (.tmp 85) (.tmp 87) 22 rfl (p + 1) 45 i0 (.agg #[.int .i64 0, .int .i64 0, .int .i64 0, .int .i64 0, .int .i64 0]) 5 40 Try.underlying22 HI.out.1 HI.out.2.1 HI.out.2.2.1 HI.out.2.2.2 rfl (by decide) _ k (flat5 acc) rfl HO1.out ⟨w7.heap.size, 0, none⟩ 1 1 (cells5 ⟨o.toNat, 7, a1.toNat, p1.toNat, (M : Int)⟩) rfl rfl HNw.out (by intro u hu; simp [cells5] at hu; rcases hu with rfl | rfl | rfl | rfl | rfl <;> rfl) (by decide) (by unfold maxLen; omega) (by omega) (by simp [World.setCell]; omega) _ rfl ?_)
                  intro g1 cp1 Wn hown hgr hat hlt1
                  have HDn := Lib.hid (HD7.out.appended (x := ⟨o.toNat, 7, a1.toNat, p1.toNat, (M : Int)⟩) hgr hown)
                  clear hown hgr hat hlt1 HO1 HNw
                  go_wp2
                  go_roundw
                  case rel => exact ⟨k + 1, q8, _, by omega, by go_num, HQ, HDn⟩
                  case measure => simp [intOf]; omega
                · have hb7 : ((k1.toNat : Int) != 7) = true := by rw [bne_iff_ne]; exact h7
                  by_cases hM2 : (2147483648 : Int) ≤ M
                  · have hsg : sgnI k1.toNat M = (M : Int) - 4294967296 := by unfold sgnI; rw [if_pos (by omega)]
                    have hws : IntKind.i64.wrap ((M : Int) - 4294967296) = (M : Int) - 4294967296 := by rw [IntKind.wrap_i64]; omega
                    have HD8 := Lib.hid (HD7.out.set hbp hNb hvb 4 (.int .i64 ((M : Int) - 4294967296)))
                    rw [hsg] at HQ
                    have hM3 : decide ((2147483648 : Int) ≤ (M : Int)) = true := decide_eq_true hM2
                    clear h7 hsg hb4 hM2
                    have HO1 := Lib.hid (World.ownsRow.alloc HD8.out.row (.cells #[.int .i64 (o.toNat : Int), .int .i64 (k1.toNat : Int), .int .i64 (a1.toNat : Int), .int .i64 (p1.toNat : Int), .int .i64 ((M : Int) - 4294967296)] 45))
                    have HNw : Hid (∀ j u, (cells5 ⟨o.toNat, k1.toNat, a1.toNat, p1.toNat, ((M : Int) - 4294967296)⟩)[j]? = some u → (((w7.setCell ⟨bx, 4, none⟩ (.int .i64 (M : Int))).setCell ⟨bx, 4, none⟩ (.int .i64 ((M : Int) - 4294967296))).alloc (.cells #[.int .i64 (o.toNat : Int), .int .i64 (k1.toNat : Int), .int .i64 (a1.toNat : Int), .int .i64 (p1.toNat : Int), .int .i64 ((M : Int) - 4294967296)] 45)).cell? ((⟨w7.heap.size, 0, none⟩ : Addr).add j) = some u) := fun j u hu => by
                      have e : ((w7.setCell ⟨bx, 4, none⟩ (.int .i64 (M : Int))).setCell ⟨bx, 4, none⟩ (.int .i64 ((M : Int) - 4294967296))).heap.size = w7.heap.size := by simp [World.setCell]
                      rw [← e]
                      exact five_new _ ⟨o.toNat, k1.toNat, a1.toNat, p1.toNat, ((M : Int) - 4294967296)⟩ _ j u hu
                    have hpl := HD8.out.lt
                    have hpl2 : p + 1 ≤ w7.heap.size := Nat.succ_le_of_lt (by simpa [World.setCell] using hpl)
                    clear hpl
                    go_wp2_with (at_builtin; refine wpList_append_lies _ rfl (.tmp 85) (.tmp 87) 22 rfl (p + 1) 45 i0 (.agg #[.int .i64 0, .int .i64 0, .int .i64 0, .int .i64 0, .int .i64 0]) 5 40 Try.underlying22 HI.out.1 HI.out.2.1 HI.out.2.2.1 HI.out.2.2.2 rfl (by decide) _ k (flat5 acc) rfl HO1.out ⟨w7.heap.size, 0, none⟩ 1 1 (cells5 ⟨o.toNat, k1.toNat, a1.toNat, p1.toNat, ((M : Int) - 4294967296)⟩) rfl rfl HNw.out (by intro u hu; simp [cells5] at hu; rcases hu with rfl | rfl | rfl | rfl | rfl <;> rfl) (by decide) (by unfold maxLen; omega) (by omega) (by simp [World.setCell]; omega) _ rfl ?_)
                    intro g1 cp1 Wn hown hgr hat hlt1
                    have HDn := Lib.hid (HD8.out.appended (x := ⟨o.toNat, k1.toNat, a1.toNat, p1.toNat, ((M : Int) - 4294967296)⟩) hgr hown)
                    clear hown hgr hat hlt1 HO1 HNw
                    go_wp2
                    go_roundw
                    case rel => exact ⟨k + 1, q8, _, by omega, by go_num, HQ, HDn⟩
                    case measure => simp [intOf]; omega
                  · have hsg : sgnI k1.toNat M = (M : Int) := by unfold sgnI; rw [if_neg (by omega)]
                    rw [hsg] at HQ
                    have hM3 : decide ((2147483648 : Int) ≤ (M : Int)) = false := decide_eq_false hM2
                    clear h7 hsg hb4 hM2
                    have HO1 := Lib.hid (World.ownsRow.alloc HD7.out.row (.cells #[.int .i64 (o.toNat : Int), .int .i64 (k1.toNat : Int), .int .i64 (a1.toNat : Int), .int .i64 (p1.toNat : Int), .int .i64 (M : Int)] 45))
                    have HNw : Hid (∀ j u, (cells5 ⟨o.toNat, k1.toNat, a1.toNat, p1.toNat, (M : Int)⟩)[j]? = some u → ((w7.setCell ⟨bx, 4, none⟩ (.int .i64 (M : Int))).alloc (.cells #[.int .i64 (o.toNat : Int), .int .i64 (k1.toNat : Int), .int .i64 (a1.toNat : Int), .int .i64 (p1.toNat : Int), .int .i64 (M : Int)] 45)).cell? ((⟨w7.heap.size, 0, none⟩ : Addr).add j) = some u) := fun j u hu => by
                      have e : (w7.setCell ⟨bx, 4, none⟩ (.int .i64 (M : Int))).heap.size = w7.heap.size := by simp [World.setCell]
                      rw [← e]
                      exact five_new _ ⟨o.toNat, k1.toNat, a1.toNat, p1.toNat, (M : Int)⟩ _ j u hu
                    have hpl := HD7.out.lt
                    have hpl2 : p + 1 ≤ w7.heap.size := Nat.succ_le_of_lt (by simpa [World.setCell] using hpl)
                    clear hpl
                    go_wp2_with (at_builtin; refine wpList_append_lies _ rfl (.tmp 85) (.tmp 87) 22 rfl (p + 1) 45 i0 (.agg #[.int .i64 0, .int .i64 0, .int .i64 0, .int .i64 0, .int .i64 0]) 5 40 Try.underlying22 HI.out.1 HI.out.2.1 HI.out.2.2.1 HI.out.2.2.2 rfl (by decide) _ k (flat5 acc) rfl HO1.out ⟨w7.heap.size, 0, none⟩ 1 1 (cells5 ⟨o.toNat, k1.toNat, a1.toNat, p1.toNat, (M : Int)⟩) rfl rfl HNw.out (by intro u hu; simp [cells5] at hu; rcases hu with rfl | rfl | rfl | rfl | rfl <;> rfl) (by decide) (by unfold maxLen; omega) (by omega) (by simp [World.setCell]; omega) _ rfl ?_)
                    intro g1 cp1 Wn hown hgr hat hlt1
                    have HDn := Lib.hid (HD7.out.appended (x := ⟨o.toNat, k1.toNat, a1.toNat, p1.toNat, (M : Int)⟩) hgr hown)
                    clear hown hgr hat hlt1 HO1 HNw
                    go_wp2
                    go_roundw
                    case rel => exact ⟨k + 1, q8, _, by omega, by go_num, HQ, HDn⟩
                    case measure => simp [intOf]; omega
              · have hkc : k = c.toNat := by omega
                have hacc : acc = listOf r := by
                  have h := hq.out.2
                  have h1 := hq.out.1
                  have hq0 : q = [] := List.eq_nil_of_length_eq_zero (by omega)
                  rw [hq0] at h
                  simpa [listOf] using h.symm
                obtain ⟨hkl, ao, cap, hv, hL⟩ := row_lies hD.out.row
                subst hv
                have HEr := Lib.hid (rError_any acc ao cap wr hL (by rw [hacc]; exact fit_list r))
                have HL2 := Lib.hid hL
                have hac : acc.length ≤ 200 := by omega
                rw [← hacc] at HDc
                have HAc := Lib.hid hac
                have hkl2 := Lib.hid hkl
                have hbw := Lib.hid (⟨hD.out.below, hD.out.hN⟩ : _ ∧ _)
                clear hL hq hD hacc hkc HDe hkl
                rw [← hkl2.out] at HEr
                have he0 : acc.all rightI = true → errC acc = 0 := fun h => by unfold errC; rw [if_neg (by omega), h]; rfl
                have he3 : acc.all rightI = false → errC acc = 3 := fun h => by unfold errC; rw [if_neg (by omega), h]; rfl
                clear hac
                cases hall : acc.all rightI
                · rw [he3 hall] at HEr
                  have HDd := Lib.hid (show decC t = .error 3 by rw [HDc.out, hall]; rfl)
                  clear hall he0 he3
                  go_wp2_with fail
                  refine HEr.out.mono ?_
                  rintro e w9 ⟨rfl, hb9⟩
                  have HB9 := Lib.hid (hbw.out.1.trans (hb9.mono hbw.out.2))
                  clear hb9
                  go_wp2
                  go_ret2
                  exact dec_err HDd.out rfl HB9.out
                · rw [he0 hall] at HEr
                  have HDd := Lib.hid (show decC t = .ok acc by rw [HDc.out, hall]; rfl)
                  clear hall he0 he3
                  go_wp2_with fail
                  refine HEr.out.mono ?_
                  rintro e w9 ⟨rfl, hb9⟩
                  have HB9 := Lib.hid (hbw.out.1.trans (hb9.mono hbw.out.2))
                  have HL9 := Lib.hid ((HL2.out.below hb9).more hb9.size)
                  clear hb9
                  go_wp2
                  go_ret2
                  unfold Decs
                  rw [HDd.out]
                  exact ⟨ao, cap, by rw [hkl2.out]; rfl, HL9.out, HAc.out, HB9.out⟩
    · have HD := Lib.hid (show decC t = .error 9 by unfold decC; rw [if_pos (.inr (by rw [← hb]; exact hse))])
      have hne : ((S (sealL b)).toList == (S t).toList) = false := by
        rw [beq_eq_false_iff_ne, Lib.toList_data, Lib.toList_data]
        exact fun e => hse e
      clear hse hb hbl
      go_enter Try.func15, Try.ntmps15
      go_wp2_with fail
      refine (HSe.out _).mono ?_
      rintro e w1 ⟨rfl, hb1⟩
      replace hb1 := Lib.hid hb1
      go_wp2
      go_ret2
      exact dec_err HD.out rfl hb1.out

end Go.Proofs.Ytocjimedbnjmiaa.Co
