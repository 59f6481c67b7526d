/-
  Check, the program's and the reference's, walked. Conditions: that the list's places are as many as its blocks at least.
-/
import Derived.Test.YtmlopacekoghkaaBlFind
import Derived.Deep.RegionHeld3
namespace Go.Proofs.Ytmlopacekoghkaa.Bl
open Go.RowKit

def chkV (r : Int × Nat) : Value := .tuple #[.int .i64 r.1, .int .i64 (r.2 : Nat)]
theorem bad_cases (l : List Blk) {k : Nat} {x : Blk} (hx : l[k]? = some x) : (rightB x = false ∧ badB l k = 3) ∨ (rightB x = true ∧ (findB (l.take k) x.id).2 = true ∧ badB l k = 14) ∨ (rightB x = true ∧ (findB (l.take k) x.id).2 = false ∧ badB l k = 0) := by
  unfold badB
  rw [get_at hx]
  cases h1 : rightB x
  · exact .inl ⟨rfl, rfl⟩
  · cases h2 : (findB (l.take k) x.id).2
    · exact .inr (.inr ⟨rfl, rfl, rfl⟩)
    · exact .inr (.inl ⟨rfl, rfl, rfl⟩)
theorem chkF_go {l : List Blk} {k : Nat} (h : k < l.length) : chkF l k (l.length - k) = if badB l k = 0 then chkF l (k + 1) (l.length - (k + 1)) else (badB l k, k) := by
  rw [show l.length - k = (l.length - (k + 1)) + 1 by omega, chkF_at]

section
variable {w W : World} {b : Nat} {x : Blk} {t : TypeId}
theorem own0 (h : Own4 w b x t) (hb : Below w.heap.size w W) : W.cell? ⟨b, 0, none⟩ = some (.int .i64 x.id) := (h.kept hb h.lt).cells.1
theorem own0_alloc (h : Own4 w b x t) (hb : Below w.heap.size w W) (C : Array Value) (s : TypeId) : (W.alloc (.cells C s)).cell? ⟨b, 0, none⟩ = some (.int .i64 x.id) := own0 h (hb.alloc hb.size _)
theorem set4_below (hb : Below w.heap.size w W) (v0 v1 v2 v3 : Value) : Below w.heap.size w ((((W.setCell ⟨w.heap.size, 0, none⟩ v0).setCell ⟨w.heap.size, 1, none⟩ v1).setCell ⟨w.heap.size, 2, none⟩ v2).setCell ⟨w.heap.size, 3, none⟩ v3) :=
  (((hb.setCell (Nat.le_refl _) _).setCell (Nat.le_refl _) _).setCell (Nat.le_refl _) _).setCell (Nat.le_refl _) _
theorem own0_set (h : Own4 w b x t) (hb : Below w.heap.size w W) (v0 v1 v2 v3 : Value) : ((((W.setCell ⟨w.heap.size, 0, none⟩ v0).setCell ⟨w.heap.size, 1, none⟩ v1).setCell ⟨w.heap.size, 2, none⟩ v2).setCell ⟨w.heap.size, 3, none⟩ v3).cell? ⟨b, 0, none⟩ = some (.int .i64 x.id) := own0 h (set4_below hb _ _ _ _)
theorem alloc_below (hb : Below w.heap.size w W) (C : Array Value) (s : TypeId) : Below w.heap.size w (W.alloc (.cells C s)) := hb.alloc hb.size _
end
set_option maxRecDepth 100000 in
set_option maxHeartbeats 4000000 in
theorem cCheck_any (l : List Blk) (ao : Option Addr) (cap : Nat) (w : World) (hI : Lies w w.heap.size ao l) (hc : l.length ≤ cap) (hm : cap ≤ maxLen) :
    Calls Try.prog 20 #[.slice ao l.length cap] w (Tells (chkV (chkB l)) w) := by
  have HA := Lib.hid (At.first hI)
  have hmi : (cap : Int) ≤ 9223372036854775807 := by unfold maxLen at hm; omega
  unfold chkB chkV
  by_cases h16 : 16 < l.length
  · rw [if_neg (by omega)]
    have e1 : decide ((16 : Int) < (l.length : Int)) = true := by simp; omega
    clear hI
    go_enter Try.func20, Try.ntmps20
    go_wp2
    go_ret2
    exact ⟨rfl, HA.out.below⟩
  rw [if_pos (by omega)]
  have e1 : decide ((16 : Int) < (l.length : Int)) = false := by simp; omega
  obtain ⟨R, hR⟩ : ∃ R, R = chkF l 0 (l.length - 0) := ⟨_, rfl⟩
  have HR := Lib.hid hR
  rw [show l.length - 0 = l.length from rfl] at hR
  rw [← hR]
  clear hR hI
  go_enter Try.func20, Try.ntmps20
  go_wp2
  go_loopw [13] (fun i W => ∃ k : Nat, k ≤ l.length ∧ i = .int .i64 k ∧ Hid (R = chkF l k (l.length - k)) ∧ Hid (At w W ao l)) (fun i _ => l.length - (intOf i).toNat)
  case atStart => exact ⟨0, Nat.zero_le _, rfl, HR, HA⟩
  case round =>
    obtain ⟨k, hk, rfl, hR, hA⟩ := hrel
    clear HR HA
    by_cases hlt : k < l.length
    · have e1 : decide ((k : Int) < l.length) = true := by simp; omega
      obtain ⟨x, hx⟩ : ∃ x, l[k]? = some x := ⟨_, List.getElem?_eq_getElem hlt⟩
      obtain ⟨b, o, rfl, hb, hI⟩ := hA.out.lies (by omega)
      obtain ⟨c0, c1, c2, c3⟩ := hI k x hx
      clear hI
      have one := one_S wr #[.int .i64 x.id, .int .i64 x.ad, .int .i64 x.sz, .bool x.hi] 61
      have hO : Own4 _ wr.heap.size x 61 := Own4.new wr x 61
      have HA1 := Lib.hid (hA.out.next one)
      have HRt := Lib.hid (fun W => cRight_any x W)
      have hlen : (l.take k).length = k := by rw [List.length_take]; omega
      have HFi := fun W (h : At w W (some ⟨b, o, none⟩) l) => cFind_any (l.take k) (some ⟨b, o, none⟩) cap x.id W (h.lies.take k) (by omega)
      rw [hlen] at HFi
      replace HFi := Lib.hid HFi
      have hgo := chkF_go hlt
      unfold blkV at HRt
      clear one
      rcases bad_cases l hx with ⟨h1, h3⟩ | ⟨h1, h2, h3⟩ | ⟨h1, h2, h3⟩
      · rw [h3, if_neg (by decide)] at hgo
        have hr : R = (3, k) := hR.out.trans hgo
        rw [h1] at HRt
        subst hr
        obtain ⟨d0, d1, d2, d3⟩ := hO.cells
        clear hR hgo hx h1 h3 hA hO HFi
        go_wp2_with fail
        refine (HRt.out _).mono ?_
        rintro e w1 ⟨rfl, hb1⟩
        have HA2 := Lib.hid (HA1.out.next hb1)
        clear hb1 HA1
        go_wp2
        go_ret2
        exact ⟨rfl, HA2.out.below⟩
      · rw [h3, if_neg (by decide)] at hgo
        have hr : R = (14, k) := hR.out.trans hgo
        rw [h1] at HRt
        subst hr
        obtain ⟨d0, d1, d2, d3⟩ := hO.cells
        have HO := Lib.hid hO
        obtain ⟨y, hy⟩ : ∃ y, findB (l.take k) x.id = (y, true) := ⟨(findB (l.take k) x.id).1, by rw [← h2]⟩
        rw [hy] at HFi
        unfold foundV blkV at HFi
        clear hR hgo hx h1 h2 h3 hA hO hy
        go_wp2_with fail
        refine (HRt.out _).mono ?_
        rintro e w1 ⟨rfl, hb1⟩
        have HA2 := Lib.hid (HA1.out.next hb1)
        have HO1 := Lib.hid (HO.out.kept hb1 HO.out.lt)
        clear hb1 HA1 HO d0 d1 d2 d3
        generalize wr.heap.size = bb at *
        obtain ⟨d0, d1, d2, d3⟩ := HO1.out.cells
        go_wp2_with fail
        have hk1 : (k : Int) ≤ (cap : Int) := by omega
        have oz := one_S w1 #[.int .i64 0, .int .i64 0, .int .i64 0, .bool false] 61
        have hQ1 := Lib.hid (show Below w1.heap.size w1 (w1.alloc (.cells #[.int .i64 0, .int .i64 0, .int .i64 0, .bool false] 61)).drew ∧ At w (w1.alloc (.cells #[.int .i64 0, .int .i64 0, .int .i64 0, .bool false] 61)).drew (some ⟨b, o, none⟩) l ∧ Own4 (w1.alloc (.cells #[.int .i64 0, .int .i64 0, .int .i64 0, .bool false] 61)).drew w1.heap.size noB 61 from ⟨oz.drew, (HA2.out.next oz).next (Below.refl _ _).drew, Own4.new w1 noB 61⟩)
        clear oz
        have hA1 := Lib.hid (HA2.out.next (Below.refl _ _).drew)
        have hP1 := Lib.hid (show Below w1.heap.size w1 w1.drew from (Below.refl _ _).drew)
        clear HRt c0 c1 c2 c3
        go_region_held3 (fun W' => W'.cell? ⟨bb, 0, none⟩ = some (.int .i64 x.id))
          (first | with_reducible exact own0 HO1.out hP1.out | with_reducible exact own0_alloc HO1.out hP1.out _ _ | with_reducible exact own0 HO1.out hQ1.out.1 | with_reducible exact own0_set HO1.out hP1.out _ _ _ _)
          ((first
            | (go_at_call 29; (with_reducible refine (HFi.out _ hA1.out).mono ?_); rintro e w20 ⟨rfl, hb20⟩; have hP2 := Lib.hid (show Below w1.heap.size w1 w20 from (Below.refl w1.heap.size w1).drew.trans hb20); clear hb20 hP1; have hP1 := hP2; clear hP2)
            | (go_at_call 29; (with_reducible refine (HFi.out _ hQ1.out.2.1).mono ?_); rintro e w20 ⟨rfl, hb20⟩; have hP2 := Lib.hid (show Below w1.heap.size w1 w20 from hQ1.out.1.trans (hb20.mono hQ1.out.1.size)); have hz := hQ1.out.2.2.kept hb20 hQ1.out.2.2.lt; obtain ⟨z0, z1, z2, z3⟩ := hz.cells; have zf := hz.frozen; have f0 := zf 0; have f1 := zf 1; have f2 := zf 2; have f3 := zf 3; clear hb20 zf hz hP1; have hP1 := hP2; clear hP2)))
        all_goals
          go_wp2
          go_ret2
          refine ⟨rfl, ?_⟩
          refine (HA2.out.next ?_).below
          first
            | with_reducible exact alloc_below hP1.out _ _
            | with_reducible exact set4_below hP1.out _ _ _ _
      · rw [h3, if_pos rfl] at hgo
        have hr := Lib.hid (hR.out.trans hgo)
        rw [h1] at HRt
        obtain ⟨d0, d1, d2, d3⟩ := hO.cells
        have HO := Lib.hid hO
        obtain ⟨y, hy⟩ : ∃ y, findB (l.take k) x.id = (y, false) := ⟨(findB (l.take k) x.id).1, by rw [← h2]⟩
        rw [hy] at HFi
        unfold foundV blkV at HFi
        clear hR hgo hx h1 h2 h3 hA hO hy
        go_wp2_with fail
        refine (HRt.out _).mono ?_
        rintro e w1 ⟨rfl, hb1⟩
        have HA2 := Lib.hid (HA1.out.next hb1)
        have HO1 := Lib.hid (HO.out.kept hb1 HO.out.lt)
        clear hb1 HA1 HO d0 d1 d2 d3
        generalize wr.heap.size = bb at *
        obtain ⟨d0, d1, d2, d3⟩ := HO1.out.cells
        go_wp2_with fail
        have hk1 : (k : Int) ≤ (cap : Int) := by omega
        have oz := one_S w1 #[.int .i64 0, .int .i64 0, .int .i64 0, .bool false] 61
        have hQ1 := Lib.hid (show Below w1.heap.size w1 (w1.alloc (.cells #[.int .i64 0, .int .i64 0, .int .i64 0, .bool false] 61)).drew ∧ At w (w1.alloc (.cells #[.int .i64 0, .int .i64 0, .int .i64 0, .bool false] 61)).drew (some ⟨b, o, none⟩) l ∧ Own4 (w1.alloc (.cells #[.int .i64 0, .int .i64 0, .int .i64 0, .bool false] 61)).drew w1.heap.size noB 61 from ⟨oz.drew, (HA2.out.next oz).next (Below.refl _ _).drew, Own4.new w1 noB 61⟩)
        clear oz
        have hA1 := Lib.hid (HA2.out.next (Below.refl _ _).drew)
        have hP1 := Lib.hid (show Below w1.heap.size w1 w1.drew from (Below.refl _ _).drew)
        clear HRt c0 c1 c2 c3
        go_region_held3 (fun W' => W'.cell? ⟨bb, 0, none⟩ = some (.int .i64 x.id))
          (first | with_reducible exact own0 HO1.out hP1.out | with_reducible exact own0_alloc HO1.out hP1.out _ _ | with_reducible exact own0 HO1.out hQ1.out.1 | with_reducible exact own0_set HO1.out hP1.out _ _ _ _)
          ((first
            | (go_at_call 29; (with_reducible refine (HFi.out _ hA1.out).mono ?_); rintro e w20 ⟨rfl, hb20⟩; have hP2 := Lib.hid (show Below w1.heap.size w1 w20 from (Below.refl w1.heap.size w1).drew.trans hb20); clear hb20 hP1; have hP1 := hP2; clear hP2)
            | (go_at_call 29; (with_reducible refine (HFi.out _ hQ1.out.2.1).mono ?_); rintro e w20 ⟨rfl, hb20⟩; have hP2 := Lib.hid (show Below w1.heap.size w1 w20 from hQ1.out.1.trans (hb20.mono hQ1.out.1.size)); have hz := hQ1.out.2.2.kept hb20 hQ1.out.2.2.lt; obtain ⟨z0, z1, z2, z3⟩ := hz.cells; have zf := hz.frozen; have f0 := zf 0; have f1 := zf 1; have f2 := zf 2; have f3 := zf 3; clear hb20 zf hz hP1; have hP1 := hP2; clear hP2)))
        all_goals
          go_wp2
          go_roundw
          case rel =>
            refine ⟨k + 1, by omega, by go_num, hr, Lib.hid ?_⟩
            refine HA2.out.next ?_
            first
              | with_reducible exact alloc_below hP1.out _ _
              | with_reducible exact set4_below hP1.out _ _ _ _
          case measure => simp [intOf]; omega
    · obtain rfl : k = l.length := by omega
      have hr : R = (0, 0) := by rw [hR.out, Nat.sub_self]; rfl
      subst hr
      clear hR
      go_wp2
      go_ret2
      exact ⟨rfl, hA.out.below⟩
end Go.Proofs.Ytmlopacekoghkaa.Bl
