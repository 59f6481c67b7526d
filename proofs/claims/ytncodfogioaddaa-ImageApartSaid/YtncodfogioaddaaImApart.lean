/-
  ImageApart: it returns true. Conditions: that a list's places are as many as its things at least.
-/
import Derived.Test.YtncodfogioaddaaImAv
import Derived.Deep.RegionHeld3
namespace Go.Proofs.Ytncodfogioaddaa.Bl
open Go.RowKit

def ownC : Bs := [102, 117, 103, 108, 101, 109, 97, 110, 44, 32, 97, 32, 115, 116, 97, 116, 105, 111, 110, 32, 111, 102, 32, 97, 32, 114, 105, 110, 103]
set_option maxRecDepth 100000 in
set_option maxHeartbeats 8000000 in
theorem apart_walk (n : Int) (l : List Spt) (so : Option Addr) (cap : Nat) (D : List Blk) (bo : Option Addr) (capD : Nat) (w : World) (hI : Im w w so l bo D) (hs : ∀ (k : Nat) (x : Spt), l[k]? = some x → I64 x.a) (hc : l.length ≤ cap) (hm : cap ≤ maxLen) :
    Calls Try.prog 5 #[.int .i64 n, .slice so l.length cap, .slice bo D.length capD] w (Tells (.bool true) w) := by
  have HI := Lib.hid hI
  by_cases h1 : 15 < l.length
  · have e1 : decide ((15 : Int) < (l.length : Int)) = true := by simp; omega
    clear hI
    go_enter Try.func5, Try.ntmps5
    go_wp2_with fail
    refine (wake_any _).mono ?_
    rintro e w1 ⟨rfl, hb1⟩
    have HI1 := Lib.hid (HI.out.next hb1)
    clear hb1
    go_wp2
    go_ret
    exact ⟨rfl, HI1.out.below⟩
  have e1 : decide ((15 : Int) < (l.length : Int)) = false := by simp; omega
  by_cases h2 : 16 < D.length
  · have e2 : decide ((16 : Int) < (D.length : Int)) = true := by simp; omega
    clear hI
    go_enter Try.func5, Try.ntmps5
    go_wp2_with fail
    refine (wake_any _).mono ?_
    rintro e w1 ⟨rfl, hb1⟩
    have HI1 := Lib.hid (HI.out.next hb1)
    clear hb1
    go_wp2
    go_ret
    exact ⟨rfl, HI1.out.below⟩
  have e2 : decide ((16 : Int) < (D.length : Int)) = false := by simp; omega
  have hDm : D.length ≤ maxLen := by unfold maxLen; omega
  have hA := fun W (h : Im w W so l bo D) => cLay_any n l so cap D bo capD W h.self hc hm hDm
  by_cases hz : (layO true n l D).1 = 0
  rotate_left
  · obtain ⟨r, hr⟩ : ∃ r, r = layO true n l D := ⟨_, rfl⟩
    rw [← hr] at hz hA
    obtain ⟨r1, r2⟩ := r
    unfold errV at hA
    dsimp only at hA hz
    have e3 : (r1 != 0) = true := by simpa [bne_iff_ne] using hz
    have HA := Lib.hid hA
    clear hA hI hr hz
    go_enter Try.func5, Try.ntmps5
    go_wp2_with fail
    refine (wake_any _).mono ?_
    rintro e w1 ⟨rfl, hb1⟩
    have HI1 := Lib.hid (HI.out.next hb1)
    clear hb1
    go_wp2_with fail
    refine (HA.out _ HI1.out).mono ?_
    rintro e w2 ⟨rfl, hb1⟩
    have HI2 := Lib.hid (HI1.out.next hb1)
    clear hb1
    go_wp2
    go_ret
    exact ⟨rfl, HI2.out.below⟩
  obtain ⟨m, rfl, hap⟩ := lay_apart hz
  have hA2 : ∀ W, Im w W so l bo D → Calls Try.prog 7 #[.int .i64 (m : Int), .slice so l.length cap, .slice bo D.length capD] W (Tells (.tuple #[.int .i64 0, .int .i64 (layO true (m : Int) l D).2]) W) := fun W h => by
    have := hA W h
    unfold errV at this
    rw [hz] at this
    exact this
  generalize (layO true (m : Int) l D).2 = r2 at hA2
  have HA := Lib.hid hA2
  have HP := Lib.hid hap
  have HF := Lib.hid (fun (id : Int) W (h : Im w W so l bo D) => rFind_any D bo capD id W h.self.di hDm)
  have hml := hap.le
  obtain ⟨i0, hi, hz0, hz1, hz2⟩ := info_parts infoStr
  have HZ := Lib.hid (⟨hi, hz0, hz1, hz2⟩ : _ ∧ _ ∧ _ ∧ _)
  have HN : Hid (l.length ≤ 15) := Lib.hid (by omega)
  clear hA hA2 hI hap hz hi hz0 hz1 hz2
  go_enter Try.func5, Try.ntmps5
  go_wp2_with fail
  refine (wake_any _).mono ?_
  rintro e w1 ⟨rfl, hb1⟩
  have HI1 := Lib.hid (HI.out.next hb1)
  clear hb1 HI
  go_wp2_with fail
  refine (HA.out _ HI1.out).mono ?_
  rintro e w2 ⟨rfl, hb1⟩
  have HV2 := Lib.hid (⟨HI1.out.next hb1, SRow.nil _ _⟩ : Av w w2 so l bo D (.slice none 0 0) (vals l D 0))
  clear hb1 HI1 HA
  go_wp2
  clear e1 e2
  go_loopw [10, 45] (fun v i W => ∃ k : Nat, k ≤ l.length ∧ i = .int .i64 k ∧ Hid (Av w W so l bo D v (vals l D k))) (fun _ i _ => l.length - (intOf i).toNat)
  case atStart => exact ⟨0, Nat.zero_le _, rfl, HV2⟩
  case round =>
    obtain ⟨k, hk, rfl, hV⟩ := hrel
    clear HV2
    by_cases hlt : k < l.length
    · have e1 : decide ((k : Int) < (l.length : Int)) = true := by simp; omega
      obtain ⟨s, hs1⟩ : ∃ s, l[k]? = some s := ⟨_, List.getElem?_eq_getElem hlt⟩
      obtain ⟨b0, o0, hso, hb0, hcs⟩ := hV.out.im.sp (by omega)
      subst hso
      obtain ⟨c0, c1⟩ := hcs k s hs1
      have hg := sget_at hs1
      obtain ⟨hf, -, -, -, hzz, hpz, -⟩ := sp_zero (HP.out.ok k hlt)
      rw [hg] at hf hzz
      obtain ⟨x, f, hff⟩ : ∃ x f, findB D s.b = (x, f) := ⟨_, _, rfl⟩
      rw [hff] at hf hzz
      dsimp only at hf hzz
      subst hf
      have HFk := HF.out s.b
      rw [hff] at HFk
      unfold foundV blkV at HFk
      replace HFk := Lib.hid HFk
      have hnx := vals_next l D k
      generalize spZ l D k = z at *
      obtain ⟨x1, x2, x3, x4⟩ := x
      dsimp only at *
      subst hzz
      have hmk := mkU8 z (by omega)
      have o1 := one_S wr #[.int .i64 s.b, .int .i64 s.a] 36
      have HV1 := Lib.hid (hV.out.next o1)
      have HNx := Lib.hid hnx
      obtain ⟨g0, g1⟩ := (Own2.new wr s 36).cells
      clear hcs hs1 hg hff o1 hnx hV
      go_wp2_with fail
      refine (HFk.out _ HV1.out.im).mono ?_
      rintro e w3 ⟨rfl, hb3⟩
      have o3 := one_S w3 #[.int .i64 x1, .int .i64 x2, .int .i64 (z : Int), .bool x4] 38
      have HV3 := Lib.hid ((HV1.out.next hb3).next o3)
      clear hb3 o3 HV1 HFk c0 c1 g0 g1
      go_wp2
      have hW0 := size_alloc w3 (.cells #[.int .i64 x1, .int .i64 x2, .int .i64 (z : Int), .bool x4] 38)
      generalize w3.alloc (.cells #[.int .i64 x1, .int .i64 x2, .int .i64 (z : Int), .bool x4] 38) = W0 at *
      generalize w3.heap.size + 1 = g at *
      have hA0 : AreaAt (W0.alloc (.cells (madeCells #[.int .u8 0] z) 5)) W0.heap.size (zeroA z) := AreaAt.zeros z
      rw [hW0, ← wv_first k z] at hA0
      have HA0 := Lib.hid hA0
      have hB0 := one_S W0 (madeCells #[.int .u8 0] z) 5
      rw [hW0] at hB0
      have HB0 := Lib.hid hB0
      have HG := Lib.hid hW0
      clear hA0 hB0 hmk hW0
      go_loopw [62] (fun i W => ∃ j : Nat, j ≤ z ∧ i = .int .i64 j ∧ Hid (Below g W0 W) ∧ Hid (AreaAt W g (wv k z j))) (fun i _ => z - (intOf i).toNat)
      case atStart => exact ⟨0, Nat.zero_le _, rfl, HB0, HA0⟩
      case round =>
        obtain ⟨j, hj, rfl, hB, hA⟩ := hrel
        clear HB0 HA0
        by_cases hjz : j < z
        · have e2 : decide ((j : Int) < (z : Int)) = true := by simp; omega
          obtain ⟨a0, f0⟩ := hA.out j _ (List.getElem?_eq_getElem (by rw [wv_len]; exact hjz))
          have hA2 := hA.out.one (i := j) (by rw [wv_len]; exact hjz) (vB k j)
          rw [wv_next hjz] at hA2
          have hB2 := hB.out.setCell (p := ⟨g, j, none⟩) (Nat.le_refl g) (.int .u8 ((vB k j).toNat : Nat))
          have hvn := vB_nat (k := k) (j := j) (by have := HN.out; omega)
          generalize vB k j = y at *
          obtain ⟨r, hr⟩ : ∃ r : Nat, r = j % 16 := ⟨_, rfl⟩
          rw [← hr] at hvn
          have hk15 : k < 15 := by have := HN.out; omega
          have ht : (j : Int).tmod 16 = (r : Int) := by rw [Int.tmod_eq_emod_of_nonneg (by omega)]; omega
          have hw1 : IntKind.i64.wrap ((k : Int) * 16) = (k : Int) * 16 := by rw [IntKind.wrap_i64]; omega
          have hw2 : IntKind.i64.wrap (1 + (k : Int) * 16) = 1 + (k : Int) * 16 := by rw [IntKind.wrap_i64]; omega
          have hw3 : IntKind.i64.wrap (1 + (k : Int) * 16 + (r : Int)) = 1 + (k : Int) * 16 + (r : Int) := by rw [IntKind.wrap_i64]; omega
          have hw5 : IntKind.i64.wrap (r : Int) = (r : Int) := by rw [IntKind.wrap_i64]; omega
          have hw4 : IntKind.u8.wrap (1 + (k : Int) * 16 + (r : Int)) = (y.toNat : Int) := by rw [IntKind.wrap_u8, hvn]; omega
          have HA2 := Lib.hid hA2
          have HB2 := Lib.hid hB2
          clear hA2 hB2 hvn hr hA hB
          go_wp2
          go_roundw
          case rel => exact ⟨j + 1, by omega, by go_num, HB2, HA2⟩
          case measure => simp [intOf]; omega
        · obtain rfl : j = z := by omega
          have e2 : decide ((j : Int) < (j : Int)) = false := by simp
          have hA2 := hA.out
          rw [wv_last] at hA2
          have hcv := conv_area wr (cap := j) hA2 (valN_len k j)
          have hV4 := HV3.out.next (show Below W0.heap.size W0 wr by rw [HG.out]; exact hB.out)
          generalize valN k j = y at *
          obtain ⟨A, c, rfl⟩ := own_form hV4.row
          have hvl := vals_len l D k
          generalize vals l D k = xs at *
          have HV4 := Lib.hid hV4
          have HO := Lib.hid (hV4.row.alloc (.cells #[.string (S y)] 9))
          have hsz : w.heap.size ≤ wr.heap.size := hV4.im.below.size
          have hk15 : xs.length ≤ 15 := by have := HN.out; omega
          clear hA2 hA hB HV3 hV4
          go_wp2_with (at_builtin; refine wpList_append_own _ rfl (.tmp 76) (.tmp 79) 32 rfl w.heap.size 9 i0 (.string ⟨#[]⟩) 1 16 Try.underlying32 HZ.out.1 HZ.out.2.1 HZ.out.2.2.1 HZ.out.2.2.2 rfl (by decide) _ xs.length (strs xs) rfl HO.out ⟨wr.heap.size, 0, none⟩ 1 1 [.string (S y)] rfl rfl (cell_one_new _ _ _) (by intro u hu; simp at hu; subst hu; rfl) (by unfold maxLen; omega) (by omega) (by simp; omega) ?_)
          intro v1 w5 hown hgrow _
          have hS1 : Hid (Av w w5 (some ⟨b0, o0, none⟩) l bo D v1 (vals l D (k + 1))) := Lib.hid (by
            have hbel : Below w.heap.size wr w5 := ((Below.refl w.heap.size wr).alloc hsz _).grown hgrow (by simp; omega) (fun g hg => own_base HV4.out.row g (by rw [hvl]; exact hg))
            refine ⟨HV4.out.im.turn hbel, ?_⟩
            rw [HNx.out]
            unfold SRow; simpa [strs, hvl] using hown)
          clear hown hgrow HO
          go_wp2
          go_roundw
          case rel => exact ⟨k + 1, by omega, by go_num, hS1⟩
          case measure => simp [intOf]; omega
    · obtain rfl : k = l.length := by omega
      have e1 : decide ((l.length : Int) < (l.length : Int)) = false := by simp
      have hV3 := hV.out
      obtain ⟨A, c, rfl⟩ := own_form hV3.row
      have hvl := vals_len l D l.length
      have hval : ∀ (k : Nat) (x : Bs), (vals l D l.length)[k]? = some x → x.length ≤ maxLen := fun k x hx => by
        have hkl : k < l.length := by have := (List.getElem?_eq_some_iff.1 hx).1; rwa [hvl] at this
        rw [vals_at hkl] at hx
        injection hx with hx
        obtain ⟨-, -, -, -, -, hpz, -⟩ := sp_zero (HP.out.ok k hkl)
        rw [← hx, valN_len]
        unfold maxLen
        omega
      have hC := fun W (h : Av w W so l bo D (.slice A (vals l D l.length).length c) (vals l D l.length)) => cInputs_any (m : Int) ownC l so cap (vals l D l.length) A c W h.it (by omega) hs hval
      have hR : inpB (m : Int) ownC l (vals l D l.length) = arA ownC l D m l.length := by
        unfold inpB arA
        rw [hvl, Nat.min_self]
      have hoc : S ownC = ⟨#[102, 117, 103, 108, 101, 109, 97, 110, 44, 32, 97, 32, 115, 116, 97, 116, 105, 111, 110, 32, 111, 102, 32, 97, 32, 114, 105, 110, 103]⟩ := rfl
      rw [hR] at hC
      rw [hvl] at hC hV3
      have hRl := arA_len ownC l D m l.length
      have hRv := fun (i : Nat) (hi : i < l.length) => arA_val HP.out ownC hi
      have hRo := fun (q : Nat) (hq : q < m) => arA_own HP.out ownC l.length q (Nat.le_refl _) hq
      have hRz := zer_all HP.out ownC HN.out
      generalize arA ownC l D m l.length = R at *
      rw [hoc] at hC
      have HC := Lib.hid hC
      have HV3 := Lib.hid hV3
      have HRv := Lib.hid hRv
      have HRo := Lib.hid hRo
      have HRz := Lib.hid hRz
      have hsR := S_size R
      rw [hRl] at hsR
      have HRl := Lib.hid hRl
      clear hV hV3 hC hR hoc hRv hRo hRz hval HF HZ h1 h2
      go_wp2_with fail
      refine (HC.out _ HV3.out).mono ?_
      rintro e w6 ⟨rfl, hb6⟩
      have HV6 := Lib.hid (HV3.out.next hb6)
      clear hb6 HV3 HC
      go_wp2
      clear e1
      go_loopw [18, 89] (fun t i W => ∃ k : Nat, k ≤ l.length ∧ i = .int .i64 k ∧ t = .int .i64 (sumZ l D k : Nat) ∧ Hid (Av w W so l bo D (.slice A l.length c) (vals l D l.length))) (fun _ i _ => l.length - (intOf i).toNat)
      case atStart => exact ⟨0, Nat.zero_le _, rfl, rfl, HV6⟩
      case round =>
        obtain ⟨k, hk, rfl, rfl, hV⟩ := hrel
        clear HV6
        have hl15 := HN.out
        by_cases hlt : k < l.length
        · have e1 : decide ((k : Int) < (l.length : Int)) = true := by simp; omega
          obtain ⟨s, hs1⟩ : ∃ s, l[k]? = some s := ⟨_, List.getElem?_eq_getElem hlt⟩
          obtain ⟨b0, o0, hso, hb0, hcs⟩ := hV.out.im.sp (by omega)
          obtain ⟨gb, go, hA, hgb, hct⟩ := hV.out.row.lies (by rw [vals_len]; omega)
          subst hso hA
          obtain ⟨c0, c1⟩ := hcs k s hs1
          have t0 := hct k _ (vals_at hlt)
          have hg := sget_at hs1
          obtain ⟨-, ha, -, -, -, hpz, -⟩ := sp_zero (HP.out.ok k hlt)
          have hvk := HRv.out k hlt
          have hsm := sum_le HP.out (k + 1) hlt
          have hs2 : sumZ l D (k + 1) = sumZ l D k + spZ l D k := rfl
          have hap : (spP l k : Int) = (l.getD k noS).a := by unfold spP; omega
          rw [hg] at ha hvk hap
          have hyl := valN_len k (spZ l D k)
          generalize spZ l D k = z at *
          rw [hs2] at hsm
          generalize sumZ l D k = sz1 at *
          generalize spP l k = p at *
          generalize valN k z = y at *
          obtain ⟨sb, a⟩ := s
          dsimp only at *
          have HVal := fun W => cValue_any R a (z : Int) W (by rw [HRl.out]; unfold maxLen; decide) ha (by omega)
          rw [hvk] at HVal
          replace HVal := Lib.hid HVal
          have hsy := S_size y
          rw [hyl] at hsy
          have hws : IntKind.i64.wrap ((sz1 : Int) + (z : Int)) = (sz1 : Int) + (z : Int) := by rw [IntKind.wrap_i64]; omega
          have o1 := one_S wr #[.int .i64 sb, .int .i64 a] 36
          have HV1 := Lib.hid (hV.out.next o1)
          obtain ⟨g0, g1⟩ := (Own2.new wr ⟨sb, a⟩ 36).cells
          have t1 := kept_own o1 t0
          have HS2 := Lib.hid hs2
          have hcap : l.length ≤ c := by
            rcases hV.out.row.2 with ⟨e, _⟩ | ⟨q, cq, cur, e, _, _, hle, _⟩
            · cases e
            · injection e with _ _ e
              subst e
              rw [vals_len] at hle
              exact hle
          clear hcs hct hs1 hg ha hap hvk hpz hsm hs2 o1 hV hyl
          go_wp2
          generalize wr.alloc (.cells #[.int .i64 sb, .int .i64 a] 36) = W1 at *
          generalize wr.heap.size = q at *
          rw [Nat.zero_add] at g1
          go_region_held3 (fun W' => W'.cell? ⟨q, 1, none⟩ = some (.int .i64 a) ∧ W'.cell? ⟨gb, go + k, none⟩ = some (.string (S y))) (first | exact ⟨g1, t1⟩ | exact ⟨kept_own hP1 g1, kept_own hP1 t1⟩)
            ((go_at_call 13; (with_reducible refine (HVal.out _).mono ?_); rintro e w7 ⟨rfl, hP1⟩))
          have HV7 := Lib.hid (HV1.out.next ((below_draw _ W1).trans hP1))
          replace t1 := kept_own hP1 t1
          clear hP1 HV1 g0 g1 t0 HVal
          go_wp2
          go_roundw
          case rel => exact ⟨k + 1, by omega, by go_num, by rw [HS2.out]; go_num, HV7⟩
          case measure => simp [intOf]; omega
        · obtain rfl : k = l.length := by omega
          have e1 : decide ((l.length : Int) < (l.length : Int)) = false := by simp
          have HIm := Lib.hid hV.out.im
          clear hV HRv
          go_wp2
          clear e1
          go_loopw [117] (fun i W => ∃ q : Nat, q ≤ m ∧ i = .int .i64 q ∧ Hid (Im w W so l bo D)) (fun i _ => m - (intOf i).toNat)
          case atStart => exact ⟨0, Nat.zero_le _, rfl, HIm⟩
          case round =>
            obtain ⟨q, hq, rfl, hI⟩ := hrel
            clear HIm
            by_cases hqm : q < m
            · have e1 : decide ((q : Int) < (m : Int)) = true := by simp; omega
              have hgq := S_get (v := R) (i := q) (by rw [hsR]; omega)
              rw [HRo.out q hqm] at hgq
              have hB := fun W => rByte_any ownC q W
              rw [show S ownC = ⟨#[102, 117, 103, 108, 101, 109, 97, 110, 44, 32, 97, 32, 115, 116, 97, 116, 105, 111, 110, 32, 111, 102, 32, 97, 32, 114, 105, 110, 103]⟩ from rfl] at hB
              have HB := Lib.hid hB
              have HI7 := Lib.hid (hI.out.next (below_draw _ _))
              clear hB hI
              generalize ownC.getD q 0 = y at *
              go_wp2
              go_region_with (first | (go_at_call 14; (with_reducible refine (HB.out _).mono ?_); rintro e w8 ⟨rfl, rfl⟩))
              all_goals
                go_wp2
                go_roundw
                case rel => exact ⟨q + 1, by omega, by go_num, HI7⟩
                case measure => simp [intOf]; omega
            · obtain rfl : q = m := by omega
              have e1 : decide ((q : Int) < (q : Int)) = false := by simp
              have hl15 := HN.out
              clear HRo
              go_wp2
              clear e1
              go_loopw [22, 23] (fun t i W => ∃ j : Nat, q ≤ j ∧ j ≤ 64 ∧ i = .int .i64 j ∧ t = .int .i64 (zerN R q (j - q) : Nat) ∧ Hid (Im w W so l bo D)) (fun _ i _ => 64 - (intOf i).toNat)
              case atStart => exact ⟨q, Nat.le_refl _, hml, rfl, by rw [Nat.sub_self]; rfl, hI⟩
              case round =>
                obtain ⟨j, hqj, hj, rfl, rfl, hI2⟩ := hrel
                clear hI
                by_cases hlt : j < 64
                · have e1 : decide ((j : Int) < 64) = true := by simp; omega
                  have hgj := S_get (v := R) (i := j) (by rw [hsR]; exact hlt)
                  have hnx := zer_next R q j hqj
                  have hzl := zer_le R q (j - q)
                  generalize R.getD j 0 = y at *
                  generalize zerN R q (j - q) = t at *
                  by_cases hy : y = 0
                  · rw [if_pos hy] at hnx
                    subst hy
                    have HNx := Lib.hid hnx
                    clear hnx
                    go_wp2
                    go_roundw
                    case rel => exact ⟨j + 1, by omega, by omega, by go_num, by rw [HNx.out]; go_num, hI2⟩
                    case measure => simp [intOf]; omega
                  · rw [if_neg hy, Nat.add_zero] at hnx
                    have e2 : (((y.toNat : Nat) : Int) == 0) = false := by
                      rw [beq_eq_false_iff_ne]
                      intro h0
                      apply hy
                      apply UInt8.toNat.inj
                      show y.toNat = 0
                      omega
                    have HNx := Lib.hid hnx
                    clear hnx hy
                    go_wp2
                    go_roundw
                    case rel => exact ⟨j + 1, by omega, by omega, by go_num, by rw [HNx.out]; rfl, hI2⟩
                    case measure => simp [intOf]; omega
                · have h64 : j = 64 := by omega
                  have e1 : decide ((j : Int) < 64) = false := by simp; omega
                  have hz := HRz.out
                  rw [← h64] at hz
                  have hzl := zer_le R q (j - q)
                  generalize zerN R q (j - q) = t at *
                  generalize sumZ l D l.length = sz at *
                  have hw1 : IntKind.i64.wrap (64 - (q : Int)) = 64 - (q : Int) := by rw [IntKind.wrap_i64]; omega
                  have hw2 : IntKind.i64.wrap (64 - (q : Int) - (sz : Int)) = (t : Int) := by rw [IntKind.wrap_i64]; omega
                  clear hz
                  go_wp2
                  go_ret
                  exact ⟨rfl, hI2.out.below⟩
end Go.Proofs.Ytncodfogioaddaa.Bl
