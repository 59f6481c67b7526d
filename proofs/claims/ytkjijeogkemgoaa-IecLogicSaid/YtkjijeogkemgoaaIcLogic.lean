/-
  The law IecLogic, walked: it returns true. Conditions: that the calls answer as is asked.
-/
import Derived.Test.YtkjijeogkemgoaaIcClo
import Derived.Deep.RegionHeld3
import Derived.Deep.DeepCutAuto
namespace Go.Proofs.Ytkjijeogkemgoaa.Ic
open Go.RowKit

theorem lgS {B : Base} {N pk : Nat} {w0 w : World} {k : Int} (h : Lg B N w0 w k pk) : w.cell? ⟨pk, 0, none⟩ = some (.int .i64 k) ∧ Lg B N w0 w k pk := ⟨h.ck, h⟩
theorem new_cells' (w : World) (c : Array Value) (e : TypeId) (j : Nat) (v : Value) (hv : c[j]? = some v) : (w.alloc (.cells c e)).cell? ⟨w.heap.size, j, none⟩ = some v := by
  rw [cell_of_row _ _ j _ e (0, 0) (heap_alloc_new w _)]
  exact hv
/-- What order says of two numbers. -/
theorem order_facts (k a b : Int) : doV 19 k a b + doV 23 k a b = 1 ∧ doV 24 k a b + doV 20 k a b = 1 ∧ doV 21 k a b + doV 22 k a b = 1 ∧ doV 24 k b a = doV 19 k a b := by
  have e19 : doV 19 k a b = yesI (decide (b < a)) := rfl
  have e20 : doV 20 k a b = yesI (decide (b ≤ a)) := rfl
  have e21 : doV 21 k a b = yesI (decide (a = b)) := rfl
  have e22 : doV 22 k a b = yesI (decide (a ≠ b)) := rfl
  have e23 : doV 23 k a b = yesI (decide (a ≤ b)) := rfl
  have e24 : doV 24 k a b = yesI (decide (a < b)) := rfl
  have e24' : doV 24 k b a = yesI (decide (b < a)) := rfl
  rw [e19, e20, e21, e22, e23, e24, e24']
  unfold yesI
  rcases Int.lt_trichotomy a b with h | h | h
  · have h1 : ¬ b < a := by omega
    have h2 : a ≤ b := by omega
    have h3 : ¬ b ≤ a := by omega
    have h4 : a ≠ b := by omega
    simp [h, h1, h2, h3, h4]
  · subst h
    simp
  · have h1 : ¬ a < b := by omega
    have h2 : b ≤ a := by omega
    have h3 : ¬ a ≤ b := by omega
    have h4 : a ≠ b := by omega
    simp [h, h1, h2, h3, h4]

set_option maxRecDepth 100000 in
set_option maxHeartbeats 8000000 in
theorem logic_walk {B : Base} (C : Code B) (n : Nat) (x y : Int) (w : World) (hE : B.E w.heap.size w) (hn : n < 256) (hx : I64 x) (hy : I64 y) :
    Calls Try.prog 8 #[.int .u8 n, .int .i64 x, .int .i64 y] w (Tells (.bool true) w) := by
  have CC := Lib.hid C
  have HX := Lib.hid hx
  have HY := Lib.hid hy
  have HC := Lib.hid (Cur.first hE)
  clear C hE hx hy
  obtain ⟨N, hN⟩ : ∃ N, w.heap.size = N := ⟨_, rfl⟩
  unfold Tells
  rw [hN] at HC ⊢
  obtain ⟨j, hj⟩ : ∃ j : Nat, n % 3 = j := ⟨_, rfl⟩
  have hj4 : j < 3 := by omega
  have hj1 : (n : Int) % 3 = (j : Int) := by omega
  obtain ⟨k, hk⟩ : ∃ k : Int, k = if j = 0 then 1 else if j = 1 then 6 else 7 := ⟨_, rfl⟩
  have hk2 : k = 1 ∨ k = 6 ∨ k = 7 := by rw [hk]; split <;> (try split) <;> omega
  have HKI := Lib.hid (show I64 k by unfold I64; omega)
  have HTab := Lib.hid (show #[Value.int .i64 1, .int .i64 6, .int .i64 7][j]? = some (.int .i64 k) from by
    subst hk
    obtain rfl | rfl | rfl : j = 0 ∨ j = 1 ∨ j = 2 := by omega
    all_goals rfl)
  clear hj hk
  replace hk2 := Lib.hid hk2
  go_enter Try.func8, Try.ntmps8
  go_wp2_with fail
  refine (awake_any CC.out _ HC.out).mono ?_
  rintro e w1 ⟨rfl, hb1⟩
  have HC1 := Lib.hid (HC.out.next hb1)
  clear hb1 HC
  have hc := new_cells' w1 #[.int .i64 1, .int .i64 6, .int .i64 7] 3 j _ HTab.out
  have HBl := Lib.hid ((Below.refl w1.heap.size w1).alloc (Nat.le_refl _) (.cells #[.int .i64 1, .int .i64 6, .int .i64 7] 3))
  have hj5 : (j : Int) < 3 := by omega
  obtain ⟨W, hW⟩ : ∃ W, W = (w1.alloc (.cells #[.int .i64 1, .int .i64 6, .int .i64 7] 3)).alloc (.cells #[.int .i64 k] 3) := ⟨_, rfl⟩
  have HT := Lib.hid (show Lg B N w W k (w1.heap.size + 1) from by
    have hbl := HBl.out.alloc (Nat.le_of_lt (by simp)) (.cells #[.int .i64 k] 3)
    rw [← hW] at hbl
    have hck := new_cells' (w1.alloc (.cells #[.int .i64 1, .int .i64 6, .int .i64 7] 3)) #[.int .i64 k] 3 0 _ rfl
    rw [← hW] at hck
    have e : (w1.alloc (.cells #[.int .i64 1, .int .i64 6, .int .i64 7] 3)).heap.size = w1.heap.size + 1 := by simp
    rw [e] at hck
    exact ⟨HC1.out.next hbl, hck⟩)
  go_wp2_with fail
  rw [← hW]
  clear hW hc HBl HC1 HTab hj1 hj4 hj5
  generalize w1.heap.size + 1 = pk at *
  have hx3 := HT.out.ck
  have hT0 := HT.out
  have hA := Lib.hid (fun W (h : Lg B N w W k pk) => CC.out.wrap N k x W h.cur.e h.cur.size HKI.out HX.out)
  have hB := Lib.hid (fun W (h : Lg B N w W k pk) => CC.out.wrap N k y W h.cur.e h.cur.size HKI.out HY.out)
  have h0 : szI k ≠ 0 := sz_some k (by have := hk2.out; omega) (by have := hk2.out; omega)
  have ha := Lib.hid (wrap_is k x h0)
  have hb := Lib.hid (wrap_is k y h0)
  clear HT
  generalize wrapI k x = a at *
  generalize wrapI k y = b at *
  go_region_held3 (fun W' => W'.cell? ⟨pk, 0, none⟩ = some (.int .i64 k) ∧ Lg B N w W' k pk)
    (first | exact lgS ‹Lg B N w _ k pk› | exact lgS (Lg.drew ‹Lg B N w _ k pk›))
    (first
      | (go_at_call 17; first
        | (have hS := ‹_ ∧ Lg _ _ _ _ _ _›; (with_reducible refine (hA.out _ hS.2).mono ?_); rintro e w6 ⟨rfl, hb6⟩; have hx6 := hS.2.next hb6; have y3 := hx6.ck)
        | (have hS := ‹_ ∧ Lg _ _ _ _ _ _›; (with_reducible refine (hB.out _ hS.2).mono ?_); rintro e w6 ⟨rfl, hb6⟩; have hx6 := hS.2.next hb6; have y3 := hx6.ck)))
  have HR6 := Lib.hid hx6
  clear hS hx6 hb6 y3 hx3 hT0 hA hB
  have hm := Lib.hid (fun op (h : (7 ≤ op ∧ op ≤ 12) ∨ (19 ≤ op ∧ op ≤ 24)) => show mayI op k = true from by
    unfold mayI
    rw [decide_eq_true_iff]
    refine ⟨h0, ?_⟩
    have := hk2.out
    omega)
  have LF := Lib.hid (logic_facts k a b hk2.out ha.out hb.out)
  have OF := Lib.hid (order_facts k a b)
  have Bd := Lib.hid (fun v (h : isI k v = true) => show I64 v from by have := is_bd h; unfold I64; omega)
  clear h0 hk2
  have L7 := Lib.hid (show doV 7 k a b = doV 7 k a b from rfl)
  obtain ⟨na, hna⟩ : ∃ v, notI k a = v := ⟨_, rfl⟩
  obtain ⟨nb, hnb⟩ : ∃ v, notI k b = v := ⟨_, rfl⟩
  obtain ⟨v7, hv7⟩ : ∃ v, doV 7 k a b = v := ⟨_, rfl⟩
  obtain ⟨v9, hv9⟩ : ∃ v, doV 9 k a b = v := ⟨_, rfl⟩
  obtain ⟨v10, hv10⟩ : ∃ v, doV 10 k a b = v := ⟨_, rfl⟩
  obtain ⟨v11, hv11⟩ : ∃ v, doV 11 k a b = v := ⟨_, rfl⟩
  obtain ⟨v12, hv12⟩ : ∃ v, doV 12 k a b = v := ⟨_, rfl⟩
  obtain ⟨n7, hn7⟩ : ∃ v, notI k v7 = v := ⟨_, rfl⟩
  have LX := LF.out
  have hs := LX.morgan
  have f1 := LX.nna
  have f2 := LX.na
  have f3 := LX.nb
  have f4 := LX.iand
  have f5 := LX.ixor
  have f6 := LX.xx
  have f7 := LX.andn
  have f8 := LX.orn
  have f9 := LX.xorn
  rw [hna] at f1 f2 hs
  rw [hnb] at f3 f7 f8 hs
  rw [hv7] at f4 hs
  rw [hn7] at hs
  rw [hv9] at f5 f6 f9
  rw [hv10] at f7
  rw [hv11] at f8
  rw [hv12] at f9
  replace hna := Lib.hid hna
  replace hnb := Lib.hid hnb
  replace hv7 := Lib.hid hv7
  replace hv9 := Lib.hid hv9
  replace hv10 := Lib.hid hv10
  replace hv11 := Lib.hid hv11
  replace hv12 := Lib.hid hv12
  replace hn7 := Lib.hid hn7
  replace hs := Lib.hid hs
  replace f1 := Lib.hid f1
  replace f2 := Lib.hid f2
  replace f3 := Lib.hid f3
  replace f4 := Lib.hid f4
  replace f5 := Lib.hid f5
  replace f6 := Lib.hid f6
  replace f7 := Lib.hid f7
  replace f8 := Lib.hid f8
  replace f9 := Lib.hid f9
  clear LX LF L7
  -- the contracts at just these values
  have Nn := Lib.hid (fun v r (hv : isI k v = true) (hr : notI k v = r) W (h : Lg B N w W k pk) => show Calls Try.prog 21 #[.int .i64 k, .int .i64 v] W (Tells (.int .i64 r) W) from by
    have := CC.out.not_ N k v W h.cur.e h.cur.size HKI.out (Bd.out v hv)
    rw [hr] at this
    exact this)
  have Dd := Lib.hid (fun op x y v (ho : (7 ≤ op ∧ op ≤ 12) ∨ (19 ≤ op ∧ op ≤ 24)) (hx : isI k x = true) (hy : isI k y = true) (hv : doV op k x y = v) W (h : Lg B N w W k pk) => log_clo CC.out h op x y v HKI.out (by omega) (hm.out op ho) (by omega) hx hy hv)
  have P1 := Lib.hid (Nn.out a na ha.out hna.out)
  have P2 := Lib.hid (Nn.out na a f2.out f1.out)
  have P3 := Lib.hid (Dd.out 7 a b v7 (by omega) ha.out hb.out hv7.out)
  have P4 := Lib.hid (Nn.out v7 n7 f4.out hn7.out)
  have P5 := Lib.hid (Nn.out b nb hb.out hnb.out)
  have P6 := Lib.hid (Dd.out 8 na nb n7 (by omega) f2.out f3.out hs.out)
  have P7 := Lib.hid (Dd.out 9 a b v9 (by omega) ha.out hb.out hv9.out)
  have P8 := Lib.hid (Dd.out 9 v9 b a (by omega) f5.out hb.out f6.out)
  have P9 := Lib.hid (Dd.out 10 a b v10 (by omega) ha.out hb.out hv10.out)
  have P10 := Lib.hid (Dd.out 7 a nb v10 (by omega) ha.out f3.out f7.out)
  have P11 := Lib.hid (Dd.out 11 a b v11 (by omega) ha.out hb.out hv11.out)
  have P12 := Lib.hid (Dd.out 8 a nb v11 (by omega) ha.out f3.out f8.out)
  have P13 := Lib.hid (Dd.out 12 a b v12 (by omega) ha.out hb.out hv12.out)
  have P14 := Lib.hid (Nn.out v9 v12 f5.out f9.out)
  clear hna hnb hv7 hv9 hv10 hv11 hv12 hn7 hs f1 f2 f3 f4 f5 f6 f7 f8 f9 Nn
  have hT0 := HR6.out
  have hx3 := hT0.ck
  go_upto_region 6 with fail
  go_cut [57] (fun s57 wx => s57 = .bool false ∧ Hid (Lg B N w wx k pk))
  case first =>
    clear HR6
    go_region_held3 (fun W' => W'.cell? ⟨pk, 0, none⟩ = some (.int .i64 k) ∧ Lg B N w W' k pk)
      (first | exact lgS ‹Lg B N w _ k pk› | exact lgS (Lg.drew ‹Lg B N w _ k pk›))
      (first
        | (go_at_call 21; first
          | (have hS := ‹_ ∧ Lg _ _ _ _ _ _›; (with_reducible refine (P1.out _ hS.2).mono ?_); rintro e w7 ⟨rfl, hb7⟩; have hx7 := hS.2.next hb7; have y3 := hx7.ck)
          | (have hS := ‹_ ∧ Lg _ _ _ _ _ _›; (with_reducible refine (P2.out _ hS.2).mono ?_); rintro e w7 ⟨rfl, hb7⟩; have hx7 := hS.2.next hb7; have y3 := hx7.ck)
          | (have hS := ‹_ ∧ Lg _ _ _ _ _ _›; (with_reducible refine (P4.out _ hS.2).mono ?_); rintro e w7 ⟨rfl, hb7⟩; have hx7 := hS.2.next hb7; have y3 := hx7.ck)
          | (have hS := ‹_ ∧ Lg _ _ _ _ _ _›; (with_reducible refine (P5.out _ hS.2).mono ?_); rintro e w7 ⟨rfl, hb7⟩; have hx7 := hS.2.next hb7; have y3 := hx7.ck))
        | (go_at_call 31; first
          | (have hS := ‹_ ∧ Lg _ _ _ _ _ _›; (with_reducible refine (P3.out _ hS.2).mono ?_); rintro e w7 ⟨rfl, hb7⟩; have hx7 := hS.2.next hb7; have y3 := hx7.ck)
          | (have hS := ‹_ ∧ Lg _ _ _ _ _ _›; (with_reducible refine (P6.out _ hS.2).mono ?_); rintro e w7 ⟨rfl, hb7⟩; have hx7 := hS.2.next hb7; have y3 := hx7.ck)
          | (have hS := ‹_ ∧ Lg _ _ _ _ _ _›; (with_reducible refine (P7.out _ hS.2).mono ?_); rintro e w7 ⟨rfl, hb7⟩; have hx7 := hS.2.next hb7; have y3 := hx7.ck)
          | (have hS := ‹_ ∧ Lg _ _ _ _ _ _›; (with_reducible refine (P8.out _ hS.2).mono ?_); rintro e w7 ⟨rfl, hb7⟩; have hx7 := hS.2.next hb7; have y3 := hx7.ck)))
    all_goals
      have HZ := Lib.hid hx7
      clear hx7 hS hb7 hT0 hx3 y3
      go_wp2
      go_meet
      exact ⟨by simp, HZ⟩
  case rest =>
    obtain ⟨rfl, HR7⟩ := hcut
    clear HR6 hT0 hx3
    have hT0 := HR7.out
    have hx3 := hT0.ck
    go_upto_region 8 with fail
    go_cut [94] (fun s94 wx => s94 = .bool false ∧ Hid (Lg B N w wx k pk))
    case first =>
      clear HR7
      go_region_held3 (fun W' => W'.cell? ⟨pk, 0, none⟩ = some (.int .i64 k) ∧ Lg B N w W' k pk)
        (first | exact lgS ‹Lg B N w _ k pk› | exact lgS (Lg.drew ‹Lg B N w _ k pk›))
        (first
          | (go_at_call 21; first
            | (have hS := ‹_ ∧ Lg _ _ _ _ _ _›; (with_reducible refine (P5.out _ hS.2).mono ?_); rintro e w7 ⟨rfl, hb7⟩; have hx7 := hS.2.next hb7; have y3 := hx7.ck)
            | (have hS := ‹_ ∧ Lg _ _ _ _ _ _›; (with_reducible refine (P14.out _ hS.2).mono ?_); rintro e w7 ⟨rfl, hb7⟩; have hx7 := hS.2.next hb7; have y3 := hx7.ck))
          | (go_at_call 31; first
            | (have hS := ‹_ ∧ Lg _ _ _ _ _ _›; (with_reducible refine (P7.out _ hS.2).mono ?_); rintro e w7 ⟨rfl, hb7⟩; have hx7 := hS.2.next hb7; have y3 := hx7.ck)
            | (have hS := ‹_ ∧ Lg _ _ _ _ _ _›; (with_reducible refine (P9.out _ hS.2).mono ?_); rintro e w7 ⟨rfl, hb7⟩; have hx7 := hS.2.next hb7; have y3 := hx7.ck)
            | (have hS := ‹_ ∧ Lg _ _ _ _ _ _›; (with_reducible refine (P10.out _ hS.2).mono ?_); rintro e w7 ⟨rfl, hb7⟩; have hx7 := hS.2.next hb7; have y3 := hx7.ck)
            | (have hS := ‹_ ∧ Lg _ _ _ _ _ _›; (with_reducible refine (P11.out _ hS.2).mono ?_); rintro e w7 ⟨rfl, hb7⟩; have hx7 := hS.2.next hb7; have y3 := hx7.ck)
            | (have hS := ‹_ ∧ Lg _ _ _ _ _ _›; (with_reducible refine (P12.out _ hS.2).mono ?_); rintro e w7 ⟨rfl, hb7⟩; have hx7 := hS.2.next hb7; have y3 := hx7.ck)
            | (have hS := ‹_ ∧ Lg _ _ _ _ _ _›; (with_reducible refine (P13.out _ hS.2).mono ?_); rintro e w7 ⟨rfl, hb7⟩; have hx7 := hS.2.next hb7; have y3 := hx7.ck)))
      all_goals
        have HZ := Lib.hid hx7
        clear hx7 hS hb7 hT0 hx3 y3
        go_wp2
        go_meet
        exact ⟨by simp, HZ⟩
    case rest =>
      obtain ⟨rfl, HR8⟩ := hcut
      clear HR7 hT0 hx3 P1 P2 P3 P4 P5 P6 P7 P8 P9 P10 P11 P12 P13 P14
      obtain ⟨o1, o2, o3, o4⟩ := OF.out
      obtain ⟨g19, q19⟩ : ∃ v, doV 19 k a b = v := ⟨_, rfl⟩
      obtain ⟨g20, q20⟩ : ∃ v, doV 20 k a b = v := ⟨_, rfl⟩
      obtain ⟨g21, q21⟩ : ∃ v, doV 21 k a b = v := ⟨_, rfl⟩
      obtain ⟨g22, q22⟩ : ∃ v, doV 22 k a b = v := ⟨_, rfl⟩
      obtain ⟨g23, q23⟩ : ∃ v, doV 23 k a b = v := ⟨_, rfl⟩
      obtain ⟨g24, q24⟩ : ∃ v, doV 24 k a b = v := ⟨_, rfl⟩
      rw [q19, q23] at o1
      rw [q24, q20] at o2
      rw [q21, q22] at o3
      rw [q19] at o4
      have r1 : ∀ op, doV op k a b = yesI true ∨ doV op k a b = yesI false ∨ True := fun _ => .inr (.inr trivial)
      clear r1
      have z1 : IntKind.i64.wrap (g19 + g23) = 1 := by rw [o1, IntKind.wrap_i64]; omega
      have z2 : IntKind.i64.wrap (g24 + g20) = 1 := by rw [o2, IntKind.wrap_i64]; omega
      have z3 : IntKind.i64.wrap (g21 + g22) = 1 := by rw [o3, IntKind.wrap_i64]; omega
      have Q1 := Lib.hid (Dd.out 19 a b g19 (by omega) ha.out hb.out q19)
      have Q2 := Lib.hid (Dd.out 23 a b g23 (by omega) ha.out hb.out q23)
      have Q3 := Lib.hid (Dd.out 24 a b g24 (by omega) ha.out hb.out q24)
      have Q4 := Lib.hid (Dd.out 20 a b g20 (by omega) ha.out hb.out q20)
      have Q5 := Lib.hid (Dd.out 21 a b g21 (by omega) ha.out hb.out q21)
      have Q6 := Lib.hid (Dd.out 22 a b g22 (by omega) ha.out hb.out q22)
      have Q7 := Lib.hid (Dd.out 24 b a g19 (by omega) hb.out ha.out o4)
      clear q19 q20 q21 q22 q23 q24 o4 OF Dd
      go_wp2_with fail
      refine (Q1.out _ HR8.out).mono ?_
      rintro e w9 ⟨rfl, hb9⟩
      have HR9 := Lib.hid (HR8.out.next hb9)
      clear hb9 HR8
      go_wp2_with fail
      refine (Q2.out _ HR9.out).mono ?_
      rintro e w10 ⟨rfl, hb10⟩
      have HR10 := Lib.hid (HR9.out.next hb10)
      clear hb10 HR9
      go_wp2_with fail
      refine (Q3.out _ HR10.out).mono ?_
      rintro e w11 ⟨rfl, hb11⟩
      have HR11 := Lib.hid (HR10.out.next hb11)
      clear hb11 HR10
      go_wp2_with fail
      refine (Q4.out _ HR11.out).mono ?_
      rintro e w12 ⟨rfl, hb12⟩
      have HR12 := Lib.hid (HR11.out.next hb12)
      clear hb12 HR11
      go_wp2_with fail
      refine (Q5.out _ HR12.out).mono ?_
      rintro e w13 ⟨rfl, hb13⟩
      have HR13 := Lib.hid (HR12.out.next hb13)
      clear hb13 HR12
      go_wp2_with fail
      refine (Q6.out _ HR13.out).mono ?_
      rintro e w14 ⟨rfl, hb14⟩
      have HR14 := Lib.hid (HR13.out.next hb14)
      clear hb14 HR13
      go_wp2_with fail
      refine (Q1.out _ HR14.out).mono ?_
      rintro e w15 ⟨rfl, hb15⟩
      have HR15 := Lib.hid (HR14.out.next hb15)
      clear hb15 HR14
      go_wp2_with fail
      refine (Q7.out _ HR15.out).mono ?_
      rintro e w16 ⟨rfl, hb16⟩
      have HR16 := Lib.hid (HR15.out.next hb16)
      clear hb16 HR15
      go_wp2
      go_ret
      exact ⟨rfl, HR16.out.cur.below⟩

end Go.Proofs.Ytkjijeogkemgoaa.Ic
