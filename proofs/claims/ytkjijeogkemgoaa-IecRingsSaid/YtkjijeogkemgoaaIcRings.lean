/-
  The law IecRings, walked: it returns true. Conditions: that the calls answer as is asked.
-/
import Derived.Test.YtkjijeogkemgoaaIcClo
import Derived.Deep.RegionHeld3
import Derived.Deep.DeepCutAuto
namespace Go.Proofs.Ytkjijeogkemgoaa.Ic
open Go.RowKit

/-- The three numbers, and the law's kind, in blocks of its own. -/
structure Tr (B : Base) (N : Nat) (w0 w : World) (x y z k : Int) (pk : Nat) : Prop where
  cur : Cur B N w0 w
  c0 : w.cell? ⟨N, 0, none⟩ = some (.int .i64 x)
  c1 : w.cell? ⟨N, 1, none⟩ = some (.int .i64 y)
  c2 : w.cell? ⟨N, 2, none⟩ = some (.int .i64 z)
  ck : w.cell? ⟨pk, 0, none⟩ = some (.int .i64 k)
theorem Tr.next {B : Base} {N pk : Nat} {w0 w w' : World} {x y z k : Int} (h : Tr B N w0 w x y z k pk) (hb : Below w.heap.size w w') : Tr B N w0 w' x y z k pk :=
  ⟨h.cur.next hb, kept1 h.c0 hb, kept1 h.c1 hb, kept1 h.c2 hb, kept1 h.ck hb⟩
theorem Tr.drew {B : Base} {N pk : Nat} {w0 w : World} {x y z k : Int} (h : Tr B N w0 w x y z k pk) : Tr B N w0 w.drew x y z k pk := h.next (Below.refl _ _).drew
theorem trS {B : Base} {N pk : Nat} {w0 w : World} {x y z k : Int} (h : Tr B N w0 w x y z k pk) :
    w.cell? ⟨N, 0, none⟩ = some (.int .i64 x) ∧ w.cell? ⟨N, 1, none⟩ = some (.int .i64 y) ∧ w.cell? ⟨N, 2, none⟩ = some (.int .i64 z) ∧ w.cell? ⟨pk, 0, none⟩ = some (.int .i64 k) ∧ Tr B N w0 w x y z k pk := ⟨h.c0, h.c1, h.c2, h.ck, h⟩
theorem new_cells (w : World) (c : Array Value) (e : TypeId) (j : Nat) (v : Value) (hv : c[j]? = some v) : (w.alloc (.cells c e)).cell? ⟨w.heap.size, j, none⟩ = some v := by
  rw [cell_of_row _ _ j _ e (0, 0) (heap_alloc_new w _)]
  exact hv

set_option maxRecDepth 100000 in
set_option maxHeartbeats 40000000 in
theorem rings_walk {B : Base} (C : Code B) (n : Nat) (x y z : Int) (w : World) (hE : B.E w.heap.size w) (hn : n < 256) (hx : I64 x) (hy : I64 y) (hz : I64 z) :
    Calls Try.prog 7 #[.int .u8 n, .agg #[.int .i64 x, .int .i64 y, .int .i64 z]] w (Tells (.bool true) w) := by
  have CC := Lib.hid C
  have HX := Lib.hid hx
  have HY := Lib.hid hy
  have HZ := Lib.hid hz
  have HC := Lib.hid (show Cur B w.heap.size w (w.alloc (.cells #[.int .i64 x, .int .i64 y, .int .i64 z] 49)) ∧ (∀ j v, #[Value.int .i64 x, .int .i64 y, .int .i64 z][j]? = some v → (w.alloc (.cells #[.int .i64 x, .int .i64 y, .int .i64 z] 49)).cell? ⟨w.heap.size, j, none⟩ = some v) from
    ⟨(Cur.first hE).alloc _, fun j v hv => new_cells w _ _ j v hv⟩)
  clear C hE hx hy hz
  obtain ⟨N, hN⟩ : ∃ N, w.heap.size = N := ⟨_, rfl⟩
  unfold Tells
  rw [hN] at HC ⊢
  obtain ⟨j, hj⟩ : ∃ j : Nat, n % 4 = j := ⟨_, rfl⟩
  have hj4 : j < 4 := by omega
  have hj1 : (n : Int) % 4 = (j : Int) := by omega
  obtain ⟨k, hk⟩ : ∃ k : Int, k = 2 + j := ⟨_, rfl⟩
  have hk2 : 2 ≤ k ∧ k ≤ 5 := by omega
  have HKI := Lib.hid (show I64 k by unfold I64; omega)
  have HTab := Lib.hid (show #[Value.int .i64 2, .int .i64 3, .int .i64 4, .int .i64 5][j]? = some (.int .i64 k) from by
    subst hk
    obtain rfl | rfl | rfl | rfl : j = 0 ∨ j = 1 ∨ j = 2 ∨ j = 3 := by omega
    all_goals rfl)
  clear hj
  replace hk := Lib.hid hk
  go_enter Try.func7, Try.ntmps7
  go_wp2_with fail
  refine (awake_any CC.out _ HC.out.1).mono ?_
  rintro e w1 ⟨rfl, hb1⟩
  have HC1 := Lib.hid (HC.out.1.next hb1)
  have HBx := Lib.hid (fun j v hv => kept1 (HC.out.2 j v hv) hb1)
  clear hb1 HC
  have hc := new_cells w1 #[.int .i64 2, .int .i64 3, .int .i64 4, .int .i64 5] 3 j _ HTab.out
  have HBl := Lib.hid ((Below.refl w1.heap.size w1).alloc (Nat.le_refl _) (.cells #[.int .i64 2, .int .i64 3, .int .i64 4, .int .i64 5] 3))
  have hj5 : (j : Int) < 4 := by omega
  obtain ⟨W, hW⟩ : ∃ W, W = (w1.alloc (.cells #[.int .i64 2, .int .i64 3, .int .i64 4, .int .i64 5] 3)).alloc (.cells #[.int .i64 k] 3) := ⟨_, rfl⟩
  have HT := Lib.hid (show Tr B N w W x y z k (w1.heap.size + 1) from by
    have hbl := HBl.out.alloc (Nat.le_of_lt (by simp)) (.cells #[.int .i64 k] 3)
    rw [← hW] at hbl
    have hck := new_cells (w1.alloc (.cells #[.int .i64 2, .int .i64 3, .int .i64 4, .int .i64 5] 3)) #[.int .i64 k] 3 0 _ rfl
    rw [← hW] at hck
    have e : (w1.alloc (.cells #[.int .i64 2, .int .i64 3, .int .i64 4, .int .i64 5] 3)).heap.size = w1.heap.size + 1 := by simp
    rw [e] at hck
    exact ⟨HC1.out.next hbl, kept1 (HBx.out 0 _ rfl) hbl, kept1 (HBx.out 1 _ rfl) hbl, kept1 (HBx.out 2 _ rfl) hbl, hck⟩)
  go_wp2_with fail
  rw [← hW]
  clear hW hc HBl HBx HC1 HTab hj1 hj4 hj5
  generalize w1.heap.size + 1 = pk at *
  have hx0 := HT.out.c0
  have hx1 := HT.out.c1
  have hx2 := HT.out.c2
  have hx3 := HT.out.ck
  have hT0 := HT.out
  have hA := Lib.hid (fun W (h : Tr B N w W x y z k pk) => CC.out.wrap N k x W h.cur.e h.cur.size HKI.out HX.out)
  have hB := Lib.hid (fun W (h : Tr B N w W x y z k pk) => CC.out.wrap N k y W h.cur.e h.cur.size HKI.out HY.out)
  have hCc := Lib.hid (fun W (h : Tr B N w W x y z k pk) => CC.out.wrap N k z W h.cur.e h.cur.size HKI.out HZ.out)
  have h0 : szI k ≠ 0 := sz_some k (by omega) (by omega)
  have ha := Lib.hid (wrap_is k x h0)
  have hb := Lib.hid (wrap_is k y h0)
  have hcc := Lib.hid (wrap_is k z h0)
  clear h0 HT
  generalize wrapI k x = a at *
  generalize wrapI k y = b at *
  generalize wrapI k z = c at *
  go_region_held3 (fun W' => W'.cell? ⟨N, 0, none⟩ = some (.int .i64 x) ∧ W'.cell? ⟨N, 1, none⟩ = some (.int .i64 y) ∧ W'.cell? ⟨N, 2, none⟩ = some (.int .i64 z) ∧ W'.cell? ⟨pk, 0, none⟩ = some (.int .i64 k) ∧ Tr B N w W' x y z k pk)
    (first | exact trS ‹Tr B N w _ x y z k pk› | exact trS (Tr.drew ‹Tr B N w _ x y z k pk›))
    (first
      | (go_at_call 17; first
        | (have hS := ‹_ ∧ _ ∧ _ ∧ _ ∧ Tr _ _ _ _ _ _ _ _ _›; (with_reducible refine (hA.out _ hS.2.2.2.2).mono ?_); rintro e w6 ⟨rfl, hb6⟩; have hx6 := hS.2.2.2.2.next hb6; have y0 := hx6.c0; have y1 := hx6.c1; have y2 := hx6.c2; have y3 := hx6.ck)
        | (have hS := ‹_ ∧ _ ∧ _ ∧ _ ∧ Tr _ _ _ _ _ _ _ _ _›; (with_reducible refine (hB.out _ hS.2.2.2.2).mono ?_); rintro e w6 ⟨rfl, hb6⟩; have hx6 := hS.2.2.2.2.next hb6; have y0 := hx6.c0; have y1 := hx6.c1; have y2 := hx6.c2; have y3 := hx6.ck)
        | (have hS := ‹_ ∧ _ ∧ _ ∧ _ ∧ Tr _ _ _ _ _ _ _ _ _›; (with_reducible refine (hCc.out _ hS.2.2.2.2).mono ?_); rintro e w6 ⟨rfl, hb6⟩; have hx6 := hS.2.2.2.2.next hb6; have y0 := hx6.c0; have y1 := hx6.c1; have y2 := hx6.c2; have y3 := hx6.ck)))
  have HR6 := Lib.hid (show Rg B N w (w6.alloc (.cells #[.bool true] 4)) k pk w6.heap.size from by
    have hbl := (Below.refl w6.heap.size w6).alloc (Nat.le_refl _) (.cells #[.bool true] 4)
    have hlt := World.block_lt_of_cell? w6 ⟨pk, 0, none⟩ hx6.ck
    exact ⟨hx6.cur.next hbl, kept1 hx6.ck hbl, new_cells w6 _ _ 0 _ rfl, by unfold World.frozen?; rw [heap_alloc_new]; simp, hx6.cur.size, by show pk ≠ w6.heap.size; exact Nat.ne_of_lt hlt⟩)
  clear hS hx6 hb6 y0 y1 y2 y3 hx0 hx1 hx2 hx3 hT0 hA hB hCc
  obtain ⟨k1, k2⟩ := hk2
  have hm := Lib.hid (fun op (h : 14 ≤ op ∧ op ≤ 18) => show mayI op k = true from by
    unfold mayI
    rw [decide_eq_true_iff]
    exact ⟨sz_some k (by omega) (by omega), by omega⟩)
  have h0 : szI k ≠ 0 := sz_some k (by omega) (by omega)
  have RF := ring_facts k a b c k1 k2 ha.out
  have is := fun v => wrap_is k v h0
  have E1 := Lib.hid (show doV 14 k a b = wrapI k (a + b) ∧ isI k (wrapI k (a + b)) = true from ⟨rfl, is _⟩)
  have E2 := Lib.hid (show doV 14 k b a = wrapI k (a + b) from RF.comm)
  have E3 := Lib.hid (show doV 14 k (wrapI k (a + b)) c = wrapI k (wrapI k (a + b) + c) ∧ isI k (wrapI k (wrapI k (a + b) + c)) = true from ⟨rfl, is _⟩)
  have E4 := Lib.hid (show doV 14 k b c = wrapI k (b + c) ∧ isI k (wrapI k (b + c)) = true from ⟨rfl, is _⟩)
  have E5 := Lib.hid (show doV 14 k a (wrapI k (b + c)) = wrapI k (wrapI k (a + b) + c) from RF.assoc)
  have E6 := Lib.hid (show doV 15 k (wrapI k (a + b)) b = a from RF.undo)
  have E7 := Lib.hid (show doV 16 k a b = wrapI k (a * b) ∧ isI k (wrapI k (a * b)) = true from ⟨rfl, is _⟩)
  have E8 := Lib.hid (show doV 16 k b a = wrapI k (a * b) from RF.mcomm)
  have E9 := Lib.hid (show doV 16 k a (wrapI k (b + c)) = wrapI k (a * wrapI k (b + c)) ∧ isI k (wrapI k (a * wrapI k (b + c))) = true from ⟨rfl, is _⟩)
  have E10 := Lib.hid (show doV 16 k a c = wrapI k (a * c) ∧ isI k (wrapI k (a * c)) = true from ⟨rfl, is _⟩)
  have E11 := Lib.hid (show doV 14 k (wrapI k (a * b)) (wrapI k (a * c)) = wrapI k (a * wrapI k (b + c)) from RF.dist)
  have E12 := Lib.hid (show doV 17 k a b = (if b = 0 then 0 else wrapI k (a.tdiv b)) ∧ doV 18 k a b = (if b = 0 then 0 else wrapI k (a.tmod b)) from ⟨rfl, rfl⟩)
  have E13 := Lib.hid (fun (hz : b ≠ 0) => div_facts k a b k1 k2 ha.out)
  have E14 := Lib.hid (fun q => show doV 16 k q b = wrapI k (q * b) ∧ isI k (wrapI k (q * b)) = true from ⟨rfl, is _⟩)
  have E15 := Lib.hid (fun q r => show doV 14 k q r = wrapI k (q + r) from rfl)
  have Z := Lib.hid (show isI k 0 = true from by
    unfold isI
    rw [decide_eq_true_iff]
    have := least_le k; have := least_many k; have := many_ge k h0
    exact ⟨h0, by omega, by omega⟩)
  have Bd := Lib.hid (fun v (h : isI k v = true) => is_bd h)
  clear RF is h0 hk
  generalize wrapI k (wrapI k (a + b) + c) = t at *
  generalize wrapI k (a + b) = sm at *
  generalize wrapI k (a * wrapI k (b + c)) = z2 at *
  generalize wrapI k (b + c) = u at *
  generalize wrapI k (a * b) = m at *
  generalize wrapI k (a * c) = m2 at *
  go_upto_region 7 with fail
  generalize w6.alloc (.cells #[.bool true] 4) = W6 at *
  generalize w6.heap.size = pf at *
  go_cut [70] (fun s70 wx => s70 = .bool false ∧ Hid (Rg B N w wx k pk pf))
  case first =>
    go_wp2_with fail
    refine (ring_clo CC.out HR6.out 14 a b sm HKI.out (by omega) (hm.out 14 (by omega)) (by decide) ha.out hb.out E1.out.1 E1.out.2).mono ?_
    rintro e w7 ⟨rfl, hr7⟩
    have HR7 := Lib.hid hr7
    clear hr7 HR6
    go_wp2_with fail
    refine (ring_clo CC.out HR7.out 14 b a sm HKI.out (by omega) (hm.out 14 (by omega)) (by decide) hb.out ha.out E2.out E1.out.2).mono ?_
    rintro e w8 ⟨rfl, hr8⟩
    have HR8 := Lib.hid hr8
    clear hr8 HR7
    go_wp2_with fail
    refine (ring_clo CC.out HR8.out 14 a b sm HKI.out (by omega) (hm.out 14 (by omega)) (by decide) ha.out hb.out E1.out.1 E1.out.2).mono ?_
    rintro e w9 ⟨rfl, hr9⟩
    have HR9 := Lib.hid hr9
    clear hr9 HR8
    go_wp2_with fail
    refine (ring_clo CC.out HR9.out 14 sm c t HKI.out (by omega) (hm.out 14 (by omega)) (by decide) E1.out.2 hcc.out E3.out.1 E3.out.2).mono ?_
    rintro e w10 ⟨rfl, hr10⟩
    have HR10 := Lib.hid hr10
    clear hr10 HR9
    go_wp2_with fail
    refine (ring_clo CC.out HR10.out 14 b c u HKI.out (by omega) (hm.out 14 (by omega)) (by decide) hb.out hcc.out E4.out.1 E4.out.2).mono ?_
    rintro e w11 ⟨rfl, hr11⟩
    have HR11 := Lib.hid hr11
    clear hr11 HR10
    go_wp2_with fail
    refine (ring_clo CC.out HR11.out 14 a u t HKI.out (by omega) (hm.out 14 (by omega)) (by decide) ha.out E4.out.2 E5.out E3.out.2).mono ?_
    rintro e w12 ⟨rfl, hr12⟩
    have HR12 := Lib.hid hr12
    clear hr12 HR11
    go_wp2_with fail
    refine (ring_clo CC.out HR12.out 14 a b sm HKI.out (by omega) (hm.out 14 (by omega)) (by decide) ha.out hb.out E1.out.1 E1.out.2).mono ?_
    rintro e w13 ⟨rfl, hr13⟩
    have HR13 := Lib.hid hr13
    clear hr13 HR12
    go_wp2_with fail
    refine (ring_clo CC.out HR13.out 15 sm b a HKI.out (by omega) (hm.out 15 (by omega)) (by decide) E1.out.2 hb.out E6.out ha.out).mono ?_
    rintro e w14 ⟨rfl, hr14⟩
    have HR14 := Lib.hid hr14
    clear hr14 HR13
    go_wp2
    go_meet
    exact ⟨by simp, HR14⟩
  case rest =>
    obtain ⟨rfl, HR20⟩ := hcut
    clear HR6
    go_upto_region 9 with fail
    go_cut [99] (fun s99 wx => s99 = .bool false ∧ Hid (Rg B N w wx k pk pf))
    case first =>
      go_wp2_with fail
      refine (ring_clo CC.out HR20.out 16 a b m HKI.out (by omega) (hm.out 16 (by omega)) (by decide) ha.out hb.out E7.out.1 E7.out.2).mono ?_
      rintro e w21 ⟨rfl, hr21⟩
      have HR21 := Lib.hid hr21
      clear hr21 HR20
      go_wp2_with fail
      refine (ring_clo CC.out HR21.out 16 b a m HKI.out (by omega) (hm.out 16 (by omega)) (by decide) hb.out ha.out E8.out E7.out.2).mono ?_
      rintro e w22 ⟨rfl, hr22⟩
      have HR22 := Lib.hid hr22
      clear hr22 HR21
      go_wp2_with fail
      refine (ring_clo CC.out HR22.out 14 b c u HKI.out (by omega) (hm.out 14 (by omega)) (by decide) hb.out hcc.out E4.out.1 E4.out.2).mono ?_
      rintro e w23 ⟨rfl, hr23⟩
      have HR23 := Lib.hid hr23
      clear hr23 HR22
      go_wp2_with fail
      refine (ring_clo CC.out HR23.out 16 a u z2 HKI.out (by omega) (hm.out 16 (by omega)) (by decide) ha.out E4.out.2 E9.out.1 E9.out.2).mono ?_
      rintro e w24 ⟨rfl, hr24⟩
      have HR24 := Lib.hid hr24
      clear hr24 HR23
      go_wp2_with fail
      refine (ring_clo CC.out HR24.out 16 a b m HKI.out (by omega) (hm.out 16 (by omega)) (by decide) ha.out hb.out E7.out.1 E7.out.2).mono ?_
      rintro e w25 ⟨rfl, hr25⟩
      have HR25 := Lib.hid hr25
      clear hr25 HR24
      go_wp2_with fail
      refine (ring_clo CC.out HR25.out 16 a c m2 HKI.out (by omega) (hm.out 16 (by omega)) (by decide) ha.out hcc.out E10.out.1 E10.out.2).mono ?_
      rintro e w26 ⟨rfl, hr26⟩
      have HR26 := Lib.hid hr26
      clear hr26 HR25
      go_wp2_with fail
      refine (ring_clo CC.out HR26.out 14 m m2 z2 HKI.out (by omega) (hm.out 14 (by omega)) (by decide) E7.out.2 E10.out.2 E11.out E9.out.2).mono ?_
      rintro e w27 ⟨rfl, hr27⟩
      have HR27 := Lib.hid hr27
      clear hr27 HR26
      go_wp2
      go_meet
      exact ⟨by simp, HR27⟩
    case rest =>
      obtain ⟨rfl, HR40⟩ := hcut
      clear HR20
      by_cases hz : b = 0
      · obtain ⟨F1, F2⟩ := E12.out
        rw [if_pos hz] at F1 F2
        replace F1 := Lib.hid F1
        replace F2 := Lib.hid F2
        have hzb : (b == 0) = true := by simp [hz]
        clear E13 E12 hz
        go_wp2_with fail
        refine (ring_clo CC.out HR40.out 17 a b 0 HKI.out (by omega) (hm.out 17 (by omega)) (by decide) ha.out hb.out F1.out Z.out).mono ?_
        rintro e w41 ⟨rfl, hr41⟩
        have HR41 := Lib.hid hr41
        clear hr41 HR40
        go_wp2_with fail
        refine (ring_clo CC.out HR41.out 18 a b 0 HKI.out (by omega) (hm.out 18 (by omega)) (by decide) ha.out hb.out F2.out Z.out).mono ?_
        rintro e w42 ⟨rfl, hr42⟩
        have HR42 := Lib.hid hr42
        clear hr42 HR41
        have cf := HR42.out.cf
        go_wp2
        go_ret
        exact ⟨rfl, HR42.out.cur.below⟩
      · obtain ⟨F1, F2⟩ := E12.out
        rw [if_neg hz] at F1 F2
        obtain ⟨iq, ir, ism, ibk, isg⟩ := E13.out hz
        have hzb : (b == 0) = false := by simp [hz]
        clear E13 E12
        generalize wrapI k (a.tdiv b) = q at *
        generalize wrapI k (a.tmod b) = r at *
        replace F1 := Lib.hid F1
        replace F2 := Lib.hid F2
        obtain ⟨G1, G2⟩ := E14.out q
        have G3 := E15.out (wrapI k (q * b)) r
        rw [ibk] at G3
        generalize wrapI k (q * b) = qb at *
        replace G1 := Lib.hid G1
        replace G2 := Lib.hid G2
        replace G3 := Lib.hid G3
        replace iq := Lib.hid iq
        have rb := Bd.out r ir
        have bb := Bd.out b hb.out
        replace ir := Lib.hid ir
        clear ibk E14 E15
        go_wp2_with fail
        refine (ring_clo CC.out HR40.out 17 a b q HKI.out (by omega) (hm.out 17 (by omega)) (by decide) ha.out hb.out F1.out iq.out).mono ?_
        rintro e w41 ⟨rfl, hr41⟩
        have HR41 := Lib.hid hr41
        clear hr41 HR40
        go_wp2_with fail
        refine (ring_clo CC.out HR41.out 18 a b r HKI.out (by omega) (hm.out 18 (by omega)) (by decide) ha.out hb.out F2.out ir.out).mono ?_
        rintro e w42 ⟨rfl, hr42⟩
        have HR42 := Lib.hid hr42
        clear hr42 HR41
        rcases (by omega : r < 0 ∨ r = 0 ∨ 0 < r) with hrp | hrp | hrp
        · have sg : decide (r < 0) = decide (a < 0) := isg.resolve_left (by omega)
          have an : a < 0 := by rw [decide_eq_true hrp] at sg; exact of_decide_eq_true sg.symm
          have ng : IntKind.i64.wrap (-r) = -r := by rw [IntKind.wrap_i64]; omega
          have nz : (-r == 0) = false := by simp; omega
          clear isg
          go_upto_region 16 with fail
          go_cut [13] (fun s13 wx => s13 = .bool true ∧ Hid (Rg B N w wx k pk pf))
          case first =>
            rcases (by omega : 0 < b ∨ b < 0) with hbp | hbp
            · have h1 : -r < b := by have := ism.1 hbp; omega
              clear ism
              go_wp2
              go_meet
              exact ⟨by simp, HR42⟩
            · have h1 : -r < -b := by have := ism.2 hbp; omega
              have h2 : ¬ 0 < b := by omega
              have nb : IntKind.i64.wrap (-b) = -b := by rw [IntKind.wrap_i64]; omega
              clear ism
              go_wp2
              go_meet
              exact ⟨by simp, HR42⟩
          case rest =>
            obtain ⟨rfl, HR61⟩ := hcut
            have cf := HR61.out.cf
            clear ism HR42
            go_wp2_with fail
            refine (ring_clo CC.out HR61.out 16 q b qb HKI.out (by omega) (hm.out 16 (by omega)) (by decide) iq.out hb.out G1.out G2.out).mono ?_
            rintro e w62 ⟨rfl, hr62⟩
            have HR62 := Lib.hid hr62
            clear hr62 HR61
            go_wp2_with fail
            refine (ring_clo CC.out HR62.out 18 a b r HKI.out (by omega) (hm.out 18 (by omega)) (by decide) ha.out hb.out F2.out ir.out).mono ?_
            rintro e w63 ⟨rfl, hr63⟩
            have HR63 := Lib.hid hr63
            clear hr63 HR62
            go_wp2_with fail
            refine (ring_clo CC.out HR63.out 14 qb r a HKI.out (by omega) (hm.out 14 (by omega)) (by decide) G2.out ir.out G3.out ha.out).mono ?_
            rintro e w64 ⟨rfl, hr64⟩
            have HR64 := Lib.hid hr64
            clear hr64 HR63
            go_wp2_with fail
            refine (ring_clo CC.out HR64.out 18 a b r HKI.out (by omega) (hm.out 18 (by omega)) (by decide) ha.out hb.out F2.out ir.out).mono ?_
            rintro e w65 ⟨rfl, hr65⟩
            have HR65 := Lib.hid hr65
            clear hr65 HR64
            go_wp2
            go_ret
            exact ⟨rfl, HR65.out.cur.below⟩
        · subst hrp
          have ng : 0 = 0 := rfl
          clear isg
          go_upto_region 16 with fail
          go_cut [13] (fun s13 wx => s13 = .bool true ∧ Hid (Rg B N w wx k pk pf))
          case first =>
            rcases (by omega : 0 < b ∨ b < 0) with hbp | hbp
            · have h1 : 0 < b := by have := ism.1 hbp; omega
              clear ism
              go_wp2
              go_meet
              exact ⟨by simp, HR42⟩
            · have h1 : 0 < -b := by have := ism.2 hbp; omega
              have h2 : ¬ 0 < b := by omega
              have nb : IntKind.i64.wrap (-b) = -b := by rw [IntKind.wrap_i64]; omega
              clear ism
              go_wp2
              go_meet
              exact ⟨by simp, HR42⟩
          case rest =>
            obtain ⟨rfl, HR61⟩ := hcut
            have cf := HR61.out.cf
            clear ism HR42
            go_wp2_with fail
            refine (ring_clo CC.out HR61.out 16 q b qb HKI.out (by omega) (hm.out 16 (by omega)) (by decide) iq.out hb.out G1.out G2.out).mono ?_
            rintro e w62 ⟨rfl, hr62⟩
            have HR62 := Lib.hid hr62
            clear hr62 HR61
            go_wp2_with fail
            refine (ring_clo CC.out HR62.out 18 a b 0 HKI.out (by omega) (hm.out 18 (by omega)) (by decide) ha.out hb.out F2.out ir.out).mono ?_
            rintro e w63 ⟨rfl, hr63⟩
            have HR63 := Lib.hid hr63
            clear hr63 HR62
            go_wp2_with fail
            refine (ring_clo CC.out HR63.out 14 qb 0 a HKI.out (by omega) (hm.out 14 (by omega)) (by decide) G2.out ir.out G3.out ha.out).mono ?_
            rintro e w64 ⟨rfl, hr64⟩
            have HR64 := Lib.hid hr64
            clear hr64 HR63
            go_wp2
            go_ret
            exact ⟨rfl, HR64.out.cur.below⟩
        · have sg : decide (r < 0) = decide (a < 0) := isg.resolve_left (by omega)
          have an : ¬ a < 0 := by rw [decide_eq_false (by omega)] at sg; exact of_decide_eq_false sg.symm
          have nz : (r == 0) = false := by simp; omega
          have rn : ¬ r < 0 := by omega
          clear isg
          go_upto_region 16 with fail
          go_cut [13] (fun s13 wx => s13 = .bool true ∧ Hid (Rg B N w wx k pk pf))
          case first =>
            rcases (by omega : 0 < b ∨ b < 0) with hbp | hbp
            · have h1 : r < b := by have := ism.1 hbp; omega
              clear ism
              go_wp2
              go_meet
              exact ⟨by simp, HR42⟩
            · have h1 : r < -b := by have := ism.2 hbp; omega
              have h2 : ¬ 0 < b := by omega
              have nb : IntKind.i64.wrap (-b) = -b := by rw [IntKind.wrap_i64]; omega
              clear ism
              go_wp2
              go_meet
              exact ⟨by simp, HR42⟩
          case rest =>
            obtain ⟨rfl, HR61⟩ := hcut
            have cf := HR61.out.cf
            clear ism HR42
            go_wp2_with fail
            refine (ring_clo CC.out HR61.out 16 q b qb HKI.out (by omega) (hm.out 16 (by omega)) (by decide) iq.out hb.out G1.out G2.out).mono ?_
            rintro e w62 ⟨rfl, hr62⟩
            have HR62 := Lib.hid hr62
            clear hr62 HR61
            go_wp2_with fail
            refine (ring_clo CC.out HR62.out 18 a b r HKI.out (by omega) (hm.out 18 (by omega)) (by decide) ha.out hb.out F2.out ir.out).mono ?_
            rintro e w63 ⟨rfl, hr63⟩
            have HR63 := Lib.hid hr63
            clear hr63 HR62
            go_wp2_with fail
            refine (ring_clo CC.out HR63.out 14 qb r a HKI.out (by omega) (hm.out 14 (by omega)) (by decide) G2.out ir.out G3.out ha.out).mono ?_
            rintro e w64 ⟨rfl, hr64⟩
            have HR64 := Lib.hid hr64
            clear hr64 HR63
            go_wp2_with fail
            refine (ring_clo CC.out HR64.out 18 a b r HKI.out (by omega) (hm.out 18 (by omega)) (by decide) ha.out hb.out F2.out ir.out).mono ?_
            rintro e w65 ⟨rfl, hr65⟩
            have HR65 := Lib.hid hr65
            clear hr65 HR64
            go_wp2
            go_ret
            exact ⟨rfl, HR65.out.cur.below⟩

end Go.Proofs.Ytkjijeogkemgoaa.Ic
