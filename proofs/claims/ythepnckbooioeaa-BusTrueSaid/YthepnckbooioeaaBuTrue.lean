/-
  The law BusTrue, walked: it returns true, where the calls answer as is asked. Conditions: that, and on sizes.
-/
import Derived.Test.YthepnckbooioeaaBuKept
import Derived.Test.YthepnckbooioeaaBuFrom
import Derived.Maps.Own
namespace Go.Proofs.Ythepnckbooioeaa.Bus
open Go.RowKit Go.Maps

/-- Block cb holds 32 numbers. -/
def CameAt (w : World) (cb : Nat) (C : List Nat) : Prop := C.length = 32 ∧ ∀ j, j < 32 → w.cell? ⟨cb, j, none⟩ = some (.int .i64 ((C.getD j 0 : Nat) : Int)) ∧ w.frozen? ⟨cb, j, none⟩ = false
theorem CameAt.lt {w : World} {cb : Nat} {C : List Nat} (h : CameAt w cb C) : cb < w.heap.size := World.block_lt_of_cell? w ⟨cb, 0, none⟩ (h.2 0 (by omega)).1
theorem CameAt.of {w w' : World} {cb : Nat} {C : List Nat} (h : CameAt w cb C) (hb : w'.heap[cb]? = w.heap[cb]?) : CameAt w' cb C :=
  ⟨h.1, fun j hj => ⟨(World.cell?_of_block (a := ⟨cb, j, none⟩) hb).trans (h.2 j hj).1, (World.frozen?_of_block (a := ⟨cb, j, none⟩) hb).trans (h.2 j hj).2⟩⟩
theorem CameAt.bump {w : World} {cb : Nat} {C : List Nat} (h : CameAt w cb C) (a : Nat) (ha : a < 32) : CameAt (w.setCell ⟨cb, a, none⟩ (.int .i64 ((C.getD a 0 : Nat) + 1 : Int))) cb (Bus.bump C a) := by
  refine ⟨by rw [bump_len]; exact h.1, fun j hj => ⟨?_, (World.frozen?_setCell _ _ _ _).trans (h.2 j hj).2⟩⟩
  rw [bump_at C a j (by rw [h.1]; exact ha)]
  by_cases e : a = j
  · subst e
    rw [if_pos rfl, World.cell?_setCell_same _ _ _ (h.2 a ha).1]
    rfl
  · rw [if_neg e, World.cell?_setCell_other _ _ _ _ (off_ne cb e)]
    exact (h.2 j hj).1
theorem map_of {w w' : World} {mb n : Nat} {D : DataW Unit} (h : w.ownsMap Try.prog 9 (plainElem Try.prog 4) mb n D) (hb : w'.heap[mb]? = w.heap[mb]?) : w'.ownsMap Try.prog 9 (plainElem Try.prog 4) mb n D := by
  obtain ⟨es, clock, h1, h2, h3, h4⟩ := h
  exact ⟨es, clock, hb.trans h1, h2, h3, h4⟩

/-- The bus, the map of what was sent, and how often each address was come to, apart. -/
structure TS (F : Face) (N : Nat) (w0 w : World) (p : Nat) (ms : List Nat) (x : Bs) (mb cb n : Nat) (D : DataW Unit) (C : List Nat) : Prop where
  run : Run F N w0 w p ms x
  own : w.ownsMap Try.prog 9 (plainElem Try.prog 4) mb n D
  row : CameAt w cb C
  nm : mb ∉ ms
  nc : cb ∉ ms
  ne : mb ≠ cb
  lm : N ≤ mb
  lc : N ≤ cb
section
variable {F : Face} {N p mb cb n : Nat} {ms ns : List Nat} {w0 w w' : World} {x y : Bs} {D E : DataW Unit} {C : List Nat}
theorem TS.next (h : TS F N w0 w p ms x mb cb n D C) (hx : F.At w' p ns y) (ho : OnlyL ms w w') (hn : ∀ j ∈ ns, j ∈ ms ∨ w.heap.size ≤ j) : TS F N w0 w' p ns y mb cb n D C :=
  ⟨h.run.next hx ho hn, map_of h.own (ho.block mb h.own.lt h.nm), h.row.of (ho.block cb h.row.lt h.nc), notin_next h.nm h.own.lt hn, notin_next h.nc h.row.lt hn, h.ne, h.lm, h.lc⟩
theorem TS.more (h : TS F N w0 w p ms x mb cb n D C) (hb : Below w.heap.size w w') : TS F N w0 w' p ms x mb cb n D C :=
  ⟨h.run.more hb, map_of h.own (hb.block mb h.own.lt), h.row.of (hb.block cb h.row.lt), h.nm, h.nc, h.ne, h.lm, h.lc⟩
theorem TS.put (h : TS F N w0 w p ms x mb cb n D C) {n' : Nat} (ho : w'.ownsMap Try.prog 9 (plainElem Try.prog 4) mb n' E) (hg : w.grownBy w' (some mb)) : TS F N w0 w' p ms x mb cb n' E C := by
  have hblk : ∀ k, k < w.heap.size → k ≠ mb → w'.heap[k]? = w.heap[k]? := fun k hk hne => hg.block k hk (fun e => hne (by injection e))
  refine ⟨⟨F.of h.run.at_ (fun k hk => hblk k (F.lt h.run.at_ k hk) (fun e => h.nm (by rw [← e]; exact hk))), h.run.below.grown hg h.run.size (fun j hj => by cases hj; exact h.lm), h.run.hm, Nat.le_trans h.run.size hg.size⟩, ho, h.row.of (hblk cb h.row.lt (fun e => h.ne e.symm)), h.nm, h.nc, h.ne, h.lm, h.lc⟩
theorem TS.bump (h : TS F N w0 w p ms x mb cb n D C) (a : Nat) (ha : a < 32) : TS F N w0 (w.setCell ⟨cb, a, none⟩ (.int .i64 ((C.getD a 0 : Nat) + 1 : Int))) p ms x mb cb n D (Bus.bump C a) := by
  have ho : OnlyL [cb] w (w.setCell ⟨cb, a, none⟩ (.int .i64 ((C.getD a 0 : Nat) + 1 : Int))) := OnlyL.set (by simp) _ _
  have hblk : ∀ k, k < w.heap.size → k ≠ cb → _ := fun k hk hne => ho.block k hk (by simpa using hne)
  exact ⟨⟨F.of h.run.at_ (fun k hk => hblk k (F.lt h.run.at_ k hk) (fun e => h.nc (by rw [← e]; exact hk))), h.run.below.trans (ho.below (fun j hj => by simp at hj; subst hj; exact h.lc) h.run.size), h.run.hm, Nat.le_trans h.run.size ho.size⟩,
    map_of h.own (hblk mb h.own.lt h.ne), h.row.bump a ha, h.nm, h.nc, h.ne, h.lm, h.lc⟩
end

theorem TS.fresh {F : Face} {N p : Nat} {ms : List Nat} {w0 w : World} {x : Bs} (h : Run F N w0 w p ms x) (t : TypeId) :
    TS F N w0 ((w.alloc (.map #[] 0)).alloc (.cells (List.replicate 32 (Value.int .i64 0)).toArray t)) p ms x w.heap.size (w.heap.size + 1) 0 (.map []) (List.replicate 32 0) := by
  have hs : (w.alloc (.map #[] 0)).heap.size = w.heap.size + 1 := by simp
  refine ⟨(h.more (alloc_below _ _)).more (alloc_below _ _), (World.ownsMap_made w _ _ _).alloc _, ⟨by simp, fun j hj => ⟨?_, ?_⟩⟩, notin_new h.at_ (Nat.le_refl _), notin_new h.at_ (by omega), by omega, h.size, by have := h.size; omega⟩
  · rw [← hs, cell_of_row _ _ j _ t (0, 0) (heap_alloc_new _ _), zeros_at]
    show (List.replicate 32 (Value.int .i64 0)).toArray[j]? = some (.int .i64 0)
    rw [List.getElem?_toArray, List.getElem?_replicate, if_pos hj]
  · rw [← hs]; simp [go_sem]
theorem key_mk (s : ByteArray) (h : s.size ≤ maxLen) : keyOf Try.prog 9 (.string s) = some (.string s.data.toList) := by
  simp [keyOf, Try.underlying9, mapKey]
  exact h
/-- The map has what was sent. -/
def HasAll (D : DataW Unit) (K : List ByteArray) : Prop := IsMap D ∧ ∀ t ∈ K, has D (.string t.data.toList) = true
theorem HasAll.put {D : DataW Unit} {K : List ByteArray} (h : HasAll D K) (s : ByteArray) : HasAll (D.put (.string s.data.toList) (.lit (.bool true))) (K ++ [s]) := by
  refine ⟨h.1.put _ _, fun t ht => ?_⟩
  by_cases e : (Lit.string t.data.toList) = .string s.data.toList
  · rw [e]; exact has_put_same h.1 (show WideAt.IsKeyLit (.string s.data.toList) from trivial) _
  · rw [has_put_other e]
    simp only [List.mem_append, List.mem_singleton] at ht
    rcases ht with ht | rfl
    · exact h.2 t ht
    · exact absurd rfl e

set_option maxRecDepth 100000 in
set_option maxHeartbeats 8000000 in
theorem true_walk {F : Face} (C : Code F) (cap : Nat) (ao : Option Addr) (xs : List Ac) (w : World) (hI : Lies w w.heap.size ao xs) (hF : Fit xs) (hl : xs.length ≤ maxLen) :
    Calls Try.prog 4 #[.slice ao xs.length cap] w (Tells (.bool true) w) := by
  have CC := Lib.hid C
  have HI := Lib.hid hI
  have HF := Lib.hid hF
  have HLm := Lib.hid hl
  unfold maxLen at hl
  clear hI hF C
  have HSm := Lib.hid (fun W (hb : Below w.heap.size w W) => small_any cap ao xs 60 W (by omega) (show Lies W W.heap.size ao xs from fun h1 => by
    obtain ⟨b, o, ha, hlt, hi⟩ := HI.out h1
    exact ⟨b, o, ha, Nat.lt_of_lt_of_le hlt hb.size, hi.below hb hlt⟩) HF.out HLm.out)
  have hmm := @run_makeMap Try.prog
  by_cases hgd : smallB xs 60 = true
  · rw [hgd] at HSm
    have h60 : xs.length ≤ 60 := by
      unfold smallB at hgd
      rw [Bool.and_eq_true] at hgd
      exact of_decide_eq_true hgd.1
    go_enter Try.func4, Try.ntmps4
    go_wp2_with fail
    refine (awake_true CC.out _).mono ?_
    rintro e w1 ⟨rfl, hb1⟩
    go_wp2_with fail
    refine (HSm.out _ hb1).mono ?_
    rintro e w2 ⟨rfl, hb2⟩
    have hb12 := hb1.trans (hb2.mono hb1.size)
    clear hb1 hb2 HSm
    go_wp2_with fail
    refine (CC.out.new _).mono ?_
    rintro e w3 ⟨p, ms, rfl, hx, hm, hb3⟩
    have hr := Run.first hx hm hb3 hb12 hb12.size
    clear hx hm hb3 hb12 hgd
    have HS0 := Lib.hid (show TS F w.heap.size w ((w3.alloc (Obj.map #[] 0)).alloc (Obj.cells #[Value.int IntKind.i64 0, Value.int IntKind.i64 0, Value.int IntKind.i64 0, Value.int IntKind.i64 0, Value.int IntKind.i64 0, Value.int IntKind.i64 0, Value.int IntKind.i64 0, Value.int IntKind.i64 0, Value.int IntKind.i64 0, Value.int IntKind.i64 0, Value.int IntKind.i64 0, Value.int IntKind.i64 0, Value.int IntKind.i64 0, Value.int IntKind.i64 0, Value.int IntKind.i64 0, Value.int IntKind.i64 0, Value.int IntKind.i64 0, Value.int IntKind.i64 0, Value.int IntKind.i64 0, Value.int IntKind.i64 0, Value.int IntKind.i64 0, Value.int IntKind.i64 0, Value.int IntKind.i64 0, Value.int IntKind.i64 0, Value.int IntKind.i64 0, Value.int IntKind.i64 0, Value.int IntKind.i64 0, Value.int IntKind.i64 0, Value.int IntKind.i64 0, Value.int IntKind.i64 0, Value.int IntKind.i64 0, Value.int IntKind.i64 0] 48)) p ms Bs.zero w3.heap.size (w3.heap.size + 1) 0 (.map []) (List.replicate 32 0) from TS.fresh hr _)
    have HA0 := Lib.hid (show HasAll (.map []) [] from ⟨isMap_empty, fun t ht => absurd ht List.not_mem_nil⟩)
    clear hr
    go_wp2_with fail
    generalize (w3.alloc (Obj.map #[] 0)).alloc (Obj.cells #[Value.int IntKind.i64 0, Value.int IntKind.i64 0, Value.int IntKind.i64 0, Value.int IntKind.i64 0, Value.int IntKind.i64 0, Value.int IntKind.i64 0, Value.int IntKind.i64 0, Value.int IntKind.i64 0, Value.int IntKind.i64 0, Value.int IntKind.i64 0, Value.int IntKind.i64 0, Value.int IntKind.i64 0, Value.int IntKind.i64 0, Value.int IntKind.i64 0, Value.int IntKind.i64 0, Value.int IntKind.i64 0, Value.int IntKind.i64 0, Value.int IntKind.i64 0, Value.int IntKind.i64 0, Value.int IntKind.i64 0, Value.int IntKind.i64 0, Value.int IntKind.i64 0, Value.int IntKind.i64 0, Value.int IntKind.i64 0, Value.int IntKind.i64 0, Value.int IntKind.i64 0, Value.int IntKind.i64 0, Value.int IntKind.i64 0, Value.int IntKind.i64 0, Value.int IntKind.i64 0, Value.int IntKind.i64 0, Value.int IntKind.i64 0] 48) = W3 at *
    generalize w3.heap.size + 1 = cb at *
    generalize w3.heap.size = mb at *
    generalize hNN : w.heap.size = N at *
    have HNN := Lib.hid hNN
    clear hNN hmm
    go_loopw [6, 20] (fun mo i wr => ∃ (k m n : Nat) (ms' : List Nat) (x : Bs) (D : DataW Unit) (C : List Nat) (K : List ByteArray), k ≤ xs.length ∧ m ≤ k ∧ n ≤ k ∧ mo = .int .i64 m ∧ i = .int .i64 k ∧ Hid (TS F N w wr p ms' x mb cb n D C) ∧ Hid (Inv K x C m ∧ HasAll D K)) (fun _ i _ => xs.length - (intOf i).toNat)
    case atStart => exact ⟨0, 0, 0, ms, Bs.zero, _, _, [], Nat.zero_le _, Nat.le_refl _, Nat.le_refl _, rfl, rfl, HS0, Lib.hid ⟨Inv.zero, HA0.out⟩⟩
    case round =>
      obtain ⟨k, m, n, ms1, x, D, C, K, hk, hmk, hnk, rfl, rfl, hS, hV⟩ := hrel
      clear HS0 HA0
      by_cases hlt : k < xs.length
      · have HX := Lib.hid (List.getElem?_eq_getElem hlt)
        obtain ⟨bb, of, rfl, hbb, hi⟩ := HI.out.below hS.out.run.below (by omega)
        obtain ⟨c0, c1, c2, c3, c4⟩ := hi k _ HX.out
        have HFk := Lib.hid (HF.out k _ HX.out)
        clear hi
        generalize xs[k] = y at *
        have HA := Lib.hid (ActAt.new wr y 33)
        have hP := hS.out.more (alloc_below wr (.cells #[.int .u8 y.a, .int .i64 y.k, .int .i64 y.at_, .int .u16 (y.pat.toNat : Int), .string y.s] 33))
        have n1 := notin_new hS.out.run.at_ (Nat.le_refl wr.heap.size)
        have lb := hS.out.own.lt
        have lc := hS.out.row.lt
        have a0 := HA.out.c0
        have a1 := HA.out.c1
        have a2 := HA.out.c2
        have a3 := HA.out.c3
        have a4 := HA.out.c4
        have HDo := Lib.hid (do_any CC.out p ms1 x y _ hP.run.at_ HFk.out)
        have HPh := Lib.hid hP
        have HOk := Lib.hid (F.ok hS.out.run.at_)
        clear hS hP
        by_cases hs40 : y.s.size ≤ 40
        · have hs2 : ¬ (40 : Int) < y.s.size := by omega
          go_wp2_with fail
          generalize wr.alloc (Obj.cells #[Value.int .u8 y.a, Value.int .i64 y.k, Value.int .i64 y.at_, Value.int .u16 (y.pat.toNat : Int), Value.string y.s] 33) = W at *
          generalize wr.heap.size = t at *
          have ntm : t ≠ mb := by omega
          have ntc : t ≠ cb := by omega
          clear lb lc
          refine (HDo.out).mono ?_
          rintro e w4 ⟨rfl, ms4, hx4, ho4, hn4⟩
          have hA4 := HA.out.only ho4 n1
          have HP4 := Lib.hid (HPh.out.next hx4 ho4 hn4)
          have HF0 := Lib.hid (fun h : doE x y ≠ 0 => hV.out.1.fail h)
          have HF1 := Lib.hid (fun (h0 : y.a % 7 = 0) (h : doE x y = 0) => hV.out.1.send h0 h)
          have HF4 := Lib.hid (fun (h0 : y.a % 7 = 4) (h : doE x y = 0) => hV.out.1.twice h0 h)
          have HFc := Lib.hid (fun (h0 : y.a % 7 = 1) (h : doE x y = 0) => hV.out.1.came HP4.out.row.1 h0 h)
          have HFo := Lib.hid (fun h0 h1 h4 => hV.out.1.other (y := y) h0 h1 h4)
          have HSS := Lib.hid (doS_small HOk.out y)
          have HHa := Lib.hid hV.out.2
          clear a0 a1 a2 a3 a4 c0 c1 c2 c3 c4 HA HPh HDo hx4 ho4 hn4 n1 hV HOk
          obtain ⟨a0, a1, a2, a3, a4⟩ := hA4
          generalize doX x y = x' at *
          generalize doE x y = er at *
          generalize doS x y = sr at *
          by_cases her : er = 0
          · have q := fun j : Nat => (show (((y.a : Int) % 7) == (j : Int)) = decide (y.a % 7 = j) by rw [Bool.eq_iff_iff, beq_iff_eq, decide_eq_true_eq]; omega)
            by_cases h0 : y.a % 7 = 0
            · have HI2 := Lib.hid (HF1.out h0 her)
              have t0 : ((y.a : Int) % 7 == 0) = true := by rw [beq_iff_eq]; omega
              have HH2 := Lib.hid (HHa.out.put y.s)
              subst her
              clear HF0 HF1 HF4 HFc HFo q HHa h0
              go_wp2_with (at_mapUpdate; refine wpList_mapUpdate_own _ rfl _ _ _ 47 rfl 9 4 law_str Try.underlying47 _ mb n D rfl HP4.out.own (by unfold maxLen; omega) _ _ _ rfl rfl (key_mk y.s (by unfold maxLen; omega)) _ [] (plainElem_bool Try.underlying4 true) ?_)
              intro w5 hown5 hgrow5
              have HP5 := Lib.hid (HP4.out.put hown5 hgrow5)
              clear hown5 hgrow5 HP4 a0 a1 a2 a3 a4
              go_wp2
              go_roundw
              case rel => exact ⟨k + 1, m + 1, n + 1, _, _, _, _, _, by omega, by omega, by omega, by go_num, by go_num, HP5, Lib.hid ⟨HI2.out, HH2.out⟩⟩
              case measure => simp [intOf]; omega
            · have t0 : ((y.a : Int) % 7 == 0) = false := by rw [beq_eq_false_iff_ne]; omega
              by_cases h4 : y.a % 7 = 4
              · have HI2 := Lib.hid (HF4.out h4 her)
                have t4 : ((y.a : Int) % 7 == 4) = true := by rw [beq_iff_eq]; omega
                subst her
                clear HF0 HF1 HF4 HFc HFo q h0 h4
                go_wp2
                go_roundw
                case rel => exact ⟨k + 1, m + 1, n, _, _, _, _, _, by omega, by omega, by omega, by go_num, by go_num, HP4, Lib.hid ⟨HI2.out, HHa.out⟩⟩
                case measure => simp [intOf]; omega
              · have t4 : ((y.a : Int) % 7 == 4) = false := by rw [beq_eq_false_iff_ne]; omega
                by_cases h1 : y.a % 7 = 1
                · obtain ⟨a, ha, ha32, hI2, hm2, tt, htK, htf⟩ := HFc.out h1 her
                  have t1 : ((y.a : Int) % 7 == 1) = true := by rw [beq_iff_eq]; omega
                  have HI2 := Lib.hid hI2
                  rw [ha] at a2
                  obtain ⟨r0, r1⟩ := HP4.out.row.2 a ha32
                  have HP5 := Lib.hid (HP4.out.bump a ha32)
                  have HFr := Lib.hid (from_any (H := Unit) mb n D sr tt _ HSS.out HP5.out.own (HHa.out.2 tt htK) htf)
                  have hai : (a : Int) < 32 := by omega
                  have ntc2 : cb ≠ t := fun e => ntc e.symm
                  subst her
                  clear HF0 HF1 HF4 HFc HFo q h0 h4 h1 ha hI2 htK htf HP4 a1 a3 a4
                  generalize C.getD a 0 = ca at *
                  go_wp2_with fail
                  refine (HFr.out).mono ?_
                  rintro e w6 ⟨rfl, hb6⟩
                  have HP6 := Lib.hid (HP5.out.more hb6)
                  clear hb6 HP5 HFr r0 r1 a0 a2
                  go_wp2
                  go_roundw
                  case rel => exact ⟨k + 1, m, n, _, _, _, _, _, by omega, by omega, by omega, rfl, by go_num, HP6, Lib.hid ⟨HI2.out, HHa.out⟩⟩
                  case measure => simp [intOf]; omega
                · have t1 : ((y.a : Int) % 7 == 1) = false := by rw [beq_eq_false_iff_ne]; omega
                  have HI2 := Lib.hid (HFo.out h0 h1 h4)
                  subst her
                  clear HF0 HF1 HF4 HFc HFo q h0 h4 h1
                  go_wp2
                  go_roundw
                  case rel => exact ⟨k + 1, m, n, _, _, _, _, _, by omega, by omega, by omega, rfl, by go_num, HP4, Lib.hid ⟨HI2.out, HHa.out⟩⟩
                  case measure => simp [intOf]; omega
          · have HI2 := Lib.hid (HF0.out her)
            clear HF0 HF1 HF4 HFc HFo
            go_wp2
            go_roundw
            case rel => exact ⟨k + 1, m, n, _, _, _, _, _, by omega, by omega, by omega, rfl, by go_num, HP4, Lib.hid ⟨HI2.out, HHa.out⟩⟩
            case measure => simp [intOf]; omega
        · have hs2 : (40 : Int) < y.s.size := by omega
          clear HDo
          have HB := Lib.hid HPh.out.run.below
          clear HPh
          go_wp2
          go_ret
          exact ⟨rfl, by rw [HNN.out]; exact HB.out⟩
      · obtain rfl : k = xs.length := by omega
        go_wp2
        go_ret
        exact ⟨rfl, by rw [HNN.out]; exact hS.out.run.below⟩
  · replace hgd : smallB xs 60 = false := by simpa using hgd
    rw [hgd] at HSm
    go_enter Try.func4, Try.ntmps4
    go_wp2_with fail
    refine (awake_true CC.out _).mono ?_
    rintro e w1 ⟨rfl, hb1⟩
    go_wp2_with fail
    refine (HSm.out _ hb1).mono ?_
    rintro e w2 ⟨rfl, hb2⟩
    have hb12 := hb1.trans (hb2.mono hb1.size)
    go_wp2
    go_ret
    exact ⟨by simp, hb12⟩

end Go.Proofs.Ythepnckbooioeaa.Bus
