/-
  The laws of the round and of the two ways, walked. Conditions: the library's table of lowest bits is as the program lays it.
-/
import Derived.Test.YtgeelnpdahlcpaaDoorMemAwake
import Derived.Test.YtgeelnpdahlcpaaDoorMemRing
namespace Go.Proofs.YtgeelnpdahlcpaaDoor
open Go.RowKit

theorem ans_nat (n : Nat) : ans n = .tuple #[.int .i64 n, .bool true] := by
  unfold ans
  have h1 : max (n : Int) 0 = n := by omega
  have h2 : decide (0 ≤ (n : Int)) = true := by simp
  rw [h1, h2]

theorem box_mk (w : World) (cs : List Value) (t : TypeId) : Below w.heap.size w (w.alloc (.cells cs.toArray t)) ∧ ∀ k v, cs[k]? = some v → (w.alloc (.cells cs.toArray t)).cell? ⟨w.heap.size, k, none⟩ = some v :=
  ⟨(Below.refl _ _).alloc (Nat.le_refl _) _, fun k v h => box_cell w cs.toArray t k v (by simpa using h)⟩
theorem kept_cell {w w' : World} {b k : Nat} {v : Value} (hb : Below w.heap.size w w') (h : w.cell? ⟨b, k, none⟩ = some v) : w'.cell? ⟨b, k, none⟩ = some v := by
  have hlt : b < w.heap.size := by
    rcases Nat.lt_or_ge b w.heap.size with c | c
    · exact c
    · unfold World.cell? at h
      rw [Array.getElem?_eq_none c] at h
      simp at h
  rw [← h]
  exact World.cell?_of_block (hb.block b hlt)

set_option maxRecDepth 100000 in
set_option maxHeartbeats 8000000 in
theorem round_walk (s : St) (at0 : Nat) (hat : (at0 : Int) ≤ 255) (w : World) (hT : Tz w) : Calls Tryd.prog 6 #[sv s, .int .u8 at0] w fun e w' => e = .returned (.bool true) ∧ Below w.heap.size w w' := by
  have hl := Lib.hid (listB_len s)
  have hLi := Lib.hid (List_any s)
  have w1' : IntKind.i64.wrap (at0 : Int) = at0 := by rw [IntKind.wrap_i64]; omega
  have HZ := Lib.hid (metB_zero (listB s))
  have HN := Lib.hid (ring_next s)
  have HP := Lib.hid (ring_prev s)
  have HB := Lib.hid (ring_between s)
  have HM := Lib.hid (met_new s)
  have HA := Lib.hid (met_all s)
  have H32 := Lib.hid (fun i h => (list_bit s i h).2)
  generalize listB s = l at *
  go_enter Tryd.func6, Tryd.ntmps6
  go_wp2_with fail
  refine (awake_any w hT).mono ?_
  rintro e w1 ⟨rfl, hb1⟩
  have hT1 := Lib.hid (hT.below hb1)
  go_wp2_with fail
  refine (hLi.out w1).mono ?_
  rintro e w2 ⟨v, rfl, hv, hb2, -⟩
  have hT2 := Lib.hid (hT1.out.below hb2)
  have HW := Lib.hid (hb1.trans (hb2.mono hb1.size))
  obtain ⟨A, c, rfl, hc⟩ := hv
  have HC := Lib.hid hc
  have hl' : (l.length : Int) ≤ 32 := by have := hl.out; omega
  clear hc hb1 hb2 hT1
  by_cases h2 : l.length < 2
  · have d0 : decide ((l.length : Int) < 2) = true := by simp; omega
    go_wp2
    go_ret
    exact ⟨rfl, HW.out⟩
  · have d0 : decide ((l.length : Int) < 2) = false := by simp; omega
    have hpos : 0 < l.length := by omega
    have q1 : (0 : Int) ≤ at0 := by omega
    obtain ⟨i0, hi0⟩ : ∃ i0, i0 = at0 % l.length := ⟨_, rfl⟩
    have hi : i0 < l.length := by rw [hi0]; exact Nat.mod_lt _ hpos
    have q2 : (at0 : Int) % (l.length : Int) = i0 := by rw [hi0]; simp
    have q3 : ((l.length : Int) == 0) = false := by rw [beq_eq_false_iff_ne]; omega
    obtain ⟨g, rfl, _, hcell⟩ := HC.out i0 hi
    have hx := hcell i0 _ (List.getElem?_eq_getElem hi)
    have H2 := Lib.hid h2
    have HI := Lib.hid hi
    clear hcell hi0 h2
    have HE := Lib.hid (show ∀ k, k = l.length → l[(i0 + k) % l.length]? = some l[i0] by
      intro k hk
      rw [hk, Nat.add_mod_right, Nat.mod_eq_of_lt HI.out]
      exact List.getElem?_eq_getElem _)
    have H0 := Lib.hid (show l[(i0 + 0) % l.length]? = some l[i0] by
      rw [Nat.add_zero, Nat.mod_eq_of_lt HI.out]
      exact List.getElem?_eq_getElem _)
    generalize l[i0] = begin0 at *
    go_wp2
    rw [q2]
    go_loopw [7, 8, 31] (fun m a i wr => ∃ (k x : Nat), k ≤ l.length ∧ wr = w2 ∧ m = sv (metB l i0 k) ∧ a = .int .i64 (x : Int) ∧ i = .int .i64 k ∧ Hid (l[(i0 + k) % l.length]? = some x)) (fun _ _ i _ => l.length - (intOf i).toNat)
    case atStart => exact ⟨0, begin0, Nat.zero_le _, rfl, by rw [HZ.out]; rfl, rfl, rfl, H0⟩
    case round =>
      obtain ⟨k, x, hk, hwr, rfl, rfl, rfl, hax⟩ := hrel
      subst hwr
      by_cases hlt : k < l.length
      · have hp : (i0 + k) % l.length < l.length := Nat.mod_lt _ hpos
        have hn : nxt l.length ((i0 + k) % l.length) < l.length := Nat.mod_lt _ hpos
        have h2l : 2 ≤ l.length := by have := H2.out; omega
        have e0 : l[(i0 + k) % l.length] = x := by have := hax.out; rw [List.getElem?_eq_getElem hp] at this; exact Option.some.inj this
        have en : nxt l.length ((i0 + k) % l.length) = (i0 + 1 + k) % l.length := by
          unfold nxt
          rw [Nat.mod_add_mod]
          congr 1
          omega
        obtain ⟨b, hb⟩ : ∃ b, b = l[nxt l.length ((i0 + k) % l.length)] := ⟨_, rfl⟩
        have r1 := HN.out _ hp h2l hn
        have r2 := HP.out _ hp h2l hn
        have r3 := HB.out _ hp h2l hn
        have hb32 := H32.out _ hn
        rw [← hb] at r1 r2 r3 hb32
        rw [e0] at r1 r2 r3
        have hbs : l[(i0 + 1 + k) % l.length]? = some b := by rw [← en, List.getElem?_eq_getElem hn, hb]
        have r4 := HM.out i0 k b hlt hbs
        have r5 := Lib.hid (metB_step l i0 k b hbs)
        have r6 := Lib.hid (show l[(i0 + (k + 1)) % l.length]? = some b by rw [show i0 + (k + 1) = i0 + 1 + k by omega]; exact hbs)
        have n1 := Lib.hid (Next_any s x wr hT2.out)
        have n2 := Lib.hid (Prev_any s b wr)
        rw [r1, ans_nat] at n1
        rw [r2, ans_nat] at n2
        have n3 := Lib.hid (Has_any (metB l i0 k) b wr)
        rw [hasB_nat, r4] at n3
        have n4 : bits .and .u32 ((betw x b).toNat : Int) (s.toNat : Int) = 0 := by rw [and32, r3]; rfl
        have n5 := Lib.hid (With_any (metB l i0 k) b wr)
        rw [r5.out] at n5
        clear r1 r2 r3 r4 hb hbs en e0 hp hn h2l
        go_wp2_with fail
        refine n1.out.mono ?_
        rintro e w3 ⟨rfl, rfl⟩
        go_wp2_with fail
        refine n2.out.mono ?_
        rintro e w3 ⟨rfl, rfl⟩
        go_wp2_with fail
        refine n3.out.mono ?_
        rintro e w3 ⟨rfl, rfl⟩
        go_wp2_with fail
        refine (Between_any x b wr).mono ?_
        rintro e w3 ⟨rfl, rfl⟩
        go_wp2_with fail
        refine n5.out.mono ?_
        rintro e w3 ⟨rfl, rfl⟩
        go_wp2
        go_roundw
        case rel => exact ⟨k + 1, b, by omega, by trivial, rfl, rfl, by go_num, r6⟩
        case measure => simp [intOf]; omega
      · have hk' : k = l.length := by omega
        have e1 := HE.out k hk'
        have e2 := hax.out
        rw [e1] at e2
        obtain rfl : begin0 = x := Option.some.inj e2
        have e3 := HA.out i0 hpos
        rw [hk', e3]
        clear e1 e2 e3
        go_wp2
        go_ret
        exact ⟨rfl, HW.out⟩

set_option maxRecDepth 100000 in
set_option maxHeartbeats 8000000 in
theorem parts_walk (s : St) (x y : Nat) (hx : (x : Int) ≤ 255) (hy : (y : Int) ≤ 255) (w : World) (hT : Tz w) : Calls Tryd.prog 7 #[sv s, .agg #[.int .u8 x, .int .u8 y]] w fun e w' => e = .returned (.bool true) ∧ Below w.heap.size w w' := by
  have HB := box_mk w [.int .u8 x, .int .u8 y] 41
  obtain ⟨a, ha0⟩ : ∃ a, a = x % 32 := ⟨_, rfl⟩
  obtain ⟨b, hb0⟩ : ∃ b, b = y % 32 := ⟨_, rfl⟩
  have ha : a < 32 := by omega
  have hb : b < 32 := by omega
  have q1 : (x : Int) % 32 = a := by omega
  have q2 : (y : Int) % 32 = b := by omega
  have q3 : (0 : Int) ≤ x := by omega
  have q4 : (0 : Int) ≤ y := by omega
  have v1 : IntKind.i64.wrap (a : Int) = a := by rw [IntKind.wrap_i64]; omega
  have v2 : IntKind.i64.wrap (b : Int) = b := by rw [IntKind.wrap_i64]; omega
  have v3 : IntKind.u8.wrap (a : Int) = a := by rw [IntKind.wrap_u8]; omega
  have v4 : IntKind.u8.wrap (b : Int) = b := by rw [IntKind.wrap_u8]; omega
  clear ha0 hb0
  have HT := Lib.hid hT
  have hB := Lib.hid HB
  clear HB hT
  go_enter Tryd.func7, Tryd.ntmps7
  go_wp2_with fail
  refine (awake_any _ (HT.out.below hB.out.1)).mono ?_
  rintro e w1 ⟨rfl, hb1⟩
  have c0 := kept_cell hb1 (hB.out.2 0 _ rfl)
  have c1 := kept_cell hb1 (hB.out.2 1 _ rfl)
  have HW := Lib.hid (hB.out.1.trans (hb1.mono hB.out.1.size))
  have hT1 := Lib.hid (HT.out.below HW.out)
  clear hb1 hB HT
  generalize hN : w.heap.size = N at *
  go_wp2
  go_quiet (fail)
  generalize hw2 : w1.drewN nq = w2 at *
  have hT2 := Lib.hid (show Tz w2 by rw [← hw2]; exact drew_tz hT1.out nq)
  have HW2 := Lib.hid (show Below N w w2 by rw [← hw2]; exact below_drewN HW.out nq)
  clear hw2 c0 c1 hT1 HW
  have n1 := Lib.hid (Between_any a b w2)
  have n2 := Lib.hid (Between_any b a w2)
  rw [betw_nat a b ha hb] at n1
  rw [betw_nat b a hb ha] at n2
  have n3 := Lib.hid (With_any 0#32 a w2)
  have n4 := Lib.hid (With_any (withB 0#32 a) b w2)
  rw [show withB (withB 0#32 a) b = endsB a b from rfl] at n4
  have n5 := Lib.hid (Pass_any s a b w2)
  by_cases hab : a = b
  · subst hab
    have p1 := same_up a ha
    have p2 := same_pass s a ha
    rw [p2] at n5
    rw [p1] at n1 n2
    have p3 : bits .xor .u32 IntKind.u32.max ((endsB a a).toNat : Int) = ((~~~ endsB a a).toNat : Int) := by
      have e : ((4294967295 : Nat) : Int) = IntKind.u32.max := rfl
      rw [← e, u32_xor_nat _ _ (by omega) (endsB a a).isLt]
      have h : ~~~ endsB a a = 4294967295#32 ^^^ endsB a a := by
        rw [show (4294967295#32) = BitVec.allOnes 32 from rfl, BitVec.allOnes_xor]
      rw [h, BitVec.toNat_xor]
      rfl
    clear p1 p2
    generalize endsB a a = E at *
    generalize ~~~ E = E2 at *
    go_wp2_with fail
    refine n1.out.mono ?_
    rintro e w3 ⟨rfl, rfl⟩
    go_wp2_with fail
    refine n2.out.mono ?_
    rintro e w3 ⟨rfl, rfl⟩
    go_wp2_with fail
    refine n3.out.mono ?_
    rintro e w3 ⟨rfl, rfl⟩
    go_wp2_with fail
    refine n4.out.mono ?_
    rintro e w3 ⟨rfl, rfl⟩
    go_wp2_with fail
    refine n5.out.mono ?_
    rintro e w3 ⟨rfl, rfl⟩
    go_wp2
    go_ret
    exact ⟨rfl, by rw [hN]; exact HW2.out⟩
  · have d1 : ((a : Int) == (b : Int)) = false := by simp; omega
    have m1 : bits .and .u32 ((betwN a b).toNat : Int) ((betwN b a).toNat : Int) = 0 := by rw [and32, parts_and1 a b ha hb hab]; rfl
    have m2 : bits .and .u32 ((betwN a b).toNat : Int) ((endsB a b).toNat : Int) = 0 := by rw [and32, parts_and2 a b ha]; rfl
    have m3 : bits .and .u32 ((betwN b a).toNat : Int) ((endsB a b).toNat : Int) = 0 := by rw [and32, parts_and3 a b hb]; rfl
    have m4 := or32 (betwN a b) (betwN b a)
    have m5 : bits .or .u32 ((betwN a b ||| betwN b a).toNat : Int) ((endsB a b).toNat : Int) = 4294967295 := by rw [or32, parts_all a b ha hb]; rfl
    have m6 := and32 (passB s a b) (betwN b a)
    rw [parts_down s a b ha hb hab] at m6
    have m7 := and32 s (betwN b a)
    have m8 := and32 (passB s a b) (endsB a b)
    rw [parts_ends s a b ha hb] at m8
    have n6 := Lib.hid (Next_any (passB s a b) a w2 hT2.out)
    rw [parts_next s a b ha hb hab, ans_nat] at n6
    generalize passB s a b = P at *
    generalize s &&& betwN b a = SD at *
    generalize betwN a b ||| betwN b a = UD at *
    generalize betwN a b = U at *
    generalize betwN b a = D at *
    generalize endsB a b = E at *
    go_wp2_with fail
    refine n1.out.mono ?_
    rintro e w3 ⟨rfl, rfl⟩
    go_wp2_with fail
    refine n2.out.mono ?_
    rintro e w3 ⟨rfl, rfl⟩
    go_wp2_with fail
    refine n3.out.mono ?_
    rintro e w3 ⟨rfl, rfl⟩
    go_wp2_with fail
    refine n4.out.mono ?_
    rintro e w3 ⟨rfl, rfl⟩
    go_wp2_with fail
    refine n5.out.mono ?_
    rintro e w3 ⟨rfl, rfl⟩
    go_wp2_with fail
    refine n6.out.mono ?_
    rintro e w3 ⟨rfl, rfl⟩
    go_wp2
    go_ret
    exact ⟨rfl, by rw [hN]; exact HW2.out⟩

end Go.Proofs.YtgeelnpdahlcpaaDoor
