/-
  The law VmTimes, walked: it returns true. Conditions: none.
-/
import Derived.Test.YtbjmdehfdnpljaaVmTm
import Derived.Test.YtbjmdehfdnpljaaVwCap
namespace Go.Proofs.Ytbjmdehfdnpljaa.Vm
open Go.RowKit
open Go.Proofs.Ytbjmdehfdnpljaa.Il hiding Next S S_size S_app S_inj S_list
open Go.Proofs.Ytbjmdehfdnpljaa.Ic Go.Proofs.Ytbjmdehfdnpljaa.Ve
open Oct

def BLies (w : World) (N : Nat) (ao : Option Addr) (xs : List Nat) : Prop := 1 ≤ xs.length → ∃ b o, ao = some ⟨b, o, none⟩ ∧ b < N ∧ ∀ (i : Nat) (x : Nat), xs[i]? = some x → w.cell? ⟨b, o + i, none⟩ = some (.int .u8 x)
theorem BLies.below {w w' : World} {N : Nat} {ao : Option Addr} {xs : List Nat} (h : BLies w N ao xs) (hb : Below N w w') : BLies w' N ao xs := by
  intro h1
  obtain ⟨b, o, ha, hlt, hI⟩ := h h1
  exact ⟨b, o, ha, hlt, fun i x hx => (hb.cell (p := ⟨b, _, none⟩) hlt).trans (hI i x hx)⟩
def sumN (xs : List Nat) (k : Nat) : Nat := (xs.take k).sum
def upsN (k : Nat) : Nat := (k + 1) / 2
def oddB (k : Nat) : Bool := decide (k % 2 = 1)
theorem sum_next {xs : List Nat} {k x : Nat} (h : xs[k]? = some x) : sumN xs (k + 1) = sumN xs k + x := by
  obtain ⟨hk, rfl⟩ := List.getElem?_eq_some_iff.1 h
  unfold sumN
  rw [List.take_succ_eq_append_getElem hk, List.sum_append]
  simp
theorem sum_le {xs : List Nat} (h : ∀ (i x : Nat), xs[i]? = some x → x ≤ 255) : ∀ k, k ≤ xs.length → sumN xs k ≤ 255 * k
  | 0, _ => by unfold sumN; simp
  | k + 1, hk => by
    have ih := sum_le h k (by omega)
    have hx : xs[k]? = some (xs[k]'(by omega)) := List.getElem?_eq_getElem (by omega)
    rw [sum_next hx]
    have := h k _ hx
    omega
theorem t_next (S d n : Nat) : tN true (min S n) d n = min (S + d) n := by unfold tN; rw [if_pos rfl]; omega
theorem c_next (k n : Nat) : cN (!oddB k) (oddB k) (min (upsN k) n) n = min (upsN (k + 1)) n := by
  unfold cN upsN oddB
  by_cases h : k % 2 = 1
  · rw [decide_eq_true h]
    simp
    omega
  · rw [decide_eq_false h]
    simp
    omega
theorem odd_next (k : Nat) : oddB (k + 1) = !oddB k := by
  unfold oddB
  by_cases h : k % 2 = 1
  · rw [decide_eq_true h, decide_eq_false (by omega)]; rfl
  · rw [decide_eq_false h, decide_eq_true (by omega)]; rfl
theorem ups_next (k : Nat) : upsN (k + 1) = upsN k + (bB (!oddB k)).toNat := by
  unfold upsN oddB
  by_cases h : k % 2 = 1
  · rw [decide_eq_true h]
    show _ = _ + 0
    omega
  · rw [decide_eq_false h]
    show _ = _ + 1
    omega
theorem up_num (k : Nat) : (k + 1) % 2 = (bB (!oddB k)).toNat := by
  unfold oddB
  by_cases h : k % 2 = 1
  · rw [decide_eq_true h]
    show _ = 0
    omega
  · rw [decide_eq_false h]
    show _ = 1
    omega

/-- The block of the areas. -/
def Im (W : World) (g : Nat) (i q m r : Bs) : Prop := W.heap[g]? = some (.cells #[.string (S i), .string (S q), .string (S m), .string (S r)] 32 (0, 0))
theorem Im.cells {W : World} {g : Nat} {i q m r : Bs} (h : Im W g i q m r) : W.cell? ⟨g, 0, none⟩ = some (.string (S i)) ∧ W.cell? ⟨g, 1, none⟩ = some (.string (S q)) ∧ W.cell? ⟨g, 2, none⟩ = some (.string (S m)) ∧ W.cell? ⟨g, 3, none⟩ = some (.string (S r)) := by
  refine ⟨?_, ?_, ?_, ?_⟩ <;> (rw [cell_of_row _ _ _ _ _ (0, 0) h]; rfl)
theorem Im.kept {W W' : World} {g : Nat} {i q m r : Bs} (h : Im W g i q m r) (hb : Below W.heap.size W W') : Im W' g i q m r := (hb.block g (Array.getElem?_eq_some_iff.1 h).1).trans h
theorem Im.set0 {W : World} {g : Nat} {i q m r : Bs} (h : Im W g i q m r) (j : Bs) : Im (W.setCell ⟨g, 0, none⟩ (.string (S j))) g j q m r := by
  have := heap_setCells [.string (S j)] 0 [.string (S i), .string (S q), .string (S m), .string (S r)] W h
  exact this
theorem Im.set4 {W : World} {g : Nat} {i q m r : Bs} (h : Im W g i q m r) (i' q' m' r' : Bs) : Im ((((W.setCell ⟨g, 0, none⟩ (.string (S i'))).setCell ⟨g, 1, none⟩ (.string (S q'))).setCell ⟨g, 2, none⟩ (.string (S m'))).setCell ⟨g, 3, none⟩ (.string (S r'))) g i' q' m' r' := by
  have := heap_setCells [.string (S i'), .string (S q'), .string (S m'), .string (S r')] 0 [.string (S i), .string (S q), .string (S m), .string (S r)] W h
  exact this
/-- How far the law has come. -/
structure Tm (w W : World) (g : Nat) (ao : Option Addr) (xs : List Nat) (pb : Nat) (pv : Value) (c : List In) (i q m r : Bs) : Prop where
  below : Below w.heap.size w W
  lies : BLies W w.heap.size ao xs
  prog : PAt W w.heap.size pb pv c
  lt : pb < g
  row : ∀ k, pv.ownBlock = some k → k < g
  img : Im W g i q m r
  lo : w.heap.size ≤ g
section
variable {w W W' : World} {g : Nat} {ao : Option Addr} {xs : List Nat} {pb : Nat} {pv : Value} {c : List In} {i q m r i' q' m' r' : Bs}
theorem Tm.to (h : Tm w W g ao xs pb pv c i q m r) (hb : Below g W W') (hi : Im W' g i' q' m' r') : Tm w W' g ao xs pb pv c i' q' m' r' := by
  have hb0 : Below w.heap.size W W' := hb.mono h.lo
  refine ⟨h.below.trans hb0, h.lies.below hb0, ⟨(hb.block pb h.lt).trans h.prog.blk, ?_, h.prog.lo⟩, h.lt, h.row, hi, h.lo⟩
  rcases h.prog.own.2 with ⟨e, h0⟩ | ⟨g', cap, cur, e, hN, hg, h1, h2, h3, h4⟩
  · exact ⟨h.prog.own.1, .inl ⟨e, h0⟩⟩
  · exact ⟨h.prog.own.1, .inr ⟨g', cap, cur, e, hN, (hb.block g' (h.row g' (by rw [e]; rfl))).trans hg, h1, h2, h3, h4⟩⟩
theorem Tm.glt (h : Tm w W g ao xs pb pv c i q m r) : g < W.heap.size := by
  have := h.img
  unfold Im at this
  exact (Array.getElem?_eq_some_iff.1 this).1
theorem Tm.next (h : Tm w W g ao xs pb pv c i q m r) (hb : Below W.heap.size W W') : Tm w W' g ao xs pb pv c i q m r := h.to (hb.mono (Nat.le_of_lt h.glt)) (h.img.kept hb)
theorem Tm.set0 (h : Tm w W g ao xs pb pv c i q m r) (j : Bs) : Tm w (W.setCell ⟨g, 0, none⟩ (.string (S j))) g ao xs pb pv c j q m r :=
  h.to ((Below.refl g W).setCell (Nat.le_refl g) _) (h.img.set0 j)
theorem Tm.set4 (h : Tm w W g ao xs pb pv c i q m r) (i' q' m' r' : Bs) : Tm w ((((W.setCell ⟨g, 0, none⟩ (.string (S i'))).setCell ⟨g, 1, none⟩ (.string (S q'))).setCell ⟨g, 2, none⟩ (.string (S m'))).setCell ⟨g, 3, none⟩ (.string (S r'))) g ao xs pb pv c i' q' m' r' :=
  h.to (((((Below.refl g W).setCell (Nat.le_refl g) _).setCell (Nat.le_refl g) _).setCell (Nat.le_refl g) _).setCell (Nat.le_refl g) _) (h.img.set4 i' q' m' r')
end
theorem Tm.first {w w3 : World} {ao : Option Addr} {xs : List Nat} {pb N : Nat} {pv : Value} {c : List In} (hB : Below w.heap.size w w3) (hI : BLies w w.heap.size ao xs) (hP : PAt w3 N pb pv c) (hN : w.heap.size ≤ N) (i q m r : Bs) :
    Tm w (w3.alloc (.cells #[.string (S i), .string (S q), .string (S m), .string (S r)] 32)) w3.heap.size ao xs pb pv c i q m r := by
  have one := one_S w3 #[.string (S i), .string (S q), .string (S m), .string (S r)] 32
  have hb := hB.trans (one.mono hB.size)
  have hp := hP.kept one
  exact ⟨hb, hI.below hb, ⟨hp.blk, World.ownsRow.mono hp.own hN, Nat.le_trans hN hp.lo⟩, (Array.getElem?_eq_some_iff.1 hP.blk).1, fun k hk => (World.ownsRow.lt hP.own k hk).2, heap_alloc_new w3 _, hB.size⟩
/-- One run. -/
theorem run_nine {n : Nat} (hn : 1 ≤ n) (hn2 : n ≤ 500) (d : Nat) (hd : d ≤ 255) (a u x y z w' v : Bool) (t c : Nat) (ht : t ≤ n) (hc : c ≤ n) (I : Bs) (hI : fitL I = iL a u) (W : World) (N pb : Nat) (pv : Value) (hP : PAt W N pb pv (l9 n)) :
    Calls Try.prog 11 #[.pointer (some ⟨pb, 0, none⟩), .agg #[.string (S I), .string (S (qL x y z)), .string (S (mL t w')), .string (S (rL c v))], .int .i64 (d : Nat)] W fun e W' => ∃ sc, e = .returned (.tuple #[.agg #[.string (S (iL a u)), .string (S (qL (a && decide (tN a t d n = n)) (decide (n ≤ cN u v c n)) (u && !w'))), .string (S (mL (tN a t d n) u)), .string (S (rL (cN u v c n) u))], sc]) ∧ Below W.heap.size W W' := by
  obtain ⟨hz, l, hl⟩ := all9 hn hn2
  obtain ⟨ao, cap, e, -, -⟩ := own_slice hP.own
  rw [e] at hP
  have hr := run_go (l9 n) l hl pb ao cap I (qL x y z) (mL t w') (rL c v) (d : Nat) (d : Nat) W ⟨hP.blk, World.ownsRow.mono hP.own (Nat.zero_le _), Nat.zero_le _⟩ (by omega)
  rw [hI, fit_id (q_len x y z), fit_id (m_len t w'), fit_id (r_len c v)] at hr
  unfold ranV imgA at hr
  rw [nine hn hn2 ht hc] at hr
  exact hr.mono (fun e W' h => ⟨_, h.1, h.2⟩)

def c45 (n : Int) : Array Value := #[.int .i64 1, .int .i64 1, .int .i64 1, .int .i64 0, .int .i64 0, .int .i64 34, .int .i64 0, .int .i64 3, .int .i64 0, .int .i64 n, .int .i64 3, .int .i64 1, .int .i64 2, .int .i64 0, .int .i64 0, .int .i64 1, .int .i64 1, .int .i64 1, .int .i64 1, .int .i64 0, .int .i64 35, .int .i64 0, .int .i64 4, .int .i64 0, .int .i64 n, .int .i64 3, .int .i64 1, .int .i64 2, .int .i64 1, .int .i64 0, .int .i64 1, .int .i64 1, .int .i64 1, .int .i64 1, .int .i64 0, .int .i64 36, .int .i64 0, .int .i64 3, .int .i64 9, .int .i64 0, .int .i64 3, .int .i64 1, .int .i64 2, .int .i64 2, .int .i64 0]
theorem lies_nine (n : Int) (W : World) : Lies (W.alloc (.cells (c45 n) 54)) (W.alloc (.cells (c45 n) 54)).heap.size (some ⟨W.heap.size, 0, none⟩) (l9 n) := fun _ => by
  refine ⟨W.heap.size, 0, rfl, by simp, fun i z hz => ?_⟩
  have hc : ∀ j v, (c45 n)[j]? = some v → (W.alloc (.cells (c45 n) 54)).cell? ⟨W.heap.size, j, none⟩ = some v := fun j v hv => by rw [World.cell?_alloc_new]; exact hv
  match i with
  | 0 => injection hz with hz; subst hz; exact ⟨hc 0 _ rfl, hc 1 _ rfl, hc 2 _ rfl, hc 3 _ rfl, hc 4 _ rfl⟩
  | 1 => injection hz with hz; subst hz; exact ⟨hc 5 _ rfl, hc 6 _ rfl, hc 7 _ rfl, hc 8 _ rfl, hc 9 _ rfl⟩
  | 2 => injection hz with hz; subst hz; exact ⟨hc 10 _ rfl, hc 11 _ rfl, hc 12 _ rfl, hc 13 _ rfl, hc 14 _ rfl⟩
  | 3 => injection hz with hz; subst hz; exact ⟨hc 15 _ rfl, hc 16 _ rfl, hc 17 _ rfl, hc 18 _ rfl, hc 19 _ rfl⟩
  | 4 => injection hz with hz; subst hz; exact ⟨hc 20 _ rfl, hc 21 _ rfl, hc 22 _ rfl, hc 23 _ rfl, hc 24 _ rfl⟩
  | 5 => injection hz with hz; subst hz; exact ⟨hc 25 _ rfl, hc 26 _ rfl, hc 27 _ rfl, hc 28 _ rfl, hc 29 _ rfl⟩
  | 6 => injection hz with hz; subst hz; exact ⟨hc 30 _ rfl, hc 31 _ rfl, hc 32 _ rfl, hc 33 _ rfl, hc 34 _ rfl⟩
  | 7 => injection hz with hz; subst hz; exact ⟨hc 35 _ rfl, hc 36 _ rfl, hc 37 _ rfl, hc 38 _ rfl, hc 39 _ rfl⟩
  | 8 => injection hz with hz; subst hz; exact ⟨hc 40 _ rfl, hc 41 _ rfl, hc 42 _ rfl, hc 43 _ rfl, hc 44 _ rfl⟩
  | i + 9 => simp [l9] at hz
theorem fit_nine {n : Nat} (hn : n ≤ 500) : FitL (l9 n) := fun k x hx => by
  have hm := List.mem_of_getElem? hx
  simp only [l9, List.mem_cons, List.not_mem_nil, or_false] at hm
  rcases hm with rfl | rfl | rfl | rfl | rfl | rfl | rfl | rfl | rfl <;> (unfold FitI Il.I64; simp only [y0, y1, y2, y3, y4, y5, y7, y8]; omega)

theorem bool_num (b : Bool) : ((bB b).toNat : Int) = 0 ∨ ((bB b).toNat : Int) = 1 := by cases b <;> simp [bB]
theorem bool_is1 (b : Bool) : (((bB b).toNat : Int) == 1) = b := by cases b <;> rfl
theorem conv_two (W : World) (x : UInt8) : (convert 50 9 (.slice (some ⟨W.heap.size, 0, none⟩) 2 2)).run Try.prog (W.alloc (.cells #[.int .u8 1, .int .u8 (x.toNat : Int)] 5)) = .ok (.string (S [1, x])) (W.alloc (.cells #[.int .u8 1, .int .u8 (x.toNat : Int)] 5)) := by
  refine run_convert_bytes_back (P := Try.prog) _ 50 9 5 ⟨W.heap.size, 0, none⟩ 2 [1, x] Try.underlying50 Try.underlying5 Try.underlying9 fun j hj => ?_
  have h2 : j < 2 := by simpa using hj
  have hc : ∀ j v, (#[Value.int .u8 1, .int .u8 (x.toNat : Int)] : Array Value)[j]? = some v → (W.alloc (.cells #[.int .u8 1, .int .u8 (x.toNat : Int)] 5)).cell? ⟨W.heap.size, j, none⟩ = some v := fun j v hv => by rw [World.cell?_alloc_new]; exact hv
  obtain rfl | rfl : j = 0 ∨ j = 1 := by omega
  · exact hc 0 _ rfl
  · exact hc 1 _ rfl
set_option maxRecDepth 100000 in
set_option maxHeartbeats 8000000 in
theorem times_walk (xs : List Nat) (ao : Option Addr) (cap : Nat) (z : Nat) (w : World) (hI : BLies w w.heap.size ao xs) (hF : ∀ (i x : Nat), xs[i]? = some x → x ≤ 255) (hm : xs.length ≤ maxLen) (hz : z < 65536) :
    Calls Try.prog 7 #[.slice ao xs.length cap, .int .u16 (z : Int)] w (Tells (.bool true) w) := by
  have HI := Lib.hid hI
  have hmi : (xs.length : Int) ≤ 9223372036854775807 := by unfold maxLen at hm; omega
  by_cases h40 : (40 : Int) < xs.length
  · clear hI hm hz
    go_enter Try.func7, Try.ntmps7
    go_wp2_with fail
    with_reducible refine (wake_any _).mono ?_
    rintro e w1 ⟨rfl, hb1⟩
    have HB := Lib.hid hb1
    clear hb1
    go_wp2
    go_ret
    exact ⟨rfl, HB.out⟩
  obtain ⟨n, hnd⟩ : ∃ n : Nat, n = z % 500 + 1 := ⟨_, rfl⟩
  have hn1 : 1 ≤ n := by omega
  have hn5 : n ≤ 500 := by omega
  have hw1 : (z : Int).tmod 500 = ((n : Int) - 1) := by rw [Int.tmod_eq_emod_of_nonneg (by omega)]; omega
  have hw2 : IntKind.i64.wrap ((n : Int) - 1) = (n : Int) - 1 := by rw [IntKind.wrap_i64]; omega
  have hw3 : IntKind.i64.wrap (1 + ((n : Int) - 1)) = (n : Int) := by rw [IntKind.wrap_i64]; omega
  obtain ⟨hz9, -⟩ := all9 hn1 hn5
  have HL := fun W => load_ok (l9 n) (some ⟨W.heap.size, 0, none⟩) 9 (W.alloc (.cells (c45 n) 54)) (lies_nine n W) (fit_nine hn5) (fun e => by cases e) (by show 9 ≤ 300; omega) hz9
  rw [show (l9 n).length = 9 from rfl] at HL
  unfold c45 at HL
  replace HL := Lib.hid HL
  have HB := fun W => cBlank_any W
  unfold imgV at HB
  replace HB := Lib.hid HB
  clear hz9 hnd hI
  go_enter Try.func7, Try.ntmps7
  go_wp2_with fail
  with_reducible refine (wake_any _).mono ?_
  rintro e w1 ⟨rfl, hb1⟩
  have B1 := Lib.hid hb1
  clear hb1
  go_wp2_with fail
  with_reducible refine (HL.out _).mono ?_
  rintro e w2 ⟨pb, pv, rfl, hp, hb2⟩
  have B2 := Lib.hid (show Below w.heap.size w w2 from B1.out.trans (((Below.refl w1.heap.size w1).alloc (Nat.le_refl _) (.cells (c45 n) 54)).trans (hb2.mono (by simp)) |>.mono B1.out.size))
  have HP := Lib.hid hp
  clear hb2 hp HL
  go_wp2_with fail
  with_reducible refine (HB.out _).mono ?_
  rintro e w3 ⟨rfl, hb3⟩
  have HT := Lib.hid (Tm.first (B2.out.trans (hb3.mono B2.out.size)) HI.out (HP.out.kept hb3) (by have := B1.out.size; simp; omega) z64 z64 z64 z64)
  clear hb3 HP B2 HB HI B1
  go_wp2
  generalize hg : w3.heap.size = g at *
  go_loopw [11, 12, 48] (fun sm up i W => ∃ k : Nat, k ≤ xs.length ∧ i = .int .i64 k ∧ sm = .int .i64 ((sumN xs k : Nat) : Int) ∧ up = .int .i64 ((upsN k : Nat) : Int) ∧ Hid (∃ i0 x y z, Tm w W g ao xs pb pv (l9 n) i0 (qL x y z) (mL (min (sumN xs k) n) (oddB k)) (rL (min (upsN k) n) (oddB k)))) (fun _ _ i _ => xs.length - (intOf i).toNat)
  case atStart =>
    refine ⟨0, by omega, rfl, rfl, rfl, Lib.hid ⟨z64, false, false, false, ?_⟩⟩
    have := HT.out
    rw [show mL (min (sumN xs 0) n) (oddB 0) = z64 by rw [show sumN xs 0 = 0 from rfl, Nat.zero_min]; exact z_m.symm, show rL (min (upsN 0) n) (oddB 0) = z64 by rw [show upsN 0 = 0 from rfl, Nat.zero_min]; exact z_r.symm, ← z_q]
    exact this
  case round =>
    obtain ⟨k, hk, rfl, rfl, rfl, hT⟩ := hrel
    clear HT
    obtain ⟨i0, x, y, zz, hT⟩ := hT.out
    have HT := Lib.hid hT
    clear hT
    by_cases hlt : k < xs.length
    · have e1 : decide ((k : Int) < xs.length) = true := by simp; omega
      obtain ⟨d, hd⟩ : ∃ d, xs[k]? = some d := ⟨_, List.getElem?_eq_getElem hlt⟩
      have hd5 := hF k d hd
      obtain ⟨b, o, rfl, hb, hcel⟩ := HT.out.lies (by omega)
      have hc0 := hcel k d hd
      clear hcel
      obtain ⟨g0, g1, g2, g3⟩ := HT.out.img.cells
      have f0 := free_heap HT.out.img 0
      have f1 := free_heap HT.out.img 1
      have f2 := free_heap HT.out.img 2
      have f3 := free_heap HT.out.img 3
      have hupn := up_num k
      obtain ⟨U, hU⟩ : ∃ U : UInt8, U = bB (!oddB k) := ⟨_, rfl⟩
      rw [← hU] at hupn
      have hm1 : ((k : Int) + 1).tmod 2 = (U.toNat : Int) := by rw [Int.tmod_eq_emod_of_nonneg (by omega)]; omega
      have hU8 := U.toNat_lt
      have hm2 : IntKind.u8.wrap (U.toNat : Int) = (U.toNat : Int) := by rw [IntKind.wrap_u8]; omega
      have hk1 : IntKind.i64.wrap ((k : Int) + 1) = (k : Int) + 1 := by rw [IntKind.wrap_i64]; omega
      have hcv := fun W => conv_two W U
      have HU := Lib.hid hU
      have hglt := HT.out.glt
      have HD := Lib.hid hd
      clear hupn hU hb hT hd
      have hsn := sum_next (xs := xs) (k := k) (x := d) HD.out
      have hsl := sum_le hF (k + 1) (by omega)
      have hun := ups_next k
      rw [← HU.out] at hun
      have hul : upsN (k + 1) ≤ 41 := by unfold upsN; omega
      have HG := fun W (h : PAt W w.heap.size pb pv (l9 n)) => run_nine hn1 hn5 d hd5 true (!oddB k) x y zz (oddB k) (oddB k) (min (sumN xs k) n) (min (upsN k) n) (Nat.min_le_right _ _) (Nat.min_le_right _ _) [1, U] (by rw [HU.out]; rfl) W w.heap.size pb pv h
      rw [t_next, c_next, ← hsn, Bool.and_self, Bool.true_and] at HG
      obtain ⟨A, hA⟩ : ∃ A : Bool, A = decide (min (sumN xs (k + 1)) n = n) := ⟨_, rfl⟩
      obtain ⟨B, hB⟩ : ∃ B : Bool, B = decide (n ≤ min (upsN (k + 1)) n) := ⟨_, rfl⟩
      rw [← hA, ← hB] at HG
      have hA2 : decide ((n : Int) ≤ ((sumN xs (k + 1) : Nat) : Int)) = A := by rw [hA, decide_eq_decide]; omega
      have hB2 : decide ((n : Int) ≤ ((upsN (k + 1) : Nat) : Int)) = B := by rw [hB, decide_eq_decide]; omega
      have hA3 : decide (n ≤ sumN xs (k + 1)) = A := by rw [hA, decide_eq_decide]; omega
      have hB3 : decide (n ≤ upsN (k + 1)) = B := by rw [hB, decide_eq_decide]; omega
      replace HG := Lib.hid HG
      have hsw : IntKind.i64.wrap (((sumN xs k : Nat) : Int) + (d : Int)) = ((sumN xs (k + 1) : Nat) : Int) := by rw [IntKind.wrap_i64]; omega
      have huw : IntKind.i64.wrap (((upsN k : Nat) : Int) + (U.toNat : Int)) = ((upsN (k + 1) : Nat) : Int) := by rw [IntKind.wrap_i64]; omega
      have HN := Lib.hid (odd_next k)
      clear hA hB hsn hsl hun hul
      go_wp2_with fail
      have one := one_S (wr.setCell ⟨g, 0, none⟩ (.string (S [1, U]))) #[.int .u8 1, .int .u8 (U.toNat : Int)] 5
      have HT2 := Lib.hid ((HT.out.set0 [1, U]).next one)
      clear one HT g0 g1 g2 g3 f0 f1 f2 f3 hc0 hcv hglt
      with_reducible refine (HG.out _ HT2.out.prog).mono ?_
      rintro e w5 ⟨sc, rfl, hb5⟩
      have HT3 := Lib.hid (HT2.out.next hb5)
      obtain ⟨g0, g1, g2, g3⟩ := HT3.out.img.cells
      have f0 := free_heap HT3.out.img 0
      have f1 := free_heap HT3.out.img 1
      have f2 := free_heap HT3.out.img 2
      have f3 := free_heap HT3.out.img 3
      have hglt := HT3.out.glt
      clear hb5 HT2 HG
      have HT4 := HT3.out.set4 (iL true (!oddB k)) (qL A B (!oddB k)) (mL (min (sumN xs (k + 1)) n) (!oddB k)) (rL (min (upsN (k + 1)) n) (!oddB k))
      rw [← HN.out] at HT4
      have HT5 := Lib.hid (show ∃ i0 x y z, Tm w _ g (some ⟨b, o, none⟩) xs pb pv (l9 n) i0 (qL x y z) (mL (min (sumN xs (k + 1)) n) (oddB (k + 1))) (rL (min (upsN (k + 1)) n) (oddB (k + 1))) from ⟨_, _, _, _, HT4⟩)
      rw [HN.out] at HT5
      clear HT4
      have hs : (S (qL A B (!oddB k))).size = 64 := by rw [S_size]; exact q_len _ _ _
      have c0 : ((((S (qL A B (!oddB k)))[0]'(by rw [hs]; omega)).toNat : Int) == 1) = A := bool_is1 A
      have c1 : ((((S (qL A B (!oddB k)))[1]'(by rw [hs]; omega)).toNat : Int) == 1) = B := bool_is1 B
      have c2 : ((((S (qL A B (!oddB k)))[2]'(by rw [hs]; omega)).toNat : Int) != (U.toNat : Int)) = false := by rw [HU.out]; exact bne_self_eq_false _
      have hAA : (A != A) = false := bne_self_eq_false A
      have hBB : (B != B) = false := bne_self_eq_false B
      clear HT3
      generalize qL A B (!oddB k) = Q' at *
      go_wp2
      go_roundw
      case rel => exact ⟨k + 1, by omega, by go_num, rfl, rfl, Lib.hid (by rw [HN.out]; exact HT5.out)⟩
      case measure => simp [intOf]; omega
    · obtain rfl : k = xs.length := by omega
      have e1 : decide ((xs.length : Int) < xs.length) = false := by simp
      obtain ⟨g0, g1, g2, g3⟩ := HT.out.img.cells
      have f0 := free_heap HT.out.img 0
      have f1 := free_heap HT.out.img 1
      have f2 := free_heap HT.out.img 2
      have f3 := free_heap HT.out.img 3
      have hglt := HT.out.glt
      obtain ⟨C, hC⟩ : ∃ C, C = oddB xs.length := ⟨_, rfl⟩
      rw [← hC] at HT g2 g3
      have HG := fun W (h : PAt W w.heap.size pb pv (l9 n)) => run_nine hn1 hn5 1 (by omega) false false x y zz C C (min (sumN xs xs.length) n) (min (upsN xs.length) n) (Nat.min_le_right _ _) (Nat.min_le_right _ _) [] fit_no W w.heap.size pb pv h
      rw [show tN false (min (sumN xs xs.length) n) 1 n = 0 from rfl, show cN false C (min (upsN xs.length) n) n = min (upsN xs.length) n from rfl, Bool.false_and, Bool.false_and] at HG
      obtain ⟨B, hB⟩ : ∃ B : Bool, B = decide (n ≤ min (upsN xs.length) n) := ⟨_, rfl⟩
      rw [← hB] at HG
      have hB2 : decide ((n : Int) ≤ ((upsN xs.length : Nat) : Int)) = B := by rw [hB, decide_eq_decide]; omega
      have hB3 : decide (n ≤ upsN xs.length) = B := by rw [hB, decide_eq_decide]; omega
      have hS0 : S [] = ⟨#[]⟩ := rfl
      rw [hS0, show ((1 : Nat) : Int) = 1 from rfl] at HG
      replace HG := Lib.hid HG
      clear hB hC hT
      go_wp2_with fail
      have HT2 := Lib.hid (HT.out.set0 [])
      rw [hS0] at HT2
      with_reducible refine (HG.out _ HT2.out.prog).mono ?_
      rintro e w5 ⟨sc, rfl, hb5⟩
      have HT3 := Lib.hid (HT2.out.next hb5)
      clear HT g0 g1 g2 g3 f0 f1 f2 f3 hglt
      obtain ⟨g0, g1, g2, g3⟩ := HT3.out.img.cells
      have f0 := free_heap HT3.out.img 0
      have f1 := free_heap HT3.out.img 1
      have f2 := free_heap HT3.out.img 2
      have f3 := free_heap HT3.out.img 3
      have hglt := HT3.out.glt
      have HB5 := Lib.hid (HT3.out.set4 (iL false false) (qL false B false) (mL 0 false) (rL (min (upsN xs.length) n) false)).below
      clear hb5 HT2 HG HT3
      have hs : (S (qL false B false)).size = 64 := by rw [S_size]; exact q_len _ _ _
      have c0 : ((((S (qL false B false))[0]'(by rw [hs]; omega)).toNat : Int) == 0) = true := rfl
      have c1 : ((((S (qL false B false))[1]'(by rw [hs]; omega)).toNat : Int) == 1) = B := bool_is1 B
      have hm : (S (mL 0 false)).size = 64 := by rw [S_size]; exact m_len _ _
      have hm4 : ((S (mL 0 false)).extract 0 4).toList = [0, 0, 0, 0] := by decide +kernel
      have hBB : (B == B) = true := beq_self_eq_true B
      generalize qL false B false = Q' at *
      generalize mL 0 false = M' at *
      go_wp2
      go_ret
      exact ⟨rfl, HB5.out⟩
end Go.Proofs.Ytbjmdehfdnpljaa.Vm

namespace Go.Proofs.Ytbjmdehfdnpljaa.Vm
open Go.RowKit Go.ChangeShapes Go.WideShapes Go.Deep
open Go.Proofs.Ytbjmdehfdnpljaa.Il hiding Next S S_size S_app S_inj S_list
open Go.Proofs.Ytbjmdehfdnpljaa.Ic Go.Proofs.Ytbjmdehfdnpljaa.Ve
open Oct
section
variable {H : Type} {enc : TypeId × Value → H} {P : Program} {w : World} {base : Nat} {spare : Nat → Bool} {held : Bool}
theorem open_slice_ones {t e : TypeId} {fuel : Nat} {cs : List Value} {x : DataW H × List MemPlace} (ht : P.underlying t = some (.slice e)) (hC : P.cellsOf e = 1) (h : DataW.trod enc P w base spare held fuel t cs = some x) :
    (cs = [.slice none 0 0] ∧ x = (.nil, [])) ∨
    ∃ (a : Addr) (len cap m : Nat), cs = [.slice (some a) len cap] ∧ len ≤ cap ∧ cap ≤ maxLen ∧ m = (if spare a.block then cap else len) ∧
      ∀ i, i < m → ∃ (n : Nat) (v : Value) (y : DataW H × List MemPlace), w.cell? (a.add i) = some v ∧ DataW.trod enc P w base spare held n e [v] = some y := by
  rcases open_slice ht h with h0 | ⟨a, len, cap, m, n, D, Pl, hcs, hb, hl, hm, hmm, hx, hi⟩
  · exact .inl h0
  · refine .inr ⟨a, len, cap, m, hcs, hl, hm, hmm, fun i him => ?_⟩
    obtain ⟨cs', hc, ht'⟩ := hi i him
    rw [hC] at hc
    obtain ⟨_, hcl, hat⟩ := World.cells?_some hc
    have hcell := hat 0 (by omega)
    match cs', hcl with
    | [v], _ =>
      refine ⟨_, v, _, ?_, ht'⟩
      have e1 : (a.add (i * 1)).add 0 = a.add i := by rw [Go.Deep.add_add]; simp
      rw [e1] at hcell
      simpa using hcell
end

theorem cells_u8 : Try.prog.cellsOf 5 = 1 := by kernel_rfl
theorem open_u8s {H : Type} {enc : TypeId × Value → H} {w : World} {base : Nat} {held : Bool} {fuel : Nat} {ao : Option Addr} {len cap : Nat} {x : DataW H × List MemPlace}
    (h : DataW.trod enc Try.prog w base (fun _ => true) held fuel 50 (Value.slice ao len cap).cells.toList = some x) :
    ∃ xs : List Nat, xs.length = len ∧ BLies w w.heap.size ao xs ∧ (∀ (i x : Nat), xs[i]? = some x → x ≤ 255) ∧ len ≤ maxLen := by
  rcases open_slice_ones Try.underlying50 cells_u8 h with ⟨hcs, _⟩ | ⟨a, len', cap', m, hcs, hl, hm, hmm, hi⟩
  · simp [Value.cells] at hcs
    obtain ⟨rfl, rfl, rfl⟩ := hcs
    exact ⟨[], rfl, fun h => by simp at h, fun i x hx => by simp at hx, by unfold maxLen; omega⟩
  · simp [Value.cells] at hcs
    obtain ⟨rfl, rfl, rfl⟩ := hcs
    simp only [if_true] at hmm
    obtain ⟨xs, hxl, hq⟩ := list_of len (fun i (x : Nat) => w.cell? (a.add i) = some (.int .u8 x) ∧ (x : Int) ≤ 255) (by
      intro i hlt
      obtain ⟨n, v, y, c0, r0⟩ := hi i (by omega)
      obtain ⟨n0, e0, _, w0⟩ := DataW.trod_int Try.underlying5 r0
      injection e0 with e0
      subst e0
      obtain ⟨a0, rfl, b0⟩ := u8_nat w0
      exact ⟨a0, c0, b0⟩)
    refine ⟨xs, hxl, fun h1 => ?_, fun i x hx => (by have := (hq i x hx).2; omega), by omega⟩
    obtain ⟨b, off, spot⟩ := a
    have hx0 : xs[0]? = some (xs[0]'(by omega)) := List.getElem?_eq_getElem (by omega)
    have hspot : spot = none := by simpa [Addr.add] using World.cell?_spot (hq 0 _ hx0).1
    subst hspot
    have hadd : ∀ j, (⟨b, off, none⟩ : Addr).add j = ⟨b, off + j, none⟩ := fun j => by unfold Addr.add; split <;> simp_all
    refine ⟨b, off, rfl, ?_, fun i x hx => ?_⟩
    · exact World.block_lt_of_cell? w _ (by have := (hq 0 _ hx0).1; rw [hadd] at this; exact this)
    · have := (hq i x hx).1
      rw [hadd] at this
      exact this

theorem u16_of {z : Int} (h : (Lit.int .u16 z).wf = true) : ∃ n : Nat, z = n ∧ n < 65536 := by
  simp [Lit.wf, IntKind.min, IntKind.max, IntKind.signed, IntKind.bits] at h
  exact ⟨z.toNat, by omega, by omega⟩
end Go.Proofs.Ytbjmdehfdnpljaa.Vm
