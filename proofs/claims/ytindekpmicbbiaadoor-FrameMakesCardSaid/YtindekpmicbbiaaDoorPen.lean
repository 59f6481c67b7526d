/-
  What a frame is written with: a pen, walked. Conditions: numbers such as their kinds hold.
-/
import Derived.Test.YtindekpmicbbiaaDoorRight
import Derived.Test.YtindekpmicbbiaaDoorOctPens
namespace Go.Proofs.YtindekpmicbbiaaDoor
open Go.RowKit
open Oct Sums

attribute [local go_sem ↓] exec_bd exec_ld exec_st load_row loadVar_row store_row
attribute [local go_sem] bd_0 bd_1 bd_5 bd_6 ld_row st_row set_cell_lt set_cell_gt one_int one_bool one_str row_new ok_new free_new row_old ok_old_iff free_old_iff put_in put_cell_lt put_cell_gt put_frozen row_put_in row_put_lt row_put_gt ok_put_iff free_put_iff put_size row_set_in row_set_lt row_set_gt ok_set_iff free_set_iff drew_cell drew_frozen drew_size row_drew ok_drew free_drew

/-- A pen's state, and that there is as much memory. -/
def PenS (N : Nat) (w : World) (p : Nat) (l : List UInt8) : Prop := PenAt N w p l ∧ N ≤ w.heap.size
theorem PenS_drew (N : Nat) (w : World) (p : Nat) (l : List UInt8) : PenS N w.drew p l = PenS N w p l := propext ⟨fun h => h, fun h => h⟩
theorem PenS.below {N : Nat} {w w' : World} {p : Nat} {l : List UInt8} (h : PenS N w p l) (hb : Below w.heap.size w w') : PenS N w' p l := ⟨h.1.below hb, Nat.le_trans h.2 hb.size⟩
theorem row_below2 {B : Nat} {W W' : World} {n : Nat} (hb : Below B W W') (hn : n < B) (h : RowOk W n) : RowOk W' n ∧ rowArr W' n = rowArr W n := by
  have hc : ∀ k, k < 19 → W'.cell? ⟨n, k, none⟩ = W.cell? ⟨n, k, none⟩ := fun k hk => hb.cell (p := ⟨n, k, none⟩) hn
  have hok : RowOk W' n := fun k hk => by rw [hc k hk]; exact h k hk
  exact ⟨hok, rowArr_ext (rowArr_size W n) fun k hk => by rw [hc k hk, rowArr_at W n k hk h]⟩

theorem pbyte (N p : Nat) (l : List UInt8) (x : Nat) (hx : (x : Int) ≤ 255) (w : World) (hP : PenS N w p l) (hl : l.length ≤ 900000) :
    Calls Tryd.prog 22 #[.pointer (some ⟨p, 0, none⟩), .int .u8 (x : Int)] w fun e w' => e = .returned (.pointer (some ⟨p, 0, none⟩)) ∧ PenS N w' p (l ++ be x 1) ∧ Below N w w' ∧ Beside w w' p :=
  (byte_any N p l _ x (by omega) w hP.1 hP.2 hl).mono fun _ _ ⟨h1, h2, h3, h4⟩ => ⟨h1, ⟨h2, Nat.le_trans hP.2 h3.size⟩, h3, h4⟩
theorem ptwo (N p : Nat) (l : List UInt8) (x : Nat) (hx : (x : Int) ≤ 65535) (w : World) (hP : PenS N w p l) (hl : l.length ≤ 900000) :
    Calls Tryd.prog 23 #[.pointer (some ⟨p, 0, none⟩), .int .u16 (x : Int)] w fun e w' => e = .returned (.pointer (some ⟨p, 0, none⟩)) ∧ PenS N w' p (l ++ be x 2) ∧ Below N w w' ∧ Beside w w' p :=
  (two_any N p l x (by omega) w hP.1 hP.2 hl).mono fun _ _ ⟨h1, h2, h3, h4⟩ => ⟨h1, ⟨h2, Nat.le_trans hP.2 h3.size⟩, h3, h4⟩
theorem pfour (N p : Nat) (l : List UInt8) (x : Nat) (hx : (x : Int) ≤ 4294967295) (w : World) (hP : PenS N w p l) (hl : l.length ≤ 900000) :
    Calls Tryd.prog 26 #[.pointer (some ⟨p, 0, none⟩), .int .u32 (x : Int)] w fun e w' => e = .returned (.pointer (some ⟨p, 0, none⟩)) ∧ PenS N w' p (l ++ be x 4) ∧ Below N w w' ∧ Beside w w' p :=
  (four_any N p l x hx w hP.1 hP.2 hl).mono fun _ _ ⟨h1, h2, h3, h4⟩ => ⟨h1, ⟨h2, Nat.le_trans hP.2 h3.size⟩, h3, h4⟩
theorem ptext (N p : Nat) (l : List UInt8) (s : ByteArray) (w : World) (hP : PenS N w p l) (hl : l.length + s.size ≤ 1000000) :
    Calls Tryd.prog 27 #[.pointer (some ⟨p, 0, none⟩), .string s] w fun e w' => e = .returned (.pointer (some ⟨p, 0, none⟩)) ∧ PenS N w' p (l ++ s.data.toList) ∧ Below N w w' ∧ Beside w w' p :=
  (text_any N p l s w hP.1 hP.2 hl).mono fun _ _ ⟨h1, h2, h3, h4⟩ => ⟨h1, ⟨h2, Nat.le_trans hP.2 h3.size⟩, h3, h4⟩

/-- A block of so many cells. -/
def Blk (W : World) (n : Nat) (cs : Array Value) (t : TypeId) : Prop := W.heap[n]? = some (.cells cs t (0, 0))
theorem Blk_drew (W : World) (n : Nat) (cs : Array Value) (t : TypeId) : Blk W.drew n cs t = Blk W n cs t := propext ⟨fun h => h, fun h => h⟩
theorem Blk.cell {W : World} {n : Nat} {cs : Array Value} {t : TypeId} (h : Blk W n cs t) (k : Nat) (v : Value) (hv : cs[k]? = some v) : W.cell? ⟨n, k, none⟩ = some v := by
  unfold Blk at h
  simp [World.cell?, h, hv]
theorem Blk.beside {w w' : World} {p n : Nat} {cs : Array Value} {t : TypeId} (h : Blk w n cs t) (hq : Beside w w' p) (hne : n ≠ p) (ht : (t != 5) = true) : Blk w' n cs t := hq n cs t _ hne (by simpa using ht) h
theorem blk_new (w : World) (cs : Array Value) (t : TypeId) : Blk (w.alloc (.cells cs t)) w.heap.size cs t := heap_alloc_last w _

/-- An epoch's bytes. -/
def beE (c a i : Nat) : List UInt8 := be c 2 ++ be a 1 ++ be i 2
theorem beE_length (c a i : Nat) : (beE c a i).length = 5 := by simp [beE, be_length]

set_option maxRecDepth 100000 in
set_option maxHeartbeats 4000000 in
theorem putEpoch_any (N p : Nat) (l : List UInt8) (c a i : Nat) (hc : (c : Int) ≤ 65535) (ha : (a : Int) ≤ 255) (hi : (i : Int) ≤ 65535) (w : World) (hP : PenS N w p l) (hl : l.length ≤ 800000) :
    Calls Tryd.prog 24 #[.pointer (some ⟨p, 0, none⟩), .agg #[.int .u16 c, .int .u8 a, .int .u16 i]] w fun e w' => e = .returned (.tuple #[]) ∧ PenS N w' p (l ++ beE c a i) ∧ Below N w w' := by
  have hl2 : (l ++ be c 2).length ≤ 900000 := by rw [List.length_append, be_length]; omega
  have hl3 : (l ++ be c 2 ++ be a 1).length ≤ 900000 := by rw [List.length_append, List.length_append, be_length, be_length]; omega
  have HE : Hid (l ++ be c 2 ++ be a 1 ++ be i 2 = l ++ beE c a i) := Lib.hid (by unfold beE; simp [List.append_assoc])
  have HP := Lib.hid hP
  have HB := Lib.hid (Nat.le_refl w.heap.size)
  go_enter Tryd.func24, Tryd.ntmps24
  go_wp2
  refine world_cut (G := fun W => Code.wp _ _ _ _ W) (fun W => Blk W w.heap.size #[.int .u16 c, .int .u8 a, .int .u16 i] 24 ∧ Below w.heap.size w W) (by
    exact ⟨blk_new _ _ _, (Below.refl _ _).alloc (Nat.le_refl _) _⟩) ?_
  rintro W ⟨hk0, hb⟩
  have hne : w.heap.size ≠ p := Nat.ne_of_gt HP.out.1.lt
  have hP0 : PenS N W.drew p l := by rw [PenS_drew]; exact HP.out.below hb
  have hC0 : Below N w W.drew := (hb.mono HP.out.2).drew
  clear hb
  rw [← Blk_drew] at hk0
  generalize w.heap.size = n at *
  have z0 := Blk.cell hk0 0 _ rfl
  have z1 := Blk.cell hk0 1 _ rfl
  have z2 := Blk.cell hk0 2 _ rfl
  rw [drew_cell] at z0 z1 z2
  go_region_held3 (fun W' => W'.cell? ⟨n, 0, none⟩ = some (.int .u16 c) ∧ W'.cell? ⟨n, 1, none⟩ = some (.int .u8 a) ∧ W'.cell? ⟨n, 2, none⟩ = some (.int .u16 i)) ((first | (go_simp; done) | (go_keep; done)))
    ((first | (go_at_call 23; (with_reducible refine (ptwo N p _ _ (by assumption) _ (by first | exact hP0 | assumption) (by first | exact hl2 | exact hl3 | omega)).mono ?_); rintro e w1 ⟨rfl, hP1, hb1, hq1⟩; have hC1 := Below.trans (show Below N w _ by assumption) hb1; have hk1 := Blk.beside (show Blk _ n #[.int .u16 c, .int .u8 a, .int .u16 i] 24 by assumption) hq1 hne (by decide); have y0 := Blk.cell hk1 0 _ rfl; have y1 := Blk.cell hk1 1 _ rfl; have y2 := Blk.cell hk1 2 _ rfl) | (go_at_call 22; (with_reducible refine (pbyte N p _ _ (by assumption) _ (by first | exact hP0 | assumption) (by first | exact hl2 | exact hl3 | omega)).mono ?_); rintro e w1 ⟨rfl, hP1, hb1, hq1⟩; have hC1 := Below.trans (show Below N w _ by assumption) hb1; have hk1 := Blk.beside (show Blk _ n #[.int .u16 c, .int .u8 a, .int .u16 i] 24 by assumption) hq1 hne (by decide); have y0 := Blk.cell hk1 0 _ rfl; have y1 := Blk.cell hk1 1 _ rfl; have y2 := Blk.cell hk1 2 _ rfl)))
  go_wp2
  go_end0
  exact ⟨rfl, by rw [← HE.out]; exact hP1, hC1⟩

def oneB (b : Bool) : List UInt8 := be (if b then 1 else 0) 1
theorem oneB_length (b : Bool) : (oneB b).length = 1 := by unfold oneB; rw [be_length]
set_option maxRecDepth 100000 in
set_option maxHeartbeats 4000000 in
theorem putBool_any (N p : Nat) (l : List UInt8) (b : Bool) (w : World) (hP : PenS N w p l) (hl : l.length ≤ 800000) :
    Calls Tryd.prog 25 #[.pointer (some ⟨p, 0, none⟩), .bool b] w fun e w' => e = .returned (.tuple #[]) ∧ PenS N w' p (l ++ oneB b) ∧ Below N w w' := by
  cases b
  · go_enter Tryd.func25, Tryd.ntmps25
    go_wp2_with fail
    refine (pbyte N p l 0 (by decide) _ hP (by omega)).mono ?_
    rintro e w1 ⟨rfl, hP1, hb1, hq1⟩
    go_wp2
    go_end0
    exact ⟨rfl, hP1, hb1⟩
  · go_enter Tryd.func25, Tryd.ntmps25
    go_wp2_with fail
    refine (pbyte N p l 1 (by decide) _ hP (by omega)).mono ?_
    rintro e w1 ⟨rfl, hP1, hb1, hq1⟩
    go_wp2
    go_end0
    exact ⟨rfl, hP1, hb1⟩

/-- How many bytes a frame has. -/
noncomputable def sizeN (f : Fr) : Nat := if rtB f then (if f.kind = 3 then 23 else if f.kind = 4 then 26 + f.bytes.size else 17) else 0
set_option maxRecDepth 100000 in
set_option maxHeartbeats 4000000 in
theorem size_any (f : Fr) (w : World) (hb : f.bytes.size ≤ maxLen) : Calls Tryd.prog 14 #[.agg #[.int .i64 f.kind, .int .u8 f.src, .int .u8 f.dst, .int .u16 f.sinc, .int .u16 f.dinc, .int .u16 f.ec, .int .u8 f.ea, .int .u16 f.ei, .int .u16 f.hop, .int .u16 f.hc, .int .u8 f.ha, .int .u16 f.hi, .bool f.wants, .int .u8 f.blk, .int .u16 f.vinc, .int .u32 f.vseq, .int .u8 f.part, .int .u8 f.parts, .string f.bytes]] w fun e w' => e = .returned (.int .i64 (sizeN f : Int)) ∧ Below w.heap.size w w' := by
  have hb2 : f.bytes.size < 9223372036854775000 ∨ rtB f = false ∨ f.kind ≠ 4 := by
    by_cases h : rtB f = true
    · by_cases h4 : f.kind = 4
      · left
        have hR : Rt f := Classical.byContradiction fun hn => by rw [rtB_no hn] at h; cases h
        have := (hR.2.2.2.2.2.2.2 h4).2.2.2.2
        omega
      · exact .inr (.inr h4)
    · exact .inr (.inl (by simpa using h))
  have HB := Lib.hid hb
  have H2 := Lib.hid hb2
  clear hb hb2
  cases hr : rtB f
  · have e0 : sizeN f = 0 := by unfold sizeN; rw [hr]; rfl
    rw [e0]
    have HR := Lib.hid hr
    clear hr e0
    go_enter Tryd.func14, Tryd.ntmps14
    go_wp2_with fail
    refine (right_any f _ HB.out).mono ?_
    rintro e w1 ⟨rfl, hb1⟩
    rw [HR.out]
    go_wp2
    go_ret
    exact ⟨rfl, ((Below.refl _ _).alloc (Nat.le_refl _) _).trans (hb1.mono (by simp))⟩
  · have HR := Lib.hid hr
    have HS : Hid (sizeN f = if f.kind = 3 then 23 else if f.kind = 4 then 26 + f.bytes.size else 17) := Lib.hid (by unfold sizeN; rw [hr]; rfl)
    clear hr
    go_enter Tryd.func14, Tryd.ntmps14
    go_wp2_with fail
    refine (right_any f _ HB.out).mono ?_
    rintro e w1 ⟨rfl, hb1⟩
    rw [HR.out]
    have hrow := row_below hb1 (show RowOk _ w.heap.size by go_simp)
    have hq1 : rowArr w1 w.heap.size = #[.int .i64 f.kind, .int .u8 f.src, .int .u8 f.dst, .int .u16 f.sinc, .int .u16 f.dinc, .int .u16 f.ec, .int .u8 f.ea, .int .u16 f.ei, .int .u16 f.hop, .int .u16 f.hc, .int .u8 f.ha, .int .u16 f.hi, .bool f.wants, .int .u8 f.blk, .int .u16 f.vinc, .int .u32 f.vseq, .int .u8 f.part, .int .u8 f.parts, .string f.bytes] := hrow.2.trans (by go_simp)
    have c0 := cell_of hrow.1 hq1 0 _ rfl
    have c18 := cell_of hrow.1 hq1 18 _ rfl
    have HC := Lib.hid (((Below.refl _ _).alloc (Nat.le_refl _) _).trans (hb1.mono (by simp)))
    clear hb1 hrow hq1
    by_cases h3 : f.kind = 3
    · have d3 : (f.kind == 3) = true := by simp [h3]
      rw [if_pos h3] at HS
      clear h3
      go_wp2
      go_ret
      exact ⟨ret_int (by rw [HS.out]; rfl), HC.out⟩
    · have d3 : (f.kind == 3) = false := by simp [h3]
      rw [if_neg h3] at HS
      clear h3
      by_cases h4 : f.kind = 4
      · have d4 : (f.kind == 4) = true := by simp [h4]
        rw [if_pos h4] at HS
        have h5 : f.bytes.size < 9223372036854775000 := by
          rcases H2.out with h | h | h
          · exact h
          · rw [HR.out] at h; cases h
          · exact absurd h4 h
        have h6 : IntKind.i64.wrap (26 + (f.bytes.size : Int)) = 26 + (f.bytes.size : Int) := by rw [IntKind.wrap_i64]; omega
        clear h4 h5
        go_wp2
        go_ret
        exact ⟨ret_int (by rw [HS.out]; omega), HC.out⟩
      · have d4 : (f.kind == 4) = false := by simp [h4]
        rw [if_neg h4] at HS
        clear h4
        go_wp2
        go_ret
        exact ⟨ret_int (by rw [HS.out]; rfl), HC.out⟩

end Go.Proofs.YtindekpmicbbiaaDoor
