/-
  The law IecBytes, walked: it returns true. Conditions: that the calls answer as is asked.
-/
import Derived.Test.YtkjijeogkemgoaaIcDoesW
import Derived.Test.YtkjijeogkemgoaaIcKinds
import Derived.Deep.RegionHeld3
namespace Go.Proofs.Ytkjijeogkemgoaa.Ic
open Go.RowKit
open Oct

/-- Two numbers, and a text's bytes, in blocks of the law's own. -/
structure Bx (B : Base) (N : Nat) (w0 w : World) (a b : Int) (g : Nat) (l : List UInt8) : Prop where
  box : Box2 B N w0 w a b
  row : Row w g l
  gt : N < g
  lt : g < w.heap.size
theorem Bx.next {B : Base} {N g : Nat} {w0 w w' : World} {a b : Int} {l : List UInt8} (h : Bx B N w0 w a b g l) (hb : Below w.heap.size w w') : Bx B N w0 w' a b g l :=
  ⟨h.box.next hb, h.row.kept hb, h.gt, Nat.lt_of_lt_of_le h.lt hb.size⟩
theorem Bx.drew {B : Base} {N g : Nat} {w0 w : World} {a b : Int} {l : List UInt8} (h : Bx B N w0 w a b g l) : Bx B N w0 w.drew a b g l := h.next (Below.refl _ _).drew
theorem Box2.bytes {B : Base} {N : Nat} {w0 w : World} {a b : Int} (h : Box2 B N w0 w a b) (s : ByteArray) : Bx B N w0 (Lib.bytesWorld w 5 s) a b w.heap.size s.data.toList :=
  ⟨h.next (bytesWorld_below w s), bytesWorld_row w s, World.block_lt_of_cell? w ⟨N, 0, none⟩ h.c0, by rw [Lib.bytesWorld_size]; omega⟩
theorem Bx.put {B : Base} {N g : Nat} {w0 w w' : World} {a b : Int} {l m : List UInt8} (h : Bx B N w0 w a b g l) (hr : Row w' g m) (ho : Only1 g w w') : Bx B N w0 w' a b g m := by
  have hb : w'.heap[N]? = w.heap[N]? := ho.block N (Nat.lt_trans h.gt h.lt) (fun e => by have := h.gt; omega)
  refine ⟨⟨h.box.cur.one ho (Nat.le_of_lt h.gt), (World.cell?_of_block (a := ⟨N, 0, none⟩) hb).trans h.box.c0, (World.cell?_of_block (a := ⟨N, 1, none⟩) hb).trans h.box.c1⟩, hr, h.gt, Nat.lt_of_lt_of_le h.lt ho.size⟩
theorem bxS {B : Base} {N g : Nat} {w0 w : World} {a b : Int} {l : List UInt8} {n c : Nat} (hn : n = l.length) (h : Bx B N w0 w a b g l) :
    w.cell? ⟨N, 0, none⟩ = some (.int .i64 a) ∧ w.cell? ⟨N, 1, none⟩ = some (.int .i64 b) ∧ (convert 42 9 (.slice (some ⟨g, 0, none⟩) n c)).run Try.prog w = .ok (.string (S l)) w ∧ Bx B N w0 w a b g l := by
  subst hn
  exact ⟨h.box.c0, h.box.c1, conv_row h.row c, h⟩
theorem put_len (l : List UInt8) (at_ k v : Int) : (putR l at_ k v).length = l.length := by
  unfold putR
  split
  · next h =>
    obtain ⟨a, rfl, h1, -⟩ := there_pos h
    rw [Int.toNat_natCast]
    exact put_length l a k v h1
  · rfl

set_option maxRecDepth 100000 in
set_option maxHeartbeats 8000000 in
theorem bytes_walk {B : Base} (C : Code B) (s : ByteArray) (a0 a1 v : Int) (w : World) (hE : B.E w.heap.size w) (h0 : I64 a0) (h1 : I64 a1) (hv : I64 v) :
    Calls Try.prog 5 #[.string s, .agg #[.int .i64 a0, .int .i64 a1], .int .i64 v] w (Tells (.bool true) w) := by
  have CC := Lib.hid C
  have H0 := Lib.hid h0
  have H1 := Lib.hid h1
  have HV := Lib.hid hv
  have HC := Lib.hid (show Box2 B w.heap.size w (w.alloc (.cells #[.int .i64 a0, .int .i64 a1] 38)) a0 a1 from by
    have h := cell_two_new w (.int .i64 a0) (.int .i64 a1) 38
    exact ⟨(Cur.first hE).alloc _, h 0 _ rfl, h 1 _ rfl⟩)
  clear C hE h0 h1 hv
  obtain ⟨N, hN⟩ : ∃ N, w.heap.size = N := ⟨_, rfl⟩
  unfold Tells
  rw [hN] at HC ⊢
  by_cases hs : s.size ≤ 100
  · have hs2 : ¬ (100 : Int) < s.size := by omega
    have hl : s.data.toList.length = s.size := Array.length_toList
    go_enter Try.func5, Try.ntmps5
    go_wp2_with fail
    refine (awake_any CC.out _ HC.out.cur).mono ?_
    rintro e w1 ⟨rfl, hb1⟩
    have HC1 := Lib.hid (HC.out.next hb1)
    have c0 := HC1.out.c0
    have c1 := HC1.out.c1
    clear hb1 HC
    go_wp2_with fail
    refine (rThere_any s.size a0 a1 _ (by omega) H0.out.1 H0.out.2).mono ?_
    rintro e w2 ⟨rfl, hb2⟩
    have HC2 := Lib.hid (HC1.out.next hb2)
    clear hb2 HC1 c0 c1
    have c0 := HC2.out.c0
    have c1 := HC2.out.c1
    go_wp2_with fail
    refine (CC.out.get N s a0 a1 _ HC2.out.cur.e HC2.out.cur.size (by omega) H0.out H1.out).mono ?_
    rintro e w3 ⟨rfl, hb3⟩
    have HC3 := Lib.hid (HC2.out.next hb3)
    clear hb3 HC2 c0 c1
    have hcv := Lib.run_convert_string_bytes (P := Try.prog) w3 9 42 5 s Try.underlying9 Try.underlying42 Try.underlying5
    have HX3 := Lib.hid (HC3.out.bytes s)
    have HCap := Lib.hid (⟨grownCap_ge w3 s.size 0 5, grownCap_le_maxLen w3 s.size 0 5 (by unfold maxLen; omega)⟩ : _ ∧ _)
    have HG3 := Lib.hid (Nat.lt_of_lt_of_le (Nat.lt_succ_self _) (Nat.le_of_eq (Lib.bytesWorld_size w3 5 s).symm))
    generalize Lib.bytesWorld w3 5 s = W3 at *
    generalize grownCap w3 s.size 0 5 = cap at *
    have c0 := HX3.out.box.c0
    have c1 := HX3.out.box.c1
    go_wp2_with fail
    rw [← hl]
    refine (CC.out.put N w3.heap.size cap s.data.toList a0 a1 v W3 HX3.out.box.cur.e HX3.out.box.cur.size (Nat.le_of_lt HX3.out.gt) HX3.out.lt HX3.out.row (by omega) (by rw [hl]; exact HCap.out.1) HCap.out.2 H0.out H1.out HV.out).mono ?_
    rintro e w4 ⟨rfl, hr4, ho4⟩
    have HX4 := Lib.hid (HX3.out.put hr4 ho4)
    have HPL := Lib.hid (put_len s.data.toList a0 a1 v)
    clear hr4 ho4 HX3 hcv c0 c1 HG3
    generalize w3.heap.size = g at *
    rw [hl]
    by_cases ht : thereI s.size a0 a1 = true
    · obtain ⟨a, rfl, ha, hz⟩ := there_pos ht
      have hg : gotR s a a1 = getI s a a1 := by unfold gotR; rw [if_pos ht, Int.toNat_natCast]
      have hp : putR s.data.toList a a1 v = putL s.data.toList a a1 v := by unfold putR; rw [hl, if_pos ht, Int.toNat_natCast]
      rw [hp] at HX4 HPL
      rw [ht, hg]
      have HRG := Lib.hid (fun W => rGet_any s a a1 W (by omega) ha)
      have HRP := Lib.hid (fun W => rPut_any s a a1 v W (by omega) hz ha HV.out.1 HV.out.2)
      have hS := bxS (n := s.size) (c := cap) (by rw [HPL.out, hl]) HX4.out
      have c0 := hS.1
      have c1 := hS.2.1
      have cv := hS.2.2.1
      have hx := hS.2.2.2
      have HNl := Lib.hid (show s.size = (putL s.data.toList a a1 v).length by rw [HPL.out, hl])
      clear hS HX4 hg hp ht ha hz HPL
      generalize getI s a a1 = gv at *
      generalize putL s.data.toList a a1 v = m at *
      have hq : ((S m).toList == (S m).toList) = true := by simp
      go_wp2_with fail
      go_region_held3 (fun W' => W'.cell? ⟨N, 0, none⟩ = some (.int .i64 (a : Int)) ∧ W'.cell? ⟨N, 1, none⟩ = some (.int .i64 a1) ∧ (convert 42 9 (.slice (some ⟨g, 0, none⟩) s.size cap)).run Try.prog W' = .ok (.string (S m)) W' ∧ Bx B N w W' a a1 g m)
        (first | exact bxS HNl.out ‹Bx B N w _ a a1 g m› | exact bxS HNl.out (Bx.drew ‹Bx B N w _ a a1 g m›))
        (first
          | (go_at_call 28; have hS := ‹_ ∧ _ ∧ _ ∧ Bx _ _ _ _ _ _ _ _›; (with_reducible refine (HRG.out _).mono ?_); rintro e w5 ⟨rfl, hb5⟩; have hx5 := hS.2.2.2.next hb5; have hT := bxS (n := s.size) (c := cap) HNl.out hx5; have y0 := hT.1; have y1 := hT.2.1; have y2 := hT.2.2.1; clear hT)
          | (go_at_call 29; have hS := ‹_ ∧ _ ∧ _ ∧ Bx _ _ _ _ _ _ _ _›; (with_reducible refine (HRP.out _).mono ?_); rintro e w5 ⟨rfl, hb5⟩; have hx5 := hS.2.2.2.next hb5; have hT := bxS (n := s.size) (c := cap) HNl.out hx5; have y0 := hT.1; have y1 := hT.2.1; have y2 := hT.2.2.1; clear hT))
      all_goals
        have hbl := Lib.hid hx5.box.cur.below
        clear hx5 hS hb5 c0 c1 cv hx y0 y1 y2
        go_wp2
        go_ret
        exact ⟨rfl, hbl.out⟩
    · replace ht : thereI s.size a0 a1 = false := by simpa using ht
      have hg : gotR s a0 a1 = 0 := by unfold gotR; rw [if_neg (by simp [ht])]
      have hp : putR s.data.toList a0 a1 v = s.data.toList := by unfold putR; rw [hl, if_neg (by simp [ht])]
      rw [hp] at HX4
      rw [ht, hg]
      have hS := bxS (n := s.size) (c := cap) hl.symm HX4.out
      rw [S_of] at hS
      have cv := hS.2.2.1
      clear hS hg hp ht HPL
      have hq : (s.toList == s.toList) = true := by simp
      go_wp2
      go_ret
      exact ⟨rfl, HX4.out.box.cur.below⟩
  · have hs2 : (100 : Int) < s.size := by omega
    go_enter Try.func5, Try.ntmps5
    go_wp2_with fail
    refine (awake_any CC.out _ HC.out.cur).mono ?_
    rintro e w1 ⟨rfl, hb1⟩
    have HC1 := Lib.hid (HC.out.next hb1)
    clear hb1 HC
    go_wp2
    go_ret
    exact ⟨rfl, HC1.out.cur.below⟩

end Go.Proofs.Ytkjijeogkemgoaa.Ic
