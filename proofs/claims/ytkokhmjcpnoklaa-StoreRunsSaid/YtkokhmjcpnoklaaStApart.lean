/-
  The law StoreApart, walked: it returns true. Conditions: none but on sizes.
-/
import Derived.Test.YtkokhmjcpnoklaaStAwake
namespace Go.Proofs.Ytkokhmjcpnoklaa.Sto
open Go.RowKit

theorem write_free (p g cap : Nat) (l : List UInt8) (n k : Nat) (s : ByteArray) (w : World) (hx : CodeAt w p g cap ⟨l, true, none, n⟩) (hk : k + s.size ≤ l.length) (hk2 : k ≤ 1000) (hn : n ≤ 1000000) :
    Calls Try.prog 15 #[.pointer (some ⟨p, 0, none⟩), .int .i64 (k : Int), .string s] w fun e w' => e = .returned (.int .i64 0) ∧ CodeAt w' p g cap ⟨lay l k s.data.toList, true, none, n + s.size⟩ ∧ Only p g w w' :=
  (write_any p g cap ⟨l, true, none, n⟩ k s w hx (by omega) (by omega) (by show n ≤ _; omega) (by intro k hk; injection hk)).mono fun _ _ ⟨he, hx, ho⟩ => by
    have ht : there l (k : Int) (s.data.toList.length : Int) = true := by rw [size_list]; exact there_of (by omega) (by omega) (by omega)
    obtain ⟨e1, e2⟩ := wrote_free (n := n) ht
    rw [e1] at he
    rw [e2, size_list] at hx
    exact ⟨he, hx, ho⟩

theorem read_all (p g cap : Nat) (x : St) (n : Nat) (w : World) (hx : CodeAt w p g cap x) (hn : x.l.length = n) :
    Calls Try.prog 12 #[.pointer (some ⟨p, 0, none⟩), .int .i64 0, .int .i64 (n : Int)] w fun e w' => e = .returned (.tuple #[.string (S x.l), .bool true]) ∧ w = w' :=
  (read_any p g cap x 0 n w hx (by omega) (by omega)).mono fun _ _ ⟨he, hw⟩ => by
    have ht : there x.l 0 (n : Int) = true := there_of (by omega) (by omega) (by omega)
    have hg : got x.l 0 (n : Int) = S x.l := by
      unfold got
      rw [if_pos ht]
      congr 1
      rw [show (0 : Int).toNat = 0 from rfl, List.drop_zero, Int.toNat_natCast]
      exact List.take_of_length_le (by omega)
    rw [ht, hg] at he
    exact ⟨he, hw⟩

/-- The two numbers that the law boxes, behind a call that makes memory. -/
theorem pair_below {w w1 : World} {x y : Int} (hb : Below (w.alloc (.cells #[.int .u8 x, .int .u8 y] 40)).heap.size (w.alloc (.cells #[.int .u8 x, .int .u8 y] 40)) w1) :
    w1.cell? ⟨w.heap.size, 0, none⟩ = some (.int .u8 x) ∧ w1.cell? ⟨w.heap.size, 1, none⟩ = some (.int .u8 y) := by
  have h : ∀ j v, #[Value.int .u8 x, .int .u8 y][j]? = some v → (w.alloc (.cells #[.int .u8 x, .int .u8 y] 40)).cell? ⟨w.heap.size, j, none⟩ = some v := by
    intro j v hv
    rw [cell_of_row _ _ j _ 40 (0, 0) (heap_alloc_new w _)]
    exact hv
  exact ⟨(hb.cell (p := ⟨w.heap.size, 0, none⟩) (by simp)).trans (h 0 _ rfl), (hb.cell (p := ⟨w.heap.size, 1, none⟩) (by simp)).trans (h 1 _ rfl)⟩

theorem below_drewN {B : Nat} {a w : World} (h : Below B a w) (n : Nat) : Below B a (w.drewN n) := ⟨h.os, h.tape, h.output, h.size, h.block⟩

/-- A cut of a text, told of its bytes. -/
theorem cut_of {L : List UInt8} {a : Nat} {s : ByteArray} (h : (L.drop a).take s.size = s.data.toList) : (S L).extract a (a + s.size) = s := by
  apply ByteArray.ext
  apply Array.ext'
  rw [← h]
  simp [S]

set_option maxRecDepth 100000 in
set_option maxHeartbeats 4000000 in
theorem apart_walk (s t : ByteArray) (x y : Int) (w : World) (hs : s.size ≤ maxLen) (ht : t.size ≤ maxLen) (hx0 : 0 ≤ x) (hx1 : x ≤ 255) (hy0 : 0 ≤ y) (hy1 : y ≤ 255) :
    Calls Try.prog 5 #[.string s, .string t, .agg #[.int .u8 x, .int .u8 y]] w fun e w' => e = .returned (.bool true) ∧ Below w.heap.size w w' := by
  unfold maxLen at hs ht
  have hb0 := (Below.refl w.heap.size w).alloc (Nat.le_refl _) (.cells #[.int .u8 x, .int .u8 y] 40)
  by_cases h1 : s.size ≤ 50
  · by_cases h2 : t.size ≤ 50
    · go_enter Try.func5, Try.ntmps5
      go_wp2_with fail
      refine (awake_any _).mono ?_
      rintro e w1 ⟨rfl, hb1⟩
      go_wp2_with fail
      obtain ⟨g0, g1⟩ := pair_below (w := w) (x := x) (y := y) hb1
      have hb := hb0.trans (hb1.mono (by simp))
      clear hb0 hb1
      go_quiet (fail)
      go_wp2_with fail
      have ha0 : 0 ≤ x % 50 := by omega
      have ha1 : x % 50 < 50 := by omega
      have hc0 : 100 ≤ 100 + y % 50 := by omega
      have hc1 : 100 + y % 50 < 150 := by omega
      have hb := below_drewN hb nq
      generalize x % 50 = A at *
      generalize 100 + y % 50 = B at *
      obtain ⟨a, rfl⟩ := Int.eq_ofNat_of_zero_le ha0
      obtain ⟨b, rfl⟩ := Int.eq_ofNat_of_zero_le (show 0 ≤ B by omega)
      clear g0 g1 hx0 hx1 hy0 hy1
      generalize w1.drewN nq = w2 at *
      refine (new_any 200 200 (by decide) _).mono ?_
      rintro e w3 ⟨p, g, cap, rfl, hx3, hp, hg, hb3⟩
      have hbp := hb.trans (hb3.mono hb.size)
      have hp1 : w.heap.size ≤ p := Nat.le_trans hb.size hp
      have hg1 : w.heap.size ≤ g := Nat.le_trans hb.size hg
      go_wp2_with fail
      refine (new_any 200 200 (by decide) _).mono ?_
      rintro e w4 ⟨q, h, cap2, rfl, hy4, hq, hh, hb4⟩
      have hx4 := hx3.below hb4 hx3.plt hx3.glt
      have hpq : p < q := Nat.lt_of_lt_of_le hx3.plt hq
      have hph : p < h := Nat.lt_of_lt_of_le hx3.plt hh
      have hgq : g < q := Nat.lt_of_lt_of_le hx3.glt hq
      have hgh : g < h := Nat.lt_of_lt_of_le hx3.glt hh
      have hb4' := hbp.trans (hb4.mono hbp.size)
      clear hb3 hb4 hbp hx3 hb
      go_wp2_with fail
      refine (write_free p g cap _ _ a s _ hx4 (by rw [zeros_length]; omega) (by omega) (by omega)).mono ?_
      rintro e w5 ⟨rfl, hx5, ho5⟩
      have hy5 := hy4.only ho5 (by omega) (by omega) (by omega) (by omega)
      have hb5 := hb4'.trans (ho5.below hp1 hg1 hb4'.size)
      clear ho5 hb4' hx4 hy4
      go_wp2_with fail
      refine (write_free p g cap _ _ b t _ hx5 (by rw [lay_length (by rw [zeros_length, size_list]; omega), zeros_length]; omega) (by omega) (by omega)).mono ?_
      rintro e w6 ⟨rfl, hx6, ho6⟩
      have hy6 := hy5.only ho6 (by omega) (by omega) (by omega) (by omega)
      have hb6 := hb5.trans (ho6.below hp1 hg1 hb5.size)
      clear ho6 hb5 hx5 hy5
      go_wp2_with fail
      refine (write_free q h cap2 _ _ b t _ hy6 (by rw [zeros_length]; omega) (by omega) (by omega)).mono ?_
      rintro e w7 ⟨rfl, hy7, ho7⟩
      have hx7 := hx6.only ho7 (by omega) (by omega) (by omega) (by omega)
      have hb7 := hb6.trans (ho7.below (by omega) (by omega) hb6.size)
      clear ho7 hb6 hx6 hy6
      go_wp2_with fail
      refine (write_free q h cap2 _ _ a s _ hy7 (by rw [lay_length (by rw [zeros_length, size_list]; omega), zeros_length]; omega) (by omega) (by omega)).mono ?_
      rintro e w8 ⟨rfl, hy8, ho8⟩
      have hx8 := hx7.only ho8 (by omega) (by omega) (by omega) (by omega)
      have hb8 := hb7.trans (ho8.below (by omega) (by omega) hb7.size)
      clear ho8 hb7 hx7 hy7
      rw [← lay_comm (l := zeros 200) (a := a) (b := b) (s := s.data.toList) (t := t.data.toList) (by rw [size_list]; omega) (by rw [size_list, zeros_length]; omega)] at hy8
      have hlen : (lay (lay (zeros 200) a s.data.toList) b t.data.toList).length = 200 := by
        rw [lay_length (by rw [lay_length (by rw [zeros_length, size_list]; omega), zeros_length, size_list]; omega), lay_length (by rw [zeros_length, size_list]; omega), zeros_length]
      have hgs := lay_got_other (l := zeros 200) (a := a) (b := b) (s := s.data.toList) (t := t.data.toList) (by rw [size_list]; omega) (by rw [size_list, zeros_length]; omega)
      have hgt := lay_got (l := lay (zeros 200) a s.data.toList) (a := b) (s := t.data.toList) (by rw [lay_length (by rw [zeros_length, size_list]; omega), zeros_length, size_list]; omega)
      rw [size_list] at hgs hgt
      generalize lay (lay (zeros 200) a s.data.toList) b t.data.toList = L at *
      have HL := Lib.hid hlen
      have hus := cut_of hgs
      have hut := cut_of hgt
      clear hgs hgt hlen
      have HUS := Lib.hid hus
      have HUT := Lib.hid hut
      clear hus hut
      go_wp2_with fail
      refine (read_all p g cap _ 200 _ hx8 HL.out).mono ?_
      rintro e w9 ⟨rfl, rfl⟩
      go_wp2_with fail
      refine (read_all q h cap2 _ 200 _ hy8 HL.out).mono ?_
      rintro e w9 ⟨rfl, rfl⟩
      have hus := HUS.out
      have hut := HUT.out
      have hul : (S L).size = 200 := by rw [S_size]; exact HL.out
      go_wp2_with fail
      refine (wroteN_any p g cap _ _ hx8).mono ?_
      rintro e w9 ⟨rfl, rfl⟩
      go_wp2_with fail
      go_ret
      exact ⟨rfl, hb8⟩
    · go_enter Try.func5, Try.ntmps5
      go_wp2_with fail
      refine (awake_any _).mono ?_
      rintro e w1 ⟨rfl, hb1⟩
      have hb := hb0.trans (hb1.mono (by simp))
      go_wp2_with fail
      go_ret
      exact ⟨rfl, hb⟩
  · go_enter Try.func5, Try.ntmps5
    go_wp2_with fail
    refine (awake_any _).mono ?_
    rintro e w1 ⟨rfl, hb1⟩
    have hb := hb0.trans (hb1.mono (by simp))
    go_wp2_with fail
    go_ret
    exact ⟨rfl, hb⟩

end Go.Proofs.Ytkokhmjcpnoklaa.Sto
