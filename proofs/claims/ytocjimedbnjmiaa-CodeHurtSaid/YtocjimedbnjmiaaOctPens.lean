/-
  The calls of a pen, walked: behind each the pen holds what it held and the bytes of what is written. Conditions: fewer than a million bytes.
-/
import Derived.Test.YtocjimedbnjmiaaOctPen
import Derived.Laws.BytesArg
import Derived.Lib.Strings
namespace Go.Proofs.Ytocjimedbnjmiaa
open Go.RowKit
open Oct

theorem strCells_vals (s : ByteArray) : Lib.strCells s = vals s.data.toList := rfl
theorem size_list (s : ByteArray) : s.data.toList.length = s.size := Array.length_toList

/-- A row just laid holds what was laid. -/
theorem laid_cells (w : World) (cs : Array Value) (news : List UInt8) (h : cs = (vals news).toArray) :
    ∀ j u, (vals news)[j]? = some u → (w.alloc (.cells cs 5)).cell? ((⟨w.heap.size, 0, none⟩ : Addr).add j) = some u := by
  intro j u hu
  have hadd : (⟨w.heap.size, 0, none⟩ : Addr).add j = ⟨w.heap.size, j, none⟩ := by unfold Addr.add; split <;> simp_all
  rw [hadd, cell_of_row _ _ j cs 5 (0, 0) (heap_alloc_new w _), h]
  simpa using hu

theorem byte_val (m : Nat) : vals (be m 1) = [.int .u8 ((m % 256 : Nat) : Int)] := by
  simp [vals, be]

set_option maxHeartbeats 800000 in
theorem byte_any (N p : Nat) (l : List UInt8) (n : Int) (m : Nat) (hn : n = ((m % 256 : Nat) : Int)) (w : World) (hp : PenAt N w p l) (hN : N ≤ w.heap.size) (hl : l.length ≤ 900000) :
    Calls Try.prog 32 #[.pointer (some ⟨p, 0, none⟩), .int .u8 n] w fun e w' => e = .returned (.pointer (some ⟨p, 0, none⟩)) ∧ PenAt N w' p (l ++ be m 1) ∧ Below N w w' ∧ Beside w w' p := by
  have HN := Lib.hid hn; clear hn
  have hb : Below w.heap.size w (w.alloc (.cells #[.int .u8 n] 5)) := (Below.refl _ _).alloc (Nat.le_refl _) _
  have hp1 := hp.below hb
  have hb1 := hb.mono hN
  have hq1 := Beside.of_below (p := p) hb
  have HB := Lib.hid (laid_cells w #[.int .u8 n] (be m 1) (by rw [byte_val, HN.out]))
  clear hb
  go_enter Try.func32, Try.ntmps32
  go_wp2_with fail
  refine (put_any N p w.heap.size 1 l (be m 1) _ hp1 (by simp; omega) (be_length _ _) (by omega) (by omega) HB.out).mono ?_
  rintro e w1 ⟨rfl, hp2, hb2, hq2⟩
  have hq := hq1.trans hq2
  have hb := hb1.trans hb2
  clear hb1 hb2 hq1 hq2
  go_wp2
  go_ret
  exact ⟨rfl, hp2, hb, hq⟩

theorem two_val (k : Nat) (hk : k < 65536) : vals (be k 2) = [.int .u8 ((k : Int) / 256), .int .u8 ((k : Int) % 256)] := by
  simp [vals, be]; omega

theorem four_val (k : Nat) (hk : (k : Int) ≤ 4294967295) : vals (be k 4) = [.int .u8 ((k : Int) / 16777216), .int .u8 ((k : Int) / 65536 % 256), .int .u8 ((k : Int) / 256 % 256), .int .u8 ((k : Int) % 256)] := by
  simp [vals, be]; omega

set_option maxHeartbeats 800000 in
theorem four_any (N p : Nat) (l : List UInt8) (k : Nat) (hk : (k : Int) ≤ 4294967295) (w : World) (hp : PenAt N w p l) (hN : N ≤ w.heap.size) (hl : l.length ≤ 900000) :
    Calls Try.prog 51 #[.pointer (some ⟨p, 0, none⟩), .int .u32 (k : Int)] w fun e w' => e = .returned (.pointer (some ⟨p, 0, none⟩)) ∧ PenAt N w' p (l ++ be k 4) ∧ Below N w w' ∧ Beside w w' p := by
  have hb := fun cs => (Below.refl w.heap.size w).alloc (Nat.le_refl _) (.cells cs 5)
  go_enter Try.func51, Try.ntmps51
  go_wp2_with fail
  refine (put_any N p w.heap.size 4 l (be k 4) _ (hp.below (hb _)) (by simp; omega) (be_length _ _) (by omega) (by omega) (laid_cells w _ (be k 4) (by rw [four_val k hk]))).mono ?_
  rintro e w1 ⟨rfl, hp2, hb2, hq2⟩
  have hb3 := ((hb _).mono hN).trans hb2
  have hq3 := (Beside.of_below (p := p) (hb _)).trans hq2
  clear hb hb2 hq2
  go_wp2
  go_ret
  exact ⟨rfl, hp2, hb3, hq3⟩

set_option maxHeartbeats 800000 in
theorem newpen_any (N : Nat) (w : World) (hN : N ≤ w.heap.size) :
    Calls Try.prog 31 #[] w fun e w' => e = .returned (.pointer (some ⟨w.heap.size, 0, none⟩)) ∧ PenAt N w' w.heap.size [] ∧ Below w.heap.size w w' := by
  go_enter Try.func31, Try.ntmps31
  go_wp2
  go_ret
  refine ⟨rfl, ⟨.slice none 0 0, hN, by simp [go_sem], by simp [go_sem], .inl ⟨rfl, rfl⟩⟩, (Below.refl _ _).alloc (Nat.le_refl _) _⟩


theorem strOfNums_S (l : List UInt8) : strOfNums (l.map fun c => (c.toNat : Int)) = S l := by
  unfold strOfNums S
  rw [List.map_map]
  congr 2
  have : ((fun n : Int => UInt8.ofNat n.toNat) ∘ fun c : UInt8 => (c.toNat : Int)) = id := by
    funext c; simp
  rw [this, List.map_id]

set_option maxHeartbeats 800000 in
theorem pstr_any (N p : Nat) (l : List UInt8) (w : World) (hp : PenAt N w p l) :
    Calls Try.prog 34 #[.pointer (some ⟨p, 0, none⟩)] w fun e w' => e = .returned (.string (S l)) ∧ w = w' := by
  obtain ⟨v, hNp, hc, hf, hv⟩ := hp
  rcases hv with ⟨rfl, rfl⟩ | ⟨g, cap, h1, rfl, hne, hown⟩
  · have hk0 := run_convert_bytes_nil (P := Try.prog) w 56 5 Try.underlying56 Try.underlying5 0 0 9 Try.underlying9
    go_enter Try.func34, Try.ntmps34
    go_wp2
    go_ret
    exact ⟨rfl, rfl⟩
  · have hks := run_convert_bytes_arg (P := Try.prog) w 56 5 Try.underlying56 Try.underlying5 g 0 l.length cap (l.map fun c => (c.toNat : Int)) (by rw [List.length_map]) (fun i hi => by
      rw [Nat.zero_add, hown.cellAt i (by omega)]
      simp [vals, List.getD_eq_getElem?_getD, hi]) 9 Try.underlying9
    rw [strOfNums_S] at hks
    clear hown
    go_enter Try.func34, Try.ntmps34
    go_wp2
    go_ret
    exact ⟨rfl, rfl⟩

end Go.Proofs.Ytocjimedbnjmiaa
