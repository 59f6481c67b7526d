/-
  What else of a store the layers above want: its calls at stores that are free, torn, without power; what reads in a region that draws. Conditions: none but on sizes.
-/
import Derived.Test.YtahmngmbgbcmhaaDoorStRead
namespace Go.Proofs.YtahmngmbgbcmhaaDoor.Sto
open Go.RowKit

theorem write_free (p g cap : Nat) (l : List UInt8) (n k : Nat) (s : ByteArray) (w : World) (hx : CodeAt w p g cap ⟨l, true, none, n⟩) (hk : k + s.size ≤ l.length) (hk2 : k ≤ 1000) (hn : n ≤ 1000000) :
    Calls Tryd.prog 40 #[.pointer (some ⟨p, 0, none⟩), .int .i64 (k : Int), .string s] w fun e w' => e = .returned (.int .i64 0) ∧ CodeAt w' p g cap ⟨lay l k s.data.toList, true, none, n + s.size⟩ ∧ Only p g w w' :=
  (write_any p g cap ⟨l, true, none, n⟩ k s w hx (by omega) (by omega) (by show n ≤ _; omega) (by intro k hk; injection hk)).mono fun _ _ ⟨he, hx, ho⟩ => by
    have ht : there l (k : Int) (s.data.toList.length : Int) = true := by rw [size_list]; exact there_of (by omega) (by omega) (by omega)
    obtain ⟨e1, e2⟩ := wrote_free (n := n) ht
    rw [e1] at he
    rw [e2, size_list] at hx
    exact ⟨he, hx, ho⟩

theorem read_all (p g cap : Nat) (x : St) (n : Nat) (w : World) (hx : CodeAt w p g cap x) (hn : x.l.length = n) :
    Calls Tryd.prog 31 #[.pointer (some ⟨p, 0, none⟩), .int .i64 0, .int .i64 (n : Int)] w fun e w' => e = .returned (.tuple #[.string (S x.l), .bool true]) ∧ w = w' :=
  (read_any p g cap x 0 n w hx (by omega) (by omega)).mono fun _ _ ⟨he, hw⟩ => by
    have ht : there x.l 0 (n : Int) = true := there_of (by omega) (by omega) (by omega)
    have hg : got x.l 0 (n : Int) = S x.l := by
      unfold got
      rw [if_pos ht]
      congr 1
      rw [show (0 : Int).toNat = 0 from rfl, List.drop_zero, Int.toNat_natCast]
      exact List.take_of_length_le (by omega)
    rw [ht, hg] at he
    exact ⟨he, hw⟩

theorem below_drewN {B : Nat} {a w : World} (h : Below B a w) (n : Nat) : Below B a (w.drewN n) := ⟨h.os, h.tape, h.output, h.size, h.block⟩

/-- A cut of a text, told of its bytes. -/
theorem cut_of {L : List UInt8} {a : Nat} {s : ByteArray} (h : (L.drop a).take s.size = s.data.toList) : (S L).extract a (a + s.size) = s := by
  apply ByteArray.ext
  apply Array.ext'
  rw [← h]
  simp [S]

theorem write_gone (p g cap : Nat) (l : List UInt8) (n k : Nat) (s : ByteArray) (w : World) (hx : CodeAt w p g cap ⟨l, false, none, n⟩) (hk : k + s.size ≤ l.length) (hk2 : k ≤ 1000) (hn : n ≤ 1000000) :
    Calls Tryd.prog 40 #[.pointer (some ⟨p, 0, none⟩), .int .i64 (k : Int), .string s] w fun e w' => e = .returned (.int .i64 12) ∧ CodeAt w' p g cap ⟨l, false, none, n⟩ ∧ Only p g w w' :=
  (write_any p g cap ⟨l, false, none, n⟩ k s w hx (by omega) (by omega) (by show n ≤ _; omega) (by intro k hk; injection hk)).mono fun _ _ ⟨he, hx, ho⟩ => by
    have ht : there l (k : Int) (s.data.toList.length : Int) = true := by rw [size_list]; exact there_of (by omega) (by omega) (by omega)
    obtain ⟨e1, e2⟩ := wrote_down (arm := none) (n := n) ht
    rw [e1] at he
    rw [e2] at hx
    exact ⟨he, hx, ho⟩

theorem write_torn (p g cap : Nat) (l : List UInt8) (n j k : Nat) (s : ByteArray) (w : World) (hx : CodeAt w p g cap ⟨l, true, some j, n⟩) (hk : k + s.size ≤ l.length) (hk2 : k ≤ 1000) (hn : n ≤ 1000000) (hj : j < s.size) (hj2 : j ≤ 1000) :
    Calls Tryd.prog 40 #[.pointer (some ⟨p, 0, none⟩), .int .i64 (k : Int), .string s] w fun e w' => e = .returned (.int .i64 12) ∧ CodeAt w' p g cap ⟨lay l k (s.data.toList.take j), false, none, n + j⟩ ∧ Only p g w w' :=
  (write_any p g cap ⟨l, true, some j, n⟩ k s w hx (by omega) (by omega) (by show n ≤ _; omega) (by intro k hk; injection hk with hk; omega)).mono fun _ _ ⟨he, hx, ho⟩ => by
    have ht : there l (k : Int) (s.data.toList.length : Int) = true := by rw [size_list]; exact there_of (by omega) (by omega) (by omega)
    obtain ⟨e1, e2⟩ := wrote_torn (n := n) (j := j) ht (by rw [size_list]; exact hj)
    rw [e1] at he
    rw [e2] at hx
    exact ⟨he, hx, ho⟩

theorem write_full (p g cap : Nat) (l : List UInt8) (n j k : Nat) (s : ByteArray) (w : World) (hx : CodeAt w p g cap ⟨l, true, some j, n⟩) (hk : k + s.size ≤ l.length) (hk2 : k ≤ 1000) (hn : n ≤ 1000000) (hj : s.size ≤ j) (hj2 : j ≤ 1000) :
    Calls Tryd.prog 40 #[.pointer (some ⟨p, 0, none⟩), .int .i64 (k : Int), .string s] w fun e w' => e = .returned (.int .i64 0) ∧ CodeAt w' p g cap ⟨lay l k s.data.toList, true, some (j - s.size), n + s.size⟩ ∧ Only p g w w' :=
  (write_any p g cap ⟨l, true, some j, n⟩ k s w hx (by omega) (by omega) (by show n ≤ _; omega) (by intro k hk; injection hk with hk; omega)).mono fun _ _ ⟨he, hx, ho⟩ => by
    have ht : there l (k : Int) (s.data.toList.length : Int) = true := by rw [size_list]; exact there_of (by omega) (by omega) (by omega)
    obtain ⟨e1, e2⟩ := wrote_full (n := n) (j := j) ht (by rw [size_list]; omega)
    rw [e1] at he
    rw [e2, size_list] at hx
    exact ⟨he, hx, ho⟩

/-- Bytes laid over a text, told as Go tells it. -/
theorem lay_text (b s : ByteArray) (a k : Nat) (hk : k ≤ s.size) : b.extract 0 a ++ s.extract 0 k ++ b.extract (a + k) b.size = S (lay b.data.toList a (s.data.toList.take k)) := by
  apply ByteArray.ext
  apply Array.ext'
  have h1 : (s.data.toList.take k).length = k := by rw [List.length_take, size_list]; omega
  have h2 : b.data.toList.length = b.size := size_list b
  simp [S, lay]
  rw [Nat.min_eq_left hk, List.take_of_length_le (by rw [List.length_drop, h2]; exact Nat.le_refl _)]

theorem ext_full (s : ByteArray) : s.extract 0 s.size = s := by simp

theorem power_q (p g cap : Nat) (x : St) (w : World) (n : Nat) (hx : CodeAt w p g cap x) :
    Calls Tryd.prog 23 #[.pointer (some ⟨p, 0, none⟩)] (w.drewN n) fun e w' => e = .returned (.bool x.up) ∧ w' = w.drewN n :=
  (power_any p g cap x _ (hx.drewN n)).mono fun _ _ ⟨h1, h2⟩ => ⟨h1, h2.symm⟩

theorem len_q (p g cap : Nat) (x : St) (w : World) (n : Nat) (hx : CodeAt w p g cap x) :
    Calls Tryd.prog 32 #[.pointer (some ⟨p, 0, none⟩)] (w.drewN n) fun e w' => e = .returned (.int .i64 x.l.length) ∧ w' = w.drewN n :=
  (len_any p g cap x _ (hx.drewN n)).mono fun _ _ ⟨h1, h2⟩ => ⟨h1, h2.symm⟩

end Go.Proofs.YtahmngmbgbcmhaaDoor.Sto
