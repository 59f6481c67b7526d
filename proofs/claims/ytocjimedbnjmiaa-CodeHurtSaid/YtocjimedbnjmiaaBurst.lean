/-
  crc.Burst, walked: it returns the text with the bytes turned that the pattern reaches. Conditions: texts of at most 4000 bytes.
-/
import Derived.Test.YtocjimedbnjmiaaSeal
import Derived.Lib.ConvBytes
import Derived.RegionTactic
import Derived.ChangeAlike
namespace Go.Proofs.Ytocjimedbnjmiaa
open Go.RowKit
open Sums

/-- Block g holds just these bytes, from its beginning on, and they may be written. -/
def Row (w : World) (g : Nat) (l : List UInt8) : Prop :=
  ∀ i, i < l.length → w.cell? ⟨g, i, none⟩ = some (.int .u8 ((l.getD i 0).toNat : Int)) ∧ w.frozen? ⟨g, i, none⟩ = false

/-- Turned by the upper bytes of what is spread: k bytes of it. -/
def turn (l : List UInt8) (q : Nat) (sp : Nat) : Nat → List UInt8
  | 0 => l
  | k + 1 => (turn l q sp k).modify (q + k) (· ^^^ UInt8.ofNat (sp / 2 ^ (16 - 8 * k)))

theorem turn_length (l : List UInt8) (q sp k : Nat) : (turn l q sp k).length = l.length := by
  induction k with
  | zero => rfl
  | succ k ih => show (List.modify _ _ _).length = _; rw [List.length_modify, ih]

set_option maxHeartbeats 400000 in
theorem burst_out (s : ByteArray) (at_ p : Int) (w : World) (h : at_ < 0) :
    Calls Try.prog 16 #[.string s, .int .i64 at_, .int .u16 p] w fun e w' => e = .returned (.string s) ∧ Below w.heap.size w w' := by
  go_enter Try.func16, Try.ntmps16
  go_wp2
  go_ret
  exact ⟨rfl, Below.refl _ _⟩

set_option maxHeartbeats 400000 in
theorem burst_past (s : ByteArray) (a : Nat) (p : Int) (w : World) (h : 8 * s.size ≤ a) (ha : (a : Int) ≤ 9223372036854775807) :
    Calls Try.prog 16 #[.string s, .int .i64 a, .int .u16 p] w fun e w' => e = .returned (.string s) ∧ Below w.heap.size w w' := by
  go_enter Try.func16, Try.ntmps16
  go_wp2
  go_ret
  exact ⟨rfl, Below.refl _ _⟩

theorem Row.drew {w : World} {g : Nat} {l : List UInt8} (h : Row w g l) : Row w.drew g l := h

theorem Row.turned {w : World} {g : Nat} {l : List UInt8} (h : Row w g l) (i : Nat) (hi : i < l.length) (d : UInt8) :
    Row (w.setCell ⟨g, i, none⟩ (.int .u8 (((l.getD i 0) ^^^ d).toNat : Int))) g (l.modify i (· ^^^ d)) := by
  intro j hj
  rw [List.length_modify] at hj
  obtain ⟨hc, hz⟩ := h j hj
  refine ⟨?_, (World.frozen?_setCell _ _ _ _).trans hz⟩
  by_cases hij : i = j
  · subst hij
    rw [World.cell?_setCell_same _ _ _ hc]
    simp [List.getD_eq_getElem?_getD, hi]
  · rw [World.cell?_setCell_other _ _ _ _ (by intro e; injection e with _ e; exact hij e), hc]
    simp [List.getD_eq_getElem?_getD, hij]

theorem bytesWorld_below (w : World) (s : ByteArray) : Below w.heap.size w (Lib.bytesWorld w 5 s) := by
  refine ⟨rfl, rfl, rfl, ?_, fun k hk => Lib.bytesWorld_at_old w 5 s k hk⟩
  rw [Lib.bytesWorld_size]; omega

theorem bytesWorld_row (w : World) (s : ByteArray) : Row (Lib.bytesWorld w 5 s) w.heap.size s.data.toList := by
  intro i hi
  have hi' : i < s.size := by simpa using hi
  refine ⟨Lib.bytesWorld_cell w 5 s i hi', ?_⟩
  have hle : s.size ≤ (Lib.bytesCells w 5 s).size := by simp [Lib.bytesCells]
  simp [World.frozen?, Lib.bytesWorld_at_new]
  omega

theorem u8_turn (c : UInt8) (n : Nat) : bits .xor .u8 (c.toNat : Int) ((n : Int) % 256) = ((c ^^^ UInt8.ofNat n).toNat : Int) := by
  rw [show ((n : Int) % 256) = ((n % 256 : Nat) : Int) by simp, u8_xor_nat _ _ c.toNat_lt (by omega), UInt8.toNat_xor]
  simp

theorem strOfNums_bytes (l : List UInt8) : strOfNums (l.map fun c => (c.toNat : Int)) = ⟨l.toArray⟩ := by
  unfold strOfNums
  rw [List.map_map]
  congr 2
  have : ((fun n : Int => UInt8.ofNat n.toNat) ∘ fun c : UInt8 => (c.toNat : Int)) = id := by
    funext c; simp
  rw [this, List.map_id]

theorem Row.cells {w : World} {g : Nat} {l : List UInt8} (h : Row w g l) : ∀ i, i < l.length → w.cell? ⟨g, 0 + i, none⟩ = some (.int .u8 ((l.map fun c => (c.toNat : Int)).getD i 0)) := by
  intro i hi
  rw [Nat.zero_add, (h i hi).1]
  simp [List.getD_eq_getElem?_getD, hi]

/-- What a burst makes of a text, where there is such a bit. -/
def burstB (s : ByteArray) (a : Nat) (p : BitVec 16) : ByteArray :=
  ⟨(turn s.data.toList (a / 8) (p.toNat * 2 ^ (8 - a % 8)) (min 3 (s.size - a / 8))).toArray⟩

theorem spread_int (p : BitVec 16) (a : Nat) : (p.toNat : Int) * 2 ^ (8 - a % 8) % 4294967296 = ((p.toNat * 2 ^ (8 - a % 8) : Nat) : Int) := by
  have hp := p.isLt
  have h : 2 ^ (8 - a % 8) ≤ 2 ^ 8 := Nat.pow_le_pow_right (by omega) (by omega)
  have h2 : p.toNat * 2 ^ (8 - a % 8) ≤ 65535 * 2 ^ 8 := Nat.mul_le_mul (by omega) h
  rw [show (p.toNat : Int) * 2 ^ (8 - a % 8) = ((p.toNat * 2 ^ (8 - a % 8) : Nat) : Int) by simp]
  omega

theorem u8_turn' (c : UInt8) (n j : Nat) : bits .xor .u8 (c.toNat : Int) ((n : Int) / 2 ^ j % 256) = ((c ^^^ UInt8.ofNat (n / 2 ^ j)).toNat : Int) := by
  rw [← u8_turn]; simp

set_option maxHeartbeats 1000000 in
theorem burst_in (s : ByteArray) (a m : Nat) (p : BitVec 16) (w : World) (hs : s.size ≤ 4000) (h : a < 8 * s.size)
    (hm : (m ≤ 3 ∧ 3 ≤ m ∧ (3 : Int) ≤ (s.size : Int) - (a : Int) / 8) ∨ (m ≤ s.size - a / 8 ∧ s.size - a / 8 ≤ m ∧ ¬ (3 : Int) ≤ (s.size : Int) - (a : Int) / 8)) :
    Calls Try.prog 16 #[.string s, .int .i64 (a : Int), .int .u16 (p.toNat : Int)] w fun e w' => e = .returned (.string (burstB s a p)) ∧ Below w.heap.size w w' := by
  have hp := p.isLt
  have hB : burstB s a p = ⟨(turn s.data.toList (a / 8) (p.toNat * 2 ^ (8 - a % 8)) m).toArray⟩ := by
    unfold burstB
    rw [show min 3 (s.size - a / 8) = m by omega]
  have HB := Lib.hid hB
  clear hB
  have hconv := fun w : World => Lib.run_convert_string_bytes (P := Try.prog) w 9 56 5 s Try.underlying9 Try.underlying56 Try.underlying5
  rcases hm with ⟨hm1, hm2, h3⟩ | ⟨hm1, hm2, h3⟩
  all_goals
    go_enter Try.func16, Try.ntmps16
    go_wp2
    have HSP := Lib.hid (spread_int p a)
    generalize (p.toNat : Int) * 2 ^ (8 - a % 8) % 4294967296 = SP at *
    generalize p.toNat * 2 ^ (8 - a % 8) = sp at *
    go_loopw [34] (fun i wr => ∃ k : Nat, k ≤ m ∧ i = .int .i64 k ∧ Below w.heap.size w wr ∧ Row wr w.heap.size (turn s.data.toList (a / 8) sp k)) (fun i _ => m - (intOf i).toNat)
    case atStart => exact ⟨0, Nat.zero_le _, rfl, bytesWorld_below _ _, bytesWorld_row _ _⟩
    case round =>
      obtain ⟨k, hk, rfl, hbel, hrow⟩ := hrel
      by_cases hlt : k < m
      · have hlen : a / 8 + k < (turn s.data.toList (a / 8) sp k).length := by rw [turn_length]; simp; omega
        have hrk := hrow (a / 8 + k) hlen
        have hc := hrk.1
        have hz := hrk.2
        have HR := Lib.hid (hrow.turned (a / 8 + k) hlen (UInt8.ofNat (sp / 2 ^ (16 - 8 * k))))
        have HU := Lib.hid (HSP.out ▸ u8_turn' ((turn s.data.toList (a / 8) sp k).getD (a / 8 + k) 0) sp (16 - 8 * k))
        have hi : (a : Int) / 8 + (k : Int) < (s.size : Int) := by omega
        have hi0 : 0 ≤ (a : Int) / 8 + (k : Int) := by omega
        have hbel' := fun v => (hbel.setCell (p := ⟨w.heap.size, a / 8 + k, none⟩) (Nat.le_refl _) v).drew
        generalize (turn s.data.toList (a / 8) sp k).getD (a / 8 + k) 0 = c at *
        clear hrk hlen hrow
        go_wp2
        go_region
        all_goals
          go_wp2
          go_roundw
          case rel => exact ⟨k + 1, by omega, by go_num, hbel' _, by rw [HU.out]; exact HR.out⟩
          case measure => simp [intOf]; omega
      · have hkm : m ≤ k := by omega
        have hks := run_convert_bytes_arg (P := Try.prog) wr 56 5 Try.underlying56 Try.underlying5 w.heap.size 0 s.size (grownCap w s.size 0 5) _ (by rw [List.length_map, turn_length]; simp) (fun i hi => hrow.cells i (by rw [turn_length]; simpa using hi)) 9 Try.underlying9
        rw [strOfNums_bytes] at hks
        have hE : (⟨(turn s.data.toList (a / 8) sp k).toArray⟩ : ByteArray) = burstB s a p := by rw [HB.out, show k = m by omega]
        rw [hE] at hks
        clear hE
        go_wp2
        go_ret
        exact ⟨rfl, hbel⟩

end Go.Proofs.Ytocjimedbnjmiaa
