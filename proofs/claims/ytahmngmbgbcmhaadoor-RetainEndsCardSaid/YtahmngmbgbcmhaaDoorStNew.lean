/-
  New stores, walked. Conditions: none but on sizes.
-/
import Derived.Test.YtahmngmbgbcmhaaDoorStPut
import Derived.Deep.OwnRows
namespace Go.Proofs.YtahmngmbgbcmhaaDoor.Sto
open Go.RowKit

theorem info5 : (Tryd.prog.info? 5).map (fun i => (i.zero, i.size, i.bytes)) = some (some (.int .u8 0), 1, 1) := by kernel_rfl

/-- What New leaves. -/
def News (x : St) (w : World) (e : Ending) (w' : World) : Prop := ∃ p g cap, e = .returned (.pointer (some ⟨p, 0, none⟩)) ∧ CodeAt w' p g cap x ∧ w.heap.size ≤ p ∧ w.heap.size ≤ g ∧ Below w.heap.size w w'

def zeros (n : Nat) : List UInt8 := List.replicate n 0
theorem zeros_length (n : Nat) : (zeros n).length = n := by simp [zeros]

theorem row_made (w : World) (n : Nat) (t : TypeId) : Row (w.alloc (.cells (madeCells #[.int .u8 0] n) t)) w.heap.size (zeros n) := by
  intro i hi
  rw [zeros_length] at hi
  refine ⟨?_, by simp [go_sem]⟩
  have hz : (zeros n).getD i 0 = 0 := by simp [zeros, List.getD_eq_getElem?_getD, hi]
  rw [hz, cell_of_row _ _ i _ t (0, 0) (heap_alloc_new w _), ← Array.getElem?_toList, toList_madeCells_one]
  simp [hi]

/-- A struct just laid over a row that lies there. -/
theorem store_new {w : World} {p g cap : Nat} {l : List UInt8} (hp : p = w.heap.size) (hg : g < w.heap.size) (hr : Row w g l) (hl : l.length ≤ cap) (hb : cap ≤ maxLen) (hf : l.length ≤ 1000) (t : TypeId) :
    StoreAt (w.alloc (.cells #[.slice (some ⟨g, 0, none⟩) l.length cap, .bool false, .bool false, .int .i64 0, .int .i64 0] t)) p g cap l false false 0 0 := by
  subst hp
  have h : ∀ (j : Nat) (v : Value), #[Value.slice (some ⟨g, 0, none⟩) l.length cap, .bool false, .bool false, .int .i64 0, .int .i64 0][j]? = some v →
      (w.alloc (.cells #[.slice (some ⟨g, 0, none⟩) l.length cap, .bool false, .bool false, .int .i64 0, .int .i64 0] t)).cell? ⟨w.heap.size, j, none⟩ = some v := by
    intro j v hv
    rw [cell_of_row _ _ j _ t (0, 0) (heap_alloc_new w _)]
    exact hv
  refine ⟨by omega, by simp; omega, hl, hb, hf, h 0 _ rfl, h 1 _ rfl, h 2 _ rfl, h 3 _ rfl, h 4 _ rfl, by simp [go_sem], by simp [go_sem], by simp [go_sem], by simp [go_sem], hr.at (Below.heap_alloc _ _ _ hg)⟩

theorem mk (k : Int) (n : Nat) (hk : k = n) (hn : n ≤ 1000) : ∀ w : World, (Instr.makeSlice 44 (.int .i64 k) (.int .i64 k)).run Tryd.prog w = .ok (.slice (some ⟨w.heap.size, 0, none⟩) n n) (w.alloc (.cells (madeCells #[.int .u8 0] n) 5)) := by
  subst hk
  exact run_make_row' (P := Tryd.prog) 44 5 (.int .u8 0) 1 Tryd.underlying44 info5 rfl .i64 .i64 n (by omega) (by omega)

set_option maxRecDepth 100000 in
set_option maxHeartbeats 800000 in
theorem new_any (m : Int) (n : Nat) (hn : n = (min (max m 0) 1000).toNat) (w : World) :
    Calls Tryd.prog 12 #[.int .i64 m] w (News ⟨zeros n, true, none, 0⟩ w) := by
  have hn2 : n ≤ 1000 := by omega
  have HS := Lib.hid (store_new (p := w.heap.size + 1) (t := 52) (by simp) (by simp) (row_made w n 5) (cap := n) (by rw [zeros_length]; exact Nat.le_refl _) (by unfold maxLen; omega) (by rw [zeros_length]; exact hn2))
  rw [zeros_length] at HS
  have HB := fun o1 o2 => Lib.hid (((Below.refl w.heap.size w).alloc (Nat.le_refl _) o1).alloc (by simp) o2)
  by_cases h0 : 0 ≤ m
  · by_cases h1 : m ≤ 1000
    · have hmk := mk m n (by omega) hn2
      clear hn
      go_enter Tryd.func12, Tryd.ntmps12
      go_wp2
      go_ret
      exact ⟨_, _, _, rfl, ⟨0, HS.out, fun k hk => by injection hk⟩, Nat.le_succ _, Nat.le_refl _, (HB _ _).out⟩
    · have hmk := mk 1000 n (by omega) hn2
      clear hn
      go_enter Tryd.func12, Tryd.ntmps12
      go_wp2
      go_ret
      exact ⟨_, _, _, rfl, ⟨0, HS.out, fun k hk => by injection hk⟩, Nat.le_succ _, Nat.le_refl _, (HB _ _).out⟩
  · have hmk := mk 0 n (by omega) hn2
    clear hn
    go_enter Tryd.func12, Tryd.ntmps12
    go_wp2
    go_ret
    exact ⟨_, _, _, rfl, ⟨0, HS.out, fun k hk => by injection hk⟩, Nat.le_succ _, Nat.le_refl _, (HB _ _).out⟩

theorem bytesWorld_row (w : World) (s : ByteArray) : Row (Lib.bytesWorld w 5 s) w.heap.size s.data.toList := by
  intro i hi
  have hi' : i < s.size := by simpa using hi
  refine ⟨Lib.bytesWorld_cell w 5 s i hi', ?_⟩
  have hle : s.size ≤ (Lib.bytesCells w 5 s).size := by simp [Lib.bytesCells]
  simp [World.frozen?, Lib.bytesWorld_at_new]
  omega

theorem bytesWorld_below (w : World) (s : ByteArray) : Below w.heap.size w (Lib.bytesWorld w 5 s) := by
  refine ⟨rfl, rfl, rfl, ?_, fun k hk => Lib.bytesWorld_at_old w 5 s k hk⟩
  rw [Lib.bytesWorld_size]; omega

theorem head_list (s : ByteArray) (n : Nat) : (s.extract 0 n).data.toList = s.data.toList.take n := by simp
theorem head_size (s : ByteArray) (n : Nat) : (s.extract 0 n).size = min n s.size := by simp [ByteArray.size_extract]

theorem of_new (t : ByteArray) (w : World) (h : t.size ≤ 1000) :
    StoreAt ((Lib.bytesWorld w 5 t).alloc (.cells #[.slice (some ⟨w.heap.size, 0, none⟩) t.size (grownCap w t.size 0 5), .bool false, .bool false, .int .i64 0, .int .i64 0] 52)) (w.heap.size + 1) w.heap.size (grownCap w t.size 0 5) t.data.toList false false 0 0 ∧
    Below w.heap.size w ((Lib.bytesWorld w 5 t).alloc (.cells #[.slice (some ⟨w.heap.size, 0, none⟩) t.size (grownCap w t.size 0 5), .bool false, .bool false, .int .i64 0, .int .i64 0] 52)) := by
  constructor
  · have := store_new (p := w.heap.size + 1) (t := 52) (w := Lib.bytesWorld w 5 t) (g := w.heap.size) (l := t.data.toList) (cap := grownCap w t.size 0 5) (by rw [Lib.bytesWorld_size]) (by rw [Lib.bytesWorld_size]; omega) (bytesWorld_row w t)
      (by rw [size_list]; exact grownCap_ge w t.size 0 5) (grownCap_le_maxLen w t.size 0 5 (by unfold maxLen; omega)) (by rw [size_list]; exact h)
    rw [size_list] at this
    exact this
  · exact (bytesWorld_below w t).alloc (by rw [Lib.bytesWorld_size]; omega) _

set_option maxHeartbeats 800000 in
theorem of_any (s : ByteArray) (w : World) (hs : s.size ≤ maxLen) :
    Calls Tryd.prog 8 #[.string s] w (News ⟨s.data.toList.take 1000, true, none, 0⟩ w) := by
  unfold maxLen at hs
  by_cases h : s.size ≤ 1000
  · have hconv := fun w : World => Lib.run_convert_string_bytes (P := Tryd.prog) w 9 44 5 s Tryd.underlying9 Tryd.underlying44 Tryd.underlying5
    have HS := Lib.hid (of_new s w h).1
    have HB := Lib.hid (of_new s w h).2
    have HT := Lib.hid (show s.data.toList.take 1000 = s.data.toList from List.take_of_length_le (by rw [size_list]; exact h))
    have hz := Lib.bytesWorld_size w 5 s
    go_enter Tryd.func8, Tryd.ntmps8
    go_wp2
    rw [HT.out]
    go_ret
    exact ⟨_, _, _, rfl, ⟨0, HS.out, fun k hk => by injection hk⟩, Nat.le_succ _, Nat.le_refl _, HB.out⟩
  · have hconv := fun w : World => Lib.run_convert_string_bytes (P := Tryd.prog) w 9 44 5 (s.extract 0 1000) Tryd.underlying9 Tryd.underlying44 Tryd.underlying5
    have hsz : (s.extract 0 1000).size ≤ 1000 := by rw [head_size]; omega
    have HS := Lib.hid (of_new (s.extract 0 1000) w hsz).1
    have HB := Lib.hid (of_new (s.extract 0 1000) w hsz).2
    rw [head_list, head_size] at HS
    rw [head_size] at HB
    have hz := Lib.bytesWorld_size w 5 (s.extract 0 1000)
    go_enter Tryd.func8, Tryd.ntmps8
    go_wp2
    go_ret
    exact ⟨_, _, _, rfl, ⟨0, HS.out, fun k hk => by injection hk⟩, Nat.le_succ _, Nat.le_refl _, HB.out⟩

end Go.Proofs.YtahmngmbgbcmhaaDoor.Sto
