/-
  A store's writing of bytes where they have room and power, walked. Conditions: none but on sizes.
-/
import Derived.Test.YtahmngmbgbcmhaaDoorStCalls
import Derived.Deep.RegionLaw
import Derived.IntWalk
namespace Go.Proofs.YtahmngmbgbcmhaaDoor.Sto
open Go.RowKit

theorem sizeU8 : ∀ w : World, (Go.sizeOf 5).run Tryd.prog w = .ok 1 w := by
  intro w
  have h : (Tryd.prog.info? 5).map (fun i => i.size) = some 1 := by kernel_rfl
  cases hq : Tryd.prog.info? 5 with
  | none => rw [hq] at h; cases h
  | some i =>
    rw [hq] at h
    have : i.size = 1 := by simpa using h
    simp [sizeOf, typeInfo, hq, this]

/-- What an armed store has left. -/
def less (b : Bool) (y n : Int) : Int := if b = true then y - n else y

/-- What put leaves. -/
def Put (p g cap : Nat) (l : List UInt8) (d b : Bool) (y n : Int) (w : World) (e : Ending) (w' : World) : Prop := e = .returned (.tuple #[]) ∧ StoreAt w' p g cap l d b y n ∧ Only p g w w'

set_option maxHeartbeats 1600000 in
theorem put_any (p g cap : Nat) (l : List UInt8) (d b : Bool) (y n : Int) (a : Nat) (s : ByteArray) (w : World) (hs : StoreAt w p g cap l d b y n) (hfit : a + s.data.toList.length ≤ l.length)
    (hn : 0 ≤ n) (hn2 : n ≤ 4611686018427387904) (hy : (0 ≤ y ∧ y ≤ 9223372036854775807) ∨ b = false) :
    Calls Tryd.prog 53 #[.pointer (some ⟨p, 0, none⟩), .int .i64 (a : Int), .string s] w (Put p g cap (lay l a s.data.toList) d b (less b y s.size) (n + s.size) w) := by
  have h0 := hs.c0
  have h3 := hs.c3
  have h4 := hs.c4
  have hl := hs.hcap
  have hm := hs.big
  have hr := hs.row
  have hfw := hs.few
  obtain ⟨W1, hW⟩ : ∃ W1, W1 = w.drew.setCells g a (s.data.toList.map fun x => Value.int .u8 (x.toNat : Int)) := ⟨_, rfl⟩
  have hs1 : StoreAt W1 p g cap (lay l a s.data.toList) d b y n := by rw [hW]; exact hs.drew.cells a _ hfit
  have ho1 : Only p g w W1 := by rw [hW]; exact (Only.refl p g w).drew.cells _ _
  have HW := Lib.hid hW.symm
  clear hW
  have k2 := hs1.c2
  have k3 := hs1.c3
  have k4 := hs1.c4
  have kf3 := hs1.f3
  have kf4 := hs1.f4
  have HS1 := Lib.hid (hs1.set4 (n + s.size))
  have HS2 := Lib.hid ((hs1.set4 (n + s.size)).set3 (y - s.size))
  have HO1 := Lib.hid (ho1.set 4 (.int .i64 (n + s.size)))
  have HO2 := Lib.hid ((ho1.set 4 (.int .i64 (n + s.size))).set 3 (.int .i64 (y - s.size)))
  clear hs1 ho1 hs
  unfold maxLen at hm
  have hal : a ≤ l.length := by omega
  have hc1 : ∀ j, j < s.size → (w.drew.cell? ⟨g, a + j, none⟩).isSome = true := fun j hj => by
    rw [size_list] at hfit
    rw [(hr.drew (a + j) (by omega)).1]; rfl
  have hc2 : ∀ j, j < s.size → w.drew.frozen? ⟨g, a + j, none⟩ = false := fun j hj => by
    rw [size_list] at hfit
    exact (hr.drew (a + j) (by omega)).2
  rw [size_list] at hfit
  have hsum : IntKind.i64.wrap (n + (s.size : Int)) = n + (s.size : Int) := IntWalk.i64_in _ (by omega)
  have HC1 := Lib.hid hc1
  have HC2 := Lib.hid hc2
  have HYY := Lib.hid hy
  clear hc1 hc2 hr hy
  by_cases hac : cap = a
  · subst hac
    have h0s : s.size = 0 := by omega
    have he : s.data.toList.map (fun x => Value.int .u8 (x.toNat : Int)) = [] := by
      apply List.eq_nil_of_length_eq_zero
      rw [List.length_map, size_list]; exact h0s
    rw [he] at HW
    have HW2 : Hid (w.drew.setCells g 0 (s.data.toList.map fun x => Value.int .u8 (x.toNat : Int)) = W1) := by rw [he]; exact HW.out
    have HE := Lib.hid h0s
    clear he h0s HW
    go_enter Tryd.func53, Tryd.ntmps53
    go_wp2
    go_region_law (refine step_copy_string rfl (.tmp 15) (.tmp 16) 44 9 rfl 5 Tryd.underlying44 sizeU8 g 0 0 0 (by simp [Act.eval, Act.put]) s (by simp [Act.eval, Act.put]) (by rw [HE.out]; exact Nat.le_refl _) (fun j hj => by rw [HE.out] at hj; omega) (fun j hj => by rw [HE.out] at hj; omega) ?_; rw [HW2.out])
    all_goals
      cases b
      · go_wp2
        go_end0
        exact ⟨rfl, HS1.out, HO1.out⟩
      · obtain ⟨hy0, hy1⟩ := HYY.out.resolve_right (by simp)
        go_wp2
        go_end0
        exact ⟨rfl, HS2.out, HO2.out⟩
  · go_enter Tryd.func53, Tryd.ntmps53
    go_wp2
    go_region_law (refine step_copy_string rfl (.tmp 15) (.tmp 16) 44 9 rfl 5 Tryd.underlying44 sizeU8 g a (l.length - a) (cap - a) (by simp [Act.eval, Act.put]) s (by simp [Act.eval, Act.put]) (by omega) HC1.out HC2.out ?_; rw [HW.out])
    all_goals
      cases b
      · go_wp2
        go_end0
        exact ⟨rfl, HS1.out, HO1.out⟩
      · obtain ⟨hy0, hy1⟩ := HYY.out.resolve_right (by simp)
        go_wp2
        go_end0
        exact ⟨rfl, HS2.out, HO2.out⟩

end Go.Proofs.YtahmngmbgbcmhaaDoor.Sto
