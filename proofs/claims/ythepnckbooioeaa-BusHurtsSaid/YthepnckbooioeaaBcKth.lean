/-
  The landed bus: New, Len, Fault, kth, Piece, unhurt, walked. Conditions: none.
-/
import Derived.Test.YthepnckbooioeaaBuOps
import Derived.Deep.QuietTactic
namespace Go.Proofs.Ythepnckbooioeaa.Bus
open Go.RowKit

set_option maxRecDepth 100000 in
set_option maxHeartbeats 4000000 in
theorem cNew_any (w : World) : Calls Try.prog 9 #[] w (News refFace w) := by
  have hR : RefAt (w.alloc (.cells #[.slice none 0 0, .bool false] 58)) w.heap.size [w.heap.size] Bs.zero := by
    have hc : ∀ j v, #[Value.slice none 0 0, .bool false][j]? = some v → (w.alloc (.cells #[.slice none 0 0, .bool false] 58)).cell? ⟨w.heap.size, j, none⟩ = some v := by
      intro j v hv
      rw [cell_of_row _ _ j _ 58 (0, 0) (heap_alloc_new w _)]
      exact hv
    have hf : ∀ j, (w.alloc (.cells #[.slice none 0 0, .bool false] 58)).frozen? ⟨w.heap.size, j, none⟩ = false := by
      intro j
      unfold World.frozen?
      rw [heap_alloc_new]
      simp
    exact ⟨_, rfl, hc 0 _ rfl, hc 1 _ rfl, hf 0, hf 1, World.ownsRow_nil _ _ _ _, by simp [Value.ownBlock], Bs.zero_ok⟩
  have HR := Lib.hid hR
  clear hR
  go_enter Try.func9, Try.ntmps9
  go_wp2
  go_ret
  exact ⟨_, _, rfl, HR.out, by intro j hj; simp at hj; omega, (Below.refl _ _).alloc (Nat.le_refl _) _⟩

theorem cLen_any (b : Nat) (ms : List Nat) (x : Bs) (w : World) (hx : RefAt w b ms x) : Calls Try.prog 12 #[.pointer (some ⟨b, 0, none⟩)] w fun e w' => e = .returned (.int .i64 (x.l.length : Nat)) ∧ w = w' := by
  obtain ⟨A, c, c0⟩ := hx.head
  clear hx
  go_enter Try.func12, Try.ntmps12
  go_wp2
  go_ret
  exact ⟨rfl, rfl⟩

theorem cFault_any (b : Nat) (ms : List Nat) (x : Bs) (w : World) (hx : RefAt w b ms x) : Calls Try.prog 13 #[.pointer (some ⟨b, 0, none⟩)] w fun e w' => e = .returned (.bool x.f) ∧ w = w' := by
  obtain ⟨v, rfl, c0, c1, f0, f1, ho, hne, hok⟩ := hx
  clear ho hne hok
  go_enter Try.func13, Try.ntmps13
  go_wp2
  go_ret
  exact ⟨rfl, rfl⟩

set_option maxRecDepth 100000 in
set_option maxHeartbeats 4000000 in
/-- The kth piece's address. -/
theorem cKth_some (b : Nat) (ms : List Nat) (x : Bs) (k g c : Nat) (w : World) (hx : RefAt w b ms x) (hk : k < x.l.length) (c0 : w.cell? ⟨b, 0, none⟩ = some (.slice (some ⟨g, 0, none⟩) x.l.length c)) :
    Calls Try.prog 29 #[.pointer (some ⟨b, 0, none⟩), .int .i64 k] w fun e w' => e = .returned (.pointer (some ⟨g, k * 4, none⟩)) ∧ w = w' := by
  have HL := Lib.hid (cLen_any b ms x w hx)
  clear hx
  have h1 : ¬ (k : Int) < 0 := by omega
  have h2 : ¬ (x.l.length : Int) ≤ k := by omega
  go_enter Try.func29, Try.ntmps29
  go_wp2_with fail
  refine HL.out.mono ?_
  rintro e w1 ⟨rfl, rfl⟩
  go_wp2
  go_ret
  exact ⟨rfl, rfl⟩
set_option maxRecDepth 100000 in
set_option maxHeartbeats 4000000 in
theorem cKth_none (b : Nat) (ms : List Nat) (x : Bs) (k : Int) (w : World) (hx : RefAt w b ms x) (hk : thereB x k = false) :
    Calls Try.prog 29 #[.pointer (some ⟨b, 0, none⟩), .int .i64 k] w fun e w' => e = .returned (.pointer none) ∧ w = w' := by
  have HL := Lib.hid (cLen_any b ms x w hx)
  clear hx
  by_cases h1 : k < 0
  · clear hk
    go_enter Try.func29, Try.ntmps29
    go_wp2
    go_ret
    exact ⟨rfl, rfl⟩
  · have h2 : (x.l.length : Int) ≤ k := by
      simp [thereB] at hk
      omega
    clear hk
    go_enter Try.func29, Try.ntmps29
    go_wp2_with fail
    refine HL.out.mono ?_
    rintro e w1 ⟨rfl, rfl⟩
    go_wp2
    go_ret
    exact ⟨rfl, rfl⟩

end Go.Proofs.Ythepnckbooioeaa.Bus
