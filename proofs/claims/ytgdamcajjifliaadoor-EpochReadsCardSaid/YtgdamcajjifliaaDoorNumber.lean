/-
  The number that a text is, as the library reads it, walked. Conditions: a short text; the library's error variables hold values.
-/
import Derived.Test.YtgdamcajjifliaaDoorCut
import Derived.Lib.AtoiErrMem
namespace Go.Proofs.YtgdamcajjifliaaDoor
open Go.RowKit

/-- What the library reads: 0 of what is no number, the greatest of what is too great. -/
def numP (l : List UInt8) : Nat :=
  match Lib.parseUintB 64 l with
  | .ok u => u
  | .range => 18446744073709551615
  | _ => 0

set_option maxRecDepth 100000 in
set_option maxHeartbeats 1000000 in
theorem number_any (s : ByteArray) (hs : s.size ≤ 1000) (w : World) (hE : Env w) :
    Calls Tryd.prog 27 #[.string s] w fun e w' => e = .returned (.int .u64 (numP s.data.toList)) ∧ Below w.heap.size w w' := by
  obtain ⟨_, ⟨t2, p2, h2⟩, t3, p3, h3⟩ := hE
  have H2 := Lib.hid h2
  have H3 := Lib.hid h3
  clear h2 h3
  by_cases hok : ∃ u, Lib.parseUintB 64 s.data.toList = .ok u
  · obtain ⟨u, hp⟩ := hok
    have HN : Hid ((numP s.data.toList : Nat) = u) := by unfold numP; rw [hp]; exact Lib.hid rfl
    have HP := Lib.hid hp
    clear hp
    go_enter Tryd.func27, Tryd.ntmps27
    go_wp2_with fail
    refine (Tryd.strconv_ParseUint_10_at64_ok s (by omega) u HP.out _).mono ?_
    rintro e w' ⟨rfl, hw⟩
    go_wp2
    go_ret
    refine ⟨ret_int (by rw [HN.out]), ?_⟩
    rcases hw with rfl | rfl
    · exact Below.refl _ _
    · exact Lib.bytesWorld_below _ _ _
  · have h1 : ∀ u, Lib.parseUintB 64 s.data.toList ≠ .ok u := fun u h => hok ⟨u, h⟩
    by_cases hp : Lib.parseUintB 64 s.data.toList = .range
    · have HN : Hid ((numP s.data.toList : Nat) = 18446744073709551615) := by unfold numP; rw [hp]; exact Lib.hid rfl
      have HP := Lib.hid hp
      clear hp h1 hok
      go_enter Tryd.func27, Tryd.ntmps27
      go_wp2_with fail
      refine (Tryd.strconv_ParseUint_10_at64_range s (by omega) HP.out _ _ H3.out (.inr ⟨_, _, rfl⟩)).mono ?_
      rintro e w' ⟨n, rfl, _, _, hb⟩
      go_wp2
      go_ret
      exact ⟨ret_int (by rw [HN.out]; rfl), hb⟩
    · have HN : Hid ((numP s.data.toList : Nat) = 0) := by
        unfold numP
        rcases hq : Lib.parseUintB 64 s.data.toList with u | _ | _
        · exact absurd hq (h1 u)
        · exact Lib.hid rfl
        · exact absurd hq hp
      have H1 := Lib.hid h1
      have HP := Lib.hid hp
      clear hp h1 hok
      go_enter Tryd.func27, Tryd.ntmps27
      go_wp2_with fail
      refine (Tryd.strconv_ParseUint_10_at64_none s (by omega) H1.out HP.out _ _ H2.out (.inr ⟨_, _, rfl⟩)).mono ?_
      rintro e w' ⟨n, rfl, _, _, hb⟩
      go_wp2
      go_ret
      exact ⟨ret_int (by rw [HN.out]; rfl), hb⟩

end Go.Proofs.YtgdamcajjifliaaDoor
