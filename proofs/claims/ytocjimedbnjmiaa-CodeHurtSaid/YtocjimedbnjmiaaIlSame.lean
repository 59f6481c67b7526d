/-
  The reference's Same, at two lists that are the same, walked. Conditions: no more than 4000 instructions.
-/
import Derived.Test.YtocjimedbnjmiaaIlLies
namespace Go.Proofs.Ytocjimedbnjmiaa.Il
open Go.RowKit
open Go.Proofs.Ytocjimedbnjmiaa.Ic

set_option maxRecDepth 100000 in
set_option maxHeartbeats 4000000 in
theorem rSame_any (l : List In) (a1 a2 : Option Addr) (c1 c2 : Nat) (w : World) (h1 : Lies w w.heap.size a1 l) (h2 : Lies w w.heap.size a2 l) (hl : l.length ≤ 4000) :
    Calls Try.prog 14 #[.slice a1 l.length c1, .slice a2 l.length c2] w fun e w' => e = .returned (.bool true) ∧ ∃ k, w' = w.drewN k := by
  have H1 := Lib.hid h1
  have H2 := Lib.hid h2
  have hli : (l.length : Int) ≤ 4000 := by omega
  have hrefl : ((l.length : Int) == (l.length : Int)) = true := by simp
  clear h1 h2 hl
  go_enter Try.func14, Try.ntmps14
  go_wp2
  go_loopw [5] (fun i wr => ∃ k m : Nat, (k : Int) ≤ l.length ∧ i = .int .i64 k ∧ wr = w.drewN m) (fun i _ => l.length - (intOf i).toNat)
  case atStart => exact ⟨0, 0, by omega, rfl, rfl⟩
  case round =>
    obtain ⟨k, m, hk, rfl, rfl⟩ := hrel
    by_cases hlt : (k : Int) < l.length
    · have hx : l[k]? = some (l[k]'(by omega)) := List.getElem?_eq_getElem (by omega)
      obtain ⟨b1, o1, rfl, -, i1⟩ := H1.out (by omega)
      obtain ⟨b2, o2, rfl, -, i2⟩ := H2.out (by omega)
      obtain ⟨x0, x1, x2, x3, x4⟩ := i1 k _ hx
      obtain ⟨y0, y1, y2, y3, y4⟩ := i2 k _ hx
      generalize l[k]'(by omega) = q at *
      clear i1 i2 hx
      go_wp2_with fail
      go_quiet (fail)
      go_wp2
      exact ⟨⟨k + 1, m + nq, by omega, by go_num, rfl⟩, by simp [intOf]; omega⟩
    · obtain rfl : k = l.length := by omega
      go_wp2
      go_ret
      exact ⟨rfl, _, rfl⟩

end Go.Proofs.Ytocjimedbnjmiaa.Il
