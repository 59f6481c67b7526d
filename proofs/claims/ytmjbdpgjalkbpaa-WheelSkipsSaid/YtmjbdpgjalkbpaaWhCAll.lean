/-
  The code of timers answers as is asked of it, where they are sixteen numbers in the object's one block. Conditions: none.
-/
import Derived.Test.YtmjbdpgjalkbpaaWhCSkip
import Derived.Test.YtmjbdpgjalkbpaaWhCLen
namespace Go.Proofs.Ytmjbdpgjalkbpaa.Whl
open Go.RowKit

theorem comes_of {p g : Nat} {l : List Nat} {x : Wh} {w : World} {e : Ending} {w' : World} (hg : g = p) (h : RefComes p l x w e w') : Comes face p g l x w e w' := by
  subst hg
  obtain ⟨v, h1, h2, h3, h4⟩ := h
  exact ⟨v, h1, h2, ⟨rfl, h3⟩, h4⟩

/-- All that the laws ask of the code. -/
theorem the_code : Code face where
  new := new_any
  set := fun p _ x id n w hx _ _ => (cset_any p x id n w hx.2).mono fun _ _ h => done_of hx.1 h
  cancel := fun p _ x id w hx _ => (ccancel_any p x id w hx.2).mono fun _ _ h => done_of hx.1 h
  left := fun p _ x id w hx _ => cleft_any p x id w hx.2
  tick := fun p _ x w hx => (ctick_any p x w hx.2).mono fun _ _ h => comes_of hx.1 h
  skip := fun p _ x n w hx hn => (cskip_any p x n w hx.2 hn).mono fun _ _ h => comes_of hx.1 h
  soonest := fun p _ x w hx => csoon_any p x w hx.2
  len := fun p _ x w hx => clen_any p x w hx.2

end Go.Proofs.Ytmjbdpgjalkbpaa.Whl
