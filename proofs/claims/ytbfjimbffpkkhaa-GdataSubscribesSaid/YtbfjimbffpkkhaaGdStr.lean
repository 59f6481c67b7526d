/-
  Texts as arguments of the laws. Conditions: as each states.
-/
import Derived.Test.YtbfjimbffpkkhaaGdOpen
namespace Go.Proofs.Ytbfjimbffpkkhaa.Pa
open Go.RowKit

theorem subs_str (z : Int) (s : ByteArray) (xs : List Fr) (ao : Option Addr) (cap : Nat) (w : World) (hz : I64 z) (hs : s.size ≤ maxLen) (hx : FLies w w.heap.size ao xs) (hfx : FitX xs) (hl : xs.length ≤ maxLen) :
    Calls Try.prog 4 #[.int .i64 z, .string s, .slice ao xs.length cap] w (Tells (.bool true) w) := by
  have h := subs_walk z s.data.toList xs ao cap w hz hx hfx hl (by rw [← S_size, S_of]; exact hs)
  rwa [S_of] at h
end Go.Proofs.Ytbfjimbffpkkhaa.Pa
