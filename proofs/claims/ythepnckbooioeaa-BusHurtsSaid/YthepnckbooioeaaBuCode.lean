/-
  What is asked of the code's calls on a bus; its object while the laws run. Conditions: none.
-/
import Derived.Test.YthepnckbooioeaaBuHurt
import Derived.BigQuiet
import Derived.Deep.QuietTactic
namespace Go.Proofs.Ythepnckbooioeaa.Bus
open Go.RowKit

def I64 (n : Int) : Prop := -9223372036854775808 ≤ n ∧ n ≤ 9223372036854775807
/-- The kth piece, or none. -/
def shownP (x : Bs) (k : Int) : Pc := if thereB x k then pieceOf x k.toNat else Pc.zero

/-- What is asked of the code. -/
structure Code (F : Face) : Prop where
  new : ∀ w : World, Calls Try.prog 9 #[] w (News F w)
  len : ∀ (p : Nat) (ms : List Nat) (x : Bs) (w : World), F.At w p ms x → Calls Try.prog 12 #[.pointer (some ⟨p, 0, none⟩)] w fun e w' => e = .returned (.int .i64 (x.l.length : Nat)) ∧ w = w'
  fault : ∀ (p : Nat) (ms : List Nat) (x : Bs) (w : World), F.At w p ms x → Calls Try.prog 13 #[.pointer (some ⟨p, 0, none⟩)] w fun e w' => e = .returned (.bool x.f) ∧ w = w'
  piece : ∀ (p : Nat) (ms : List Nat) (x : Bs) (k : Int) (w : World), F.At w p ms x → I64 k → Calls Try.prog 14 #[.pointer (some ⟨p, 0, none⟩), .int .i64 k] w (Tells (.tuple #[(shownP x k).val, .bool (thereB x k)]) w)
  send : ∀ (p : Nat) (ms : List Nat) (x : Bs) (src : Int) (s : ByteArray) (w : World), F.At w p ms x → I64 src → s.size ≤ maxLen → Calls Try.prog 16 #[.pointer (some ⟨p, 0, none⟩), .int .i64 src, .string s] w (Done F p ms (.int .i64 (sendE x src s)) (sendX x src s) w)
  deliver : ∀ (p : Nat) (ms : List Nat) (x : Bs) (k to : Int) (w : World), F.At w p ms x → I64 k → I64 to → Calls Try.prog 21 #[.pointer (some ⟨p, 0, none⟩), .int .i64 k, .int .i64 to] w (Done F p ms (.tuple #[.string (delS x k to), .int .i64 (delE x k to)]) (delX x k to) w)
  lose : ∀ (p : Nat) (ms : List Nat) (x : Bs) (k to : Int) (w : World), F.At w p ms x → I64 k → I64 to → Calls Try.prog 22 #[.pointer (some ⟨p, 0, none⟩), .int .i64 k, .int .i64 to] w (Done F p ms (.int .i64 (delE x k to)) (delX x k to) w)
  drop : ∀ (p : Nat) (ms : List Nat) (x : Bs) (k : Int) (w : World), F.At w p ms x → I64 k → Calls Try.prog 17 #[.pointer (some ⟨p, 0, none⟩), .int .i64 k] w (Done F p ms (.int .i64 (dropE x k)) (dropX x k) w)
  twice : ∀ (p : Nat) (ms : List Nat) (x : Bs) (k : Int) (w : World), F.At w p ms x → I64 k → Calls Try.prog 19 #[.pointer (some ⟨p, 0, none⟩), .int .i64 k] w (Done F p ms (.int .i64 (twiceE x k)) (twiceX x k) w)
  burst : ∀ (p : Nat) (ms : List Nat) (x : Bs) (k at_ : Int) (pat : BitVec 16) (w : World), F.At w p ms x → I64 k → I64 at_ → Calls Try.prog 18 #[.pointer (some ⟨p, 0, none⟩), .int .i64 k, .int .i64 at_, .int .u16 (pat.toNat : Int)] w (Done F p ms (.int .i64 (hurE x k)) (hurX x k at_ pat) w)
  cut : ∀ (p : Nat) (ms : List Nat) (x : Bs) (k n : Int) (w : World), F.At w p ms x → I64 k → I64 n → Calls Try.prog 20 #[.pointer (some ⟨p, 0, none⟩), .int .i64 k, .int .i64 n] w (Done F p ms (.int .i64 (cutE x k n)) (cutX x k n) w)

/-- A bus of the call's own, while nothing below N has turned. -/
structure Run (F : Face) (N : Nat) (w0 w : World) (p : Nat) (ms : List Nat) (x : Bs) : Prop where
  at_ : F.At w p ms x
  below : Below N w0 w
  hm : ∀ k ∈ ms, N ≤ k
  size : N ≤ w.heap.size
section
variable {F : Face} {N p : Nat} {ms ns : List Nat} {w0 w w' : World} {x y : Bs}
theorem Run.more (h : Run F N w0 w p ms x) (hb : Below w.heap.size w w') : Run F N w0 w' p ms x :=
  ⟨Face.below h.at_ hb, h.below.trans (hb.mono h.size), h.hm, Nat.le_trans h.size hb.size⟩
theorem Run.next (h : Run F N w0 w p ms x) (hx : F.At w' p ns y) (ho : OnlyL ms w w') (hn : ∀ j ∈ ns, j ∈ ms ∨ w.heap.size ≤ j) : Run F N w0 w' p ns y :=
  ⟨hx, h.below.trans (ho.below h.hm h.size), fun k hk => (hn k hk).elim (h.hm k) (fun hle => Nat.le_trans h.size hle), Nat.le_trans h.size ho.size⟩
theorem Run.done {v : Value} {e : Ending} (h : Run F N w0 w p ms x) (hd : Done F p ms v y w e w') : e = .returned v ∧ ∃ ns, Run F N w0 w' p ns y ∧ OnlyL ms w w' ∧ ∀ j ∈ ns, j ∈ ms ∨ w.heap.size ≤ j := by
  obtain ⟨he, ns, h1, h2, h3⟩ := hd
  exact ⟨he, ns, h.next h1 h2 h3, h2, h3⟩
theorem Run.first {M : Nat} (hx : F.At w' p ms x) (hm : ∀ j ∈ ms, w.heap.size ≤ j) (hb : Below w.heap.size w w') (h0 : Below M w0 w) (hM : M ≤ w.heap.size) : Run F M w0 w' p ms x :=
  ⟨hx, h0.trans (hb.mono hM), fun k hk => Nat.le_trans hM (hm k hk), Nat.le_trans hM hb.size⟩
theorem Run.drew (h : Run F N w0 w p ms x) : Run F N w0 w.drew p ms x := h.more (Below.refl _ _).drew
end
theorem onlyL_cell {ms : List Nat} {t o : Nat} {w w' : World} {v : Value} (ho : OnlyL ms w w') (h : w.cell? ⟨t, o, none⟩ = some v) (h1 : t ∉ ms) : w'.cell? ⟨t, o, none⟩ = some v :=
  (World.cell?_of_block (a := ⟨t, o, none⟩) (ho.block t (World.block_lt_of_cell? w ⟨t, o, none⟩ h) h1)).trans h

def bab : ByteArray := ⟨#[97, 98]⟩
def x1 : Bs := sendX Bs.zero 1 bab
def x2 : Bs := delX x1 0 2
theorem first_facts : sendE Bs.zero 1 bab = 0 ∧ delE x1 0 2 = 0 ∧ delS x1 0 2 = bab ∧ delE x2 0 2 = 1 ∧ delX x2 0 2 = x2 ∧ thereB x2 0 = true ∧ (shownP x2 0).to.toNat = 4294967289 ∧ x2.l.length = 1 := by
  refine ⟨?_, ?_, ?_, ?_, ?_, ?_, ?_, ?_⟩ <;> rfl

end Go.Proofs.Ythepnckbooioeaa.Bus
