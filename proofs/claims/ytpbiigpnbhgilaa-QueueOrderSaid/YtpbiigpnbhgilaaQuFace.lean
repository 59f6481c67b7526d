/-
  Plain facts on a queue; what lies in memory when one is walked, and what is asked of the code's calls. Conditions: none.
-/
import Derived.Test.YtpbiigpnbhgilaaQuTail
import Derived.BigQuiet
import Derived.Deep.QuietTactic
namespace Go.Proofs.Ytpbiigpnbhgilaa.Qu
open Go.RowKit

/-- A queue: its places, what waits of both classes, the fault. -/
structure Qs (α : Type) where
  pl : Nat
  hi : List α
  lo : List α
  f : Bool
structure Qs.Ok {α : Type} (x : Qs α) : Prop where
  fits : x.hi.length + x.lo.length ≤ x.pl
  pl : x.pl ≤ 64
def placesN (n : Int) : Nat := (min (max n 0) 64).toNat
section
variable {α : Type}
def newX (n : Int) : Qs α := ⟨placesN n, [], [], false⟩
def ofC (x : Qs α) (h : Bool) : List α := if h then x.hi else x.lo
def setC (x : Qs α) (h : Bool) (l : List α) : Qs α := if h then ⟨x.pl, l, x.lo, x.f⟩ else ⟨x.pl, x.hi, l, x.f⟩
def fullB (x : Qs α) : Bool := decide (x.pl ≤ x.hi.length + x.lo.length)
def putE (x : Qs α) : Int := if fullB x then 8 else 0
def putX (x : Qs α) (a : α) (h : Bool) : Qs α := if fullB x then ⟨x.pl, x.hi, x.lo, true⟩ else setC x h (ofC x h ++ [a])
def hasC (x : Qs α) (h : Bool) : Bool := decide (0 < (ofC x h).length)
def takeX (x : Qs α) (h : Bool) : Qs α := setC x h ((ofC x h).drop 1)
def headD (x : Qs α) (h : Bool) (d : α) : α := (ofC x h).headD d
def roomN (x : Qs α) : Nat := x.pl - x.hi.length - x.lo.length
def calmX (x : Qs α) : Qs α := ⟨x.pl, x.hi, x.lo, false⟩
def bareX (x : Qs α) : Qs α := ⟨x.pl, [], [], false⟩
theorem new_ok (n : Int) : (newX n : Qs α).Ok := ⟨by simp [newX], by simp [newX, placesN]; omega⟩
theorem Qs.Ok.set {x : Qs α} (h : x.Ok) (hc : Bool) (l : List α) (hl : l.length ≤ (ofC x hc).length) : (setC x hc l).Ok := by
  have h1 := h.fits
  have h2 := h.pl
  cases hc <;> simp [setC, ofC] at hl ⊢ <;> exact ⟨by simp; omega, h2⟩
theorem Qs.Ok.put {x : Qs α} (h : x.Ok) (a : α) (hc : Bool) : (putX x a hc).Ok := by
  have h1 := h.fits
  have h2 := h.pl
  unfold putX fullB
  by_cases hf : x.pl ≤ x.hi.length + x.lo.length
  · rw [if_pos (by simpa using hf)]; exact ⟨h1, h2⟩
  · rw [if_neg (by simpa using hf)]
    cases hc <;> simp [setC, ofC] <;> exact ⟨by simp; omega, h2⟩
theorem Qs.Ok.take {x : Qs α} (h : x.Ok) (hc : Bool) : (takeX x hc).Ok := h.set hc _ (by simp)
theorem Qs.Ok.calm {x : Qs α} (h : x.Ok) : (calmX x).Ok := ⟨h.fits, h.pl⟩
theorem Qs.Ok.bare {x : Qs α} (h : x.Ok) : (bareX x).Ok := ⟨by simp [bareX], h.pl⟩
theorem set_of (x : Qs α) (hc : Bool) (l : List α) : ofC (setC x hc l) hc = l := by cases hc <;> rfl
theorem of_le {x : Qs α} (h : x.Ok) (hc : Bool) : (ofC x hc).length ≤ 64 := by
  have h1 := h.fits
  have h2 := h.pl
  cases hc <;> simp [ofC] <;> omega
end

/-- Nothing but the blocks of a list has turned. -/
structure OnlyL (ms : List Nat) (w w' : World) : Prop where
  os : w'.os = w.os
  tape : w'.tape = w.tape
  output : w'.output = w.output
  size : w.heap.size ≤ w'.heap.size
  block : ∀ k, k < w.heap.size → k ∉ ms → w'.heap[k]? = w.heap[k]?
theorem OnlyL.refl (ms : List Nat) (w : World) : OnlyL ms w w := ⟨rfl, rfl, rfl, Nat.le_refl _, fun _ _ _ => rfl⟩
theorem OnlyL.of_below {ms : List Nat} {w w' : World} (h : Below w.heap.size w w') : OnlyL ms w w' := ⟨h.os, h.tape, h.output, h.size, fun k hk _ => h.block k hk⟩
theorem OnlyL.trans {ms ns : List Nat} {a b c : World} (h : OnlyL ms a b) (k : OnlyL ns b c) (hn : ∀ j ∈ ns, j ∈ ms ∨ a.heap.size ≤ j) : OnlyL ms a c :=
  ⟨k.os.trans h.os, k.tape.trans h.tape, k.output.trans h.output, Nat.le_trans h.size k.size, fun j hj hm => (k.block j (Nat.lt_of_lt_of_le hj h.size) (fun hin => (hn j hin).elim hm (by omega))).trans (h.block j hj hm)⟩
theorem OnlyL.below {ms : List Nat} {N : Nat} {w w' : World} (h : OnlyL ms w w') (hm : ∀ j ∈ ms, N ≤ j) (hN : N ≤ w.heap.size) : Below N w w' :=
  ⟨h.os, h.tape, h.output, h.size, fun k hk => h.block k (by omega) (fun hin => by have := hm k hin; omega)⟩
theorem OnlyL.drew {ms : List Nat} {a w : World} (h : OnlyL ms a w) : OnlyL ms a w.drew := ⟨h.os, h.tape, h.output, h.size, h.block⟩
theorem OnlyL.set {ms : List Nat} {w : World} {b : Nat} (hb : b ∈ ms) (o : Nat) (v : Value) : OnlyL ms w (w.setCell ⟨b, o, none⟩ v) :=
  ⟨rfl, rfl, rfl, by simp [World.setCell], fun k _ hk => Below.heap_setCell _ _ _ _ (fun e => hk (by rw [e]; exact hb))⟩
theorem OnlyL.grown {ms : List Nat} {w w' : World} {row : Option Nat} (h : w.grownBy w' row) (hr : ∀ j, row = some j → j ∈ ms) : OnlyL ms w w' :=
  ⟨h.os, h.tape, h.output, h.size, fun k hk hm => h.block k hk (fun e => hm (hr k e.symm))⟩
theorem alloc_below (w : World) (o : Obj) : Below w.heap.size w (w.alloc o) := (Below.refl _ _).alloc (Nat.le_refl _) o
theorem off_ne (p : Nat) {i j : Nat} (h : i ≠ j) : (⟨p, i, none⟩ : Addr) ≠ ⟨p, j, none⟩ := by intro e; injection e; contradiction
theorem onlyL_cell {ms : List Nat} {t o : Nat} {w w' : World} {v : Value} (ho : OnlyL ms w w') (h : w.cell? ⟨t, o, none⟩ = some v) (h1 : t ∉ ms) : w'.cell? ⟨t, o, none⟩ = some v :=
  (World.cell?_of_block (a := ⟨t, o, none⟩) (ho.block t (World.block_lt_of_cell? w ⟨t, o, none⟩ h) h1)).trans h
theorem notin_next {t : Nat} {w : World} {ms ns : List Nat} (h : t ∉ ms) (hlt : t < w.heap.size) (hn : ∀ j ∈ ns, j ∈ ms ∨ w.heap.size ≤ j) : t ∉ ns := fun hin => (hn t hin).elim h (fun hle => absurd hle (by omega))

/-- An object: what lies at p, in which blocks, when it is the queue x. -/
structure Face (α : Type) where
  At : World → Nat → List Nat → Qs α → Prop
  of : ∀ {w w' : World} {p : Nat} {ms : List Nat} {x : Qs α}, At w p ms x → (∀ k ∈ ms, w'.heap[k]? = w.heap[k]?) → At w' p ms x
  lt : ∀ {w : World} {p : Nat} {ms : List Nat} {x : Qs α}, At w p ms x → ∀ k ∈ ms, k < w.heap.size
  ok : ∀ {w : World} {p : Nat} {ms : List Nat} {x : Qs α}, At w p ms x → x.Ok

section
variable {α : Type} {F : Face α} {w w' w1 w2 : World} {p : Nat} {ms ns : List Nat} {x y : Qs α} {v : Value} {e : Ending}
theorem Face.below (h : F.At w p ms x) (hb : Below w.heap.size w w') : F.At w' p ms x := F.of h (fun k hk => hb.block k (F.lt h k hk))
theorem Face.only (h : F.At w p ms x) (hb : OnlyL ns w w') (hd : ∀ k ∈ ms, k ∉ ns) : F.At w' p ms x := F.of h (fun k hk => hb.block k (F.lt h k hk) (hd k hk))
theorem notin_new (h : F.At w p ms x) {t : Nat} (ht : w.heap.size ≤ t) : t ∉ ms := fun hin => by have := F.lt h t hin; omega

/-- What a call that turns it leaves. -/
def Done (F : Face α) (p : Nat) (ms : List Nat) (v : Value) (x : Qs α) (w : World) (e : Ending) (w' : World) : Prop :=
  e = .returned v ∧ ∃ ns, F.At w' p ns x ∧ OnlyL ms w w' ∧ ∀ j ∈ ns, j ∈ ms ∨ w.heap.size ≤ j
def News (F : Face α) (x : Qs α) (w : World) (e : Ending) (w' : World) : Prop :=
  ∃ p ms, e = .returned (.pointer (some ⟨p, 0, none⟩)) ∧ F.At w' p ms x ∧ (∀ j ∈ ms, w.heap.size ≤ j) ∧ Below w.heap.size w w'
def Tells (v : Value) (w : World) (e : Ending) (w' : World) : Prop := e = .returned v ∧ Below w.heap.size w w'
def I64 (n : Int) : Prop := -9223372036854775808 ≤ n ∧ n ≤ 9223372036854775807
theorem Done.same (h : F.At w p ms x) (hb : Below w.heap.size w w') : Done F p ms v x w (.returned v) w' := ⟨rfl, ms, Face.below h hb, OnlyL.of_below hb, fun _ hj => .inl hj⟩
theorem Done.after (hb : Below w.heap.size w w1) (h : Done F p ms v x w1 e w2) : Done F p ms v x w e w2 := by
  obtain ⟨rfl, ns, h1, h2, h3⟩ := h
  exact ⟨rfl, ns, h1, ((OnlyL.of_below hb).trans h2 (fun j hj => .inl hj)), fun j hj => (h3 j hj).imp id (fun hle => Nat.le_trans hb.size hle)⟩

/-- A queue of the call's own, while nothing below N has turned. -/
structure Run (F : Face α) (N : Nat) (w0 w : World) (p : Nat) (ms : List Nat) (x : Qs α) : Prop where
  at_ : F.At w p ms x
  below : Below N w0 w
  hm : ∀ k ∈ ms, N ≤ k
  size : N ≤ w.heap.size
variable {N : Nat} {w0 : World}
theorem Run.more (h : Run F N w0 w p ms x) (hb : Below w.heap.size w w') : Run F N w0 w' p ms x :=
  ⟨Face.below h.at_ hb, h.below.trans (hb.mono h.size), h.hm, Nat.le_trans h.size hb.size⟩
theorem Run.next (h : Run F N w0 w p ms x) (hx : F.At w' p ns y) (ho : OnlyL ms w w') (hn : ∀ j ∈ ns, j ∈ ms ∨ w.heap.size ≤ j) : Run F N w0 w' p ns y :=
  ⟨hx, h.below.trans (ho.below h.hm h.size), fun k hk => (hn k hk).elim (h.hm k) (fun hle => Nat.le_trans h.size hle), Nat.le_trans h.size ho.size⟩
theorem Run.done (h : Run F N w0 w p ms x) (hd : Done F p ms v y w e w') : e = .returned v ∧ ∃ ns, Run F N w0 w' p ns y ∧ OnlyL ms w w' ∧ ∀ j ∈ ns, j ∈ ms ∨ w.heap.size ≤ j := by
  obtain ⟨he, ns, h1, h2, h3⟩ := hd
  exact ⟨he, ns, h.next h1 h2 h3, h2, h3⟩
theorem Run.first {M : Nat} (hx : F.At w' p ms x) (hm : ∀ j ∈ ms, w.heap.size ≤ j) (hb : Below w.heap.size w w') (h0 : Below M w0 w) (hM : M ≤ w.heap.size) : Run F M w0 w' p ms x :=
  ⟨hx, h0.trans (hb.mono hM), fun k hk => Nat.le_trans hM (hm k hk), Nat.le_trans hM hb.size⟩
theorem Run.drew (h : Run F N w0 w p ms x) : Run F N w0 w.drew p ms x := h.more (Below.refl _ _).drew
end

abbrev noStr : ByteArray := ⟨#[]⟩
/-- What is asked of the code, at texts. -/
structure CodeS (F : Face ByteArray) : Prop where
  new : ∀ (n : Int) (w : World), I64 n → Calls Try.prog 6 #[.int .i64 n] w (News F (newX n) w)
  put : ∀ (p : Nat) (ms : List Nat) (x : Qs ByteArray) (s : ByteArray) (h : Bool) (w : World), F.At w p ms x → s.size ≤ maxLen → Calls Try.prog 8 #[.pointer (some ⟨p, 0, none⟩), .string s, .bool h] w (Done F p ms (.int .i64 (putE x)) (putX x s h) w)
  take : ∀ (p : Nat) (ms : List Nat) (x : Qs ByteArray) (h : Bool) (w : World), F.At w p ms x → Calls Try.prog 10 #[.pointer (some ⟨p, 0, none⟩), .bool h] w (Done F p ms (.tuple #[.string (headD x h noStr), .bool (hasC x h)]) (takeX x h) w)
  peek : ∀ (p : Nat) (ms : List Nat) (x : Qs ByteArray) (h : Bool) (w : World), F.At w p ms x → Calls Try.prog 11 #[.pointer (some ⟨p, 0, none⟩), .bool h] w (Tells (.tuple #[.string (headD x h noStr), .bool (hasC x h)]) w)
  len : ∀ (p : Nat) (ms : List Nat) (x : Qs ByteArray) (h : Bool) (w : World), F.At w p ms x → Calls Try.prog 15 #[.pointer (some ⟨p, 0, none⟩), .bool h] w fun e w' => e = .returned (.int .i64 ((ofC x h).length : Nat)) ∧ w = w'
  room : ∀ (p : Nat) (ms : List Nat) (x : Qs ByteArray) (w : World), F.At w p ms x → Calls Try.prog 17 #[.pointer (some ⟨p, 0, none⟩)] w fun e w' => e = .returned (.int .i64 (roomN x : Nat)) ∧ ∃ k, w' = w.drewN k
  fault : ∀ (p : Nat) (ms : List Nat) (x : Qs ByteArray) (w : World), F.At w p ms x → Calls Try.prog 13 #[.pointer (some ⟨p, 0, none⟩)] w (Done F p ms (.bool x.f) (calmX x) w)
  clear : ∀ (p : Nat) (ms : List Nat) (x : Qs ByteArray) (w : World), F.At w p ms x → Calls Try.prog 14 #[.pointer (some ⟨p, 0, none⟩)] w (Done F p ms (.tuple #[]) (bareX x) w)
/-- What is asked of the code, at numbers. -/
structure CodeI (F : Face Int) : Prop where
  new : ∀ (n : Int) (w : World), I64 n → Calls Try.prog 18 #[.int .i64 n] w (News F (newX n) w)
  put : ∀ (p : Nat) (ms : List Nat) (x : Qs Int) (s : Int) (h : Bool) (w : World), F.At w p ms x → I64 s → Calls Try.prog 22 #[.pointer (some ⟨p, 0, none⟩), .int .i64 s, .bool h] w (Done F p ms (.int .i64 (putE x)) (putX x s h) w)
  take : ∀ (p : Nat) (ms : List Nat) (x : Qs Int) (h : Bool) (w : World), F.At w p ms x → Calls Try.prog 20 #[.pointer (some ⟨p, 0, none⟩), .bool h] w (Done F p ms (.tuple #[.int .i64 (headD x h 0), .bool (hasC x h)]) (takeX x h) w)
  len : ∀ (p : Nat) (ms : List Nat) (x : Qs Int) (h : Bool) (w : World), F.At w p ms x → Calls Try.prog 24 #[.pointer (some ⟨p, 0, none⟩), .bool h] w fun e w' => e = .returned (.int .i64 ((ofC x h).length : Nat)) ∧ w = w'
  room : ∀ (p : Nat) (ms : List Nat) (x : Qs Int) (w : World), F.At w p ms x → Calls Try.prog 21 #[.pointer (some ⟨p, 0, none⟩)] w fun e w' => e = .returned (.int .i64 (roomN x : Nat)) ∧ ∃ k, w' = w.drewN k
  fault : ∀ (p : Nat) (ms : List Nat) (x : Qs Int) (w : World), F.At w p ms x → Calls Try.prog 23 #[.pointer (some ⟨p, 0, none⟩)] w (Done F p ms (.bool x.f) (calmX x) w)

end Go.Proofs.Ytpbiigpnbhgilaa.Qu
