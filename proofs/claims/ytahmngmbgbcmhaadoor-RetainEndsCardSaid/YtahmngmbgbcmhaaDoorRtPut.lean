/-
  The code's three writes of a slot, walked. Conditions: a store that has written few bytes.
-/
import Derived.Test.YtahmngmbgbcmhaaDoorRtSeal
import Derived.Test.YtahmngmbgbcmhaaDoorRtCNew
import Derived.Test.YtahmngmbgbcmhaaDoorRtWays
namespace Go.Proofs.YtahmngmbgbcmhaaDoor.Ret
open Go.RowKit
open Oct
open Sto (St CodeAt Only wrote wroteE)

theorem only_of {p g : Nat} {w w' : World} (h : Below w.heap.size w w') : Only p g w w' := ⟨h.os, h.tape, h.output, h.size, fun k hk _ _ => h.block k hk⟩

/-- A write leaves as many, or some more. -/
theorem wrote_fine (x : St) (a : Int) (s : List UInt8) : (wrote x a s).n ≤ x.n + s.length ∧ ∀ k, (wrote x a s).arm = some k → ∃ j, x.arm = some j ∧ k ≤ j := by
  unfold wrote
  by_cases h1 : Sto.there x.l a s.length = false
  · rw [if_pos h1]; exact ⟨by omega, fun k h => ⟨k, h, Nat.le_refl _⟩⟩
  rw [if_neg h1]
  by_cases h2 : x.up = false
  · rw [if_pos h2]; exact ⟨by omega, fun k h => ⟨k, h, Nat.le_refl _⟩⟩
  rw [if_neg h2]
  cases hx : x.arm with
  | none => exact ⟨Nat.le_refl _, fun k h => by cases h⟩
  | some m =>
    by_cases h3 : m < s.length
    · simp only [h3, if_true]; exact ⟨by omega, fun k h => by cases h⟩
    · simp only [h3, if_false]; exact ⟨Nat.le_refl _, fun k h => by injection h with h; exact ⟨m, rfl, by omega⟩⟩

/-- What it takes to write. -/
structure Few (x : St) (m : Nat) : Prop where
  n : x.n ≤ m
  arm : ∀ k, x.arm = some k → k ≤ 9223372036854775807
theorem Few.wrote {x : St} {m : Nat} (h : Few x m) (a : Int) (s : List UInt8) : Few (wrote x a s) (m + s.length) :=
  ⟨by have := (wrote_fine x a s).1; have := h.n; omega, fun k hk => by
    obtain ⟨j, h1, h2⟩ := (wrote_fine x a s).2 k hk
    have := h.arm j h1
    omega⟩

def PutEnd (p g cap : Nat) (e : Int) (x : St) (w : World) (en : Ending) (w' : World) : Prop := en = .returned (.int .i64 e) ∧ CodeAt w' p g cap x ∧ Only p g w w'

theorem write_few (p g cap : Nat) (x : St) (m : Nat) (h : Few x m) (hm : m ≤ 2000000) (a : Int) (s : ByteArray) (l : List UInt8) (hl : s.data.toList = l) (ha : 0 ≤ a) (hb : a ≤ 1000) (w : World) (hx : CodeAt w p g cap x) :
    Calls Tryd.prog 40 #[.pointer (some ⟨p, 0, none⟩), .int .i64 a, .string s] w (PutEnd p g cap (wroteE x a l) (Sto.wrote x a l) w) := by
  subst hl
  exact Sto.write_any p g cap x a s w hx (by omega) (by omega) (by have := h.n; omega) h.arm

set_option maxRecDepth 100000 in
set_option maxHeartbeats 4000000 in
theorem put_one (p g cap : Nat) (x y1 y2 y3 : St) (r : Rc) (k : Int) (e1 e2 e3 : Int) (L : ByteArray) (w : World) (hx : CodeAt w p g cap x)
    (h1 : ∀ w, CodeAt w p g cap x → Calls Tryd.prog 40 #[.pointer (some ⟨p, 0, none⟩), .int .i64 k, .string ⟨#[0]⟩] w (PutEnd p g cap e1 y1 w))
    (h2 : ∀ w, CodeAt w p g cap y1 → Calls Tryd.prog 40 #[.pointer (some ⟨p, 0, none⟩), .int .i64 (k + 1), .string L] w (PutEnd p g cap e2 y2 w))
    (h3 : ∀ w, CodeAt w p g cap y2 → Calls Tryd.prog 40 #[.pointer (some ⟨p, 0, none⟩), .int .i64 k, .string ⟨#[165]⟩] w (PutEnd p g cap e3 y3 w))
    (hs : ∀ w, Calls Tryd.prog 41 #[.agg #[.int .u32 r.q, .int .u16 r.i, .string r.d]] w fun e w' => e = .returned (.string L) ∧ Below w.heap.size w w')
    (n1 : e1 ≠ 0) :
    Calls Tryd.prog 34 #[.pointer (some ⟨p, 0, none⟩), .int .i64 k, .agg #[.int .u32 r.q, .int .u16 r.i, .string r.d]] w (PutEnd p g cap e1 y1 w) := by
  have hp := hx.plt
  have hg := hx.glt
  have HX := Lib.hid hx
  have H1 := Lib.hid h1
  have H2 := Lib.hid h2
  have H3 := Lib.hid h3
  have HS := Lib.hid hs
  obtain ⟨q, i, d⟩ := r
  clear hx h1 h2 h3 hs
  go_enter Tryd.func34, Tryd.ntmps34
  have hL := (Below.refl w.heap.size w).alloc (Nat.le_refl _) (Obj.cells #[Value.int IntKind.u32 q, Value.int IntKind.u16 i, Value.string d] 39)
  have hz : RecAt _ w.heap.size q i d := RecAt.new w q i d 39
  have HZ := Lib.hid (⟨only_of (p := p) (g := g) hL, hz, HX.out.below hL hp hg⟩ : _ ∧ _ ∧ _)
  clear hL hz HX
  go_wp2_with fail
  obtain ⟨hL, hz, hx⟩ := HZ.out
  clear HZ
  generalize w.alloc (Obj.cells #[Value.int IntKind.u32 q, Value.int IntKind.u16 i, Value.string d] 39) = W0 at *
  generalize hNN : w.heap.size = N at *
  clear hNN
  refine (H1.out _ hx).mono ?_
  rintro e w1 ⟨rfl, hx1, ho1⟩
  have hz1 := hz.of (ho1.block N hz.lt (by omega) (by omega))
  have hL1 := hL.trans ho1
  clear hL hz ho1 hx H1
  go_wp2
  go_ret
  exact ⟨rfl, hx1, hL1⟩

set_option maxRecDepth 100000 in
set_option maxHeartbeats 4000000 in
theorem put_two (p g cap : Nat) (x y1 y2 y3 : St) (r : Rc) (k : Int) (e1 e2 e3 : Int) (L : ByteArray) (w : World) (hx : CodeAt w p g cap x)
    (h1 : ∀ w, CodeAt w p g cap x → Calls Tryd.prog 40 #[.pointer (some ⟨p, 0, none⟩), .int .i64 k, .string ⟨#[0]⟩] w (PutEnd p g cap e1 y1 w))
    (h2 : ∀ w, CodeAt w p g cap y1 → Calls Tryd.prog 40 #[.pointer (some ⟨p, 0, none⟩), .int .i64 (k + 1), .string L] w (PutEnd p g cap e2 y2 w))
    (h3 : ∀ w, CodeAt w p g cap y2 → Calls Tryd.prog 40 #[.pointer (some ⟨p, 0, none⟩), .int .i64 k, .string ⟨#[165]⟩] w (PutEnd p g cap e3 y3 w))
    (hs : ∀ w, Calls Tryd.prog 41 #[.agg #[.int .u32 r.q, .int .u16 r.i, .string r.d]] w fun e w' => e = .returned (.string L) ∧ Below w.heap.size w w')
    (hk0 : 0 ≤ k) (hk1 : k ≤ 1000) (n1 : e1 = 0) (n2 : e2 ≠ 0) :
    Calls Tryd.prog 34 #[.pointer (some ⟨p, 0, none⟩), .int .i64 k, .agg #[.int .u32 r.q, .int .u16 r.i, .string r.d]] w (PutEnd p g cap e2 y2 w) := by
  have hp := hx.plt
  have hg := hx.glt
  have HX := Lib.hid hx
  have H1 := Lib.hid h1
  have H2 := Lib.hid h2
  have H3 := Lib.hid h3
  have HS := Lib.hid hs
  obtain ⟨q, i, d⟩ := r
  clear hx h1 h2 h3 hs
  go_enter Tryd.func34, Tryd.ntmps34
  have hL := (Below.refl w.heap.size w).alloc (Nat.le_refl _) (Obj.cells #[Value.int IntKind.u32 q, Value.int IntKind.u16 i, Value.string d] 39)
  have hz : RecAt _ w.heap.size q i d := RecAt.new w q i d 39
  have HZ := Lib.hid (⟨only_of (p := p) (g := g) hL, hz, HX.out.below hL hp hg⟩ : _ ∧ _ ∧ _)
  clear hL hz HX
  go_wp2_with fail
  obtain ⟨hL, hz, hx⟩ := HZ.out
  clear HZ
  generalize w.alloc (Obj.cells #[Value.int IntKind.u32 q, Value.int IntKind.u16 i, Value.string d] 39) = W0 at *
  generalize hNN : w.heap.size = N at *
  clear hNN
  refine (H1.out _ hx).mono ?_
  rintro e w1 ⟨rfl, hx1, ho1⟩
  have hz1 := hz.of (ho1.block N hz.lt (by omega) (by omega))
  have hL1 := hL.trans ho1
  clear hL hz ho1 hx H1
  subst n1
  have r0 := hz1.c0
  have r1 := hz1.c1
  have r2 := hz1.c2
  have hlt : N < w1.heap.size := hz1.lt
  go_wp2_with fail
  refine (HS.out _).mono ?_
  rintro e w2 ⟨rfl, hb2⟩
  have hx2 := hx1.below hb2 hx1.plt hx1.glt
  have hL2 := hL1.trans (only_of hb2)
  clear hx1 hb2 hL1 r0 r1 r2 hz1 hlt HS
  go_wp2_with fail
  refine (H2.out _ hx2).mono ?_
  rintro e w3 ⟨rfl, hx3, ho3⟩
  have hL3 := hL2.trans ho3
  clear hx2 hL2 ho3 H2
  go_wp2
  go_ret
  exact ⟨rfl, hx3, hL3⟩

set_option maxRecDepth 100000 in
set_option maxHeartbeats 4000000 in
theorem put_all (p g cap : Nat) (x y1 y2 y3 : St) (r : Rc) (k : Int) (e1 e2 e3 : Int) (L : ByteArray) (w : World) (hx : CodeAt w p g cap x)
    (h1 : ∀ w, CodeAt w p g cap x → Calls Tryd.prog 40 #[.pointer (some ⟨p, 0, none⟩), .int .i64 k, .string ⟨#[0]⟩] w (PutEnd p g cap e1 y1 w))
    (h2 : ∀ w, CodeAt w p g cap y1 → Calls Tryd.prog 40 #[.pointer (some ⟨p, 0, none⟩), .int .i64 (k + 1), .string L] w (PutEnd p g cap e2 y2 w))
    (h3 : ∀ w, CodeAt w p g cap y2 → Calls Tryd.prog 40 #[.pointer (some ⟨p, 0, none⟩), .int .i64 k, .string ⟨#[165]⟩] w (PutEnd p g cap e3 y3 w))
    (hs : ∀ w, Calls Tryd.prog 41 #[.agg #[.int .u32 r.q, .int .u16 r.i, .string r.d]] w fun e w' => e = .returned (.string L) ∧ Below w.heap.size w w')
    (hk0 : 0 ≤ k) (hk1 : k ≤ 1000) (n1 : e1 = 0) (n2 : e2 = 0) :
    Calls Tryd.prog 34 #[.pointer (some ⟨p, 0, none⟩), .int .i64 k, .agg #[.int .u32 r.q, .int .u16 r.i, .string r.d]] w (PutEnd p g cap e3 y3 w) := by
  have hp := hx.plt
  have hg := hx.glt
  have HX := Lib.hid hx
  have H1 := Lib.hid h1
  have H2 := Lib.hid h2
  have H3 := Lib.hid h3
  have HS := Lib.hid hs
  obtain ⟨q, i, d⟩ := r
  clear hx h1 h2 h3 hs
  go_enter Tryd.func34, Tryd.ntmps34
  have hL := (Below.refl w.heap.size w).alloc (Nat.le_refl _) (Obj.cells #[Value.int IntKind.u32 q, Value.int IntKind.u16 i, Value.string d] 39)
  have hz : RecAt _ w.heap.size q i d := RecAt.new w q i d 39
  have HZ := Lib.hid (⟨only_of (p := p) (g := g) hL, hz, HX.out.below hL hp hg⟩ : _ ∧ _ ∧ _)
  clear hL hz HX
  go_wp2_with fail
  obtain ⟨hL, hz, hx⟩ := HZ.out
  clear HZ
  generalize w.alloc (Obj.cells #[Value.int IntKind.u32 q, Value.int IntKind.u16 i, Value.string d] 39) = W0 at *
  generalize hNN : w.heap.size = N at *
  clear hNN
  refine (H1.out _ hx).mono ?_
  rintro e w1 ⟨rfl, hx1, ho1⟩
  have hz1 := hz.of (ho1.block N hz.lt (by omega) (by omega))
  have hL1 := hL.trans ho1
  clear hL hz ho1 hx H1
  subst n1 n2
  have r0 := hz1.c0
  have r1 := hz1.c1
  have r2 := hz1.c2
  have hlt : N < w1.heap.size := hz1.lt
  go_wp2_with fail
  refine (HS.out _).mono ?_
  rintro e w2 ⟨rfl, hb2⟩
  have hx2 := hx1.below hb2 hx1.plt hx1.glt
  have hL2 := hL1.trans (only_of hb2)
  clear hx1 hb2 hL1 r0 r1 r2 hz1 hlt HS
  go_wp2_with fail
  refine (H2.out _ hx2).mono ?_
  rintro e w3 ⟨rfl, hx3, ho3⟩
  have hL3 := hL2.trans ho3
  clear hx2 hL2 ho3 H2
  go_wp2_with fail
  refine (H3.out _ hx3).mono ?_
  rintro e w4 ⟨rfl, hx4, ho4⟩
  have hL4 := hL3.trans ho4
  clear hx3 hL3 ho4 H3
  go_wp2
  go_ret
  exact ⟨rfl, hx4, hL4⟩

theorem put_any (p g cap : Nat) (x : St) (k : Nat) (kk : Int) (r : Rc) (w : World) (hx : CodeAt w p g cap x) (hkk : kk = k) (hk : k ≤ 900) (hf : Fine x) (hr : r.Ok) :
    Calls Tryd.prog 34 #[.pointer (some ⟨p, 0, none⟩), .int .i64 kk, .agg #[.int .u32 r.q, .int .u16 r.i, .string r.d]] w (PutEnd p g cap (threeE x k (slot r)) (three x k (slot r)) w) := by
  subst hkk
  have f0 : Few x 1000000 := ⟨hf.n, hf.arm⟩
  have f1 := f0.wrote (k : Int) [0]
  have f2 := f1.wrote ((k + 1 : Nat) : Int) (slot r)
  have hs := slot_length hr.d
  have f1' : Few (wrote x k [0]) 1000001 := f1
  have f2' : Few (wrote (wrote x k [0]) ((k + 1 : Nat) : Int) (slot r)) 1000074 := by rw [hs] at f2; exact f2
  have h1 := write_few p g cap x 1000000 f0 (by omega) (k : Int) ⟨#[0]⟩ [0] rfl (by omega) (by omega)
  have h2 := write_few p g cap _ 1000001 f1' (by omega) ((k + 1 : Nat) : Int) (S (slot r)) (slot r) rfl (by omega) (by omega)
  have h3 := write_few p g cap _ 1000074 f2' (by omega) (k : Int) ⟨#[165]⟩ [165] rfl (by omega) (by omega)
  have hsl := fun w => csealed_any r w hr
  have e : ((k + 1 : Nat) : Int) = (k : Int) + 1 := by omega
  unfold threeE three
  rw [e] at h2 h3 ⊢
  by_cases n1 : wroteE x k [0] = 0
  · have m1 : ¬ (wroteE x k [0] ≠ 0) := fun h => h n1
    rw [if_neg m1, if_neg m1]
    by_cases n2 : wroteE (wrote x k [0]) ((k : Int) + 1) (slot r) = 0
    · have m2 : ¬ (wroteE (wrote x k [0]) ((k : Int) + 1) (slot r) ≠ 0) := fun h => h n2
      rw [if_neg m2, if_neg m2]
      exact put_all p g cap x (wrote x k [0]) (wrote (wrote x k [0]) ((k : Int) + 1) (slot r)) (wrote (wrote (wrote x k [0]) ((k : Int) + 1) (slot r)) k [165]) r k (wroteE x k [0]) (wroteE (wrote x k [0]) ((k : Int) + 1) (slot r)) (wroteE (wrote (wrote x k [0]) ((k : Int) + 1) (slot r)) k [165]) (S (slot r)) w hx h1 h2 h3 hsl (by omega) (by omega) n1 n2
    · rw [if_pos n2, if_pos n2]
      exact put_two p g cap x (wrote x k [0]) (wrote (wrote x k [0]) ((k : Int) + 1) (slot r)) (wrote (wrote (wrote x k [0]) ((k : Int) + 1) (slot r)) k [165]) r k (wroteE x k [0]) (wroteE (wrote x k [0]) ((k : Int) + 1) (slot r)) (wroteE (wrote (wrote x k [0]) ((k : Int) + 1) (slot r)) k [165]) (S (slot r)) w hx h1 h2 h3 hsl (by omega) (by omega) n1 n2
  · rw [if_pos n1, if_pos n1]
    exact put_one p g cap x (wrote x k [0]) (wrote (wrote x k [0]) ((k : Int) + 1) (slot r)) (wrote (wrote (wrote x k [0]) ((k : Int) + 1) (slot r)) k [165]) r k (wroteE x k [0]) (wroteE (wrote x k [0]) ((k : Int) + 1) (slot r)) (wroteE (wrote (wrote x k [0]) ((k : Int) + 1) (slot r)) k [165]) (S (slot r)) w hx h1 h2 h3 hsl n1

end Go.Proofs.YtahmngmbgbcmhaaDoor.Ret
