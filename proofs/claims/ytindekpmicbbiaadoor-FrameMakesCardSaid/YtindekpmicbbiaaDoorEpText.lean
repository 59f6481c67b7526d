/-
  An epoch's text, walked. Conditions: the library's table of powers is as the program lays it; numbers such as their kinds hold.
-/
import Derived.Test.YtindekpmicbbiaaDoorEpFmt
namespace Go.Proofs.YtindekpmicbbiaaDoor.Epo
open Go.RowKit

/-- A number's decimal digits. -/
def dgs (n : Nat) : ByteArray := ⟨(Lib.decDigits n).toArray⟩
def dot : ByteArray := ⟨#[46]⟩
/-- An epoch's text. -/
def textE (x : Ep) : ByteArray := dgs x.c ++ dot ++ dgs x.a ++ dot ++ dgs x.i

set_option maxRecDepth 100000 in
set_option maxHeartbeats 1000000 in
theorem digits_any (u : Nat) (hu : u ≤ 65535) (w : World) (hE : Env w) : Calls Tryd.prog 51 #[.int .u64 u] w fun e w' => e = .returned (.string (dgs u)) ∧ Below w.heap.size w w' := by
  go_enter Tryd.func51, Tryd.ntmps51
  go_wp2_with (go_at_call 50; go_in)
  go_wp2_with fail
  refine (fmt_any u (by omega) _ hE.1).mono ?_
  rintro e w' ⟨rfl, hb⟩
  go_wp2
  go_ret
  exact ⟨rfl, hb⟩

/-- What a region that calls hands on. -/
def Rest (N : Nat) (w W : World) : Prop := Env W ∧ Below N w W ∧ N < W.heap.size
@[simp] theorem Rest_drew (N : Nat) (w W : World) : Rest N w W.drew = Rest N w W := propext ⟨fun ⟨a, b, c⟩ => ⟨a, ⟨b.os, b.tape, b.output, b.size, b.block⟩, c⟩, fun ⟨a, b, c⟩ => ⟨a, b.drew, c⟩⟩
theorem Rest.next {N : Nat} {w W W' : World} (h : Rest N w W) (hb : Below W.heap.size W W') : Rest N w W' :=
  ⟨h.1.below hb, h.2.1.trans (hb.mono (Nat.le_of_lt h.2.2)), Nat.lt_of_lt_of_le h.2.2 hb.size⟩

theorem dgs_size (u : Nat) (hu : u ≤ 65535) : (dgs u).size ≤ 20 := by
  have h : (dgs u).size = (Lib.decDigits u).length := by simp [dgs, ByteArray.size]
  rw [h, Lib.decDigits_length]
  by_cases h1 : 1 ≤ u
  · have := Lib.numDigits_eq u h1 (by omega)
    split at this <;> omega
  · obtain rfl : u = 0 := by omega
    rw [Lib.nDigits_small (by omega)]; omega

/-- One text behind another one, of few bytes. -/
theorem add_run {a b : ByteArray} (m n : Nat) (ha : a.size ≤ m) (hb : b.size ≤ n) (h : m + n ≤ 1000) (W : World) : (Op.stringOp .add a b).run Tryd.prog W = .ok (.string (a ++ b)) W :=
  run_string_add_sum W a b (by omega)
theorem add_size {a b : ByteArray} {m n : Nat} (ha : a.size ≤ m) (hb : b.size ≤ n) : (a ++ b).size ≤ m + n := by
  rw [ByteArray.size_append]; omega

set_option maxRecDepth 100000 in
set_option maxHeartbeats 1000000 in
theorem text_any (x : Ep) (hx : x.fit) (w : World) (hE : Env w) : Calls Tryd.prog 36 #[.agg #[.int .u16 x.c, .int .u8 x.a, .int .u16 x.i]] w fun e w' => e = .returned (.string (textE x)) ∧ Below w.heap.size w w' := by
  obtain ⟨h1, h2, h3⟩ := hx
  have w5 : IntKind.u64.wrap (x.c : Int) = x.c := by rw [IntKind.wrap_u64]; omega
  have w6 : IntKind.u64.wrap (x.a : Int) = x.a := by rw [IntKind.wrap_u64]; omega
  have w7 : IntKind.u64.wrap (x.i : Int) = x.i := by rw [IntKind.wrap_u64]; omega
  have HB := Lib.hid (box_mk w [.int .u16 x.c, .int .u8 x.a, .int .u16 x.i] 24)
  have HE := Lib.hid hE
  clear hE
  have s1 := dgs_size x.c h1
  have s2 := dgs_size x.a (by omega)
  have s3 := dgs_size x.i h3
  have sd : (⟨#[46]⟩ : ByteArray).size ≤ 1 := by decide
  have a1 := add_run 20 1 s1 sd (by omega)
  have a2 := add_run 21 20 (add_size s1 sd) s2 (by omega)
  have a3 := add_run 41 1 (add_size (add_size s1 sd) s2) sd (by omega)
  have a4 := add_run 42 20 (add_size (add_size (add_size s1 sd) s2) sd) s3 (by omega)
  clear s1 s2 s3 sd
  have H1 := Lib.hid h1
  have H2 := Lib.hid (show x.a ≤ 65535 by omega)
  have H3 := Lib.hid h3
  clear h1 h2 h3
  go_enter Tryd.func36, Tryd.ntmps36
  go_wp2_with fail
  obtain ⟨W, HW⟩ : ∃ W, Hid (W = (w.alloc (.cells [.int .u16 x.c, .int .u8 x.a, .int .u16 x.i].toArray 24))) := ⟨_, Lib.hid rfl⟩
  rw [← HW.out] at HB
  rw [← HW.out]
  have hlt := HB.out.2.1
  have c5 := HB.out.2.2.1
  have hbel := HB.out.2.2.2
  have hr : Rest w.heap.size w W := ⟨HE.out.below hbel, hbel, hlt⟩
  have x0 := c5 0 _ rfl
  have x1 := c5 1 _ rfl
  have x2 := c5 2 _ rfl
  clear c5 HB HW HE hbel hlt
  generalize hN : w.heap.size = N at *
  go_region_held3 (fun W' => W'.cell? ⟨N, 0, none⟩ = some (.int .u16 x.c) ∧ W'.cell? ⟨N, 1, none⟩ = some (.int .u8 x.a) ∧ W'.cell? ⟨N, 2, none⟩ = some (.int .u16 x.i) ∧ Rest N w W') (go_keep)
    (first | (go_at_call 51; have hS := ‹_ ∧ _ ∧ _ ∧ Rest _ _ _›; refine (digits_any _ (by first | exact H1.out | exact H2.out | exact H3.out) _ hS.2.2.2.1).mono ?_; rintro e w1 ⟨rfl, hb1⟩; have y0 := kept_cell hb1 hS.1; have y1 := kept_cell hb1 hS.2.1; have y2 := kept_cell hb1 hS.2.2.1; have hr1 := hS.2.2.2.next hb1))
  clear a1 a2 a3 a4 w5 w6 w7 hr x0 x1 x2 y0 y1 y2 hS
  go_wp2
  go_ret
  exact ⟨rfl, by rw [hN]; exact hr1.2.1⟩
end Go.Proofs.YtindekpmicbbiaaDoor.Epo
