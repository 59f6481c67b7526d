/-
  The reference of layer 14, walked: join. Conditions: as each states.
-/
import Derived.Test.YtmlopacekoghkaaVeVal
import Derived.Test.YtmlopacekoghkaaIcR
import Derived.Lib.Strings
import Derived.Deep.RegionHeld3
import Derived.BigRegion
import Derived.Test.YtmlopacekoghkaaVeFits
import Derived.Laws.BytesArg
namespace Go.Proofs.Ytmlopacekoghkaa.Ve
open Go.RowKit
open Go.Proofs.Ytmlopacekoghkaa.Il hiding Next
open Go.Proofs.Ytmlopacekoghkaa.Ic

def pairS (x : Int × Int) : Bs := [UInt8.ofNat x.1.toNat, UInt8.ofNat x.2.toNat]
/-- The open brackets as a text. -/
def brS (l : Br) : Bs := l.flatMap pairS
def ahV (a : Ah) : Value := .agg #[.bool a.on, .int .i64 a.kd, .string (S (brS a.br))]
theorem brS_len (l : Br) : (brS l).length = 2 * l.length := by
  induction l with
  | nil => rfl
  | cons x l ih =>
    show (pairS x ++ brS l).length = _
    rw [List.length_append, ih]
    simp [pairS]; omega
theorem brS_app (l m : Br) : brS (l ++ m) = brS l ++ brS m := by unfold brS; rw [List.flatMap_append]
def Small (l : Br) : Prop := ∀ x ∈ l, (0 ≤ x.1 ∧ x.1 ≤ 24) ∧ (0 ≤ x.2 ∧ x.2 ≤ 7)
theorem small_of {a : Ah} (h : Wf a) : Small a.br := fun x hx => by have := h.br x hx; omega
theorem byte_inj {x y : Int} (hx : 0 ≤ x ∧ x ≤ 24) (hy : 0 ≤ y ∧ y ≤ 24) (h : UInt8.ofNat x.toNat = UInt8.ofNat y.toNat) : x = y := by
  have := congrArg UInt8.toNat h
  simp at this
  omega
theorem brS_inj : ∀ {l m : Br}, Small l → Small m → brS l = brS m → l = m
  | [], [], _, _, _ => rfl
  | [], y :: m, _, _, h => by simp [brS, pairS] at h
  | x :: l, [], _, _, h => by simp [brS, pairS] at h
  | x :: l, y :: m, hl, hm, h => by
    have h' : UInt8.ofNat x.1.toNat :: UInt8.ofNat x.2.toNat :: brS l = UInt8.ofNat y.1.toNat :: UInt8.ofNat y.2.toNat :: brS m := h
    injection h' with h1 h'
    injection h' with h2 h'
    have q1 := hl x (List.mem_cons_self ..)
    have q2 := hm y (List.mem_cons_self ..)
    have e1 := byte_inj q1.1 q2.1 h1
    have e2 := byte_inj (x := x.2) (y := y.2) (by omega) (by omega) h2
    rw [brS_inj (fun z hz => hl z (List.mem_cons_of_mem _ hz)) (fun z hz => hm z (List.mem_cons_of_mem _ hz)) h', Prod.ext e1 e2]
theorem str_same {a b : Ah} (ha : Wf a) (hb : Wf b) : ((S (brS a.br)).toList == (S (brS b.br)).toList) = decide (a.br = b.br) := by
  rw [Lib.toList_data, Lib.toList_data]
  show (brS a.br == brS b.br) = _
  by_cases h : a.br = b.br
  · rw [h, decide_eq_true rfl]; simp
  · rw [decide_eq_false h, beq_eq_false_iff_ne]
    intro e
    exact h (brS_inj (small_of ha) (small_of hb) e)

theorem rLogic_any (kd : Int) (w : World) : Calls Try.prog 55 #[.int .i64 kd] w (Tells (.bool (mayI 13 kd)) w) := by
  have HM := Lib.hid (fun W => rMay_any 13 kd W)
  generalize mayI 13 kd = b at *
  go_enter Try.func55, Try.ntmps55
  go_wp2_with fail
  refine (HM.out _).mono ?_
  rintro e w1 ⟨rfl, hb⟩
  go_wp2
  go_ret
  exact ⟨rfl, hb⟩
theorem box_three (w : World) (A B C : Array Value) (t s u : TypeId) : Below w.heap.size w (((w.alloc (.cells A t)).alloc (.cells B s)).alloc (.cells C u)) :=
  (((Below.refl _ _).alloc (Nat.le_refl _) _).alloc (by simp) _).alloc (by simp; omega) _

set_option maxRecDepth 100000 in
set_option maxHeartbeats 4000000 in
theorem rJoin_any (a b : Ah) (w : World) (ha : Wf a) (hb : Wf b) : Calls Try.prog 47 #[ahV a, ahV b] w (Tells (.tuple #[ahV (joinK a b), .bool (joinO a b)]) w) := by
  have hs := str_same ha hb
  unfold joinK joinO
  obtain ⟨ao, ak, ab⟩ := a
  obtain ⟨bo, bk, bb⟩ := b
  dsimp only at hs ⊢
  unfold ahV
  dsimp only
  clear ha hb
  generalize decide (ab = bb) = q at *
  cases ao
  · simp only [Bool.false_eq_true, if_false, Bool.not_false, Bool.true_or]
    generalize S (brS ab) = s1 at *
    generalize S (brS bb) = s2 at *
    clear hs
    go_enter Try.func47, Try.ntmps47
    go_wp2
    refine bodyPost_ret (v := .tuple #[.agg #[.bool bo, .int .i64 bk, .string s2], .bool true]) (by simp [results, Try.results47, go_sem]) rfl ⟨rfl, box_three _ _ _ _ _ _ _⟩
  · simp only [if_true, Bool.not_true, Bool.false_or]
    by_cases hk : ak = bk
    · subst hk
      rw [if_pos rfl]
      have hkb : (ak == ak) = true := by simp
      generalize S (brS ab) = s1 at *
      generalize S (brS bb) = s2 at *
      go_enter Try.func47, Try.ntmps47
      go_wp2
      go_region
      go_wp2
      refine bodyPost_ret (v := .tuple #[.agg #[.bool true, .int .i64 ak, .string s1], .bool q]) (by simp [results, Try.results47, go_sem]) rfl ⟨rfl, (box_three _ _ _ _ _ _ _).drew⟩
    · rw [if_neg hk]
      have hkb : (ak != bk) = true := by simpa using hk
      clear hk
      generalize S (brS ab) = s1 at *
      generalize S (brS bb) = s2 at *
      go_enter Try.func47, Try.ntmps47
      go_wp2
      go_region
      go_wp2
      refine bodyPost_ret (v := .tuple #[.agg #[.bool true, .int .i64 0, .string s1], .bool q]) (by simp [results, Try.results47, go_sem]) rfl ⟨rfl, (box_three _ _ _ _ _ _ _).drew⟩
end Go.Proofs.Ytmlopacekoghkaa.Ve

namespace Go.Proofs.Ytmlopacekoghkaa.Ve
open Go.RowKit
open Go.Proofs.Ytmlopacekoghkaa.Il hiding Next
open Go.Proofs.Ytmlopacekoghkaa.Ic

theorem box_four (w : World) (A B C D : Array Value) (t s u v : TypeId) : Below w.heap.size w ((((w.alloc (.cells A t)).alloc (.cells B s)).alloc (.cells C u)).alloc (.cells D v)) :=
  (box_three w A B C t s u).alloc (by simp; omega) _
theorem keep_new {w W w1 : World} {n : Nat} {A : Array Value} {t : TypeId} (hn : n = W.heap.size) (hb : Below (W.alloc (.cells A t)).heap.size (W.alloc (.cells A t)) w) (hb1 : Below w.heap.size w w1) :
    (∀ j x, A[j]? = some x → w1.cell? ⟨n, j, none⟩ = some x) ∧ ∀ j, w1.frozen? ⟨n, j, none⟩ = false := by
  subst hn
  have hlt : W.heap.size < (W.alloc (.cells A t)).heap.size := by simp
  refine ⟨fun j x hx => kept_cell hb1 (kept_cell hb (by rw [World.cell?_alloc_new]; exact hx)), fun j => ?_⟩
  have e1 := World.frozen?_of_block (a := ⟨W.heap.size, j, none⟩) (hb1.block W.heap.size (Nat.lt_of_lt_of_le hlt hb.size))
  have e2 := World.frozen?_of_block (a := ⟨W.heap.size, j, none⟩) (hb.block W.heap.size hlt)
  exact e1.trans (e2.trans (World.frozen?_alloc_new _ _ _ _))
/-- Four new blocks, and a call behind them. -/
structure Rb (w W : World) (I A R B : Array Value) : Prop where
  i : ∀ j x, I[j]? = some x → W.cell? ⟨w.heap.size, j, none⟩ = some x
  a : ∀ j x, A[j]? = some x → W.cell? ⟨w.heap.size + 1, j, none⟩ = some x
  r : ∀ j x, R[j]? = some x → W.cell? ⟨w.heap.size + 1 + 1, j, none⟩ = some x
  b : ∀ j x, B[j]? = some x → W.cell? ⟨w.heap.size + 1 + 1 + 1, j, none⟩ = some x
  fr : ∀ j, W.frozen? ⟨w.heap.size + 1 + 1, j, none⟩ = false
  fb : ∀ j, W.frozen? ⟨w.heap.size + 1 + 1 + 1, j, none⟩ = false
  below : Below w.heap.size w W
theorem four_boxes {w w1 : World} {A B C D : Array Value} {t s u v : TypeId} (hb : Below ((((w.alloc (.cells A t)).alloc (.cells B s)).alloc (.cells C u)).alloc (.cells D v)).heap.size ((((w.alloc (.cells A t)).alloc (.cells B s)).alloc (.cells C u)).alloc (.cells D v)) w1) : Rb w w1 A B C D := by
  have k0 := keep_new (w := (((w.alloc (.cells A t)).alloc (.cells B s)).alloc (.cells C u)).alloc (.cells D v)) (W := w) (n := w.heap.size) rfl (box_three (w.alloc (.cells A t)) B C D s u v) hb
  have k1 := keep_new (w := (((w.alloc (.cells A t)).alloc (.cells B s)).alloc (.cells C u)).alloc (.cells D v)) (W := w.alloc (.cells A t)) (n := w.heap.size + 1) (by simp) (box_two ((w.alloc (.cells A t)).alloc (.cells B s)) C D u v) hb
  have k2 := keep_new (w := (((w.alloc (.cells A t)).alloc (.cells B s)).alloc (.cells C u)).alloc (.cells D v)) (W := (w.alloc (.cells A t)).alloc (.cells B s)) (n := w.heap.size + 1 + 1) (by simp) ((Below.refl _ _).alloc (Nat.le_refl _) (.cells D v)) hb
  have k3 := keep_new (w := (((w.alloc (.cells A t)).alloc (.cells B s)).alloc (.cells C u)).alloc (.cells D v)) (W := ((w.alloc (.cells A t)).alloc (.cells B s)).alloc (.cells C u)) (n := w.heap.size + 1 + 1 + 1) (by simp) (Below.refl _ _) hb
  exact ⟨k0.1, k1.1, k2.1, k3.1, k2.2, k3.2, (box_four w A B C D t s u v).trans (hb.mono (by simp; omega))⟩
theorem below_set {N : Nat} {W0 W : World} {b : Nat} (hb : N ≤ b) (j : Nat) (v : Value) (h : Below N W0 W) : Below N W0 (W.setCell ⟨b, j, none⟩ v) := h.setCell (p := ⟨b, j, none⟩) hb v

end Go.Proofs.Ytmlopacekoghkaa.Ve
