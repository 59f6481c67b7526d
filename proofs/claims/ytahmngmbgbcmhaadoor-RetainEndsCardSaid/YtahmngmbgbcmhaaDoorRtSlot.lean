/-
  The reference's bytes of a record, walked. Conditions: none but on sizes.
-/
import Derived.Test.YtahmngmbgbcmhaaDoorRtMath
import Derived.Test.YtahmngmbgbcmhaaDoorOctEyes
import Derived.Test.YtahmngmbgbcmhaaDoorSeal
import Derived.Test.YtahmngmbgbcmhaaDoorStMore
import Derived.Deep.RegionHeld3
namespace Go.Proofs.YtahmngmbgbcmhaaDoor.Ret
open Go.RowKit
open Oct

theorem sealed_list (l : List UInt8) : sealedB (S l) = S (sealL l) := by
  apply ByteArray.ext
  apply Array.ext'
  have hn := (Sums.more 0xFFFF#16 l).isLt
  simp [sealedB, sealL, S, strOfNums, sum]
  have e1 : ∀ n : Nat, ((n : Int) / 256).toNat = n / 256 := fun n => by omega
  have e2 : ∀ n : Nat, ((n : Int) % 256).toNat = n % 256 := fun n => by omega
  rw [e1, e2]
  exact ⟨rfl, rfl⟩

/-- A record as a value. -/
def Rc.val (r : Rc) : Value := .agg #[.int .u32 r.q, .int .u16 r.i, .string r.d]

/-- What the law boxes. -/
theorem rec_cells (w : World) (q i : Nat) (d : ByteArray) (t : TypeId) : ∀ j v, #[Value.int .u32 q, .int .u16 i, .string d][j]? = some v →
    (w.alloc (.cells #[.int .u32 q, .int .u16 i, .string d] t)).cell? ⟨w.heap.size, j, none⟩ = some v := by
  intro j v hv
  rw [cell_of_row _ _ j _ t (0, 0) (heap_alloc_new w _)]
  exact hv

/-- A cell behind a call that makes memory. -/
theorem kept_cell {w w1 : World} {b o : Nat} {v : Value} (hb : Below w.heap.size w w1) (h : w.cell? ⟨b, o, none⟩ = some v) : w1.cell? ⟨b, o, none⟩ = some v :=
  (hb.cell (p := ⟨b, o, none⟩) (World.block_lt_of_cell? w ⟨b, o, none⟩ h)).trans h

theorem add_S (a b : List UInt8) (h : a.length + b.length ≤ 9223372036854775807) : ∀ w : World, (Op.stringOp .add (S a) (S b)).run Tryd.prog w = .ok (.string (S (a ++ b))) w := by
  intro w
  rw [run_string_add_sum (P := Tryd.prog) (w := w) (S a) (S b) (by rw [S_size, S_size]; exact h), S_app]

/-- How long a string is. -/
def strLen : Value → Nat | .string s => s.size | _ => 0

/-- What else is known in a region's worlds. -/
def Rest (N : Nat) (w W' : World) : Prop := Below N w W' ∧ N ≤ W'.heap.size
theorem Rest.next {N : Nat} {w W' W'' : World} (h : Rest N w W') (hb : Below W'.heap.size W' W'') : Rest N w W'' :=
  ⟨h.1.trans (hb.mono h.2), Nat.le_trans h.2 hb.size⟩
@[simp] theorem rest_drew (N : Nat) (w W' : World) : Rest N w W'.drew ↔ Rest N w W' := ⟨fun h => ⟨⟨h.1.os, h.1.tape, h.1.output, h.1.size, h.1.block⟩, h.2⟩, fun h => ⟨h.1.drew, h.2⟩⟩

theorem bytes4 (n : Nat) (hn : (n : Int) ≤ 4294967295) (w : World) : Calls Tryd.prog 29 #[.int .u32 (n : Int), .int .i64 4] w fun e w' => e = .returned (.string (S (be n 4))) ∧ Below w.heap.size w w' := bytes_any n 4 hn (by decide) w
theorem bytes2 (n : Nat) (hn : (n : Int) ≤ 4294967295) (w : World) : Calls Tryd.prog 29 #[.int .u32 (n : Int), .int .i64 2] w fun e w' => e = .returned (.string (S (be n 2))) ∧ Below w.heap.size w w' := bytes_any n 2 hn (by decide) w
theorem bytes1 (n : Nat) (hn : (n : Int) ≤ 4294967295) (w : World) : Calls Tryd.prog 29 #[.int .u32 (n : Int), .int .i64 1] w fun e w' => e = .returned (.string (S (be n 1))) ∧ Below w.heap.size w w' := bytes_any n 1 hn (by decide) w

set_option maxRecDepth 100000 in
set_option maxHeartbeats 2000000 in
theorem rslot_any (r : Rc) (w : World) (hr : r.Ok) :
    Calls Tryd.prog 20 #[.agg #[.int .u32 r.q, .int .u16 r.i, .string r.d]] w fun e w' => e = .returned (.string (S (slot r))) ∧ Below w.heap.size w w' := by
  obtain ⟨q, i, d⟩ := r
  obtain ⟨h1, h2, h3⟩ := hr
  have hd : d.size ≤ 64 := h3
  have h1 : (q : Int) ≤ 4294967295 := h1
  have h2 : (i : Int) ≤ 65535 := h2
  have hc := rec_cells w q i d 39
  have k0 := hc 0 _ rfl
  have k1 := hc 1 _ rfl
  have k2 := hc 2 _ rfl
  clear hc
  have hb0 : Rest w.heap.size w (w.alloc (.cells #[.int .u32 q, .int .u16 i, .string d] 39)) := ⟨(Below.refl w.heap.size w).alloc (Nat.le_refl _) _, by simp⟩
  have w1 : IntKind.u32.wrap (i : Int) = i := IntWalk.u32_in _ (by omega)
  have w2 : IntKind.u32.wrap (d.size : Int) = d.size := IntWalk.u32_in _ (by omega)
  obtain ⟨A, hA⟩ : ∃ A, A = be q 4 := ⟨_, rfl⟩
  obtain ⟨B, hB⟩ : ∃ B, B = be i 2 := ⟨_, rfl⟩
  obtain ⟨C, hC⟩ : ∃ C, C = be d.size 1 := ⟨_, rfl⟩
  have b4 := bytes4 q h1
  have b2 := bytes2 i (by omega)
  have b1 := bytes1 d.size (by omega)
  rw [← hA] at b4
  rw [← hB] at b2
  rw [← hC] at b1
  have lA : A.length = 4 := by rw [hA, be_length]
  have lB : B.length = 2 := by rw [hB, be_length]
  have lC : C.length = 1 := by rw [hC, be_length]
  obtain ⟨P2, hP2⟩ : ∃ P, P = A ++ B := ⟨_, rfl⟩
  obtain ⟨P3, hP3⟩ : ∃ P, P = P2 ++ C := ⟨_, rfl⟩
  obtain ⟨P4, hP4⟩ : ∃ P, P = P3 ++ d.data.toList := ⟨_, rfl⟩
  have l2 : P2.length = 6 := by rw [hP2, List.length_append, lA, lB]
  have l3 : P3.length = 7 := by rw [hP3, List.length_append, l2, lC]
  have l4 : P4.length = 7 + d.size := by rw [hP4, List.length_append, l3, Sto.size_list]
  have a1 := add_S A B (by omega)
  have a2 := add_S P2 C (by omega)
  have a3 := add_S P3 d.data.toList (by rw [Sto.size_list]; omega)
  rw [S_of, ← hP4] at a3
  rw [← hP3] at a2
  rw [← hP2] at a1
  have HP : Hid (pre ⟨q, i, d⟩ = P4) := by rw [hP4, hP3, hP2, hA, hB, hC]; rfl
  have HL := Lib.hid l4
  have B4 := Lib.hid b4
  have B2 := Lib.hid b2
  have B1 := Lib.hid b1
  clear hA hB hC lA lB lC hP2 hP3 hP4 l2 l3 l4 b4 b2 b1
  go_enter Tryd.func20, Tryd.ntmps20
  obtain ⟨W, hW⟩ : ∃ W, W = w.alloc (.cells #[.int .u32 q, .int .u16 i, .string d] 39) := ⟨_, rfl⟩
  go_wp2_with fail
  rw [← hW] at k0 k1 k2 hb0 ⊢
  clear hW
  generalize hNN : w.heap.size = N at *
  have HNN := Lib.hid hNN
  clear hNN
  go_region_held3 (fun W' => W'.cell? ⟨N, 0, none⟩ = some (.int .u32 q) ∧ W'.cell? ⟨N, 1, none⟩ = some (.int .u16 i) ∧ W'.cell? ⟨N, 2, none⟩ = some (.string d) ∧ Rest N w W') (go_keep)
    (first | (go_at_call 29; first | (have hS := ‹_ ∧ _ ∧ _ ∧ Rest _ _ _›; (with_reducible refine (B4.out _).mono ?_); rintro e w1 ⟨rfl, hb1⟩; have y0 := kept_cell hb1 hS.1; have y1 := kept_cell hb1 hS.2.1; have y2 := kept_cell hb1 hS.2.2.1; have hr1 := hS.2.2.2.next hb1) | (have hS := ‹_ ∧ _ ∧ _ ∧ Rest _ _ _›; (with_reducible refine (B2.out _).mono ?_); rintro e w1 ⟨rfl, hb1⟩; have y0 := kept_cell hb1 hS.1; have y1 := kept_cell hb1 hS.2.1; have y2 := kept_cell hb1 hS.2.2.1; have hr1 := hS.2.2.2.next hb1) | (have hS := ‹_ ∧ _ ∧ _ ∧ Rest _ _ _›; (with_reducible refine (B1.out _).mono ?_); rintro e w1 ⟨rfl, hb1⟩; have y0 := kept_cell hb1 hS.1; have y1 := kept_cell hb1 hS.2.1; have y2 := kept_cell hb1 hS.2.2.1; have hr1 := hS.2.2.2.next hb1)))
  clear a1 a2 a3 k0 k1 k2 hb0 y0 y1 y2 hS
  have hrest := Lib.hid hr1.1
  have hsz := hr1.2
  clear hr1
  go_wp2_with fail
  go_loop [3] (fun v => ∃ k : Nat, 7 + d.size + k ≤ 71 ∧ v = .string (S (P4 ++ List.replicate k 0))) (fun v => 71 - strLen v)
  case atStart => exact ⟨0, by omega, by rw [List.replicate_zero, List.append_nil]⟩
  case round =>
    obtain ⟨k, hk, rfl⟩ := hrel
    have hlen : (P4 ++ List.replicate k 0).length = 7 + d.size + k := by rw [List.length_append, HL.out, List.length_replicate]
    have hsz2 : (S (P4 ++ List.replicate k 0)).size = 7 + d.size + k := by rw [S_size, hlen]
    by_cases hlt : 7 + d.size + k < 71
    · have ha := add_S (P4 ++ List.replicate k 0) [0] (by rw [hlen]; show 7 + d.size + k + 1 ≤ _; omega)
      have hz : S [0] = ⟨#[0]⟩ := rfl
      rw [hz, List.append_assoc, ← List.replicate_succ'] at ha
      have HS2 := Lib.hid hsz2
      have HS3 : Hid ((S (P4 ++ List.replicate (k + 1) 0)).size = 7 + d.size + k + 1) := by rw [S_size, List.length_append, HL.out, List.length_replicate]; exact Lib.hid (by omega)
      clear hz hlen
      generalize S (P4 ++ List.replicate k 0) = T at *
      generalize hT2 : S (P4 ++ List.replicate (k + 1) 0) = T2 at *
      have HT2 := Lib.hid hT2
      clear hT2
      go_wp2
      go_round
      case rel => exact ⟨k + 1, by omega, by rw [HT2.out]⟩
      case measure => simp only [strLen]; rw [HS2.out, HS3.out]; omega
    · obtain hkk : k = 71 - (7 + d.size) := by omega
      have HB : Hid (S (P4 ++ List.replicate k 0) = S (body ⟨q, i, d⟩)) := by rw [body, HP.out, HL.out, ← hkk]; exact Lib.hid rfl
      have hsz2 : (S (P4 ++ List.replicate k 0)).size = 7 + d.size + k := hsz2
      rw [HB.out] at *
      clear hlen hkk
      go_wp2_with fail
      refine (rsealed_any _ _ (by rw [hsz2]; omega)).mono ?_
      rintro e w5 ⟨rfl, hb5⟩
      have hb := hrest.out.trans (hb5.mono hsz)
      go_wp2
      go_ret
      exact ⟨by rw [slot, ← sealed_list]; rfl, by rw [HNN.out]; exact hb⟩

end Go.Proofs.YtahmngmbgbcmhaaDoor.Ret
