/-
  The laws on programs as bytes: what lies in memory from call to call; awake, walked. Conditions: none.
-/
import Derived.Test.YtocjimedbnjmiaaCcWrite
import Derived.Test.YtocjimedbnjmiaaCcDecW
namespace Go.Proofs.Ytocjimedbnjmiaa.Co
open Go.RowKit
open Go.Proofs.Ytocjimedbnjmiaa.Il hiding S S_size S_app S_list S_inj
open Go.Proofs.Ytocjimedbnjmiaa.Ic Go.Proofs.Ytocjimedbnjmiaa.Oct Sums

/-- A world behind the law's first one, in which a list lies. -/
structure At (w wr : World) (ao : Option Addr) (l : List In) : Prop where
  lies : Lies wr wr.heap.size ao l
  below : Below w.heap.size w wr
section
variable {w wr w' : World} {ao : Option Addr} {l : List In}
theorem At.first (h : Lies w w.heap.size ao l) : At w w ao l := ⟨h, Below.refl _ _⟩
theorem At.next (h : At w wr ao l) (hb : Below wr.heap.size wr w') : At w w' ao l := ⟨(h.lies.below hb).more hb.size, h.below.trans (hb.mono h.below.size)⟩
theorem At.with {a2 : Option Addr} {m : List In} (h : At w wr ao l) (hb : Below wr.heap.size wr w') (h2 : Lies w' w'.heap.size a2 m) : At w w' ao l ∧ At w w' a2 m :=
  ⟨h.next hb, ⟨h2, (h.next hb).below⟩⟩
theorem At.drewN (h : At w wr ao l) (k : Nat) : At w (wr.drewN k) ao l := h.next ⟨rfl, rfl, rfl, Nat.le_refl _, fun _ _ => rfl⟩
end
theorem tells_encode {l : List In} (hF : FitL l) (ao : Option Addr) (cap : Nat) {w W : World} (h : At w W ao l) : Calls Try.prog 7 #[.slice ao l.length cap] W (Tells (.tuple #[.string (S (encL l)), .int .i64 (errC l : Nat)]) W) := cEncode_any l ao cap W h.lies hF
/-- Decode of what is a program's bytes. -/
theorem decode_ok {t : Bs} {l : List In} (h : decC t = .ok l) (ht : t.length ≤ 2100) (W : World) :
    Calls Try.prog 11 #[.string (S t)] W fun e w' => ∃ ao cap, e = .returned (.tuple #[.slice ao l.length cap, .int .i64 0]) ∧ Lies w' w'.heap.size ao l ∧ Below W.heap.size W w' := by
  refine (cDecode_any t ht W).mono ?_
  intro e w' hd
  unfold Decs at hd
  rw [h] at hd
  obtain ⟨ao, cap, h1, h2, _, h3⟩ := hd
  exact ⟨ao, cap, h1, h2, h3⟩
/-- Decode of what is none. -/
theorem decode_no {t : Bs} {k : Nat} (h : decC t = .error k) (ht : t.length ≤ 2100) (W : World) :
    Calls Try.prog 11 #[.string (S t)] W fun e w' => ∃ ao cap, e = .returned (.tuple #[.slice ao 0 cap, .int .i64 (k : Nat)]) ∧ Below W.heap.size W w' := by
  refine (cDecode_any t ht W).mono ?_
  intro e w' hd
  unfold Decs at hd
  rw [h] at hd
  obtain ⟨ao, cap, h1, h2, _, h3⟩ := hd
  exact ⟨ao, cap, h1, h3⟩
theorem rdecode_ok {t : Bs} {l : List In} (h : decC t = .ok l) (ht : t.length ≤ 2100) (W : World) :
    Calls Try.prog 15 #[.string (S t)] W fun e w' => ∃ ao cap, e = .returned (.tuple #[.slice ao l.length cap, .int .i64 0]) ∧ Lies w' w'.heap.size ao l ∧ Below W.heap.size W w' := by
  refine (rDec_any t (by omega) W).mono ?_
  intro e w' hd
  unfold Decs at hd
  rw [h] at hd
  obtain ⟨ao, cap, h1, h2, _, h3⟩ := hd
  exact ⟨ao, cap, h1, h2, h3⟩
theorem rdecode_no {t : Bs} {k : Nat} (h : decC t = .error k) (ht : t.length ≤ 2100) (W : World) :
    Calls Try.prog 15 #[.string (S t)] W fun e w' => ∃ ao cap, e = .returned (.tuple #[.slice ao 0 cap, .int .i64 (k : Nat)]) ∧ Below W.heap.size W w' := by
  refine (rDec_any t (by omega) W).mono ?_
  intro e w' hd
  unfold Decs at hd
  rw [h] at hd
  obtain ⟨ao, cap, h1, h2, _, h3⟩ := hd
  exact ⟨ao, cap, h1, h3⟩
theorem fit0 : FitL l0 := fun k x hx => by
  match k with
  | 0 =>
    injection hx with hx
    subst hx
    exact ⟨by constructor <;> decide, by constructor <;> decide, by constructor <;> decide, by constructor <;> decide, by constructor <;> decide⟩
  | k + 1 => simp [l0] at hx
theorem at0 (w : World) (t : TypeId) : At w (w.alloc (.cells #[.int .i64 1, .int .i64 2, .int .i64 0, .int .i64 0, .int .i64 (-1)] t)) (some ⟨w.heap.size, 0, none⟩) l0 := by
  obtain ⟨hc, hN⟩ := one_box w #[.int .i64 1, .int .i64 2, .int .i64 0, .int .i64 0, .int .i64 (-1)] t
  refine ⟨fun _ => ⟨w.heap.size, 0, rfl, hN.2, fun i x hx => ?_⟩, hN.1⟩
  match i with
  | 0 =>
    injection hx with hx
    subst hx
    exact ⟨hc 0 _ rfl, hc 1 _ rfl, hc 2 _ rfl, hc 3 _ rfl, hc 4 _ rfl⟩
  | i + 1 => simp [l0] at hx

set_option maxRecDepth 100000 in
set_option maxHeartbeats 4000000 in
theorem wake_any (w : World) : Calls Try.prog 6 #[] w (Tells (.bool true) w) := by
  have HE : Hid (∀ W, At w W (some ⟨w.heap.size, 0, none⟩) l0 → Calls Try.prog 7 #[.slice (some ⟨w.heap.size, 0, none⟩) 1 1] W (Tells (.tuple #[.string (S (encL l0)), .int .i64 0]) W)) := fun W h => by
    have := tells_encode fit0 (some ⟨w.heap.size, 0, none⟩) 1 h
    rw [err0] at this
    exact this
  have HD := Lib.hid (fun W => decode_ok (dec_of_enc err0) (by have := enc_short l0; omega) W)
  have hz : (S (encL l0)).size = 11 := by rw [S_size, enc_len err0]; rfl
  have HA := Lib.hid (at0 w 45)
  generalize S (encL l0) = s at *
  go_enter Try.func6, Try.ntmps6
  go_wp2_with fail
  refine (HE.out _ HA.out).mono ?_
  rintro e w1 ⟨rfl, hb1⟩
  have HA1 := Lib.hid (HA.out.next hb1)
  clear hb1 HA
  go_wp2_with fail
  refine (HD.out _).mono ?_
  rintro e w2 ⟨ao, cap, rfl, hl2, hb2⟩
  have HA2 := Lib.hid (HA1.out.with hb2 hl2)
  clear hb2 hl2 HA1
  go_wp2_with fail
  refine (rSame_any l0 _ _ _ _ _ HA2.out.1.lies HA2.out.2.lies (by decide)).mono ?_
  rintro e w3 ⟨rfl, k, rfl⟩
  go_wp2
  go_ret
  exact ⟨rfl, (HA2.out.1.drewN k).below⟩

end Go.Proofs.Ytocjimedbnjmiaa.Co
