/-
  The reference's digits and texts, walked. Conditions: numbers such as their kinds hold.
-/
import Derived.Test.YtindekpmicbbiaaDoorEpText
namespace Go.Proofs.YtindekpmicbbiaaDoor.Epo
open Go.RowKit

theorem dec_lt (u : Nat) (h : u < 10) : Lib.decDigits u = [UInt8.ofNat (48 + u)] := by rw [Lib.decDigits, dif_pos h]
theorem dec_ge (u : Nat) (h : ¬ u < 10) : Lib.decDigits u = Lib.decDigits (u / 10) ++ [UInt8.ofNat (48 + u % 10)] := by rw [Lib.decDigits, dif_neg h]

theorem ret_str {a b : ByteArray} (h : a = b) : Ending.returned (.string a) = .returned (.string b) := by rw [h]

/-- One byte as a text. -/
def one (b : Nat) : ByteArray := ⟨#[UInt8.ofNat b]⟩

theorem one_size (b : Nat) : (one b).size ≤ 1 := Nat.le_refl _
theorem one_list (b : Nat) : (one b).data.toList = [UInt8.ofNat b] := rfl
theorem app_list (a b : ByteArray) : (a ++ b).data.toList = a.data.toList ++ b.data.toList := by simp [ByteArray.data_append]

/-- Go's string of one byte in a new block. -/
theorem conv_one (w : World) (b : Nat) (z : Int) (hb : b < 256) (hz : z = (b : Int)) :
    (convert 42 9 (.slice (some ⟨w.heap.size, 0, none⟩) 1 1)).run Tryd.prog (w.alloc (.cells #[.int .u8 z] 5)) = .ok (.string (one b)) (w.alloc (.cells #[.int .u8 z] 5)) := by
  subst hz
  refine run_convert_bytes_back (P := Tryd.prog) _ 42 9 5 ⟨w.heap.size, 0, none⟩ 1 [UInt8.ofNat b] Tryd.underlying42 Tryd.underlying5 Tryd.underlying9 fun j hj => ?_
  obtain rfl : j = 0 := by simpa using hj
  refine box_cell w _ _ 0 _ ?_
  have : b % 256 = b := Nat.mod_eq_of_lt hb
  simp [this]

/-- What is left of a numeral is no longer than it. -/
theorem rest_size {u k : Nat} {s : ByteArray} (hsz : (dgs u).size ≤ 20) (hd : Lib.decDigits u = Lib.decDigits k ++ s.data.toList) : s.size ≤ 20 := by
  have h := congrArg List.length hd
  have h1 : (dgs u).size = (Lib.decDigits u).length := by simp [dgs, ByteArray.size]
  have h2 : s.size = s.data.toList.length := (Array.length_toList).symm
  simp only [List.length_append] at h
  omega

theorem dgs_of {u : Nat} {s : ByteArray} (h : Lib.decDigits u = s.data.toList) : s = dgs u := by
  unfold dgs
  rw [h]

/-- What a region that calls hands on, where the callees read no variable. -/
def Next (N : Nat) (w W : World) : Prop := Below N w W ∧ N < W.heap.size
@[simp] theorem Next_drew (N : Nat) (w W : World) : Next N w W.drew = Next N w W := propext ⟨fun ⟨b, c⟩ => ⟨⟨b.os, b.tape, b.output, b.size, b.block⟩, c⟩, fun ⟨b, c⟩ => ⟨b.drew, c⟩⟩
theorem Next.next {N : Nat} {w W W' : World} (h : Next N w W) (hb : Below W.heap.size W W') : Next N w W' :=
  ⟨h.1.trans (hb.mono (Nat.le_of_lt h.2)), Nat.lt_of_lt_of_le h.2 hb.size⟩

set_option maxRecDepth 100000 in
set_option maxHeartbeats 2000000 in
theorem rdigits_any (u : Nat) (hu : u ≤ 65535) (w : World) : Calls Tryd.prog 39 #[.int .i64 u] w fun e w' => e = .returned (.string (dgs u)) ∧ Below w.heap.size w w' := by
  have hsz := Lib.hid (dgs_size u hu)
  go_enter Tryd.func39, Tryd.ntmps39
  go_wp2
  go_loopw [0, 3] (fun n t wr => ∃ (k : Nat) (s : ByteArray), k ≤ 65535 ∧ n = .int .i64 k ∧ t = .string s ∧ Hid (Lib.decDigits u = Lib.decDigits k ++ s.data.toList) ∧ Below w.heap.size w wr) (fun n _ _ => (intOf n).toNat)
  case atStart => exact ⟨u, ByteArray.empty, hu, rfl, rfl, Lib.hid (by simp), Below.refl _ _⟩
  case round =>
    obtain ⟨k, s, hk, rfl, rfl, hd, hbel⟩ := hrel
    by_cases h10 : k < 10
    · have hc : decide ((10 : Int) ≤ (k : Int)) = false := by simp; omega
      have hcv := conv_one wr (48 + k) (48 + (k : Int)) (by omega) (by simp)
      have hadd := add_run (a := one (48 + k)) (b := s) 1 20 (one_size _) (rest_size hsz.out hd.out) (by omega)
      have HS := Lib.hid (dgs_of (u := u) (s := one (48 + k) ++ s) (by rw [hd.out, dec_lt k h10, app_list, one_list]))
      go_wp2
      go_ret
      exact ⟨ret_str HS.out, hbel.alloc hbel.size _⟩
    · have hc : decide ((10 : Int) ≤ (k : Int)) = true := by simp; omega
      have hcv := conv_one wr (48 + k % 10) (48 + (k : Int) % 10) (by omega) (by simp)
      have hadd := add_run (a := one (48 + k % 10)) (b := s) 1 20 (one_size _) (rest_size hsz.out hd.out) (by omega)
      go_wp2
      go_roundw
      case rel => exact ⟨k / 10, one (48 + k % 10) ++ s, by omega, by go_num, rfl, Lib.hid (by rw [hd.out, dec_ge k h10, app_list, one_list, List.append_assoc]), hbel.alloc hbel.size _⟩
      case measure => simp [intOf]; omega

set_option maxRecDepth 100000 in
set_option maxHeartbeats 1000000 in
theorem rtext_any (x : Ep) (hx : x.fit) (w : World) : Calls Tryd.prog 40 #[.agg #[.int .u16 x.c, .int .u8 x.a, .int .u16 x.i]] w fun e w' => e = .returned (.string (textE x)) ∧ Below w.heap.size w w' := by
  obtain ⟨h1, h2, h3⟩ := hx
  have w5 : IntKind.i64.wrap (x.c : Int) = x.c := by rw [IntKind.wrap_i64]; omega
  have w6 : IntKind.i64.wrap (x.a : Int) = x.a := by rw [IntKind.wrap_i64]; omega
  have w7 : IntKind.i64.wrap (x.i : Int) = x.i := by rw [IntKind.wrap_i64]; omega
  have HB := Lib.hid (box_mk w [.int .u16 x.c, .int .u8 x.a, .int .u16 x.i] 24)
  have s1 := dgs_size x.c h1
  have s2 := dgs_size x.a (by omega)
  have s3 := dgs_size x.i h3
  have sd : (⟨#[46]⟩ : ByteArray).size ≤ 1 := by decide
  have a1 := add_run 20 1 s1 sd (by omega)
  have a2 := add_run 21 20 (add_size s1 sd) s2 (by omega)
  have a3 := add_run 41 1 (add_size (add_size s1 sd) s2) sd (by omega)
  have a4 := add_run 42 20 (add_size (add_size (add_size s1 sd) s2) sd) s3 (by omega)
  clear s1 s2 s3 sd
  have H1 := Lib.hid h1
  have H2 := Lib.hid (show x.a ≤ 65535 by omega)
  have H3 := Lib.hid h3
  clear h1 h2 h3
  go_enter Tryd.func40, Tryd.ntmps40
  go_wp2_with fail
  obtain ⟨W, HW⟩ : ∃ W, Hid (W = (w.alloc (.cells [.int .u16 x.c, .int .u8 x.a, .int .u16 x.i].toArray 24))) := ⟨_, Lib.hid rfl⟩
  rw [← HW.out] at HB
  rw [← HW.out]
  have hlt := HB.out.2.1
  have c5 := HB.out.2.2.1
  have hbel := HB.out.2.2.2
  have hr : Next w.heap.size w W := ⟨hbel, hlt⟩
  have x0 := c5 0 _ rfl
  have x1 := c5 1 _ rfl
  have x2 := c5 2 _ rfl
  clear c5 HB HW hbel hlt
  generalize hN : w.heap.size = N at *
  go_region_held3 (fun W' => W'.cell? ⟨N, 0, none⟩ = some (.int .u16 x.c) ∧ W'.cell? ⟨N, 1, none⟩ = some (.int .u8 x.a) ∧ W'.cell? ⟨N, 2, none⟩ = some (.int .u16 x.i) ∧ Next N w W') (go_keep)
    (first | (go_at_call 39; have hS := ‹_ ∧ _ ∧ _ ∧ Next _ _ _›; refine (rdigits_any _ (by first | exact H1.out | exact H2.out | exact H3.out) _).mono ?_; rintro e w1 ⟨rfl, hb1⟩; have y0 := kept_cell hb1 hS.1; have y1 := kept_cell hb1 hS.2.1; have y2 := kept_cell hb1 hS.2.2.1; have hr1 := hS.2.2.2.next hb1))
  clear a1 a2 a3 a4 w5 w6 w7 hr x0 x1 x2 y0 y1 y2 hS
  go_wp2
  go_ret
  exact ⟨rfl, by rw [hN]; exact hr1.1⟩

end Go.Proofs.YtindekpmicbbiaaDoor.Epo
