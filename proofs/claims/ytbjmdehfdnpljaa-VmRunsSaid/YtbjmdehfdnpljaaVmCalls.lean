/-
  The landed code's calls on a run's areas and result, walked. Conditions: as each states.
-/
import Derived.Test.YtbjmdehfdnpljaaVmBase
import Derived.Deep.RegionHeld3
import Derived.Deep.RegionWith
import Derived.BigRegion
import Derived.BigQuiet
import Derived.Deep.QuietTactic
import Derived.Deep.DeepCutAuto
namespace Go.Proofs.Ytbjmdehfdnpljaa.Vm
open Go.RowKit
open Go.Proofs.Ytbjmdehfdnpljaa.Il hiding Next S S_size S_app S_inj S_list
open Go.Proofs.Ytbjmdehfdnpljaa.Ic Go.Proofs.Ytbjmdehfdnpljaa.Ve
open Oct

set_option maxRecDepth 100000 in
set_option maxHeartbeats 4000000 in
theorem cVtruth_any (b : Bool) (w : World) : Calls Try.prog 62 #[.bool b] w (Tells (.int .i64 (yesI b)) w) := by
  cases b
  · go_enter Try.func62, Try.ntmps62
    go_wp2
    go_ret
    exact ⟨rfl, Below.refl _ _⟩
  · go_enter Try.func62, Try.ntmps62
    go_wp2
    go_ret
    exact ⟨rfl, Below.refl _ _⟩
theorem Mid.conv {W : World} {g : Nat} {t : TypeId} {pre post : List Value} {l : Bs} (h : Mid W g t pre l post) (a n cap : Nat) (hn : a + n ≤ l.length) :
    (convert 50 9 (.slice (some ⟨g, pre.length + a, none⟩) n cap)).run Try.prog W = .ok (.string (S (cutL l a n))) W := by
  have hl : (cutL l a n).length = n := cut_length l a n hn
  have := run_convert_bytes_arg (P := Try.prog) W 50 5 Try.underlying50 Try.underlying5 g (pre.length + a) n cap ((cutL l a n).map fun c => (c.toNat : Int)) (by simp [hl]) (by
    intro i hi
    rw [Nat.add_assoc, (h.cell (i := a + i) (by omega)).1]
    congr 3
    simp [List.getD_eq_getElem?_getD, cutL, hi]
    rw [List.getElem?_eq_getElem (by omega)]
    rfl) 9 Try.underlying9
  rw [this, strOfNums_S]
theorem RunAt.drew {W : World} {N g : Nat} {p : Int} {s : St} {ov : Value} (h : RunAt W N g p s ov) : RunAt W.drew N g p s ov := ⟨h.lo, h.blk, h.own.drew, h.ok⟩
set_option maxRecDepth 100000 in
set_option maxHeartbeats 4000000 in
theorem slice_64 (g o m n : Nat) (hn : m + n ≤ 64) (hm : m < 64) (W : World) :
    (Instr.sliceAt 69 (.pointer (some ⟨g, o, none⟩)) (some (.int .i64 (m : Int))) (some (.int .i64 ((m : Int) + (n : Int)))) none).run Try.prog W = .ok (.slice (some ⟨g, o + m, none⟩) n (64 - m)) W := by
  have h := run_sliceAt_array_lh (P := Try.prog) W 69 ⟨g, o, none⟩ Try.underlying69 .i64 .i64 (m : Int) ((m : Int) + (n : Int)) (by omega) (by omega) (show (m : Int) + (n : Int) ≤ 64 by omega)
  rw [h]
  have hs : (sizeOf (Try.prog.elem 69)).run Try.prog W = .ok 1 W := by go_simp
  rw [hs]
  show Result.ok (slicedAt _ _ _ 64 1) W = _
  unfold slicedAt
  rw [if_neg (by omega), Int.toNat_natCast, show ((m : Int) + (n : Int)).toNat - m = n by omega]
  congr 3
  unfold Addr.add
  split
  · next e => rw [show m = 0 by omega]; rfl
  · rw [Nat.mul_one]
/-- The run stands, and nothing that was has turned. -/
structure Ra (N g : Nat) (p : Int) (s : St) (ov : Value) (w W : World) : Prop where
  at_ : RunAt W N g p s ov
  below : Below w.heap.size w W
section
variable {N g : Nat} {p : Int} {s : St} {ov : Value} {w W W' : World}
theorem Ra.first (h : RunAt w N g p s ov) : Ra N g p s ov w w := ⟨h, Below.refl _ _⟩
theorem Ra.drew (h : Ra N g p s ov w W) : Ra N g p s ov w W.drew := ⟨h.at_.drew, h.below.drew⟩
theorem Ra.next (h : Ra N g p s ov w W) (hb : Below W.heap.size W W') : Ra N g p s ov w W' := ⟨h.at_.kept hb, h.below.trans (hb.mono h.below.size)⟩
end
set_option maxRecDepth 100000 in
set_option maxHeartbeats 4000000 in
theorem cAget_any {N g : Nat} {p : Int} {s : St} {ov : Value} (w : World) (h : RunAt w N g p s ov) (a pl k : Int) (h1 : 1 ≤ a) (h4 : a ≤ 4) (hp : 0 ≤ pl) (hk : pl + szI k ≤ 64) (hs : szI k ≠ 0) :
    Calls Try.prog 59 #[.pointer (some ⟨g, 0, none⟩), .int .i64 a, .int .i64 pl, .int .i64 k] w (Tells (.int .i64 (gtV s a pl k)) w) := by
  obtain ⟨q, rfl⟩ : ∃ q : Nat, a = (q : Int) + 1 := ⟨(a - 1).toNat, by omega⟩
  obtain ⟨m, rfl⟩ : ∃ m : Nat, pl = m := ⟨pl.toNat, by omega⟩
  have hq : q < 4 := by omega
  have hl := h.ok.len q hq
  have HS := Lib.hid (fun W => cSize_any k W)
  have HG := Lib.hid (fun W => cGet_any (S (cutL (s.A.getD q []) m (szI k))) 0 k W (by rw [S_size, cut_length _ _ _ (by rw [hl]; omega)]; have := sz_le k; omega) (by omega) (by omega))
  have hv : gotR (S (cutL (s.A.getD q []) m (szI k))) 0 k = gtV s ((q : Int) + 1) m k := by
    unfold gotR
    rw [S_size, cut_length _ _ _ (by rw [hl]; omega), if_pos (by unfold thereI; rw [decide_eq_true_iff]; omega)]
    unfold gtV arL getL getI
    rw [show ((q : Int) + 1 - 1).toNat = q by omega, S_list, Int.toNat_natCast]
    congr 3
    unfold cutL
    rw [show Int.toNat 0 = 0 from rfl, List.drop_zero, List.take_take, Nat.min_self]
  rw [hv] at HG
  clear hv
  generalize gtV s ((q : Int) + 1) m k = V at *
  obtain ⟨n, hn⟩ : ∃ n, szI k = n := ⟨_, rfl⟩
  rw [hn] at HS HG hk hs
  have HC := Lib.hid (fun W (h : Ra N g p s ov w W) => show (convert 50 9 (.slice (some ⟨g, q * 64 + m, none⟩) n (64 - m))).run Try.prog W = .ok (.string (S (cutL (s.A.getD q []) m n))) W ∧ Ra N g p s ov w W from by
    obtain ⟨pre, post, hpl, hm, -⟩ := h.at_.mid hq
    have hc := hm.conv m n (64 - m) (by omega)
    rw [hpl] at hc
    exact ⟨hc, h⟩)
  have hR := Ra.first h
  have hc0 := (HC.out w hR).1
  have h5 := sz_le k
  rw [hn] at h5
  clear hn h hl
  generalize S (cutL (s.A.getD q []) m n) = T at *
  have b1 : IntKind.i64.wrap ((q : Int) + 1 - 1) = (q : Int) := by rw [IntKind.wrap_i64]; omega
  have b2 : (q : Int) < 4 := by omega
  have b0 : IntKind.i64.wrap (q : Int) = (q : Int) := by rw [IntKind.wrap_i64]; omega
  have b8 : (0 : Int) ≤ (q : Int) := by omega
  have b3 : IntKind.i64.wrap ((m : Int) + (n : Int)) = (m : Int) + (n : Int) := by rw [IntKind.wrap_i64]; omega
  have b4 : ((m : Int) + (n : Int)).toNat = m + n := by omega
  have b5 : (0 : Int) ≤ (m : Int) + (n : Int) := by omega
  have b6 : (m : Int) + (n : Int) ≤ 64 := by omega
  have b7 : (q : Int) + 1 - 1 = (q : Int) := by omega
  have b9 := slice_64 g (q * 64) m n (by omega) (by omega)
  go_enter Try.func59, Try.ntmps59
  go_wp2_with fail
  go_region_held3 (fun W' => (convert 50 9 (.slice (some ⟨g, q * 64 + m, none⟩) n (64 - m))).run Try.prog W' = .ok (.string T) W' ∧ Ra N g p s ov w W')
    (first | exact HC.out _ ‹Ra N g p s ov w _› | exact HC.out _ (Ra.drew ‹Ra N g p s ov w _›))
    (first
      | (go_at_call 79; have hS := ‹_ ∧ Ra _ _ _ _ _ _ _›; (with_reducible refine (HS.out _).mono ?_); rintro e w1 ⟨rfl, hb1⟩; have hx := hS.2.next hb1; have y0 := (HC.out _ hx).1)
      | (go_at_call 78; have hS := ‹_ ∧ Ra _ _ _ _ _ _ _›; (with_reducible refine (HG.out _).mono ?_); rintro e w1 ⟨rfl, hb1⟩; have hx := hS.2.next hb1; have y0 := (HC.out _ hx).1))
  all_goals
    go_wp2
    go_ret
    exact ⟨rfl, hx.below⟩

set_option maxRecDepth 100000 in
set_option maxHeartbeats 4000000 in
theorem slice_all (g o : Nat) (W : World) : (Instr.sliceAt 69 (.pointer (some ⟨g, o, none⟩)) none none none).run Try.prog W = .ok (.slice (some ⟨g, o, none⟩) 64 64) W := by
  have h := run_sliceAt_array_all (P := Try.prog) W 69 ⟨g, o, none⟩ Try.underlying69
  rw [h]
  have hs : (sizeOf (Try.prog.elem 69)).run Try.prog W = .ok 1 W := by go_simp
  rw [hs]
  rfl
set_option maxRecDepth 100000 in
set_option maxHeartbeats 4000000 in
theorem cAput_any {N g : Nat} {p : Int} {s : St} {ov : Value} (w : World) (h : RunAt w N g p s ov) (a pl k v : Int) (h1 : 1 ≤ a) (h4 : a ≤ 4) (hp : 0 ≤ pl) (hk : pl + szI k ≤ 64) (hs : szI k ≠ 0)
    (hv1 : -9223372036854775808 ≤ v) (hv2 : v ≤ 9223372036854775807) :
    Calls Try.prog 63 #[.pointer (some ⟨g, 0, none⟩), .int .i64 a, .int .i64 pl, .int .i64 k, .int .i64 v] w fun e w' => e = .returned (.tuple #[]) ∧ Now N g p (ptV s a pl k v) ov w w' ov := by
  obtain ⟨q, rfl⟩ : ∃ q : Nat, a = (q : Int) + 1 := ⟨(a - 1).toNat, by omega⟩
  obtain ⟨m, rfl⟩ : ∃ m : Nat, pl = m := ⟨pl.toNat, by omega⟩
  have hq : q < 4 := by omega
  have hl := h.ok.len q hq
  obtain ⟨pre, post, hpl, hm, hback⟩ := h.mid hq
  have HP := cPutM_any g 64 75 pre post (s.A.getD q []) m k v w hm (by omega) (by omega) (by omega) hv1 hv2
  rw [hpl, hl] at HP
  have hpr : putR (s.A.getD q []) m k v = putL (s.A.getD q []) m k v := by
    unfold putR
    rw [hl, if_pos (by unfold thereI; rw [decide_eq_true_iff]; omega), Int.toNat_natCast]
  rw [hpr] at HP
  have hb : ∀ W', Mid W' g 75 pre (putL (s.A.getD q []) m k v) post → Only1 g w W' → Now N g p (ptV s ((q : Int) + 1) m k v) ov w W' ov := fun W' h1 h2 => by
    refine Now.one ?_ h2
    have := hback W' _ (by rw [put_length _ _ _ _ (by rw [hl]; omega), hl]) h1 h2
    unfold ptV ptA arL
    rw [show ((q : Int) + 1 - 1).toNat = q by omega, Int.toNat_natCast]
    exact this
  have HB := Lib.hid hb
  replace HP := Lib.hid HP
  generalize putL (s.A.getD q []) m k v = T at *
  generalize ptV s ((q : Int) + 1) m k v = s' at *
  have b1 : IntKind.i64.wrap ((q : Int) + 1 - 1) = (q : Int) := by rw [IntKind.wrap_i64]; omega
  have b2 : (q : Int) < 4 := by omega
  have b0 : IntKind.i64.wrap (q : Int) = (q : Int) := by rw [IntKind.wrap_i64]; omega
  have b8 : (0 : Int) ≤ (q : Int) := by omega
  have b9 := slice_all g (q * 64)
  clear hpr hb hback hl hm h
  go_enter Try.func63, Try.ntmps63
  go_wp2_with fail
  refine HP.out.mono ?_
  rintro e w1 ⟨rfl, hm1, ho1⟩
  have HN := Lib.hid (HB.out w1 hm1 ho1)
  clear hm1 ho1
  go_wp2
  go_end0
  exact ⟨rfl, HN.out⟩


theorem RunAt.alloc {W : World} {N g : Nat} {p : Int} {s : St} {ov : Value} (h : RunAt W N g p s ov) (o : Obj) : RunAt (W.alloc o) N g p s ov := h.kept ((Below.refl _ _).alloc (Nat.le_refl _) o)
section
variable {W : World} {N g : Nat} {p : Int} {s : St} {ov : Value}
theorem RunAt.val (h : RunAt W N g p s ov) : W.cell? ⟨g, 258, none⟩ = some (.int .i64 s.v) := h.tail (j := 2) rfl
theorem RunAt.kd (h : RunAt W N g p s ov) : W.cell? ⟨g, 257, none⟩ = some (.int .i64 s.kd) := h.tail (j := 1) rfl
theorem RunAt.psd (h : RunAt W N g p s ov) : W.cell? ⟨g, 256, none⟩ = some (.int .i64 p) := h.tail (j := 0) rfl
theorem RunAt.opn (h : RunAt W N g p s ov) : W.cell? ⟨g, 259, none⟩ = some ov := h.tail (j := 3) rfl
theorem RunAt.zer (h : RunAt W N g p s ov) : W.cell? ⟨g, 260, none⟩ = some (.int .i64 (s.z : Nat)) := h.tail (j := 4) rfl
end
set_option maxRecDepth 100000 in
set_option maxHeartbeats 4000000 in
theorem cAgrees_any {N g : Nat} {p : Int} {s : St} {ov : Value} (w : World) (h : RunAt w N g p s ov) (b : Bool) :
    Calls Try.prog 49 #[.pointer (some ⟨g, 0, none⟩), .bool b] w (Tells (.bool (decide (s.v = 1) == b)) w) := by
  have c := h.val
  clear h
  by_cases hv : s.v = 1
  · rw [hv] at c ⊢
    clear hv
    cases b
    · go_enter Try.func49, Try.ntmps49
      go_wp2
      go_ret
      exact ⟨rfl, Below.refl _ _⟩
    · go_enter Try.func49, Try.ntmps49
      go_wp2
      go_ret
      exact ⟨rfl, Below.refl _ _⟩
  · have hb : (s.v == 1) = false := by simpa using hv
    rw [decide_eq_false hv]
    generalize s.v = v at *
    clear hv
    cases b
    · go_enter Try.func49, Try.ntmps49
      go_wp2
      go_ret
      exact ⟨rfl, Below.refl _ _⟩
    · go_enter Try.func49, Try.ntmps49
      go_wp2
      go_ret
      exact ⟨rfl, Below.refl _ _⟩
/-- An instruction in a block of its own. -/
def Bi (W : World) (b : Nat) (i : In) : Prop := W.cell? ⟨b, 0, none⟩ = some (.int .i64 i.op) ∧ W.cell? ⟨b, 1, none⟩ = some (.int .i64 i.kd) ∧ W.cell? ⟨b, 2, none⟩ = some (.int .i64 i.ar) ∧ W.cell? ⟨b, 3, none⟩ = some (.int .i64 i.pl) ∧ W.cell? ⟨b, 4, none⟩ = some (.int .i64 i.n)
theorem Bi.new (w : World) (i : In) (t : TypeId) : Bi (w.alloc (.cells #[.int .i64 i.op, .int .i64 i.kd, .int .i64 i.ar, .int .i64 i.pl, .int .i64 i.n] t)) w.heap.size i := by
  refine ⟨?_, ?_, ?_, ?_, ?_⟩ <;> (rw [World.cell?_alloc_new]; rfl)
theorem Bi.next {W W' : World} {b : Nat} {i : In} (h : Bi W b i) (hb : Below W.heap.size W W') : Bi W' b i :=
  ⟨kept_cell hb h.1, kept_cell hb h.2.1, kept_cell hb h.2.2.1, kept_cell hb h.2.2.2.1, kept_cell hb h.2.2.2.2⟩
theorem one_S (w : World) (A : Array Value) (t : TypeId) : Below w.heap.size w (w.alloc (.cells A t)) := (Below.refl _ _).alloc (Nat.le_refl _) _
set_option maxRecDepth 100000 in
set_option maxHeartbeats 4000000 in
theorem next_25 {N g : Nat} {p : Int} {s : St} {ov : Value} (w : World) (_h : RunAt w N g p s ov) (kd ar pl n : Int) (k m : Nat) (_hk : (k : Int) < 100000)  :
    Calls Try.prog 28 #[.pointer (some ⟨g, 0, none⟩), .int .i64 k, insV ⟨25, kd, ar, pl, n⟩, .int .i64 m] w (Tells (.int .i64 (pl)) w) := by
  have HE := Lib.hid (one_S w #[.int .i64 25, .int .i64 kd, .int .i64 ar, .int .i64 pl, .int .i64 n] 54)
  clear _h
  unfold insV
  go_enter Try.func28, Try.ntmps28
  go_wp2
  go_ret
  exact ⟨rfl, HE.out⟩
set_option maxRecDepth 100000 in
set_option maxHeartbeats 4000000 in
theorem next_28 {N g : Nat} {p : Int} {s : St} {ov : Value} (w : World) (_h : RunAt w N g p s ov) (kd ar pl n : Int) (k m : Nat) (_hk : (k : Int) < 100000)  :
    Calls Try.prog 28 #[.pointer (some ⟨g, 0, none⟩), .int .i64 k, insV ⟨28, kd, ar, pl, n⟩, .int .i64 m] w (Tells (.int .i64 (m)) w) := by
  have HE := Lib.hid (one_S w #[.int .i64 28, .int .i64 kd, .int .i64 ar, .int .i64 pl, .int .i64 n] 54)
  clear _h
  unfold insV
  go_enter Try.func28, Try.ntmps28
  go_wp2
  go_ret
  exact ⟨rfl, HE.out⟩
set_option maxRecDepth 100000 in
set_option maxHeartbeats 4000000 in
theorem next_26a {N g : Nat} {p : Int} {s : St} {ov : Value} (w : World) (h : RunAt w N g p s ov) (kd ar pl n : Int) (k m : Nat) (_hk : (k : Int) < 100000) (hv : decide (s.v = 1) = true) :
    Calls Try.prog 28 #[.pointer (some ⟨g, 0, none⟩), .int .i64 k, insV ⟨26, kd, ar, pl, n⟩, .int .i64 m] w (Tells (.int .i64 (pl)) w) := by
  have HA := cAgrees_any _ (h.alloc (.cells #[.int .i64 26, .int .i64 kd, .int .i64 ar, .int .i64 pl, .int .i64 n] 54)) true
  rw [hv] at HA
  have HB := Lib.hid (Bi.new w ⟨26, kd, ar, pl, n⟩ 54)
  have H0 := Lib.hid (one_S w #[.int .i64 26, .int .i64 kd, .int .i64 ar, .int .i64 pl, .int .i64 n] 54)
  replace HA := Lib.hid HA
  clear h hv
  unfold insV
  go_enter Try.func28, Try.ntmps28
  go_wp2_with fail
  refine HA.out.mono ?_
  rintro e w1 ⟨rfl, hb1⟩
  have HE := Lib.hid (H0.out.trans (hb1.mono H0.out.size))
  obtain ⟨c0, c1, c2, c3, c4⟩ := HB.out.next hb1
  clear hb1 HB
  dsimp only at c0 c1 c2 c3 c4
  go_wp2
  go_ret
  exact ⟨rfl, HE.out⟩
set_option maxRecDepth 100000 in
set_option maxHeartbeats 4000000 in
theorem next_26b {N g : Nat} {p : Int} {s : St} {ov : Value} (w : World) (h : RunAt w N g p s ov) (kd ar pl n : Int) (k m : Nat) (hk : (k : Int) < 100000) (hv : decide (s.v = 1) = false) :
    Calls Try.prog 28 #[.pointer (some ⟨g, 0, none⟩), .int .i64 k, insV ⟨26, kd, ar, pl, n⟩, .int .i64 m] w (Tells (.int .i64 (((k : Int) + 1))) w) := by
  have HA := cAgrees_any _ (h.alloc (.cells #[.int .i64 26, .int .i64 kd, .int .i64 ar, .int .i64 pl, .int .i64 n] 54)) true
  rw [hv] at HA
  have HB := Lib.hid (Bi.new w ⟨26, kd, ar, pl, n⟩ 54)
  have H0 := Lib.hid (one_S w #[.int .i64 26, .int .i64 kd, .int .i64 ar, .int .i64 pl, .int .i64 n] 54)
  replace HA := Lib.hid HA
  clear h hv
  unfold insV
  go_enter Try.func28, Try.ntmps28
  go_wp2_with fail
  refine HA.out.mono ?_
  rintro e w1 ⟨rfl, hb1⟩
  have HE := Lib.hid (H0.out.trans (hb1.mono H0.out.size))
  obtain ⟨c0, c1, c2, c3, c4⟩ := HB.out.next hb1
  clear hb1 HB
  dsimp only at c0 c1 c2 c3 c4
  go_wp2
  go_ret
  exact ⟨rfl, HE.out⟩
set_option maxRecDepth 100000 in
set_option maxHeartbeats 4000000 in
theorem next_27a {N g : Nat} {p : Int} {s : St} {ov : Value} (w : World) (h : RunAt w N g p s ov) (kd ar pl n : Int) (k m : Nat) (_hk : (k : Int) < 100000) (hv : decide (s.v = 1) = false) :
    Calls Try.prog 28 #[.pointer (some ⟨g, 0, none⟩), .int .i64 k, insV ⟨27, kd, ar, pl, n⟩, .int .i64 m] w (Tells (.int .i64 (pl)) w) := by
  have HA := cAgrees_any _ (h.alloc (.cells #[.int .i64 27, .int .i64 kd, .int .i64 ar, .int .i64 pl, .int .i64 n] 54)) false
  rw [hv] at HA
  have HB := Lib.hid (Bi.new w ⟨27, kd, ar, pl, n⟩ 54)
  have H0 := Lib.hid (one_S w #[.int .i64 27, .int .i64 kd, .int .i64 ar, .int .i64 pl, .int .i64 n] 54)
  replace HA := Lib.hid HA
  clear h hv
  unfold insV
  go_enter Try.func28, Try.ntmps28
  go_wp2_with fail
  refine HA.out.mono ?_
  rintro e w1 ⟨rfl, hb1⟩
  have HE := Lib.hid (H0.out.trans (hb1.mono H0.out.size))
  obtain ⟨c0, c1, c2, c3, c4⟩ := HB.out.next hb1
  clear hb1 HB
  dsimp only at c0 c1 c2 c3 c4
  go_wp2
  go_ret
  exact ⟨rfl, HE.out⟩
set_option maxRecDepth 100000 in
set_option maxHeartbeats 4000000 in
theorem next_27b {N g : Nat} {p : Int} {s : St} {ov : Value} (w : World) (h : RunAt w N g p s ov) (kd ar pl n : Int) (k m : Nat) (hk : (k : Int) < 100000) (hv : decide (s.v = 1) = true) :
    Calls Try.prog 28 #[.pointer (some ⟨g, 0, none⟩), .int .i64 k, insV ⟨27, kd, ar, pl, n⟩, .int .i64 m] w (Tells (.int .i64 (((k : Int) + 1))) w) := by
  have HA := cAgrees_any _ (h.alloc (.cells #[.int .i64 27, .int .i64 kd, .int .i64 ar, .int .i64 pl, .int .i64 n] 54)) false
  rw [hv] at HA
  have HB := Lib.hid (Bi.new w ⟨27, kd, ar, pl, n⟩ 54)
  have H0 := Lib.hid (one_S w #[.int .i64 27, .int .i64 kd, .int .i64 ar, .int .i64 pl, .int .i64 n] 54)
  replace HA := Lib.hid HA
  clear h hv
  unfold insV
  go_enter Try.func28, Try.ntmps28
  go_wp2_with fail
  refine HA.out.mono ?_
  rintro e w1 ⟨rfl, hb1⟩
  have HE := Lib.hid (H0.out.trans (hb1.mono H0.out.size))
  obtain ⟨c0, c1, c2, c3, c4⟩ := HB.out.next hb1
  clear hb1 HB
  dsimp only at c0 c1 c2 c3 c4
  go_wp2
  go_ret
  exact ⟨rfl, HE.out⟩
set_option maxRecDepth 100000 in
set_option maxHeartbeats 4000000 in
theorem next_29a {N g : Nat} {p : Int} {s : St} {ov : Value} (w : World) (h : RunAt w N g p s ov) (kd ar pl n : Int) (k m : Nat) (_hk : (k : Int) < 100000) (hv : decide (s.v = 1) = true) :
    Calls Try.prog 28 #[.pointer (some ⟨g, 0, none⟩), .int .i64 k, insV ⟨29, kd, ar, pl, n⟩, .int .i64 m] w (Tells (.int .i64 (m)) w) := by
  have HA := cAgrees_any _ (h.alloc (.cells #[.int .i64 29, .int .i64 kd, .int .i64 ar, .int .i64 pl, .int .i64 n] 54)) true
  rw [hv] at HA
  have HB := Lib.hid (Bi.new w ⟨29, kd, ar, pl, n⟩ 54)
  have H0 := Lib.hid (one_S w #[.int .i64 29, .int .i64 kd, .int .i64 ar, .int .i64 pl, .int .i64 n] 54)
  replace HA := Lib.hid HA
  clear h hv
  unfold insV
  go_enter Try.func28, Try.ntmps28
  go_wp2_with fail
  refine HA.out.mono ?_
  rintro e w1 ⟨rfl, hb1⟩
  have HE := Lib.hid (H0.out.trans (hb1.mono H0.out.size))
  obtain ⟨c0, c1, c2, c3, c4⟩ := HB.out.next hb1
  clear hb1 HB
  dsimp only at c0 c1 c2 c3 c4
  go_wp2
  go_ret
  exact ⟨rfl, HE.out⟩
set_option maxRecDepth 100000 in
set_option maxHeartbeats 4000000 in
theorem next_29b {N g : Nat} {p : Int} {s : St} {ov : Value} (w : World) (h : RunAt w N g p s ov) (kd ar pl n : Int) (k m : Nat) (hk : (k : Int) < 100000) (hv : decide (s.v = 1) = false) :
    Calls Try.prog 28 #[.pointer (some ⟨g, 0, none⟩), .int .i64 k, insV ⟨29, kd, ar, pl, n⟩, .int .i64 m] w (Tells (.int .i64 (((k : Int) + 1))) w) := by
  have HA := cAgrees_any _ (h.alloc (.cells #[.int .i64 29, .int .i64 kd, .int .i64 ar, .int .i64 pl, .int .i64 n] 54)) true
  rw [hv] at HA
  have HB := Lib.hid (Bi.new w ⟨29, kd, ar, pl, n⟩ 54)
  have H0 := Lib.hid (one_S w #[.int .i64 29, .int .i64 kd, .int .i64 ar, .int .i64 pl, .int .i64 n] 54)
  replace HA := Lib.hid HA
  clear h hv
  unfold insV
  go_enter Try.func28, Try.ntmps28
  go_wp2_with fail
  refine HA.out.mono ?_
  rintro e w1 ⟨rfl, hb1⟩
  have HE := Lib.hid (H0.out.trans (hb1.mono H0.out.size))
  obtain ⟨c0, c1, c2, c3, c4⟩ := HB.out.next hb1
  clear hb1 HB
  dsimp only at c0 c1 c2 c3 c4
  go_wp2
  go_ret
  exact ⟨rfl, HE.out⟩
set_option maxRecDepth 100000 in
set_option maxHeartbeats 4000000 in
theorem next_30a {N g : Nat} {p : Int} {s : St} {ov : Value} (w : World) (h : RunAt w N g p s ov) (kd ar pl n : Int) (k m : Nat) (_hk : (k : Int) < 100000) (hv : decide (s.v = 1) = false) :
    Calls Try.prog 28 #[.pointer (some ⟨g, 0, none⟩), .int .i64 k, insV ⟨30, kd, ar, pl, n⟩, .int .i64 m] w (Tells (.int .i64 (m)) w) := by
  have HA := cAgrees_any _ (h.alloc (.cells #[.int .i64 30, .int .i64 kd, .int .i64 ar, .int .i64 pl, .int .i64 n] 54)) false
  rw [hv] at HA
  have HB := Lib.hid (Bi.new w ⟨30, kd, ar, pl, n⟩ 54)
  have H0 := Lib.hid (one_S w #[.int .i64 30, .int .i64 kd, .int .i64 ar, .int .i64 pl, .int .i64 n] 54)
  replace HA := Lib.hid HA
  clear h hv
  unfold insV
  go_enter Try.func28, Try.ntmps28
  go_wp2_with fail
  refine HA.out.mono ?_
  rintro e w1 ⟨rfl, hb1⟩
  have HE := Lib.hid (H0.out.trans (hb1.mono H0.out.size))
  obtain ⟨c0, c1, c2, c3, c4⟩ := HB.out.next hb1
  clear hb1 HB
  dsimp only at c0 c1 c2 c3 c4
  go_wp2
  go_ret
  exact ⟨rfl, HE.out⟩
set_option maxRecDepth 100000 in
set_option maxHeartbeats 4000000 in
theorem next_30b {N g : Nat} {p : Int} {s : St} {ov : Value} (w : World) (h : RunAt w N g p s ov) (kd ar pl n : Int) (k m : Nat) (hk : (k : Int) < 100000) (hv : decide (s.v = 1) = true) :
    Calls Try.prog 28 #[.pointer (some ⟨g, 0, none⟩), .int .i64 k, insV ⟨30, kd, ar, pl, n⟩, .int .i64 m] w (Tells (.int .i64 (((k : Int) + 1))) w) := by
  have HA := cAgrees_any _ (h.alloc (.cells #[.int .i64 30, .int .i64 kd, .int .i64 ar, .int .i64 pl, .int .i64 n] 54)) false
  rw [hv] at HA
  have HB := Lib.hid (Bi.new w ⟨30, kd, ar, pl, n⟩ 54)
  have H0 := Lib.hid (one_S w #[.int .i64 30, .int .i64 kd, .int .i64 ar, .int .i64 pl, .int .i64 n] 54)
  replace HA := Lib.hid HA
  clear h hv
  unfold insV
  go_enter Try.func28, Try.ntmps28
  go_wp2_with fail
  refine HA.out.mono ?_
  rintro e w1 ⟨rfl, hb1⟩
  have HE := Lib.hid (H0.out.trans (hb1.mono H0.out.size))
  obtain ⟨c0, c1, c2, c3, c4⟩ := HB.out.next hb1
  clear hb1 HB
  dsimp only at c0 c1 c2 c3 c4
  go_wp2
  go_ret
  exact ⟨rfl, HE.out⟩
set_option maxRecDepth 100000 in
set_option maxHeartbeats 4000000 in
theorem next_else {N g : Nat} {p : Int} {s : St} {ov : Value} (w : World) (_h : RunAt w N g p s ov) (kd ar pl n : Int) (k m : Nat) (hk : (k : Int) < 100000) (op : Int) (h1 : (op == 25) = false) (h2 : (op == 26) = false) (h3 : (op == 27) = false) (h4 : (op == 28) = false) (h5 : (op == 29) = false) (h6 : (op == 30) = false) :
    Calls Try.prog 28 #[.pointer (some ⟨g, 0, none⟩), .int .i64 k, insV ⟨op, kd, ar, pl, n⟩, .int .i64 m] w (Tells (.int .i64 (((k : Int) + 1))) w) := by
  have HE := Lib.hid (one_S w #[.int .i64 op, .int .i64 kd, .int .i64 ar, .int .i64 pl, .int .i64 n] 54)
  clear _h
  unfold insV
  go_enter Try.func28, Try.ntmps28
  go_wp2
  go_ret
  exact ⟨rfl, HE.out⟩
theorem cNext_any {N g : Nat} {p : Int} {s : St} {ov : Value} (w : World) (h : RunAt w N g p s ov) (i : In) (k m : Nat) (hk : k < 100000) (ht : Ty i s) (hj : jumpB i.op = true → 0 ≤ i.pl) :
    Calls Try.prog 28 #[.pointer (some ⟨g, 0, none⟩), .int .i64 k, insV i, .int .i64 m] w (Tells (.int .i64 (nxI i k m s : Nat)) w) := by
  have hbool : (i.op = 26 ∨ i.op = 27 ∨ i.op = 29 ∨ i.op = 30) → s.v = 0 ∨ s.v = 1 := fun e => is_bool (ht.t1 (by omega)).2
  obtain ⟨op, kd, ar, pl, n⟩ := i
  dsimp only at *
  have hk' : (k : Int) < 100000 := by omega
  have hpl : jumpB op = true → ((pl.toNat : Nat) : Int) = pl := fun e => Int.toNat_of_nonneg (hj e)
  unfold nxI
  dsimp only
  by_cases h25 : op = 25
  · subst h25
    rw [if_pos (.inl rfl), hpl (by decide)]
    exact next_25 w h kd ar pl n k m hk'
  by_cases h28 : op = 28
  · subst h28
    rw [if_neg (by omega), if_pos (.inl rfl)]
    exact next_28 w h kd ar pl n k m hk'
  by_cases h26 : op = 26
  · subst h26
    rcases hbool (by omega) with hv | hv
    · rw [if_neg (by omega), if_neg (by omega)]
      exact next_26b w h kd ar pl n k m hk' (by rw [hv]; rfl)
    · rw [if_pos (by omega), hpl (by decide)]
      exact next_26a w h kd ar pl n k m hk' (by rw [hv]; rfl)
  by_cases h27 : op = 27
  · subst h27
    rcases hbool (by omega) with hv | hv
    · rw [if_pos (by omega), hpl (by decide)]
      exact next_27a w h kd ar pl n k m hk' (by rw [hv]; rfl)
    · rw [if_neg (by omega), if_neg (by omega)]
      exact next_27b w h kd ar pl n k m hk' (by rw [hv]; rfl)
  by_cases h29 : op = 29
  · subst h29
    rcases hbool (by omega) with hv | hv
    · rw [if_neg (by omega), if_neg (by omega)]
      exact next_29b w h kd ar pl n k m hk' (by rw [hv]; rfl)
    · rw [if_neg (by omega), if_pos (by omega)]
      exact next_29a w h kd ar pl n k m hk' (by rw [hv]; rfl)
  by_cases h30 : op = 30
  · subst h30
    rcases hbool (by omega) with hv | hv
    · rw [if_neg (by omega), if_pos (by omega)]
      exact next_30a w h kd ar pl n k m hk' (by rw [hv]; rfl)
    · rw [if_neg (by omega), if_neg (by omega)]
      exact next_30b w h kd ar pl n k m hk' (by rw [hv]; rfl)
  rw [if_neg (by omega), if_neg (by omega)]
  exact next_else w h kd ar pl n k m hk' op (by simpa using h25) (by simpa using h26) (by simpa using h27) (by simpa using h28) (by simpa using h29) (by simpa using h30)

end Go.Proofs.Ytbjmdehfdnpljaa.Vm
