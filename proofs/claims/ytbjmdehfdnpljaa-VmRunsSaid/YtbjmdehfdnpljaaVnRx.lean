/-
  Fit and Do of the reference, walked; the law VmRuns walked. Conditions: as each states.
-/
import Derived.Test.YtbjmdehfdnpljaaVnSx
import Derived.Test.YtbjmdehfdnpljaaVmGo
import Derived.StillTailTactics
import Derived.Test.YtbjmdehfdnpljaaVmFry
namespace Go.Proofs.Ytbjmdehfdnpljaa.Vm
open Go.RowKit
open Go.Proofs.Ytbjmdehfdnpljaa.Il hiding Next S S_size S_app S_inj S_list
open Go.Proofs.Ytbjmdehfdnpljaa.Ic Go.Proofs.Ytbjmdehfdnpljaa.Ve
open Oct

def sizeV : Value → Nat
  | .string T => T.size
  | _ => 0
theorem one_zero : (⟨#[0]⟩ : ByteArray) = S [0] := rfl
def FitAt (l : Bs) (T : ByteArray) : Prop := ∃ j, T = S (l ++ List.replicate j 0) ∧ (j = 0 ∨ l.length + j ≤ 64)
theorem fit_more {l : Bs} {T : ByteArray} (h : FitAt l T) (hT : T.size < 64) : FitAt l (T ++ ⟨#[0]⟩) ∧ (T ++ (⟨#[0]⟩ : ByteArray)).size = T.size + 1 := by
  obtain ⟨j, rfl, hj⟩ := h
  rw [S_size, List.length_append, List.length_replicate] at hT
  refine ⟨⟨j + 1, ?_, .inr (by omega)⟩, ?_⟩
  · rw [one_zero, S_app, List.append_assoc]
    congr 2
    rw [List.replicate_succ']
  · rw [one_zero, S_app, S_size, S_size]
    simp only [List.length_append, List.length_replicate, List.length_cons, List.length_nil]
theorem fit_done {l : Bs} {T : ByteArray} (h : FitAt l T) (hT : ¬ T.size < 64) : T.extract 0 64 = S (fitL l) := by
  obtain ⟨j, rfl, hj⟩ := h
  rw [S_size, List.length_append, List.length_replicate] at hT
  rw [extract_head, S_list]
  unfold fitL
  congr 1
  rw [List.take_append]
  congr 1
  rw [List.take_replicate]
  congr 1
  omega
set_option maxRecDepth 100000 in
set_option maxHeartbeats 4000000 in
theorem rFit_any (l : Bs) (hl : l.length ≤ 100) (w : World) : Calls Try.prog 30 #[.string (S l)] w (fun e w' => e = .returned (.string (S (fitL l))) ∧ w' = w) := by
  have h0 := Lib.hid (show FitAt l (S l) from ⟨0, by simp, .inl rfl⟩)
  have hs : (S l).size ≤ 100 := by rw [S_size]; exact hl
  have HF := Lib.hid (fun T (h : FitAt l T) (hT : T.size < 64) => fit_more h hT)
  have HD := Lib.hid (fun T (h : FitAt l T) (hT : ¬ T.size < 64) => fit_done h hT)
  generalize fitL l = L at *
  generalize S l = T0 at *
  clear hl
  go_enter Try.func30, Try.ntmps30
  go_wp2_with fail
  go_loopw [0] (fun s wr => ∃ T : ByteArray, s = .string T ∧ Hid (FitAt l T) ∧ T.size ≤ 100 ∧ wr = w) (fun s _ => 64 - sizeV s)
  case atStart => exact ⟨_, rfl, h0, hs, rfl⟩
  case round =>
    obtain ⟨T, rfl, hj, hb, rfl⟩ := hrel
    by_cases hT : (T.size : Int) < 64
    · have hm := HF.out T hj.out (by omega)
      have HM := Lib.hid hm
      have hsz := hm.2
      clear hm h0 HF HD
      go_wp2
      go_roundw
      case rel => exact ⟨_, rfl, Lib.hid HM.out.1, by omega, trivial⟩
      case measure => have := HM.out.2; simp [sizeV] at *; omega
    · have hd := Lib.hid (HD.out T hj.out (by omega))
      have h64 : (64 : Int) ≤ T.size := by omega
      clear h0 HF HD
      go_wp2
      go_ret
      exact ⟨by rw [← hd.out]; rfl, rfl⟩

end Go.Proofs.Ytbjmdehfdnpljaa.Vm

namespace Go.Proofs.Ytbjmdehfdnpljaa.Vm
open Go.RowKit
open Go.Proofs.Ytbjmdehfdnpljaa.Il hiding Next S S_size S_app S_inj S_list
open Go.Proofs.Ytbjmdehfdnpljaa.Ic Go.Proofs.Ytbjmdehfdnpljaa.Ve
open Oct

/-- What is behind the reference's beginning. -/
structure Rr (w W : World) (g : Nat) (p : Int) (t : Nat) (s : St) (ov : Value) : Prop where
  at_ : RfAt W g g p t s ov
  img : Rz W (w.heap.size + 1)
  scan : W.heap[w.heap.size + 1 + 1]? = some (.cells #[.int .i64 0, .int .i64 0, .int .i64 0, .int .i64 0] 34 (0, 0))
  below : Below w.heap.size w W
  lo : w.heap.size + 2 < g
section
variable {w W W' : World} {g : Nat} {p : Int} {t t' : Nat} {s s' : St} {ov ov' : Value}
theorem Rr.kept (h : Rr w W g p t s ov) (hb : Below W.heap.size W W') : Rr w W' g p t s ov :=
  ⟨h.at_.kept hb, h.img.kept hb, (hb.block _ (Array.getElem?_eq_some_iff.1 h.scan).1).trans h.scan, h.below.trans (hb.mono h.below.size), h.lo⟩
theorem Rr.drew (h : Rr w W g p t s ov) : Rr w W.drew g p t s ov := ⟨h.at_.drew, h.img, h.scan, h.below.drew, h.lo⟩
theorem Rr.step (h : Rr w W g p t s ov) (hn : RNow g g p t' s' ov W W' ov') : Rr w W' g p t' s' ov' := by
  have hlo := h.lo
  have hov : ∀ k, ov.ownBlock = some k → g ≤ k := fun k hk => (World.ownsRow.lt h.at_.own k hk).1
  have hs := h.below.size
  refine ⟨hn.at_, ?_, ?_, h.below.trans (hn.kp.below (by omega) (fun k hk => by have := hov k hk; omega) hs), hlo⟩
  · exact (hn.kp.block _ (Array.getElem?_eq_some_iff.1 h.img).1 (by omega) (fun e => by have := hov _ e; omega)).trans h.img
  · exact (hn.kp.block _ (Array.getElem?_eq_some_iff.1 h.scan).1 (by omega) (fun e => by have := hov _ e; omega)).trans h.scan
end
/-- What is there ahead of the reference's run. -/
structure R0 (w W : World) : Prop where
  img : Rz W (w.heap.size + 1)
  scan : W.heap[w.heap.size + 1 + 1]? = some (.cells #[.int .i64 0, .int .i64 0, .int .i64 0, .int .i64 0] 34 (0, 0))
  below : Below w.heap.size w W
  lo : w.heap.size + 2 < W.heap.size
theorem R0.drew {w W : World} (h : R0 w W) : R0 w W.drew := ⟨h.img, h.scan, h.below.drew, h.lo⟩
theorem r0_first (w : World) (a b c d : ByteArray) : let W := (((w.alloc (.cells #[.string a, .string b, .string c, .string d] 32)).alloc (.cells #[.string ⟨#[]⟩, .string ⟨#[]⟩, .string ⟨#[]⟩, .string ⟨#[]⟩] 32)).alloc (.cells #[.int .i64 0, .int .i64 0, .int .i64 0, .int .i64 0] 34))
    (W.cell? ⟨w.heap.size, 0, none⟩ = some (.string a) ∧ W.cell? ⟨w.heap.size, 1, none⟩ = some (.string b) ∧ W.cell? ⟨w.heap.size, 2, none⟩ = some (.string c) ∧ W.cell? ⟨w.heap.size, 3, none⟩ = some (.string d)) ∧ R0 w W := by
  intro W
  have hz1 := Rz.new (w.alloc (.cells #[.string a, .string b, .string c, .string d] 32))
  rw [show (w.alloc (.cells #[.string a, .string b, .string c, .string d] 32)).heap.size = w.heap.size + 1 by simp] at hz1
  have hz2 := hz1.kept (one_S _ #[.int .i64 0, .int .i64 0, .int .i64 0, .int .i64 0] 34)
  have hs2 := heap_alloc_new ((w.alloc (.cells #[.string a, .string b, .string c, .string d] 32)).alloc (.cells #[.string ⟨#[]⟩, .string ⟨#[]⟩, .string ⟨#[]⟩, .string ⟨#[]⟩] 32)) (.cells #[.int .i64 0, .int .i64 0, .int .i64 0, .int .i64 0] 34)
  rw [show ((w.alloc (.cells #[.string a, .string b, .string c, .string d] 32)).alloc (.cells #[.string ⟨#[]⟩, .string ⟨#[]⟩, .string ⟨#[]⟩, .string ⟨#[]⟩] 32)).heap.size = w.heap.size + 1 + 1 by simp] at hs2
  have hb0 := heap_alloc_new w (.cells #[.string a, .string b, .string c, .string d] 32)
  have hb1 : W.heap[w.heap.size]? = some (.cells #[.string a, .string b, .string c, .string d] 32) := ((one_S _ _ _).block _ (by simp; omega)).trans (((one_S _ _ _).block _ (by simp)).trans hb0)
  have hc : ∀ j, W.cell? ⟨w.heap.size, j, none⟩ = (#[Value.string a, .string b, .string c, .string d] : Array Value)[j]? := fun j => cell_of_row _ _ _ _ _ (0, 0) hb1
  exact ⟨⟨hc 0, hc 1, hc 2, hc 3⟩, hz2, hs2, (box_two w _ _ _ _).trans ((one_S _ _ _).mono (by simp; omega)), by simp [W]⟩
theorem Rr.r0 {w W : World} {g : Nat} {p : Int} {t : Nat} {s : St} {ov : Value} (h : Rr w W g p t s ov) : R0 w W := ⟨h.img, h.scan, h.below, by have := h.lo; have := h.at_.lt; omega⟩
theorem R0.set {w W : World} {g : Nat} (h : R0 w W) (hg : w.heap.size + 2 < g) (j : Nat) (v : Value) : R0 w (W.setCell ⟨g, j, none⟩ v) := by
  refine ⟨?_, ?_, h.below.trans ((only1_set g j W v).below (by omega) h.below.size), by have := h.lo; simpa using this⟩
  · unfold Rz
    rw [heap_setCell_other _ _ _ _ (by dsimp only; omega)]
    exact h.img
  · rw [heap_setCell_other _ _ _ _ (by dsimp only; omega)]
    exact h.scan
theorem end_set {w W : World} {g : Nat} {a b c d : ByteArray} {t z : Int} (h : R0 w W) (hlo : w.heap.size + 2 < g) (s1 : W.cell? ⟨g, 1, none⟩ = some (.string a)) (s2 : W.cell? ⟨g, 2, none⟩ = some (.string b)) (s3 : W.cell? ⟨g, 3, none⟩ = some (.string c)) (s4 : W.cell? ⟨g, 4, none⟩ = some (.string d)) (s8 : W.cell? ⟨g, 8, none⟩ = some (.int .i64 t)) (s9 : W.cell? ⟨g, 9, none⟩ = some (.int .i64 z)) (s10 : W.cell? ⟨g, 10, none⟩ = some (.int .i64 0)) (s11 : W.cell? ⟨g, 11, none⟩ = some (.int .i64 0)) (x y : Int) :
    let W3 := (W.setCell ⟨g, 10, none⟩ (.int .i64 x)).setCell ⟨g, 11, none⟩ (.int .i64 y)
    (W3.cell? ⟨g, 1, none⟩ = some (.string a) ∧ W3.cell? ⟨g, 2, none⟩ = some (.string b) ∧ W3.cell? ⟨g, 3, none⟩ = some (.string c) ∧ W3.cell? ⟨g, 4, none⟩ = some (.string d)) ∧ (W3.cell? ⟨g, 8, none⟩ = some (.int .i64 t) ∧ W3.cell? ⟨g, 9, none⟩ = some (.int .i64 z) ∧ W3.cell? ⟨g, 10, none⟩ = some (.int .i64 x) ∧ W3.cell? ⟨g, 11, none⟩ = some (.int .i64 y)) ∧ R0 w W3 := by
  intro W3
  have sf : ∀ (W : World) (j k : Nat) (v : Value), j ≠ k → (W.setCell ⟨g, j, none⟩ v).cell? ⟨g, k, none⟩ = W.cell? ⟨g, k, none⟩ := fun W j k v e => World.cell?_setCell_other _ _ _ _ (by intro e2; injection e2 with _ e2; exact e e2)
  have s11' : (W.setCell ⟨g, 10, none⟩ (.int .i64 x)).cell? ⟨g, 11, none⟩ = some (.int .i64 0) := (sf _ _ _ _ (by decide)).trans s11
  have t10 : (W.setCell ⟨g, 10, none⟩ (.int .i64 x)).cell? ⟨g, 10, none⟩ = some (.int .i64 x) := World.cell?_setCell_same' _ _ _ (by rw [s10]; rfl)
  have t11 : W3.cell? ⟨g, 11, none⟩ = some (.int .i64 y) := World.cell?_setCell_same' _ _ _ (by rw [s11']; rfl)
  have two : ∀ k, 10 ≠ k → 11 ≠ k → W3.cell? ⟨g, k, none⟩ = W.cell? ⟨g, k, none⟩ := fun k e1 e2 => (sf _ _ _ _ e2).trans (sf _ _ _ _ e1)
  exact ⟨⟨(two 1 (by decide) (by decide)).trans s1, (two 2 (by decide) (by decide)).trans s2, (two 3 (by decide) (by decide)).trans s3, (two 4 (by decide) (by decide)).trans s4⟩, ⟨(two 8 (by decide) (by decide)).trans s8, (two 9 (by decide) (by decide)).trans s9, (sf _ _ _ _ (by decide)).trans t10, t11⟩, (h.set hlo 10 _).set hlo 11 _⟩
theorem cells_drew {Y : World} {r : Nat} {a b c d : Value} (h : Y.cell? ⟨r, 0, none⟩ = some a ∧ Y.cell? ⟨r, 1, none⟩ = some b ∧ Y.cell? ⟨r, 2, none⟩ = some c ∧ Y.cell? ⟨r, 3, none⟩ = some d) : Y.drew.cell? ⟨r, 0, none⟩ = some a ∧ Y.drew.cell? ⟨r, 1, none⟩ = some b ∧ Y.drew.cell? ⟨r, 2, none⟩ = some c ∧ Y.drew.cell? ⟨r, 3, none⟩ = some d := h
def leftR (n : Nat) (k : Int) : Nat := if 0 ≤ k then n - k.toNat else 0
theorem left_lt {n m nx : Nat} {r : Int} (hm : m < n) (h : m < nx) (hl : leadsR r nx n) : leftR n r < leftR n (m : Int) := by
  unfold leftR
  rw [if_pos (show (0 : Int) ≤ (m : Int) by omega)]
  rcases hl with rfl | ⟨rfl, e⟩
  · rw [if_pos (show (0 : Int) ≤ (nx : Int) by omega)]; omega
  · rw [if_neg (by omega)]; omega
theorem refr_first (w : World) (A : List Bs) (hA : AOk A) (p : Int) : RfAt (w.alloc (.cells (refC p 0 (st0 A) (.slice none 0 0)).toArray 83)) w.heap.size w.heap.size p 0 (st0 A) (.slice none 0 0) :=
  ⟨Nat.le_refl _, heap_alloc_new w _, ⟨rfl, .inl ⟨rfl, rfl⟩⟩, hA⟩
theorem Rr.first {w W : World} {A : List Bs} {p : Int} (h : R0 w W) (hf : RfAt (W.alloc (.cells (refC p 0 (st0 A) (.slice none 0 0)).toArray 83)) W.heap.size W.heap.size p 0 (st0 A) (.slice none 0 0)) : Rr w (W.alloc (.cells (refC p 0 (st0 A) (.slice none 0 0)).toArray 83)) W.heap.size p 0 (st0 A) (.slice none 0 0) :=
  ⟨hf, h.img.kept (one_S _ _ _), ((one_S W _ _).block _ (Array.getElem?_eq_some_iff.1 h.scan).1).trans h.scan, h.below.trans ((one_S W _ _).mono h.below.size), h.lo⟩
set_option maxRecDepth 100000 in
set_option maxHeartbeats 4000000 in
theorem rGo_any (c : List In) (l : List Ah) (hall : allB c = .ok l) (ao : Option Addr) (cap : Nat) (I Q M R : Bs) (x p : Int) (w : World) (hI : Lies w w.heap.size ao c) (hI1 : I.length ≤ 100) (hQ1 : Q.length ≤ 100) (hM1 : M.length ≤ 100) (hR1 : R.length ≤ 100) (hx : (p = 0 ∧ x ≤ 0) ∨ (p = x ∧ 0 < x ∧ x ≤ 10000) ∨ (p = 10000 ∧ 10000 < x)) :
    Calls Try.prog 16 #[.slice ao c.length cap, imgV I Q M R, .int .i64 x] w (Tells (ranV (finM c p [fitL I, fitL Q, fitL M, fitL R])) w) := by
  have T0 := Lib.hid (fun W => rFit_any I hI1 W)
  have T1 := Lib.hid (fun W => rFit_any Q hQ1 W)
  have T2 := Lib.hid (fun W => rFit_any M hM1 W)
  have T3 := Lib.hid (fun W => rFit_any R hR1 W)
  have hA := aok4 (fit_len I) (fit_len Q) (fit_len M) (fit_len R)
  obtain ⟨P, hPp⟩ : ∃ P, P = p := ⟨_, rfl⟩
  have HF := Lib.hid (fun W => refr_first W _ hA p)
  have HA := Lib.hid hall
  have HG := Lib.hid (good_first hall hA)
  have HL := Lib.hid hI
  rw [← hPp] at HF ⊢
  have HPB := Lib.hid (show 0 ≤ P ∧ P ≤ 10000 by omega)
  have HX := Lib.hid (show (P = 0 ∧ x ≤ 0) ∨ (P = x ∧ 0 < x ∧ x ≤ 10000) ∨ (P = 10000 ∧ 10000 < x) by omega)
  clear hPp
  obtain ⟨fin, hfin⟩ : ∃ fin, finM c P [fitL I, fitL Q, fitL M, fitL R] = fin := ⟨_, rfl⟩
  rw [hfin]
  replace hfin := Lib.hid hfin
  have hlen := (all_ok hall).1
  have hlenI : (c.length : Int) ≤ 200 := by omega
  unfold imgV
  clear hA hall hI
  clear hx
  go_enter Try.func16, Try.ntmps16
  go_wp2_with fail
  refine world_cutR (G := fun W => Code.wp _ _ _ _ W) (fun W => (W.cell? ⟨w.heap.size, 0, none⟩ = some (.string (S I)) ∧ W.cell? ⟨w.heap.size, 1, none⟩ = some (.string (S Q)) ∧ W.cell? ⟨w.heap.size, 2, none⟩ = some (.string (S M)) ∧ W.cell? ⟨w.heap.size, 3, none⟩ = some (.string (S R))) ∧ R0 w W) (r0_first w (S I) (S Q) (S M) (S R)) ?_
  rintro W ⟨⟨q0, q1, q2, q3⟩, hr⟩
  replace q0 : W.drew.cell? ⟨w.heap.size, 0, none⟩ = some (.string (S I)) := q0
  replace q1 : W.drew.cell? ⟨w.heap.size, 1, none⟩ = some (.string (S Q)) := q1
  replace q2 : W.drew.cell? ⟨w.heap.size, 2, none⟩ = some (.string (S M)) := q2
  replace q3 : W.drew.cell? ⟨w.heap.size, 3, none⟩ = some (.string (S R)) := q3
  have HR0 := Lib.hid (show R0 w W.drew from hr.drew)
  clear hr
  refine wp_region_still_tail 17 (by kernel_rfl) (by kernel_rfl) ?_
  change wpStill _ _ W.drew (fun a' => wpList _ _ _ _ a' W.drew) _ _
  generalize W.drew = W1 at *
  simp only [List.take_succ_cons, List.take_zero, List.drop_succ_cons, List.drop_zero]
  repeat still_step
  still_call (T0.out _)
  repeat still_step
  still_call (T1.out _)
  repeat still_step
  still_call (T2.out _)
  repeat still_step
  still_call (T3.out _)
  repeat still_step
  try refine wpStill_nil ?_
  have hr0 : ∀ p0, P = p0 → Rr w (W1.alloc (.cells #[.string ⟨#[]⟩, .string (S (fitL I)), .string (S (fitL Q)), .string (S (fitL M)), .string (S (fitL R)), .int .i64 0, .int .i64 0, .slice none 0 0, .int .i64 0, .int .i64 0, .int .i64 0, .int .i64 0, .int .i64 p0] 83)) W1.heap.size P 0 (st0 [fitL I, fitL Q, fitL M, fitL R]) (.slice none 0 0) := fun p0 e => by
    subst e
    exact Rr.first HR0.out (HF.out W1)
  have hr1 := Lib.hid hr0
  clear hr0 q0 q1 q2 q3 T0 T1 T2 T3 hI1 hQ1 hM1 hR1 HF HR0
  go_wp2_with fail
  all_goals
    go_loopw [9] (fun k wr => ∃ (m : Mc) (r : Int), k = .int .i64 r ∧ leadsR r m.k c.length ∧ Hid (Good c l m) ∧ Hid (itM c P (c.length - m.k) m = fin) ∧ Hid (∃ ov, Rr w wr W1.heap.size P m.t m.s ov)) (fun k _ => leftR c.length (intOf k))
    case atStart => exact ⟨mc0 [fitL I, fitL Q, fitL M, fitL R], 0, rfl, .inl rfl, HG, hfin, Lib.hid ⟨_, hr1.out _ (by have := HX.out; omega)⟩⟩
    case round =>
      obtain ⟨m, r, rfl, hle, hg, hit, hrg⟩ := hrel
      obtain ⟨ov, hrg'⟩ := hrg.out
      have hR := Lib.hid hrg'
      clear hrg hr1 HG hfin
      by_cases hk : m.k < c.length ∧ r = (m.k : Int)
      · obtain ⟨hk, rfl⟩ := hk
        obtain ⟨i, hh⟩ := good_here HA.out hg.out hk
        obtain ⟨b', o', e4, hbl, hI⟩ := (HL.out.below hrg'.below) (by omega)
        subst e4
        obtain ⟨k0, k1, k2, k3, k4⟩ := hI m.k i hh.at_
        have hkI : (m.k : Int) < (c.length : Int) := by omega
        have hgd := hg.out
        have hc8 : m.s.op.length ≤ 8 := by
          have h1 := (hgd.conf hk).br
          have h2 := ((run_ok (all_ok HA.out).2.1).1 m.k).len
          rw [← h1] at h2
          unfold kbs at h2
          simpa using h2
        have hz1 : m.s.z < 1000 := by have := hgd.z; have := hgd.t1; omega
        have HST := Lib.hid (fun W ov (h : RfAt W W1.heap.size W1.heap.size P m.t m.s ov) => rStep_any W h i m.k c.length (by omega) (by have := hgd.t1; omega) hh.right hh.ty hgd.ok hc8 hz1 HPB.out.1 HPB.out.2 (fun hj => hh.far hj))
        have hst := step_at (p := P) hh.at_
        obtain ⟨sg1, sg2⟩ := step_good (p := P) HA.out hgd hk
        have hsi := it_step (p := P) HA.out hgd hk
        rw [hit.out] at hsi
        rw [hst] at sg1 sg2 hsi
        have HM := Lib.hid (⟨sg1, sg2, hsi⟩ : _ ∧ _ ∧ _)
        clear hgd hc8 hz1 hst sg1 sg2 hsi hh hI hbl hrg' hg hit hle
        unfold insV at HST
        generalize nxI i m.k c.length m.s = nx at *
        generalize doI P i m.s = s2 at *
        go_wp2_with fail
        with_reducible refine (HST.out _ ov hR.out.at_).mono ?_
        rintro e w2 ⟨r', ov', rfl, hl', hn2⟩
        have hR2 := Lib.hid (hR.out.step hn2)
        clear hn2 hR HST k0 k1 k2 k3 k4
        go_wp2
        go_roundw
        case rel => exact ⟨⟨nx, m.t + 1, s2⟩, r', rfl, hl', Lib.hid HM.out.1, Lib.hid HM.out.2.2, Lib.hid ⟨ov', hR2.out⟩⟩
        case measure =>
          exact left_lt (by omega) HM.out.2.1 hl'
      · have he : (r = -1 ∨ r = (c.length : Int)) ∧ m.k = c.length := by
          have := hg.out.le
          rcases hle with e | ⟨e, e2⟩ <;> omega
        have hfm : m = fin := by
          have := hit.out
          rw [he.2, Nat.sub_self] at this
          exact this
        subst hfm
        have hok := hrg'.at_.ok
        obtain ⟨A0, A1, A2, A3, hAe⟩ := four_is hok.four
        have hcs := he.1
        have hkn := he.2
        have HN := Lib.hid hrg'.r0
        have s1 : wr.cell? ⟨W1.heap.size, 1, none⟩ = some (.string (S A0)) := by have := hrg'.at_.str (q := 0) (by omega); rw [hAe] at this; exact this
        have s2 : wr.cell? ⟨W1.heap.size, 2, none⟩ = some (.string (S A1)) := by have := hrg'.at_.str (q := 1) (by omega); rw [hAe] at this; exact this
        have s3 : wr.cell? ⟨W1.heap.size, 3, none⟩ = some (.string (S A2)) := by have := hrg'.at_.str (q := 2) (by omega); rw [hAe] at this; exact this
        have s4 : wr.cell? ⟨W1.heap.size, 4, none⟩ = some (.string (S A3)) := by have := hrg'.at_.str (q := 3) (by omega); rw [hAe] at this; exact this
        have s5 := hrg'.at_.kd
        have s6 := hrg'.at_.val
        have s8 := hrg'.at_.stp
        have s9 := hrg'.at_.zer
        have s10 : wr.cell? ⟨W1.heap.size, 10, none⟩ = some (.int .i64 0) := hrg'.at_.tail (j := 5) rfl
        have s11 : wr.cell? ⟨W1.heap.size, 11, none⟩ = some (.int .i64 0) := hrg'.at_.tail (j := 6) rfl
        have f10 := hrg'.at_.free 10
        have f11 := hrg'.at_.free 11
        have lg := hrg'.at_.lt
        have hlo := hrg'.lo
        have hran : ranV m = .tuple #[.agg #[.string (S A0), .string (S A1), .string (S A2), .string (S A3)], .agg #[.int .i64 (m.t : Nat), .int .i64 (m.s.z : Nat), .int .i64 m.s.kd, .int .i64 m.s.v]] := by
          unfold ranV imgA scanV
          rw [hAe]
          rfl
        replace hran := Lib.hid hran
        clear he hle hg hit hok hAe hk hR hrg' HA HL HX HPB
        have hcl : ¬ ((c.length : Int) < (c.length : Int)) := by omega
        rcases hcs with rfl | rfl
        all_goals
          go_wp2_with fail
          refine world_cutR (G := fun W => Code.wp _ _ _ _ W) (fun W3 => (W3.cell? ⟨W1.heap.size, 1, none⟩ = some (.string (S A0)) ∧ W3.cell? ⟨W1.heap.size, 2, none⟩ = some (.string (S A1)) ∧ W3.cell? ⟨W1.heap.size, 3, none⟩ = some (.string (S A2)) ∧ W3.cell? ⟨W1.heap.size, 4, none⟩ = some (.string (S A3))) ∧ (W3.cell? ⟨W1.heap.size, 8, none⟩ = some (.int .i64 (m.t : Nat)) ∧ W3.cell? ⟨W1.heap.size, 9, none⟩ = some (.int .i64 (m.s.z : Nat)) ∧ W3.cell? ⟨W1.heap.size, 10, none⟩ = some (.int .i64 m.s.kd) ∧ W3.cell? ⟨W1.heap.size, 11, none⟩ = some (.int .i64 m.s.v)) ∧ R0 w W3) ?_ ?_
          · exact end_set HN.out hlo s1 s2 s3 s4 s8 s9 s10 s11 _ _
          rintro W3 ⟨⟨q1, q2, q3, q4⟩, ⟨q8, q9, q10, q11⟩, hR0⟩
          have qi := hR0.img
          have z0 := free_heap qi 0
          have z1 := free_heap qi 1
          have z2 := free_heap qi 2
          have z3 := free_heap qi 3
          have p0 : W3.cell? ⟨w.heap.size + 1, 0, none⟩ = some (.string ⟨#[]⟩) := by rw [cell_of_row _ _ _ _ _ (0, 0) qi]; rfl
          have p1 : W3.cell? ⟨w.heap.size + 1, 1, none⟩ = some (.string ⟨#[]⟩) := by rw [cell_of_row _ _ _ _ _ (0, 0) qi]; rfl
          have p2 : W3.cell? ⟨w.heap.size + 1, 2, none⟩ = some (.string ⟨#[]⟩) := by rw [cell_of_row _ _ _ _ _ (0, 0) qi]; rfl
          have p3 : W3.cell? ⟨w.heap.size + 1, 3, none⟩ = some (.string ⟨#[]⟩) := by rw [cell_of_row _ _ _ _ _ (0, 0) qi]; rfl
          have qs := hR0.scan
          have v0 := free_heap qs 0
          have v1 := free_heap qs 1
          have v2 := free_heap qs 2
          have v3 := free_heap qs 3
          have x0 : W3.cell? ⟨w.heap.size + 1 + 1, 0, none⟩ = some (.int .i64 0) := by rw [cell_of_row _ _ _ _ _ (0, 0) qs]; rfl
          have x1 : W3.cell? ⟨w.heap.size + 1 + 1, 1, none⟩ = some (.int .i64 0) := by rw [cell_of_row _ _ _ _ _ (0, 0) qs]; rfl
          have x2 : W3.cell? ⟨w.heap.size + 1 + 1, 2, none⟩ = some (.int .i64 0) := by rw [cell_of_row _ _ _ _ _ (0, 0) qs]; rfl
          have x3 : W3.cell? ⟨w.heap.size + 1 + 1, 3, none⟩ = some (.int .i64 0) := by rw [cell_of_row _ _ _ _ _ (0, 0) qs]; rfl
          clear qi qs s1 s2 s3 s4 s5 s6 s8 s9 s10 s11 f10 f11
          have HR0 := Lib.hid hR0
          clear hR0
          go_region
          go_wp2
          (try simp only [Exit.inBlock, Exit.then])
          have HC := ran_cells HR0.out.img rfl HR0.out.scan rfl (by omega) (.string (S A0)) (.string (S A1)) (.string (S A2)) (.string (S A3)) (.int .i64 (m.t : Nat)) (.int .i64 (m.s.z : Nat)) (.int .i64 m.s.kd) (.int .i64 m.s.v)
          have HB : Below w.heap.size w ((((((((W3.setCell ⟨w.heap.size + 1, 0, none⟩ (.string (S A0))).setCell ⟨w.heap.size + 1, 1, none⟩ (.string (S A1))).setCell ⟨w.heap.size + 1, 2, none⟩ (.string (S A2))).setCell ⟨w.heap.size + 1, 3, none⟩ (.string (S A3))).setCell ⟨w.heap.size + 1 + 1, 0, none⟩ (.int .i64 (m.t : Nat))).setCell ⟨w.heap.size + 1 + 1, 1, none⟩ (.int .i64 (m.s.z : Nat))).setCell ⟨w.heap.size + 1 + 1, 2, none⟩ (.int .i64 m.s.kd)).setCell ⟨w.heap.size + 1 + 1, 3, none⟩ (.int .i64 m.s.v)) := four_below (four_below HR0.out.below (by omega) _ _ _ _) (by omega) _ _ _ _
          obtain ⟨⟨h0, h1, h2, h3⟩, h4, h5, h6, h7⟩ := HC
          clear HR0 q1 q2 q3 q4 q8 q9 q10 q11 z0 z1 z2 z3 p0 p1 p2 p3 v0 v1 v2 v3 x0 x1 x2 x3
          generalize ((((((((W3.setCell ⟨w.heap.size + 1, 0, none⟩ (.string (S A0))).setCell ⟨w.heap.size + 1, 1, none⟩ (.string (S A1))).setCell ⟨w.heap.size + 1, 2, none⟩ (.string (S A2))).setCell ⟨w.heap.size + 1, 3, none⟩ (.string (S A3))).setCell ⟨w.heap.size + 1 + 1, 0, none⟩ (.int .i64 (m.t : Nat))).setCell ⟨w.heap.size + 1 + 1, 1, none⟩ (.int .i64 (m.s.z : Nat))).setCell ⟨w.heap.size + 1 + 1, 2, none⟩ (.int .i64 m.s.kd)).setCell ⟨w.heap.size + 1 + 1, 3, none⟩ (.int .i64 m.s.v)) = Y at h0 h1 h2 h3 h4 h5 h6 h7 HB ⊢
          exact bodyPost_ret (results_ran rfl _ _ (w.heap.size + 1) (w.heap.size + 1 + 1) (S A0) (S A1) (S A2) (S A3) (m.t : Nat) (m.s.z : Nat) m.s.kd m.s.v rfl rfl (cells_drew ⟨h0, h1, h2, h3⟩) (cells_drew ⟨h4, h5, h6, h7⟩)) rfl ⟨congrArg Ending.returned hran.out.symm, HB.drew⟩

end Go.Proofs.Ytbjmdehfdnpljaa.Vm

namespace Go.Proofs.Ytbjmdehfdnpljaa.Vm
open Go.RowKit
open Go.Proofs.Ytbjmdehfdnpljaa.Il hiding Next S S_size S_app S_inj S_list
open Go.Proofs.Ytbjmdehfdnpljaa.Ic Go.Proofs.Ytbjmdehfdnpljaa.Ve
open Oct

/-- Both runs, of any time. -/
theorem two_any (c : List In) (l : List Ah) (h : allB c = .ok l) (x : Int) : ∃ p : Int, (∀ (I Q M R : Bs) (W : World) (N pb : Nat) (v : Value), PAt W N pb v c →
    Calls Try.prog 11 #[.pointer (some ⟨pb, 0, none⟩), imgV I Q M R, .int .i64 x] W (Tells (ranV (finM c p [fitL I, fitL Q, fitL M, fitL R])) W)) ∧
    (∀ (I Q M R : Bs) (W : World) (ao : Option Addr) (cap : Nat), Lies W W.heap.size ao c → I.length ≤ 100 → Q.length ≤ 100 → M.length ≤ 100 → R.length ≤ 100 →
    Calls Try.prog 16 #[.slice ao c.length cap, imgV I Q M R, .int .i64 x] W (Tells (ranV (finM c p [fitL I, fitL Q, fitL M, fitL R])) W)) := by
  have hp : ∃ p : Int, (p = 0 ∧ x ≤ 0) ∨ (p = x ∧ 0 < x ∧ x ≤ 10000) ∨ (p = 10000 ∧ 10000 < x) := by
    by_cases h0 : x ≤ 0
    · exact ⟨0, .inl ⟨rfl, h0⟩⟩
    · by_cases h1 : x ≤ 10000
      · exact ⟨x, .inr (.inl ⟨rfl, by omega, h1⟩)⟩
      · exact ⟨10000, .inr (.inr ⟨rfl, by omega⟩)⟩
  obtain ⟨p, hp⟩ := hp
  refine ⟨p, fun I Q M R W N pb v hP => ?_, fun I Q M R W ao cap hI h1 h2 h3 h4 => rGo_any c l h ao cap I Q M R x p W hI h1 h2 h3 h4 hp⟩
  obtain ⟨ao, cap, e, -, -⟩ := own_slice hP.own
  rw [e] at hP
  exact run_go c l h pb ao cap I Q M R x p W ⟨hP.blk, World.ownsRow.mono hP.own (Nat.zero_le _), Nat.zero_le _⟩ hp
theorem small_len {I Q M R : Bs} (h : smallB I Q M R = true) : I.length ≤ 100 ∧ Q.length ≤ 100 ∧ M.length ≤ 100 ∧ R.length ≤ 100 := by
  unfold smallB at h
  simpa [and_assoc] using h
set_option maxRecDepth 100000 in
set_option maxHeartbeats 8000000 in
theorem runs_walk (c : List In) (ao : Option Addr) (cap : Nat) (I Q M R : Bs) (x : Int) (w : World) (hI : Lies w w.heap.size ao c) (hF : FitL c) (hm : c.length ≤ maxLen) (hcap : ao = none → cap = 0) :
    Calls Try.prog 4 #[.slice ao c.length cap, imgV I Q M R, .int .i64 x] w (Tells (.bool true) w) := by
  have HA := Lib.hid (Fr.first (I := I) (Q := Q) (M := M) (R := R) hI)
  have hmi : (c.length : Int) ≤ 9223372036854775807 := by unfold maxLen at hm; omega
  have HSm := Lib.hid (fun W => cSmall_any I Q M R W)
  unfold imgV at *
  by_cases h120 : (120 : Int) < c.length
  · clear hcap hI hF hm
    go_enter Try.func4, Try.ntmps4
    go_wp2_with fail
    with_reducible refine (wake_any _).mono ?_
    rintro e w1 ⟨rfl, hb1⟩
    have HA1 := Lib.hid (HA.out.next hb1)
    clear hb1 HA
    go_wp2
    go_ret
    exact ⟨rfl, HA1.out.at_.below⟩
  · cases hsm : smallB I Q M R
    · rw [hsm] at HSm
      clear hcap hI hF hm
      go_enter Try.func4, Try.ntmps4
      go_wp2_with fail
      with_reducible refine (wake_any _).mono ?_
      rintro e w1 ⟨rfl, hb1⟩
      have HA1 := Lib.hid (HA.out.next hb1)
      obtain ⟨-, i0, i1, i2, i3⟩ := HA1.out
      clear hb1 HA
      go_wp2_with fail
      with_reducible refine (HSm.out _).mono ?_
      rintro e w2 ⟨rfl, hb1⟩
      have HA2 := Lib.hid (HA1.out.next hb1)
      clear hb1 HA1
      go_wp2
      go_ret
      exact ⟨rfl, HA2.out.at_.below⟩
    · rw [hsm] at HSm
      obtain ⟨l1, l2, l3, l4⟩ := small_len hsm
      rcases all_cases c with ⟨r, k, h, hr, hr2, hk2⟩ | ⟨l, h, hw, hl, h200⟩
      · have hck := chk_err h
        have HL := Lib.hid (fun W (h : At w W ao c) => load_no c ao cap W h.lies hF (by omega) (by rw [hck]; dsimp only; omega))
        rw [hck] at HL
        dsimp only at HL
        have hrb : ((r : Int) != 0) = true := by simp; omega
        clear h hr hck hcap hI hF hm
        go_enter Try.func4, Try.ntmps4
        go_wp2_with fail
        with_reducible refine (wake_any _).mono ?_
        rintro e w1 ⟨rfl, hb1⟩
        have HA1 := Lib.hid (HA.out.next hb1)
        obtain ⟨-, i0, i1, i2, i3⟩ := HA1.out
        clear hb1 HA
        go_wp2_with fail
        with_reducible refine (HSm.out _).mono ?_
        rintro e w2 ⟨rfl, hb1⟩
        have HA2 := Lib.hid (HA1.out.next hb1)
        clear hb1 HA1 i0 i1 i2 i3
        go_wp2_with fail
        with_reducible refine (HL.out _ HA2.out.at_).mono ?_
        rintro e w3 ⟨rfl, hb1⟩
        have HA3 := Lib.hid (HA2.out.next hb1)
        clear hb1 HA2
        go_wp2
        go_ret
        exact ⟨rfl, HA3.out.at_.below⟩
      · have hz : (chkB c).1 = 0 := by rw [chk_ok h]
        have HL := Lib.hid (fun W (h : At w W ao c) => load_ok c ao cap W h.lies hF hcap (by omega) hz)
        obtain ⟨p, hp, hd⟩ := two_any c l h x
        have hA4 := aok4 (fit_len I) (fit_len Q) (fit_len M) (fit_len R)
        obtain ⟨hg, hk⟩ := fin_good (p := p) h hA4
        generalize hmm : finM c p [fitL I, fitL Q, fitL M, fitL R] = m at *
        have hok := hg.ok.ar
        obtain ⟨A0, A1, A2, A3, hAe⟩ := four_is hok.four
        have hran : ranV m = .tuple #[.agg #[.string (S A0), .string (S A1), .string (S A2), .string (S A3)], .agg #[.int .i64 (m.t : Nat), .int .i64 (m.s.z : Nat), .int .i64 m.s.kd, .int .i64 m.s.v]] := by
          unfold ranV imgA scanV
          rw [hAe]
          rfl
        have ml : ∀ {A : Bs}, A.length = 64 → (S A).size ≤ maxLen := fun e => by rw [S_size, e]; unfold maxLen; omega
        have him := img_same (S A0) (S A1) (S A2) (S A3) (ml (by have := hok.len 0 (by omega); rwa [hAe] at this)) (ml (by have := hok.len 1 (by omega); rwa [hAe] at this)) (ml (by have := hok.len 2 (by omega); rwa [hAe] at this)) (ml (by have := hok.len 3 (by omega); rwa [hAe] at this))
        have hwf : (Lit.int .i64 ((m.t : Nat) : Int)).wf = true ∧ (Lit.int .i64 ((m.s.z : Nat) : Int)).wf = true ∧ (Lit.int .i64 m.s.kd).wf = true ∧ (Lit.int .i64 m.s.v).wf = true := by
          have b1 := ok_bd hg.ok
          have b2 := hg.t1
          have b4 := hg.le
          have b3 := hg.z
          have b5 : c.length ≤ 200 := (all_ok h).1
          refine ⟨?_, ?_, ?_, ?_⟩ <;> (simp [Lit.wf, IntKind.min, IntKind.max, IntKind.signed, IntKind.bits]; omega)
        have hsc := scan_same (m.t : Nat) (m.s.z : Nat) m.s.kd m.s.v hwf.1 hwf.2.1 hwf.2.2.1 hwf.2.2.2
        have HR := Lib.hid (fun W N pb v hP => by have := hp I Q M R W N pb v hP; rw [hmm, hran] at this; exact this)
        have HD := Lib.hid (fun W (h : At w W ao c) => by have := hd I Q M R W ao cap h.lies l1 l2 l3 l4; rw [hmm, hran] at this; exact this)
        have hgs := Try.guardScan
        have hgi := Try.guardImg
        clear hp hd hran hg hk hok hmm hw hl h200 h hz hA4 hAe hwf ml
        generalize m.t = T at *
        generalize m.s.z = Z at *
        generalize m.s.kd = KD at *
        generalize m.s.v = VA at *
        unfold imgV at *
        go_enter Try.func4, Try.ntmps4
        go_wp2_with fail
        with_reducible refine (wake_any _).mono ?_
        rintro e w1 ⟨rfl, hb1⟩
        have HA1 := Lib.hid (HA.out.next hb1)
        obtain ⟨-, i0, i1, i2, i3⟩ := HA1.out
        clear hb1 HA
        go_wp2_with fail
        with_reducible refine (HSm.out _).mono ?_
        rintro e w2 ⟨rfl, hb1⟩
        have HA2 := Lib.hid (HA1.out.next hb1)
        clear hb1 HA1 i0 i1 i2 i3
        go_wp2_with fail
        with_reducible refine (HL.out _ HA2.out.at_).mono ?_
        rintro e w3 ⟨pb, v, rfl, hP, hb1⟩
        have HA3 := Lib.hid (HA2.out.next hb1)
        have HP3 := Lib.hid hP
        clear hb1 HA2 hP
        obtain ⟨-, i0, i1, i2, i3⟩ := HA3.out
        go_wp2_with fail
        with_reducible refine (HR.out _ _ _ _ HP3.out).mono ?_
        rintro e w7 ⟨rfl, hb1⟩
        have HA7 := Lib.hid (HA3.out.next hb1)
        clear hb1 HA3 HP3 i0 i1 i2 i3
        have two7 : Below w7.heap.size w7 ((w7.alloc (.cells #[.string (S A0), .string (S A1), .string (S A2), .string (S A3)] 32)).alloc (.cells #[.int .i64 (T : Nat), .int .i64 (Z : Nat), .int .i64 KD, .int .i64 VA] 34)) := box_two w7 _ _ _ _
        have tw7 := Tw.new (w := w7) (W := w7) (s0 := S A0) (s1 := S A1) (s2 := S A2) (s3 := S A3) (i0 := (T : Nat)) (i1 := (Z : Nat)) (i2 := KD) (i3 := VA) (Below.refl _ _)
        have HT8 := Lib.hid tw7
        have HA8 := Lib.hid (HA7.out.next two7)
        clear tw7 two7 HA7
        obtain ⟨-, i0, i1, i2, i3⟩ := HA8.out
        generalize hsb : w7.heap.size = sb at *
        go_wp2_with fail
        with_reducible refine (HD.out _ HA8.out.at_).mono ?_
        rintro e w9 ⟨rfl, hb1⟩
        have HT9 := Lib.hid (HT8.out.kept hb1)
        have HA9 := Lib.hid (HA8.out.next hb1)
        clear hb1 HA8 HT8 i0 i1 i2 i3
        have two9 : Below w9.heap.size w9 ((w9.alloc (.cells #[.string (S A0), .string (S A1), .string (S A2), .string (S A3)] 32)).alloc (.cells #[.int .i64 (T : Nat), .int .i64 (Z : Nat), .int .i64 KD, .int .i64 VA] 34)) := box_two w9 _ _ _ _
        have tw9 := Tw.new (w := w9) (W := w9) (s0 := S A0) (s1 := S A1) (s2 := S A2) (s3 := S A3) (i0 := (T : Nat)) (i1 := (Z : Nat)) (i2 := KD) (i3 := VA) (Below.refl _ _)
        have HT10 := HT9.out.kept two9
        obtain ⟨e0, e1, e2, e3, f0, f1, f2, f3, -⟩ := tw9
        obtain ⟨g0, g1, g2, g3, k0, k1, k2, k3, -⟩ := HT10
        have HA10 := Lib.hid (HA9.out.next two9)
        clear two9 HT9 HA9
        go_wp2_with fail
        go_ret
        exact ⟨rfl, HA10.out.at_.below⟩

end Go.Proofs.Ytbjmdehfdnpljaa.Vm
