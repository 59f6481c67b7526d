/-
  Clusters in memory; within, timed and the reference's in, walked. Conditions: none.
-/
import Derived.Test.YtmlopacekoghkaaCfMath
import Derived.Test.YtmlopacekoghkaaImVal
import Derived.Test.YtmlopacekoghkaaIlR
namespace Go.Proofs.Ytmlopacekoghkaa.Cf
open Go.RowKit
open Go.Proofs.Ytmlopacekoghkaa.Bl (Blk Spt findB layO noS Tells I64 one_S cell_of_row kept_own)
open Go.Proofs.Ytmlopacekoghkaa.Il (In)

def FitH (h : Hd) (n : Nat) : Prop := n ≤ h.cap ∧ h.cap ≤ maxLen ∧ (h.ao = none → h.cap = 0)
def FitS (s : Sta) : Prop := FitH s.co s.cd.length ∧ FitH s.so s.sb.length ∧ FitH s.po s.pb.length ∧ Il.FitL s.cd
def FitC (c : Clu) : Prop := FitH c.bo c.bl.length ∧ FitH c.sh c.st.length ∧ ∀ (k : Nat) (x : Sta), c.st[k]? = some x → FitS x
def staC (s : Sta) : Array Value := #[.int .i64 s.ad, .int .i64 s.sc, .int .i64 s.lo, .slice s.co.ao s.cd.length s.co.cap, .slice s.so.ao s.sb.length s.so.cap, .slice s.po.ao s.pb.length s.po.cap]
def cluC (c : Clu) : Array Value := #[.int .i64 c.sl, .int .i64 c.tt, .int .i64 c.gp, .int .i64 c.rt, .int .i64 c.lm, .int .i64 c.tp, .slice c.bo.ao c.bl.length c.bo.cap, .slice c.sh.ao c.st.length c.sh.cap]
/-- Six cells of a station. -/
def Cells6 (w : World) (b o : Nat) (s : Sta) : Prop := w.cell? ⟨b, o, none⟩ = some (.int .i64 s.ad) ∧ w.cell? ⟨b, o + 1, none⟩ = some (.int .i64 s.sc) ∧ w.cell? ⟨b, o + 2, none⟩ = some (.int .i64 s.lo) ∧ w.cell? ⟨b, o + 3, none⟩ = some (.slice s.co.ao s.cd.length s.co.cap) ∧ w.cell? ⟨b, o + 4, none⟩ = some (.slice s.so.ao s.sb.length s.so.cap) ∧ w.cell? ⟨b, o + 5, none⟩ = some (.slice s.po.ao s.pb.length s.po.cap)
theorem kept_cell {W W' : World} {N : Nat} (hb : Below N W W') {b k : Nat} (hN : b < N) {v : Value} (hc : W.cell? ⟨b, k, none⟩ = some v) : W'.cell? ⟨b, k, none⟩ = some v := Bl.kept_cell hb hN hc
theorem Cells6.below {w w' : World} {b o : Nat} {x : Sta} (h : Cells6 w b o x) {N : Nat} (hb : Below N w w') (hN : b < N) : Cells6 w' b o x :=
  ⟨kept_cell hb hN h.1, kept_cell hb hN h.2.1, kept_cell hb hN h.2.2.1, kept_cell hb hN h.2.2.2.1, kept_cell hb hN h.2.2.2.2.1, kept_cell hb hN h.2.2.2.2.2⟩
/-- A station's lists lie below N. -/
structure StaL (w : World) (N : Nat) (s : Sta) : Prop where
  cd : Il.Lies w N s.co.ao s.cd
  sb : Bl.LiesS w N s.so.ao s.sb
  pb : Bl.LiesS w N s.po.ao s.pb
theorem StaL.below {w w' : World} {N : Nat} {s : Sta} (h : StaL w N s) (hb : Below N w w') : StaL w' N s := ⟨h.cd.below hb, h.sb.below hb, h.pb.below hb⟩
theorem StaL.more {w : World} {N M : Nat} {s : Sta} (h : StaL w N s) (hm : N ≤ M) : StaL w M s := ⟨h.cd.more hm, h.sb.more hm, h.pb.more hm⟩
theorem StaL.no (w : World) (N : Nat) : StaL w N noT := ⟨fun h => by simp [noT] at h, fun h => by simp [noT] at h, fun h => by simp [noT] at h⟩
def RowT (w : World) (N : Nat) (ao : Option Addr) (l : List Sta) : Prop := 1 ≤ l.length → ∃ b o, ao = some ⟨b, o, none⟩ ∧ b < N ∧ ∀ (i : Nat) (x : Sta), l[i]? = some x → Cells6 w b (o + i * 6) x
theorem RowT.below {w w' : World} {N : Nat} {ao : Option Addr} {l : List Sta} (h : RowT w N ao l) (hb : Below N w w') : RowT w' N ao l := by
  intro h1
  obtain ⟨b, o, ha, hlt, hI⟩ := h h1
  exact ⟨b, o, ha, hlt, fun i x hx => (hI i x hx).below hb hlt⟩
theorem RowT.more {w : World} {N M : Nat} {ao : Option Addr} {l : List Sta} (h : RowT w N ao l) (hm : N ≤ M) : RowT w M ao l := by
  intro h1
  obtain ⟨b, o, ha, hlt, hI⟩ := h h1
  exact ⟨b, o, ha, by omega, hI⟩
/-- A cluster's lists lie below N. -/
structure CluL (w : World) (N : Nat) (c : Clu) : Prop where
  bl : Bl.Lies w N c.bo.ao c.bl
  row : RowT w N c.sh.ao c.st
  st : ∀ (k : Nat) (x : Sta), c.st[k]? = some x → StaL w N x
theorem CluL.below {w w' : World} {N : Nat} {c : Clu} (h : CluL w N c) (hb : Below N w w') : CluL w' N c := ⟨h.bl.below hb, h.row.below hb, fun k x hx => (h.st k x hx).below hb⟩
theorem CluL.more {w : World} {N M : Nat} {c : Clu} (h : CluL w N c) (hm : N ≤ M) : CluL w M c := ⟨h.bl.more hm, h.row.more hm, fun k x hx => (h.st k x hx).more hm⟩
/-- A world behind a call's first one, in which a cluster lies. -/
structure Ca (w W : World) (c : Clu) : Prop where
  lies : CluL W w.heap.size c
  below : Below w.heap.size w W
section
variable {w W W' : World} {c : Clu}
theorem Ca.first (h : CluL w w.heap.size c) : Ca w w c := ⟨h, Below.refl _ _⟩
theorem Ca.turn (h : Ca w W c) (hb : Below w.heap.size W W') : Ca w W' c := ⟨h.lies.below hb, h.below.trans hb⟩
theorem Ca.next (h : Ca w W c) (hb : Below W.heap.size W W') : Ca w W' c := h.turn (hb.mono h.below.size)
theorem Ca.self (h : Ca w W c) : Ca W W c := ⟨h.lies.more h.below.size, Below.refl _ _⟩
end
/-- A block of its own with a station's cells; a cluster's. -/
def Own6 (w : World) (b : Nat) (x : Sta) (t : TypeId) : Prop := w.heap[b]? = some (.cells (staC x) t (0, 0))
def OwnC (w : World) (b : Nat) (x : Clu) (t : TypeId) : Prop := w.heap[b]? = some (.cells (cluC x) t (0, 0))
section
variable {w w' : World} {b N : Nat} {x : Sta} {c : Clu} {t : TypeId}
theorem Own6.cells (h : Own6 w b x t) : Cells6 w b 0 x := by
  refine ⟨?_, ?_, ?_, ?_, ?_, ?_⟩ <;> (rw [cell_of_row _ _ _ _ _ _ h]; rfl)
theorem Own6.kept (h : Own6 w b x t) (hb : Below N w w') (hN : b < N) : Own6 w' b x t := (hb.block b hN).trans h
theorem Own6.new (w : World) (x : Sta) (t : TypeId) : Own6 (w.alloc (.cells (staC x) t)) w.heap.size x t := heap_alloc_new _ _
theorem Own6.lt (h : Own6 w b x t) : b < w.heap.size := by
  have h' : w.heap[b]? = some _ := h
  exact (Array.getElem?_eq_some_iff.1 h').1
theorem OwnC.cells (h : OwnC w b c t) : w.cell? ⟨b, 0, none⟩ = some (.int .i64 c.sl) ∧ w.cell? ⟨b, 1, none⟩ = some (.int .i64 c.tt) ∧ w.cell? ⟨b, 2, none⟩ = some (.int .i64 c.gp) ∧ w.cell? ⟨b, 3, none⟩ = some (.int .i64 c.rt) ∧ w.cell? ⟨b, 4, none⟩ = some (.int .i64 c.lm) ∧ w.cell? ⟨b, 5, none⟩ = some (.int .i64 c.tp) ∧ w.cell? ⟨b, 6, none⟩ = some (.slice c.bo.ao c.bl.length c.bo.cap) ∧ w.cell? ⟨b, 7, none⟩ = some (.slice c.sh.ao c.st.length c.sh.cap) := by
  refine ⟨?_, ?_, ?_, ?_, ?_, ?_, ?_, ?_⟩ <;> (rw [cell_of_row _ _ _ _ _ _ h]; rfl)
theorem OwnC.kept (h : OwnC w b c t) (hb : Below N w w') (hN : b < N) : OwnC w' b c t := (hb.block b hN).trans h
theorem OwnC.new (w : World) (c : Clu) (t : TypeId) : OwnC (w.alloc (.cells (cluC c) t)) w.heap.size c t := heap_alloc_new _ _
theorem OwnC.lt (h : OwnC w b c t) : b < w.heap.size := by
  have h' : w.heap[b]? = some _ := h
  exact (Array.getElem?_eq_some_iff.1 h').1
end

theorem within_any (n a b : Int) (w : World) : Calls Try.prog 31 #[.int .i64 n, .int .i64 a, .int .i64 b] w fun e w' => e = .returned (.bool (inB n a b)) ∧ w = w' := by
  unfold inB
  by_cases h : a ≤ n
  · have e1 : decide (a ≤ n) = true := decide_eq_true h
    rw [e1, Bool.true_and]
    clear h
    go_enter Try.func31, Try.ntmps31
    go_wp2
    go_ret
    exact ⟨rfl, rfl⟩
  · have e1 : decide (a ≤ n) = false := decide_eq_false h
    rw [e1, Bool.false_and]
    clear h
    go_enter Try.func31, Try.ntmps31
    go_wp2
    go_ret
    exact ⟨rfl, rfl⟩
theorem qin_any (n a b : Int) (w : World) : Calls Try.prog 22 #[.int .i64 n, .int .i64 a, .int .i64 b] w fun e w' => e = .returned (.bool (inB n a b)) ∧ w = w' := by
  unfold inB
  by_cases h : a ≤ n
  · have e1 : decide (a ≤ n) = true := decide_eq_true h
    rw [e1, Bool.true_and]
    clear h
    go_enter Try.func22, Try.ntmps22
    go_wp2
    go_ret
    exact ⟨rfl, rfl⟩
  · have e1 : decide (a ≤ n) = false := decide_eq_false h
    rw [e1, Bool.false_and]
    clear h
    go_enter Try.func22, Try.ntmps22
    go_wp2
    go_ret
    exact ⟨rfl, rfl⟩
set_option maxRecDepth 100000 in
set_option maxHeartbeats 4000000 in
theorem timed_any (c : Clu) (w : World) : Calls Try.prog 19 #[.agg (cluC c)] w (Tells (.bool (timB c)) w) := by
  have hb := one_S w (cluC c) 25
  obtain ⟨c0, c1, c2, c3, c4, c5, -, -⟩ := (OwnC.new w c 25).cells
  obtain ⟨R, hR⟩ : ∃ R, R = timB c := ⟨_, rfl⟩
  rw [← hR]
  unfold timB at hR
  unfold cluC at *
  have HB := Lib.hid hb
  have HW := Lib.hid within_any
  clear hb
  cases b1 : inB c.sl 4 50
  · have b1 := Lib.hid b1
    obtain rfl : R = false := by rw [hR, b1.out]; rfl
    clear hR
    go_enter Try.func19, Try.ntmps19
    go_wp2_with fail
    refine (HW.out _ _ _ _).mono ?_
    rintro e w1 ⟨rfl, rfl⟩
    rw [b1.out]
    go_wp2
    go_ret
    exact ⟨rfl, HB.out⟩
  have b1 := Lib.hid b1
  cases b2 : inB c.tt 1 10000
  · have b2 := Lib.hid b2
    obtain rfl : R = false := by rw [hR, b1.out, b2.out]; rfl
    clear hR
    go_enter Try.func19, Try.ntmps19
    go_wp2_with fail
    refine (HW.out _ _ _ _).mono ?_
    rintro e w1 ⟨rfl, rfl⟩
    rw [b1.out]
    go_wp2_with fail
    refine (HW.out _ _ _ _).mono ?_
    rintro e w2 ⟨rfl, rfl⟩
    rw [b2.out]
    go_wp2
    go_ret
    exact ⟨rfl, HB.out⟩
  have b2 := Lib.hid b2
  cases b3 : inB c.gp 1 50
  · have b3 := Lib.hid b3
    obtain rfl : R = false := by rw [hR, b1.out, b2.out, b3.out]; rfl
    clear hR
    go_enter Try.func19, Try.ntmps19
    go_wp2_with fail
    refine (HW.out _ _ _ _).mono ?_
    rintro e w1 ⟨rfl, rfl⟩
    rw [b1.out]
    go_wp2_with fail
    refine (HW.out _ _ _ _).mono ?_
    rintro e w2 ⟨rfl, rfl⟩
    rw [b2.out]
    go_wp2_with fail
    refine (HW.out _ _ _ _).mono ?_
    rintro e w3 ⟨rfl, rfl⟩
    rw [b3.out]
    go_wp2
    go_ret
    exact ⟨rfl, HB.out⟩
  have b3 := Lib.hid b3
  cases b4 : inB c.rt 0 3
  · have b4 := Lib.hid b4
    obtain rfl : R = false := by rw [hR, b1.out, b2.out, b3.out, b4.out]; rfl
    clear hR
    go_enter Try.func19, Try.ntmps19
    go_wp2_with fail
    refine (HW.out _ _ _ _).mono ?_
    rintro e w1 ⟨rfl, rfl⟩
    rw [b1.out]
    go_wp2_with fail
    refine (HW.out _ _ _ _).mono ?_
    rintro e w2 ⟨rfl, rfl⟩
    rw [b2.out]
    go_wp2_with fail
    refine (HW.out _ _ _ _).mono ?_
    rintro e w3 ⟨rfl, rfl⟩
    rw [b3.out]
    go_wp2_with fail
    refine (HW.out _ _ _ _).mono ?_
    rintro e w4 ⟨rfl, rfl⟩
    rw [b4.out]
    go_wp2
    go_ret
    exact ⟨rfl, HB.out⟩
  have b4 := Lib.hid b4
  cases b5 : inB c.lm 1 65535
  · have b5 := Lib.hid b5
    obtain rfl : R = false := by rw [hR, b1.out, b2.out, b3.out, b4.out, b5.out]; rfl
    clear hR
    go_enter Try.func19, Try.ntmps19
    go_wp2_with fail
    refine (HW.out _ _ _ _).mono ?_
    rintro e w1 ⟨rfl, rfl⟩
    rw [b1.out]
    go_wp2_with fail
    refine (HW.out _ _ _ _).mono ?_
    rintro e w2 ⟨rfl, rfl⟩
    rw [b2.out]
    go_wp2_with fail
    refine (HW.out _ _ _ _).mono ?_
    rintro e w3 ⟨rfl, rfl⟩
    rw [b3.out]
    go_wp2_with fail
    refine (HW.out _ _ _ _).mono ?_
    rintro e w4 ⟨rfl, rfl⟩
    rw [b4.out]
    go_wp2_with fail
    refine (HW.out _ _ _ _).mono ?_
    rintro e w5 ⟨rfl, rfl⟩
    rw [b5.out]
    go_wp2
    go_ret
    exact ⟨rfl, HB.out⟩
  have b5 := Lib.hid b5
  cases b6 : inB c.tp 0 31
  · have b6 := Lib.hid b6
    obtain rfl : R = false := by rw [hR, b1.out, b2.out, b3.out, b4.out, b5.out, b6.out]; rfl
    clear hR
    go_enter Try.func19, Try.ntmps19
    go_wp2_with fail
    refine (HW.out _ _ _ _).mono ?_
    rintro e w1 ⟨rfl, rfl⟩
    rw [b1.out]
    go_wp2_with fail
    refine (HW.out _ _ _ _).mono ?_
    rintro e w2 ⟨rfl, rfl⟩
    rw [b2.out]
    go_wp2_with fail
    refine (HW.out _ _ _ _).mono ?_
    rintro e w3 ⟨rfl, rfl⟩
    rw [b3.out]
    go_wp2_with fail
    refine (HW.out _ _ _ _).mono ?_
    rintro e w4 ⟨rfl, rfl⟩
    rw [b4.out]
    go_wp2_with fail
    refine (HW.out _ _ _ _).mono ?_
    rintro e w5 ⟨rfl, rfl⟩
    rw [b5.out]
    go_wp2_with fail
    refine (HW.out _ _ _ _).mono ?_
    rintro e w6 ⟨rfl, rfl⟩
    rw [b6.out]
    go_wp2
    go_ret
    exact ⟨rfl, HB.out⟩
  have b6 := Lib.hid b6
  obtain rfl : R = true := by rw [hR, b1.out, b2.out, b3.out, b4.out, b5.out, b6.out]; rfl
  clear hR
  go_enter Try.func19, Try.ntmps19
  go_wp2_with fail
  refine (HW.out _ _ _ _).mono ?_
  rintro e w1 ⟨rfl, rfl⟩
  rw [b1.out]
  go_wp2_with fail
  refine (HW.out _ _ _ _).mono ?_
  rintro e w2 ⟨rfl, rfl⟩
  rw [b2.out]
  go_wp2_with fail
  refine (HW.out _ _ _ _).mono ?_
  rintro e w3 ⟨rfl, rfl⟩
  rw [b3.out]
  go_wp2_with fail
  refine (HW.out _ _ _ _).mono ?_
  rintro e w4 ⟨rfl, rfl⟩
  rw [b4.out]
  go_wp2_with fail
  refine (HW.out _ _ _ _).mono ?_
  rintro e w5 ⟨rfl, rfl⟩
  rw [b5.out]
  go_wp2_with fail
  refine (HW.out _ _ _ _).mono ?_
  rintro e w6 ⟨rfl, rfl⟩
  rw [b6.out]
  go_wp2
  go_ret
  exact ⟨rfl, HB.out⟩
end Go.Proofs.Ytmlopacekoghkaa.Cf
