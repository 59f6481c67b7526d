/-
  Bytes within a block of other things; the landed code's Put there. Conditions: up to 1000 bytes.
-/
import Derived.Test.YtbjmdehfdnpljaaVmMath
import Derived.Test.YtbjmdehfdnpljaaIeArea
import Derived.Test.YtbjmdehfdnpljaaIeDo
import Derived.Test.YtbjmdehfdnpljaaVeVal
namespace Go.Proofs.Ytbjmdehfdnpljaa.Vm
open Go.RowKit
open Go.Proofs.Ytbjmdehfdnpljaa.Il hiding Next
open Go.Proofs.Ytbjmdehfdnpljaa.Ic Go.Proofs.Ytbjmdehfdnpljaa.Ve
open Oct

def bytC (l : Bs) : List Value := l.map fun c => .int .u8 (c.toNat : Int)
theorem bytC_len (l : Bs) : (bytC l).length = l.length := by simp [bytC]
theorem bytC_set (l : Bs) (i : Nat) (c : UInt8) : (bytC l).set i (.int .u8 (c.toNat : Int)) = bytC (l.set i c) := by simp [bytC, List.map_set]
theorem heap_set {W : World} {g o : Nat} {c : Array Value} {t : TypeId} {v : Value} (h : W.heap[g]? = some (.cells c t (0, 0))) :
    (W.setCell ⟨g, o, none⟩ v).heap[g]? = some (.cells (c.setIfInBounds o v) t (0, 0)) := by
  simp [World.setCell, Array.getElem?_modify, h]
/-- Block g: some cells, these bytes, other cells. -/
def Mid (W : World) (g : Nat) (t : TypeId) (pre : List Value) (l : Bs) (post : List Value) : Prop := W.heap[g]? = some (.cells (pre ++ bytC l ++ post).toArray t (0, 0))
section
variable {W W' : World} {g : Nat} {t : TypeId} {pre post : List Value} {l : Bs}
theorem Mid.lt (h : Mid W g t pre l post) : g < W.heap.size := (Array.getElem?_eq_some_iff.1 h).1
theorem Mid.cell (h : Mid W g t pre l post) {i : Nat} (hi : i < l.length) : W.cell? ⟨g, pre.length + i, none⟩ = some (.int .u8 ((l.getD i 0).toNat : Int)) ∧ W.frozen? ⟨g, pre.length + i, none⟩ = false := by
  refine ⟨?_, ?_⟩
  · rw [cell_of_row _ _ _ _ t (0, 0) h, List.getElem?_toArray, List.append_assoc, List.getElem?_append_right (by omega), Nat.add_sub_cancel_left, List.getElem?_append_left (by rw [bytC_len]; exact hi)]
    simp [bytC, List.getD_eq_getElem?_getD, hi]
  · unfold World.frozen?
    rw [h]
    simp
theorem Mid.put (h : Mid W g t pre l post) {i : Nat} (hi : i < l.length) (c : UInt8) : Mid (W.setCell ⟨g, pre.length + i, none⟩ (.int .u8 (c.toNat : Int))) g t pre (l.set i c) post := by
  unfold Mid at *
  rw [heap_set h, ← bytC_set]
  congr 2
  apply Array.toList_inj.1
  simp only [Array.toList_setIfInBounds, List.append_assoc]
  rw [List.set_append_right _ _ (by omega), Nat.add_sub_cancel_left, List.set_append_left _ _ (by rw [bytC_len]; exact hi)]
theorem Mid.kept (h : Mid W g t pre l post) (hb : Below W.heap.size W W') : Mid W' g t pre l post := (hb.block g h.lt).trans h
theorem Mid.one (h : Mid W g t pre l post) {p : Nat} (hne : g ≠ p) (hb : Only1 p W W') : Mid W' g t pre l post := (hb.block g h.lt hne).trans h
end

set_option maxRecDepth 100000 in
set_option maxHeartbeats 4000000 in
theorem cPutM_any (g cap : Nat) (t : TypeId) (pre post : List Value) (l : Bs) (at_ k v : Int) (w : World) (hr : Mid w g t pre l post) (hl : l.length ≤ 1000)
    (h1 : -9223372036854775808 ≤ at_) (h2 : at_ ≤ 9223372036854775807) (h3 : -9223372036854775808 ≤ v) (h4 : v ≤ 9223372036854775807) :
    Calls Try.prog 80 #[.slice (some ⟨g, pre.length, none⟩) l.length cap, .int .i64 at_, .int .i64 k, .int .i64 v] w fun e w' => e = .returned (.bool (thereI l.length at_ k)) ∧ Mid w' g t pre (putR l at_ k v) post ∧ Only1 g w w' := by
  have HF := Lib.hid (fun W => cFits_any l.length at_ k W hl h1 h2)
  obtain ⟨o, ho⟩ : ∃ o, pre.length = o := ⟨_, rfl⟩
  rw [ho]
  cases ht : thereI l.length at_ k
  · rw [show putR l at_ k v = l by unfold putR; rw [if_neg (by rw [ht]; simp)]]
    rw [ht] at HF
    replace hr := Lib.hid hr
    clear ht ho
    go_enter Try.func80, Try.ntmps80
    go_wp2_with fail
    refine (HF.out _).mono ?_
    rintro e w1 ⟨rfl, hb1⟩
    replace hb1 := Lib.hid hb1
    go_wp2
    go_ret
    exact ⟨rfl, hr.out.kept hb1.out, Only1.of hb1.out⟩
  · rw [show putR l at_ k v = putL l at_.toNat k v by unfold putR; rw [if_pos ht]]
    rw [ht] at HF
    obtain ⟨a, rfl, h, hk0⟩ := there_pos ht
    rw [Int.toNat_natCast, ← part_all]
    clear ht
    have h5 := sz_le k
    have HS := fun W => cSize_any k W
    have HW := Lib.hid (fun W => cWrap_any k v W h3 h4)
    have HB := fun j (hj : j < szI k) => byte_same k v j hk0 hj
    have hbd := wrap_bd k v
    generalize wrapI k v = x at *
    generalize nvI k v = y at *
    generalize szI k = n at *
    replace HS := Lib.hid HS
    replace HB := Lib.hid HB
    have HX := Lib.hid (fun j => rest_bd x j hbd.1 hbd.2)
    have hn0 : 1 ≤ n := by omega
    have hx0 : x / ((256 ^ 0 : Nat) : Int) = x := by simp
    replace hr := Lib.hid hr
    replace ho := Lib.hid ho
    clear hk0 h3 h4 hbd
    go_enter Try.func80, Try.ntmps80
    go_wp2_with fail
    refine (HF.out _).mono ?_
    rintro e w1 ⟨rfl, hb1⟩
    replace hb1 := Lib.hid hb1
    go_wp2_with fail
    refine (HW.out _).mono ?_
    rintro e w2 ⟨rfl, hb2⟩
    replace hb2 := Lib.hid (hb1.out.trans (hb2.mono hb1.out.size))
    clear hb1
    go_wp2_with fail
    refine (HS.out _).mono ?_
    rintro e w3 ⟨rfl, hb3⟩
    replace hb3 := Lib.hid (hb2.out.trans (hb3.mono hb2.out.size))
    clear hb2
    have HR := Lib.hid (hr.out.kept hb3.out)
    have HO := Lib.hid (Only1.of (g := g) hb3.out)
    clear hb3
    go_wp2
    go_loopw [9, 10] (fun r i wr => ∃ m : Nat, m ≤ n ∧ i = .int .i64 ((m : Int) - 1) ∧ r = .int .i64 (x / ((256 ^ (n - m) : Nat) : Int)) ∧ Hid (Only1 g w wr) ∧ Hid (Mid wr g t pre (partL l a n y (n - m)) post)) (fun _ i _ => (intOf i + 1).toNat)
    case atStart => exact ⟨n, Nat.le_refl _, rfl, by rw [Nat.sub_self, hx0], HO, by rw [Nat.sub_self, part_zero]; exact HR⟩
    case round =>
      obtain ⟨m, hm, rfl, rfl, ho1, hrow⟩ := hrel
      by_cases hlt : 1 ≤ m
      · obtain ⟨q, rfl⟩ : ∃ q, m = q + 1 := ⟨m - 1, by omega⟩
        have hlen : a + q < (partL l a n y (n - (q + 1))).length := by rw [part_length _ _ _ _ _ h (by omega)]; omega
        have hst := part_step l a n y (n - (q + 1)) h (by omega)
        rw [show n - (n - (q + 1) + 1) = q by omega, show n - (q + 1) + 1 = n - q by omega] at hst
        have hc := (hrow.out.cell hlen).1
        have hz := (hrow.out.cell hlen).2
        have HR2 := hrow.out.put hlen (UInt8.ofNat (y / 256 ^ (n - (q + 1))))
        rw [hst] at HR2
        rw [ho.out] at hc hz HR2
        replace HR2 := Lib.hid HR2
        have HU := Lib.hid (HB.out (n - (q + 1)) (by omega))
        have HD := rest_step x (n - (q + 1))
        rw [show n - (q + 1) + 1 = n - q by omega] at HD
        replace HD := Lib.hid HD
        have hxb := HX.out (n - (q + 1))
        have HO2 := Lib.hid (fun v => (ho1.out.set (i := o + (a + q)) v))
        have hal : a + q < l.length := by omega
        generalize (partL l a n y (n - (q + 1))).getD (a + q) 0 = c at *
        generalize partL l a n y (n - (q + 1)) = L at *
        generalize x / ((256 ^ (n - (q + 1)) : Nat) : Int) = r at *
        clear hlen hst
        go_wp2
        all_goals
          go_roundw
          case rel => exact ⟨q, by omega, by go_num, by rw [← HD.out], Lib.hid (by rw [HU.out]; exact HO2.out _), Lib.hid (by rw [HU.out]; exact HR2.out)⟩
          case measure => simp [intOf] <;> omega
      · obtain rfl : m = 0 := by omega
        go_wp2
        go_ret
        exact ⟨rfl, hrow.out, ho1.out⟩

/-! ### A run in memory -/
def arC (A : List Bs) : List Value := A.flatMap bytC
def brkC (b : Bk) : List Value := [.int .i64 b.1, .int .i64 b.2.1, .int .i64 b.2.2]
def flatK (l : List Bk) : List Value := l.flatMap brkC
def runC (p : Int) (s : St) (ov : Value) : List Value := arC s.A ++ [.int .i64 p, .int .i64 s.kd, .int .i64 s.v, ov, .int .i64 (s.z : Nat)]
theorem flatK_len (l : List Bk) : (flatK l).length = l.length * 3 := by
  induction l with
  | nil => rfl
  | cons x l ih => show (brkC x ++ flatK l).length = _; rw [List.length_append, ih, List.length_cons]; simp [brkC]; omega
theorem arC_app (A B : List Bs) : arC (A ++ B) = arC A ++ arC B := by unfold arC; rw [List.flatMap_append]
theorem arC_len {A : List Bs} (h : ∀ l ∈ A, l.length = 64) : (arC A).length = A.length * 64 := by
  induction A with
  | nil => rfl
  | cons l A ih =>
    show (bytC l ++ arC A).length = _
    rw [List.length_append, bytC_len, ih (fun m hm => h m (List.mem_cons_of_mem _ hm)), h l (List.mem_cons_self ..), List.length_cons]
    omega
theorem ar_mem {A : List Bs} (h : AOk A) : ∀ l ∈ A, l.length = 64 := fun l hl => by
  obtain ⟨j, hj⟩ := List.getElem?_of_mem hl
  have hlt := (List.getElem?_eq_some_iff.1 hj).1
  have := h.len j (by rw [← h.four]; exact hlt)
  rw [List.getD_eq_getElem?_getD, hj] at this
  exact this
theorem ar_256 {A : List Bs} (h : AOk A) : (arC A).length = 256 := by rw [arC_len (ar_mem h), h.four]
theorem ar_split {A : List Bs} (h : AOk A) {q : Nat} (hq : q < 4) : arC A = arC (A.take q) ++ bytC (A.getD q []) ++ arC (A.drop (q + 1)) ∧ (arC (A.take q)).length = q * 64 := by
  refine ⟨?_, ?_⟩
  · have hl : q < A.length := by rw [h.four]; exact hq
    have e : A = A.take q ++ [A.getD q []] ++ A.drop (q + 1) := by
      rw [List.getD_eq_getElem?_getD, List.getElem?_eq_getElem hl]
      simp
    conv => lhs; rw [e]
    rw [arC_app, arC_app]
    congr 2
    simp [arC]
  · rw [arC_len (fun l hl => ar_mem h l (List.mem_of_mem_take hl)), List.length_take, h.four]
    congr 1
    omega
structure RunAt (W : World) (N g : Nat) (p : Int) (s : St) (ov : Value) : Prop where
  lo : N ≤ g
  blk : W.heap[g]? = some (.cells (runC p s ov).toArray 75 (0, 0))
  own : W.ownsRow N 97 3 ov s.op.length (flatK s.op)
  ok : AOk s.A
section
variable {W W' : World} {N g : Nat} {p : Int} {s : St} {ov : Value}
theorem RunAt.lt (h : RunAt W N g p s ov) : g < W.heap.size := (Array.getElem?_eq_some_iff.1 h.blk).1
theorem RunAt.free (h : RunAt W N g p s ov) (j : Nat) : W.frozen? ⟨g, j, none⟩ = false := by
  unfold World.frozen?
  rw [h.blk]
  simp
theorem RunAt.tail (h : RunAt W N g p s ov) {j : Nat} {v : Value} (hv : [Value.int .i64 p, .int .i64 s.kd, .int .i64 s.v, ov, .int .i64 (s.z : Nat)][j]? = some v) : W.cell? ⟨g, 256 + j, none⟩ = some v := by
  rw [cell_of_row _ _ _ _ _ (0, 0) h.blk, List.getElem?_toArray]
  unfold runC
  rw [List.getElem?_append_right (by rw [ar_256 h.ok]; omega), ar_256 h.ok, Nat.add_sub_cancel_left]
  exact hv
theorem RunAt.far (h : RunAt W N g p s ov) : ∀ k, ov.ownBlock = some k → k ≠ g := fun k hk e => by
  subst e
  rcases h.own.2 with ⟨rfl, _⟩ | ⟨g', cap, cur, rfl, _, hg, _⟩
  · simp [Value.ownBlock] at hk
  · simp [Value.ownBlock] at hk
    subst hk
    rw [h.blk] at hg
    injection hg with hg
    injection hg with _ hg
    exact absurd hg (by decide)
theorem RunAt.kept (h : RunAt W N g p s ov) (hb : Below W.heap.size W W') : RunAt W' N g p s ov :=
  ⟨h.lo, (hb.block g h.lt).trans h.blk, World.ownsRow.kept h.own (only_bel hb none) (by cases ov.ownBlock <;> simp), h.ok⟩
theorem RunAt.mid (h : RunAt W N g p s ov) {q : Nat} (hq : q < 4) : ∃ pre post, pre.length = q * 64 ∧ Mid W g 75 pre (s.A.getD q []) post ∧
    (∀ W' l, l.length = 64 → Mid W' g 75 pre l post → Only1 g W W' → RunAt W' N g p ⟨s.A.set q l, s.kd, s.v, s.op, s.z⟩ ov) := by
  obtain ⟨e1, e2⟩ := ar_split h.ok hq
  refine ⟨arC (s.A.take q), arC (s.A.drop (q + 1)) ++ [.int .i64 p, .int .i64 s.kd, .int .i64 s.v, ov, .int .i64 (s.z : Nat)], e2, ?_, fun W' l hl hm ho => ⟨h.lo, ?_, ?_, ?_⟩⟩
  · have := h.blk
    unfold runC at this
    rw [e1] at this
    unfold Mid
    rw [this]
    simp only [List.append_assoc]
  · have hA : AOk (s.A.set q l) := ⟨by rw [List.length_set]; exact h.ok.four, fun j hj => by
      rw [List.getD_eq_getElem?_getD, List.getElem?_set]
      split
      · rw [if_pos (by rw [h.ok.four]; exact hq)]; exact hl
      · rw [← List.getD_eq_getElem?_getD]; exact h.ok.len j hj⟩
    obtain ⟨f1, _⟩ := ar_split hA hq
    unfold Mid at hm
    rw [hm]
    unfold runC
    rw [f1]
    have hlq : q < s.A.length := by rw [h.ok.four]; exact hq
    rw [List.take_set, List.set_eq_of_length_le (by rw [List.length_take]; omega), List.drop_set, if_pos (by omega), List.getD_eq_getElem?_getD, List.getElem?_set, if_pos rfl, if_pos hlq]
    simp only [List.append_assoc, Option.getD_some]
  · refine World.ownsRow.kept h.own (row := some g) ⟨ho.os, ho.tape, ho.output, ho.size, fun k hk hne => ho.block k hk (fun e => hne (by rw [e]))⟩ ?_
    cases ho2 : ov.ownBlock with
    | none => exact .inl rfl
    | some k => exact .inr (fun e => h.far k ho2 (by injection e))
  · exact ⟨by rw [List.length_set]; exact h.ok.four, fun j hj => by
      rw [List.getD_eq_getElem?_getD, List.getElem?_set]
      split
      · rw [if_pos (by rw [h.ok.four]; exact hq)]; exact hl
      · rw [← List.getD_eq_getElem?_getD]; exact h.ok.len j hj⟩
/-- One of the cells behind the areas is stored. -/
theorem RunAt.store (h : RunAt W N g p s ov) {j : Nat} {v : Value} {p' k' v' : Int} {ov' : Value} {z' : Nat} {op' : List Bk} (hj : j < 5)
    (hv : [Value.int .i64 p, .int .i64 s.kd, .int .i64 s.v, ov, .int .i64 (s.z : Nat)].set j v = [Value.int .i64 p', .int .i64 k', .int .i64 v', ov', .int .i64 (z' : Nat)])
    (ho : W.ownsRow N 97 3 ov' op'.length (flatK op')) : RunAt (W.setCell ⟨g, 256 + j, none⟩ v) N g p' ⟨s.A, k', v', op', z'⟩ ov' := by
  refine ⟨h.lo, ?_, ?_, h.ok⟩
  · rw [heap_set h.blk]
    congr 2
    apply Array.toList_inj.1
    rw [Array.toList_setIfInBounds]
    unfold runC
    simp only
    rw [List.set_append_right _ _ (by rw [ar_256 h.ok]; omega), ar_256 h.ok, Nat.add_sub_cancel_left, hv]
  · refine World.ownsRow.kept ho (only_setv W g (256 + j) v) ?_
    cases ho2 : ov'.ownBlock with
    | none => exact .inl rfl
    | some k =>
      refine .inr (fun e => ?_)
      injection e with e
      subst e
      rcases ho.2 with ⟨rfl, _⟩ | ⟨g', cap, cur, rfl, _, hg, _⟩
      · simp [Value.ownBlock] at ho2
      · simp [Value.ownBlock] at ho2
        subst ho2
        rw [h.blk] at hg
        injection hg with hg
        injection hg with _ hg
        exact absurd hg (by decide)
end
/-- Nothing but the run, and its row of brackets, has turned. -/
structure Kp (g : Nat) (ov : Value) (w w' : World) : Prop where
  os : w'.os = w.os
  tape : w'.tape = w.tape
  output : w'.output = w.output
  size : w.heap.size ≤ w'.heap.size
  block : ∀ k, k < w.heap.size → k ≠ g → ov.ownBlock ≠ some k → w'.heap[k]? = w.heap[k]?
/-- A run is now here. -/
structure Now (N g : Nat) (p : Int) (s' : St) (ov : Value) (w w' : World) (ov' : Value) : Prop where
  at_ : RunAt w' N g p s' ov'
  kp : Kp g ov w w'
  row : ov'.ownBlock = ov.ownBlock ∨ ∀ k, ov'.ownBlock = some k → w.heap.size ≤ k
def Steps (N g : Nat) (p : Int) (s' : St) (ov : Value) (w w' : World) : Prop := ∃ ov', Now N g p s' ov w w' ov'
theorem Kp.refl (g : Nat) (ov : Value) (w : World) : Kp g ov w w := ⟨rfl, rfl, rfl, Nat.le_refl _, fun _ _ _ _ => rfl⟩
theorem Kp.of {g : Nat} {ov : Value} {w w' : World} (h : Below w.heap.size w w') : Kp g ov w w' := ⟨h.os, h.tape, h.output, h.size, fun k hk _ _ => h.block k hk⟩
theorem Kp.one {g : Nat} {ov : Value} {w w' : World} (h : Only1 g w w') : Kp g ov w w' := ⟨h.os, h.tape, h.output, h.size, fun k hk hne _ => h.block k hk hne⟩
theorem Kp.below {N g : Nat} {ov : Value} {w w' : World} (h : Kp g ov w w') (hg : N ≤ g) (ho : ∀ k, ov.ownBlock = some k → N ≤ k) (hN : N ≤ w.heap.size) : Below N w w' :=
  ⟨h.os, h.tape, h.output, h.size, fun k hk => h.block k (by omega) (by omega) (fun e => by have := ho k e; omega)⟩
theorem Kp.trans {g : Nat} {ov ov1 : Value} {w w1 w2 : World} (h : Kp g ov w w1) (h2 : Kp g ov1 w1 w2) (hr : ov1.ownBlock = ov.ownBlock ∨ ∀ k, ov1.ownBlock = some k → w.heap.size ≤ k) : Kp g ov w w2 :=
  ⟨h2.os.trans h.os, h2.tape.trans h.tape, h2.output.trans h.output, Nat.le_trans h.size h2.size, fun k hk hne ho =>
    (h2.block k (Nat.lt_of_lt_of_le hk h.size) hne (fun e => by
      rcases hr with hr | hr
      · exact ho (hr ▸ e)
      · have := hr k e; omega)).trans (h.block k hk hne ho)⟩
theorem Now.trans {N g : Nat} {p : Int} {s1 s2 : St} {ov ov1 ov2 : Value} {w w1 w2 : World} (h : Now N g p s1 ov w w1 ov1) (h2 : Now N g p s2 ov1 w1 w2 ov2) : Now N g p s2 ov w w2 ov2 :=
  ⟨h2.at_, h.kp.trans h2.kp h.row, by
    have hs := h.kp.size
    rcases h2.row with e2 | e2
    · rw [e2]; exact h.row
    · exact .inr (fun k hk => by have := e2 k hk; omega)⟩
theorem Now.same {N g : Nat} {p : Int} {s : St} {ov : Value} {w w' : World} (h : RunAt w N g p s ov) (hb : Below w.heap.size w w') : Now N g p s ov w w' ov := ⟨h.kept hb, Kp.of hb, .inl rfl⟩
theorem Now.one {N g : Nat} {p : Int} {s : St} {ov : Value} {w w' : World} (h : RunAt w' N g p s ov) (hb : Only1 g w w') : Now N g p s ov w w' ov := ⟨h, Kp.one hb, .inl rfl⟩
theorem Now.next {N g : Nat} {p : Int} {s : St} {ov ov1 : Value} {w w1 w2 : World} (h : Now N g p s ov w w1 ov1) (hb : Below w1.heap.size w1 w2) : Now N g p s ov w w2 ov1 := h.trans (Now.same h.at_ hb)
theorem only1_set (g i : Nat) (w : World) (v : Value) : Only1 g w (w.setCell ⟨g, i, none⟩ v) := (Only1.refl g w).set v

end Go.Proofs.Ytbjmdehfdnpljaa.Vm
