/-
  The landed code's lists of instructions, copied, Code, Load, Fit, Blank, walked. Conditions: as each states.
-/
import Derived.Test.YtbjmdehfdnpljaaVeStep
import Derived.Laws.AppendOwnNone
import Derived.OwnWalk
import Derived.Deep.AppendLies
import Derived.Test.YtbjmdehfdnpljaaVmTop
import Derived.Test.YtbjmdehfdnpljaaVeC
import Derived.Deep.Onto
namespace Go.Proofs.Ytbjmdehfdnpljaa.Ve
open Go.RowKit
open Go.Proofs.Ytbjmdehfdnpljaa.Il hiding Next
open Go.Proofs.Ytbjmdehfdnpljaa.Ic hiding I64

def flatI (l : List In) : List Value := l.flatMap insC
theorem flatI_len (l : List In) : (flatI l).length = l.length * 5 := by
  unfold flatI
  induction l with
  | nil => rfl
  | cons x l ih => rw [List.flatMap_cons, List.length_append, ih, List.length_cons]; simp [insC]; omega
theorem flatI_app (a b : List In) : flatI (a ++ b) = flatI a ++ flatI b := by unfold flatI; rw [List.flatMap_append]
theorem flatI_at : ∀ (l : List In) (i : Nat) (x : In), l[i]? = some x → ∀ j, j < 5 → (flatI l)[i * 5 + j]? = (insC x)[j]?
  | [], i, x, h, _, _ => by simp at h
  | y :: l, 0, x, h, j, hj => by
    have : y = x := by simpa using h
    subst this
    show (insC y ++ flatI l)[0 * 5 + j]? = _
    rw [List.getElem?_append_left (by simp [insC]; omega), Nat.zero_mul, Nat.zero_add]
  | y :: l, i + 1, x, h, j, hj => by
    have ih := flatI_at l i x (by simpa using h) j hj
    show (insC y ++ flatI l)[(i + 1) * 5 + j]? = _
    rw [List.getElem?_append_right (by simp [insC]; omega), ← ih]
    congr 1
    simp [insC]; omega
theorem flatI_one : ∀ (l : List In), ∀ u ∈ flatI l, u.oneCell' = true := fun l u hu => by
  unfold flatI at hu
  obtain ⟨x, _, hx⟩ := List.mem_flatMap.1 hu
  simp [insC] at hx
  rcases hx with rfl | rfl | rfl | rfl | rfl <;> rfl
theorem items_flat {w : World} {b o : Nat} {xs : List In} (h : Items w b o xs) : ∀ j u, (flatI xs)[j]? = some u → w.cell? ⟨b, o + j, none⟩ = some u := by
  intro j u hj
  have hjl : j < xs.length * 5 := by
    have := (List.getElem?_eq_some_iff.1 hj).1
    rw [flatI_len] at this
    exact this
  obtain ⟨x, hx⟩ : ∃ x, xs[j / 5]? = some x := ⟨_, List.getElem?_eq_getElem (by omega)⟩
  have e := flatI_at xs (j / 5) x hx (j % 5) (by omega)
  rw [show j / 5 * 5 + j % 5 = j by omega, hj] at e
  obtain ⟨c0, c1, c2, c3, c4⟩ := h (j / 5) x hx
  have hr : j % 5 = 0 ∨ j % 5 = 1 ∨ j % 5 = 2 ∨ j % 5 = 3 ∨ j % 5 = 4 := by omega
  rcases hr with hr | hr | hr | hr | hr <;> rw [hr] at e <;> injection e with e <;> subst e
  · rw [show o + j = o + j / 5 * 5 by omega]; exact c0
  · rw [show o + j = o + j / 5 * 5 + 1 by omega]; exact c1
  · rw [show o + j = o + j / 5 * 5 + 2 by omega]; exact c2
  · rw [show o + j = o + j / 5 * 5 + 3 by omega]; exact c3
  · rw [show o + j = o + j / 5 * 5 + 4 by omega]; exact c4
theorem infoIns : (Try.prog.info? 54).map (fun i => (i.zero, i.size, i.bytes)) = some (some (.agg #[.int .i64 0, .int .i64 0, .int .i64 0, .int .i64 0, .int .i64 0]), 5, 40) := by kernel_rfl

/-- A row of instructions that the call itself made. -/
def OwnI (w : World) (N : Nat) (v : Value) (l : List In) : Prop := w.ownsRow N 54 5 v l.length (flatI l)
theorem OwnI.empty (w : World) : OwnI (w.alloc (.cells #[] 54)) w.heap.size (.slice (some ⟨w.heap.size, 0, none⟩) 0 0) [] :=
  World.ownsRow_lit w #[] 0 (Nat.le_refl _) (by unfold maxLen; omega) rfl
theorem OwnI.alloc {w : World} {N : Nat} {v : Value} {l : List In} (h : OwnI w N v l) (ob : Obj) : OwnI (w.alloc ob) N v l := World.ownsRow.alloc h ob
theorem OwnI.lies {w : World} {N : Nat} {v : Value} {l : List In} (h : OwnI w N v l) (h1 : 0 < l.length) : ∃ g cap, v = .slice (some ⟨g, 0, none⟩) l.length cap ∧ Lies w w.heap.size (some ⟨g, 0, none⟩) l := by
  obtain ⟨g, cap, hv, hN, hg⟩ := World.ownsRow.form h h1
  subst hv
  refine ⟨g, cap, rfl, fun _ => ⟨g, 0, rfl, hg, fun i x hx => ?_⟩⟩
  have hi := (List.getElem?_eq_some_iff.1 hx).1
  have hc : ∀ j, j < 5 → w.cell? ⟨g, i * 5 + j, none⟩ = (insC x)[j]? := fun j hj => by
    rw [World.ownsRow.cellAt h (i * 5 + j) (by omega), flatI_at l i x hx j hj]
  rw [Nat.zero_add]
  exact ⟨hc 0 (by omega), hc 1 (by omega), hc 2 (by omega), hc 3 (by omega), hc 4 (by omega)⟩
set_option maxRecDepth 100000 in
/-- A list appended to a row of the call's own, nil or not. -/
theorem wpList_append_ins {w : World} {ops : Array Oper} {rest : List Oper} {o : Oper} {a : Act} {Q : Exit → Act → World → Prop} (hgd : o.guard = none) (s x : Operand)
    (ho : o.op = .call { callee := .builtin .append, args := #[s, x], argTypes := #[22, 22] })
    (N : Nat) (v : Value) (la lb : List In) (hs : a.eval s = v) (hown : OwnI w N v la) (ao : Option Addr) (c : Nat) (hx : a.eval x = .slice ao lb.length c) (hu : Lies w w.heap.size ao lb) (hc : ao = none → c = 0)
    (hlen : la.length + lb.length ≤ 1000) (hN : N ≤ w.heap.size)
    (h : ∀ v' w', OwnI w' N v' (la ++ lb) → Below N w w' → wpList Try.prog ops Q rest (a.put o.dst v') w') : wpList Try.prog ops Q (o :: rest) a w := by
  obtain ⟨i0, hi, hz0, hz1, hz2⟩ := info_parts infoIns
  cases ao with
  | none =>
    have hl : lb.length = 0 := by
      by_cases h1 : 1 ≤ lb.length
      · obtain ⟨b, o, e, _⟩ := hu h1
        cases e
      · omega
    have hb : lb = [] := List.eq_nil_of_length_eq_zero hl
    subst hb
    have hc0 := hc rfl
    subst hc0
    refine wpList_append_own_none hgd s x 22 ho N 54 i0 5 Try.underlying22 hi v la.length (flatI la) hs hown hx ?_
    refine h v w ?_ (Below.refl _ _)
    rw [List.append_nil]
    exact hown
  | some ad =>
    have hcells : ∀ j u, (flatI lb)[j]? = some u → w.cell? (ad.add j) = some u := fun j u hj => by
      have h1 : 1 ≤ lb.length := by
        have := (List.getElem?_eq_some_iff.1 hj).1
        rw [flatI_len] at this
        omega
      obtain ⟨b, o, e, _, hI⟩ := hu h1
      injection e with e
      subst e
      have hadd : (⟨b, o, none⟩ : Addr).add j = ⟨b, o + j, none⟩ := by unfold Addr.add; split <;> simp_all
      rw [hadd]
      exact items_flat hI j u hj
    refine wpList_append_own w hgd s x 22 ho N 54 i0 _ 5 40 Try.underlying22 hi hz0 hz1 hz2 rfl (by decide) v la.length (flatI la) hs hown ad lb.length c (flatI lb) hx (flatI_len lb) hcells (flatI_one lb) (by unfold maxLen; omega) (by omega) hN (fun v' w' h4 h5 _ => h v' w' ?_ ?_)
    · unfold OwnI
      rw [List.length_append, flatI_app]
      exact h4
    · exact ⟨h5.os, h5.tape, h5.output, h5.size, fun k hk => h5.block k (by omega) (fun e => by have := (World.ownsRow.lt hown k e.symm).1; omega)⟩


end Go.Proofs.Ytbjmdehfdnpljaa.Ve

namespace Go.Proofs.Ytbjmdehfdnpljaa.Vm
open Go.RowKit
open Go.Proofs.Ytbjmdehfdnpljaa.Il hiding Next S S_size S_app S_inj S_list
open Go.Proofs.Ytbjmdehfdnpljaa.Ic Go.Proofs.Ytbjmdehfdnpljaa.Ve
open Oct

/-- Four texts. -/
def imgV (a b c d : Bs) : Value := .agg #[.string (S a), .string (S b), .string (S c), .string (S d)]
theorem free_heap {W : World} {r : Nat} {u : Array Value} {t : TypeId} (h : W.heap[r]? = some (.cells u t (0, 0))) (j : Nat) : W.frozen? ⟨r, j, none⟩ = false := by
  unfold World.frozen?
  rw [h]
  simp
/-- The block of an image that is to be answered. -/
def Rz (W : World) (r : Nat) : Prop := W.heap[r]? = some (.cells #[.string ⟨#[]⟩, .string ⟨#[]⟩, .string ⟨#[]⟩, .string ⟨#[]⟩] 32 (0, 0))
theorem Rz.kept {W W' : World} {r : Nat} (h : Rz W r) (hb : Below W.heap.size W W') : Rz W' r := (hb.block r (Array.getElem?_eq_some_iff.1 h).1).trans h
theorem Rz.new (W : World) : Rz (W.alloc (.cells #[.string ⟨#[]⟩, .string ⟨#[]⟩, .string ⟨#[]⟩, .string ⟨#[]⟩] 32)) W.heap.size := heap_alloc_new W _
theorem four_below {N r : Nat} {w W : World} (h : Below N w W) (hr : N ≤ r) (a b c d : Value) : Below N w ((((W.setCell ⟨r, 0, none⟩ a).setCell ⟨r, 1, none⟩ b).setCell ⟨r, 2, none⟩ c).setCell ⟨r, 3, none⟩ d) :=
  (((h.setCell hr a).setCell hr b).setCell hr c).setCell hr d
set_option maxRecDepth 100000 in
set_option maxHeartbeats 4000000 in
theorem cFit_any (I Q M R : Bs) (w : World) : Calls Try.prog 13 #[imgV I Q M R] w (Tells (imgV (fitL I) (fitL Q) (fitL M) (fitL R)) w) := by
  have HS := Lib.hid (fun W => cSpread_any I Q M R W)
  have HI := Lib.hid (fun W => cImage_any (fitL I) (fitL Q) (fitL M) (fitL R) W (fit_len I) (fit_len Q) (fit_len M) (fit_len R))
  generalize (arC [fitL I, fitL Q, fitL M, fitL R]).toArray = X at *
  have HR0 := Rz.new (w.alloc (.cells #[.string (S I), .string (S Q), .string (S M), .string (S R)] 32))
  rw [show (w.alloc (.cells #[.string (S I), .string (S Q), .string (S M), .string (S R)] 32)).heap.size = w.heap.size + 1 by simp] at HR0
  have HB0 := Lib.hid (box_two w #[.string (S I), .string (S Q), .string (S M), .string (S R)] #[.string ⟨#[]⟩, .string ⟨#[]⟩, .string ⟨#[]⟩, .string ⟨#[]⟩] 32 32)
  replace HR0 := Lib.hid HR0
  unfold imgV
  go_enter Try.func13, Try.ntmps13
  go_wp2_with fail
  with_reducible refine (HS.out _).mono ?_
  rintro e w1 ⟨rfl, hb1⟩
  have HR1 := Lib.hid (HR0.out.kept hb1)
  have HB1 := Lib.hid (HB0.out.trans (hb1.mono HB0.out.size))
  clear hb1 HR0 HB0
  go_wp2_with fail
  with_reducible refine (HI.out _).mono ?_
  rintro e w2 ⟨rfl, hb2⟩
  have HR := Lib.hid (HR1.out.kept hb2)
  have HB := Lib.hid (HB1.out.trans (hb2.mono HB1.out.size))
  clear hb2 HR1 HB1
  have HZ := HR.out
  have q0 : w2.cell? ⟨w.heap.size + 1, 0, none⟩ = some (.string ⟨#[]⟩) := by rw [cell_of_row _ _ _ _ _ (0, 0) HZ]; rfl
  have q1 : w2.cell? ⟨w.heap.size + 1, 1, none⟩ = some (.string ⟨#[]⟩) := by rw [cell_of_row _ _ _ _ _ (0, 0) HZ]; rfl
  have q2 : w2.cell? ⟨w.heap.size + 1, 2, none⟩ = some (.string ⟨#[]⟩) := by rw [cell_of_row _ _ _ _ _ (0, 0) HZ]; rfl
  have q3 : w2.cell? ⟨w.heap.size + 1, 3, none⟩ = some (.string ⟨#[]⟩) := by rw [cell_of_row _ _ _ _ _ (0, 0) HZ]; rfl
  have z0 := free_heap HZ 0
  have z1 := free_heap HZ 1
  have z2 := free_heap HZ 2
  have z3 := free_heap HZ 3
  clear HZ
  go_wp2
  (try simp only [Exit.inBlock, Exit.then])
  have HC := img_cells HR.out rfl (.string (S (fitL I))) (.string (S (fitL Q))) (.string (S (fitL M))) (.string (S (fitL R)))
  refine bodyPost_ret (results_img rfl _ _ (w.heap.size + 1) (S (fitL I)) (S (fitL Q)) (S (fitL M)) (S (fitL R)) rfl HC.1 HC.2.1 HC.2.2.1 HC.2.2.2) rfl ⟨rfl, four_below HB.out (by omega) _ _ _ _⟩
set_option maxRecDepth 100000 in
set_option maxHeartbeats 4000000 in
theorem cBlank_any (w : World) : Calls Try.prog 20 #[] w (Tells (imgV z64 z64 z64 z64) w) := by
  have HI := fun W => cImage_any z64 z64 z64 z64 W z_len z_len z_len z_len
  rw [← zero71] at HI
  replace HI := Lib.hid HI
  have HR0 := Lib.hid (Rz.new w)
  have HB0 := Lib.hid (one_S w #[.string ⟨#[]⟩, .string ⟨#[]⟩, .string ⟨#[]⟩, .string ⟨#[]⟩] 32)
  go_enter Try.func20, Try.ntmps20
  go_wp2_with fail
  with_reducible refine (HI.out _).mono ?_
  rintro e w2 ⟨rfl, hb2⟩
  have HR := Lib.hid (HR0.out.kept hb2)
  have HB := Lib.hid (HB0.out.trans (hb2.mono HB0.out.size))
  clear hb2 HR0 HB0
  have HZ := HR.out
  have q0 : w2.cell? ⟨w.heap.size, 0, none⟩ = some (.string ⟨#[]⟩) := by rw [cell_of_row _ _ _ _ _ (0, 0) HZ]; rfl
  have q1 : w2.cell? ⟨w.heap.size, 1, none⟩ = some (.string ⟨#[]⟩) := by rw [cell_of_row _ _ _ _ _ (0, 0) HZ]; rfl
  have q2 : w2.cell? ⟨w.heap.size, 2, none⟩ = some (.string ⟨#[]⟩) := by rw [cell_of_row _ _ _ _ _ (0, 0) HZ]; rfl
  have q3 : w2.cell? ⟨w.heap.size, 3, none⟩ = some (.string ⟨#[]⟩) := by rw [cell_of_row _ _ _ _ _ (0, 0) HZ]; rfl
  have z0 := free_heap HZ 0
  have z1 := free_heap HZ 1
  have z2 := free_heap HZ 2
  have z3 := free_heap HZ 3
  clear HZ
  go_wp2
  (try simp only [Exit.inBlock, Exit.then])
  have HC := img_cells HR.out rfl (.string (S z64)) (.string (S z64)) (.string (S z64)) (.string (S z64))
  refine bodyPost_ret (results_img rfl _ _ w.heap.size (S z64) (S z64) (S z64) (S z64) rfl HC.1 HC.2.1 HC.2.2.1 HC.2.2.2) rfl ⟨rfl, four_below HB.out (by omega) _ _ _ _⟩
set_option maxRecDepth 100000 in
set_option maxHeartbeats 4000000 in
theorem cCopied_any (c : List In) (ao : Option Addr) (cap : Nat) (w : World) (hI : Lies w w.heap.size ao c) (hc : ao = none → cap = 0) (hl : c.length ≤ 300) :
    Calls Try.prog 22 #[.slice ao c.length cap] w fun e w' => ∃ v, e = .returned v ∧ OwnI w' w.heap.size v c ∧ Below w.heap.size w w' := by
  have hown : OwnI w w.heap.size (.slice none 0 0) [] := World.ownsRow_nil w w.heap.size _ _
  have HL := Lib.hid (⟨hI, hc, hl, hown⟩ : _ ∧ _ ∧ _ ∧ _)
  clear hI hc hl hown
  go_enter Try.func22, Try.ntmps22
  go_wp2_with (at_builtin; refine wpList_append_ins rfl (.const (.slice none 0 0)) (.tmp 3) rfl w.heap.size (.slice none 0 0) [] c (by simp [Act.eval]) HL.out.2.2.2 ao cap (by simp [Act.eval]) HL.out.1 HL.out.2.1 (by have := HL.out.2.2.1; simp; omega) (Nat.le_refl _) ?_; intro v w1 ho hb; have HO := Lib.hid (⟨ho, hb⟩ : _ ∧ _); clear ho hb)
  go_ret
  exact ⟨_, rfl, HO.out.1, HO.out.2⟩

end Go.Proofs.Ytbjmdehfdnpljaa.Vm

namespace Go.Proofs.Ytbjmdehfdnpljaa.Vm
open Go.RowKit
open Go.Proofs.Ytbjmdehfdnpljaa.Il hiding Next S S_size S_app S_inj S_list
open Go.Proofs.Ytbjmdehfdnpljaa.Ic Go.Proofs.Ytbjmdehfdnpljaa.Ve
open Oct

/-- A program in memory. -/
structure PAt (W : World) (N pb : Nat) (v : Value) (c : List In) : Prop where
  blk : W.heap[pb]? = some (.cells #[v] 61 (0, 0))
  own : OwnI W N v c
  lo : N ≤ pb
theorem OwnI.kept {W W' : World} {N : Nat} {v : Value} {c : List In} (h : OwnI W N v c) (hb : Below W.heap.size W W') : OwnI W' N v c := World.ownsRow.kept h (only_bel hb none) (by cases v.ownBlock <;> simp)
theorem PAt.kept {W W' : World} {N pb : Nat} {v : Value} {c : List In} (h : PAt W N pb v c) (hb : Below W.heap.size W W') : PAt W' N pb v c := ⟨(hb.block pb (Array.getElem?_eq_some_iff.1 h.blk).1).trans h.blk, OwnI.kept h.own hb, h.lo⟩
theorem PAt.cell {W : World} {N pb : Nat} {v : Value} {c : List In} (h : PAt W N pb v c) : W.cell? ⟨pb, 0, none⟩ = some v := by rw [cell_of_row _ _ _ _ _ (0, 0) h.blk]; rfl
/-- The slice of a row of one's own. -/
theorem own_slice {W : World} {N : Nat} {v : Value} {c : List In} (h : OwnI W N v c) : ∃ ao cap, v = .slice ao c.length cap ∧ Lies W W.heap.size ao c ∧ (ao = none → cap = 0) := by
  by_cases hl : 0 < c.length
  · obtain ⟨g, cap, e, hL⟩ := OwnI.lies h hl
    exact ⟨_, cap, e, hL, fun e => by cases e⟩
  · have hc : c = [] := List.eq_nil_of_length_eq_zero (by omega)
    subst hc
    rcases h.2 with ⟨e, _⟩ | ⟨g, cap, cur, e, _⟩
    · exact ⟨none, 0, e, fun h => by simp at h, fun _ => rfl⟩
    · exact ⟨_, cap, e, fun h => by simp at h, fun e => by cases e⟩
set_option maxRecDepth 100000 in
set_option maxHeartbeats 4000000 in
theorem cCode_nil (w : World) : Calls Try.prog 12 #[.pointer none] w (Tells (.slice none 0 0) w) := by
  go_enter Try.func12, Try.ntmps12
  go_wp2
  go_ret
  exact ⟨rfl, Below.refl _ _⟩
set_option maxRecDepth 100000 in
set_option maxHeartbeats 4000000 in
theorem cCode_any {N pb : Nat} {v : Value} {c : List In} (w : World) (h : PAt w N pb v c) (hl : c.length ≤ 300) : Calls Try.prog 12 #[.pointer (some ⟨pb, 0, none⟩)] w fun e w' => ∃ v, e = .returned v ∧ OwnI w' w.heap.size v c ∧ Below w.heap.size w w' := by
  obtain ⟨ao, cap, rfl, hL, hc⟩ := own_slice h.own
  have HC := Lib.hid (cCopied_any c ao cap w hL hc hl)
  have k := h.cell
  clear h hL hc hl
  go_enter Try.func12, Try.ntmps12
  go_wp2_with fail
  with_reducible refine HC.out.mono ?_
  rintro e w1 ⟨v, rfl, ho, hb⟩
  have HO := Lib.hid (⟨ho, hb⟩ : _ ∧ _)
  clear ho hb
  go_wp2
  go_ret
  exact ⟨_, rfl, HO.out.1, HO.out.2⟩
set_option maxRecDepth 100000 in
set_option maxHeartbeats 4000000 in
theorem load_ok (c : List In) (ao : Option Addr) (cap : Nat) (w : World) (hI : Lies w w.heap.size ao c) (hF : FitL c) (hc : ao = none → cap = 0) (hm : c.length ≤ 300) (hz : (chkB c).1 = 0) :
    Calls Try.prog 9 #[.slice ao c.length cap] w fun e w' => ∃ pb v, e = .returned (.tuple #[.pointer (some ⟨pb, 0, none⟩), .int .i64 0, .int .i64 0]) ∧ PAt w' w.heap.size pb v c ∧ Below w.heap.size w w' := by
  have HC := fun W (h : Lies W W.heap.size ao c) => cCheck_any c ao cap W h hF (by unfold maxLen; omega)
  rw [hz] at HC
  replace HC := Lib.hid HC
  have HP := Lib.hid (fun W (h : Lies W W.heap.size ao c) => cCopied_any c ao cap W h hc hm)
  have HI := Lib.hid hI
  generalize (chkB c).2 = k2 at *
  clear hI hF hc hm hz
  go_enter Try.func9, Try.ntmps9
  go_wp2_with fail
  with_reducible refine (HC.out _ HI.out).mono ?_
  rintro e w1 ⟨rfl, hb1⟩
  have HB1 := Lib.hid hb1
  have HI1 := Lib.hid ((HI.out.below hb1).more hb1.size)
  clear hb1
  go_wp2_with fail
  with_reducible refine (HP.out _ HI1.out).mono ?_
  rintro e w2 ⟨v, rfl, ho, hb2⟩
  have HB2 := Lib.hid (HB1.out.trans (hb2.mono HB1.out.size))
  have ho2 := World.ownsRow.mono ho HB1.out.size
  obtain ⟨ao1, cap1, rfl, -, -⟩ := own_slice ho
  have HE := Lib.hid (show PAt (w2.alloc (.cells #[.slice ao1 c.length cap1] 61)) w.heap.size w2.heap.size (.slice ao1 c.length cap1) c ∧ Below w.heap.size w (w2.alloc (.cells #[.slice ao1 c.length cap1] 61)) from
    ⟨⟨heap_alloc_new _ _, OwnI.alloc ho2 _, HB2.out.size⟩, HB2.out.alloc HB2.out.size _⟩)
  clear ho hb2 ho2 HB2
  go_wp2
  go_ret3
  exact ⟨_, _, rfl, HE.out.1, HE.out.2⟩
set_option maxRecDepth 100000 in
set_option maxHeartbeats 4000000 in
theorem load_no (c : List In) (ao : Option Addr) (cap : Nat) (w : World) (hI : Lies w w.heap.size ao c) (hF : FitL c) (hm : c.length ≤ 300) (hz : (chkB c).1 ≠ 0) :
    Calls Try.prog 9 #[.slice ao c.length cap] w (Tells (.tuple #[.pointer none, .int .i64 ((chkB c).1 : Nat), .int .i64 ((chkB c).2 : Nat)]) w) := by
  have HC := Lib.hid (cCheck_any c ao cap w hI hF (by unfold maxLen; omega))
  have hz3 : ((((chkB c).1 : Nat) : Int) == 0) = false := by simpa using hz
  generalize (chkB c).1 = k1 at *
  generalize (chkB c).2 = k2 at *
  clear hI hF hm hz
  go_enter Try.func9, Try.ntmps9
  go_wp2_with fail
  with_reducible refine HC.out.mono ?_
  rintro e w1 ⟨rfl, hb1⟩
  have HB1 := Lib.hid hb1
  clear hb1
  go_wp2
  go_ret3
  exact ⟨rfl, HB1.out⟩

end Go.Proofs.Ytbjmdehfdnpljaa.Vm
