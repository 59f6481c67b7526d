/-
  The landed code's do: all operations. Conditions: as each states.
-/
import Derived.Test.YtbjmdehfdnpljaaVmDob
import Derived.Test.YtbjmdehfdnpljaaVmDoc
import Derived.Test.YtbjmdehfdnpljaaVmDod
namespace Go.Proofs.Ytbjmdehfdnpljaa.Vm
open Go.RowKit
open Go.Proofs.Ytbjmdehfdnpljaa.Il hiding Next S S_size S_app S_inj S_list
open Go.Proofs.Ytbjmdehfdnpljaa.Ic Go.Proofs.Ytbjmdehfdnpljaa.Ve
open Oct

section
variable {N g : Nat} {p : Int} {s : St} {ov : Value}
theorem steps_of {w : World} {i : In} {s1 s2 : St} (e : s1 = s2) (h : Calls Try.prog 27 #[.pointer (some ⟨g, 0, none⟩), insV i] w fun e w' => e = .returned (.tuple #[]) ∧ Now N g p s1 ov w w' ov) :
    Calls Try.prog 27 #[.pointer (some ⟨g, 0, none⟩), insV i] w fun e w' => e = .returned (.tuple #[]) ∧ Steps N g p s2 ov w w' := by
  subst e
  exact h.mono (fun e w' h => ⟨h.1, ov, h.2⟩)
theorem may_no {op k : Int} (h : 25 ≤ op) : mayI op k = false := by
  unfold mayI
  rw [decide_eq_false_iff_not]
  omega
theorem cDo_run (w : World) (h : RunAt w N g p s ov) (i : In) (hr : rightI i = true) (ht : Ty i s) (ho : Ok s) (h8 : s.op.length ≤ 8) (hz : s.z < 1000) (hp0 : 0 ≤ p) (hp1 : p ≤ 10000) :
    Calls Try.prog 27 #[.pointer (some ⟨g, 0, none⟩), insV i] w fun e w' => e = .returned (.tuple #[]) ∧ Steps N g p (doI p i s) ov w w' := by
  have hop := right_op hr
  have hask := fun (hrd : readsB i.op = true) => ask_ok hr hrd
  have hav := fun (hrd : readsB i.op = true) => ask_is (i := i) (s := s) hr hrd
  have hN : N ≤ w.heap.size := by have := h.lo; have := h.lt; omega
  obtain ⟨op, kd, ar, pl, n⟩ := i
  dsimp only at hop hask hav
  have hrd : ∀ {o : Int}, op = o → readsB o = true → readsB op = true := fun e h => by rw [e]; exact h
  by_cases h1 : op = 1
  · subst h1; exact steps_of rfl (do_1 w h kd ar pl n (hask rfl))
  by_cases h2 : op = 2
  · subst h2; exact steps_of rfl (do_2 w h kd ar pl n (hask rfl) (hav rfl))
  by_cases h3 : op = 3
  · subst h3; exact steps_of rfl (do_3 w h kd ar pl n hr ht)
  by_cases h4 : op = 4
  · subst h4; exact steps_of rfl (do_4 w h kd ar pl n hr ht)
  by_cases h5 : op = 5
  · subst h5; exact steps_of rfl (do_5 w h kd ar pl n hr ht)
  by_cases h6 : op = 6
  · subst h6; exact steps_of rfl (do_6 w h kd ar pl n hr ht)
  by_cases h13 : op = 13
  · subst h13; exact steps_of rfl (do_13 w h kd ar pl n (ht.t13 rfl).2)
  by_cases h31 : op = 31
  · subst h31; exact steps_of rfl (do_31 w h kd ar pl n (ht.t31 rfl))
  by_cases h32 : op = 32
  · subst h32
    exact do_32 w h hN kd ar pl n (ht.t32 rfl).2.2.2
  by_cases h33 : op = 33
  · subst h33
    obtain ⟨q1, q2, q3⟩ := ht.t33 rfl
    have q4 := (ho.br _ (kbs_last q1).2.1).1
    have := do_33 w h kd ar pl n q1 h8 hz q3 (by rw [q2]; exact q4)
    rw [show doI p ⟨33, kd, ar, pl, n⟩ s = joinI (lastK s.op).1 (lastK s.op).2.1 (lastK s.op).2.2 s.v ⟨s.A, s.kd, s.v, s.op.dropLast, s.z⟩ from rfl, ← q2]
    exact this
  by_cases h34 : op = 34
  · subst h34; exact steps_of rfl (do_34 w h kd ar pl n hr ht hp0 hp1)
  by_cases h35 : op = 35
  · subst h35; exact steps_of rfl (do_35 w h kd ar pl n hr ht)
  by_cases h36 : op = 36
  · subst h36
    obtain ⟨b1, b2, b3, b4, b5⟩ := blk_at hr (by dsimp only; omega)
    exact steps_of rfl (do_36 w h kd ar pl n (by dsimp only at b1; omega) b2 b3 (by dsimp only at b5; omega) (ht.t1 (by dsimp only; omega)).2)
  have f : ∀ {o : Int}, op ≠ o → (op == o) = false := fun e => by simpa using e
  by_cases hj : 25 ≤ op ∧ op ≤ 30
  · refine steps_of ?_ (do_jump w h kd ar pl n op (f h1) (f h2) (f h3) (f h4) (f h5) (f h6) (f h13) (f h31) (f h32) (f h33) (f h34) (f h35) (f h36) (may_no hj.1))
    unfold doI
    dsimp only
    rw [if_neg h1, if_neg h2, if_neg h3, if_neg h4, if_neg (by omega), if_neg h13, if_pos hj]
  · have hrr : readsB op = true := by unfold readsB; rw [decide_eq_true_iff]; omega
    obtain ⟨q1, q2, q3⟩ := ht.t7 (by dsimp only; omega)
    dsimp only at q1 q2 q3
    refine steps_of ?_ (do_join w h kd ar pl n op (f h1) (f h2) (f h3) (f h4) (f h5) (f h6) (f h13) (f h31) (f h32) (f h33) (f h34) (f h35) (f h36) q2 (hask hrr) hz (by rw [q1]; exact q3) (hav hrr))
    unfold doI
    dsimp only
    rw [if_neg h1, if_neg h2, if_neg h3, if_neg h4, if_neg (by omega), if_neg h13, if_neg hj, if_neg h31, if_neg h32, if_neg h33, if_neg h34, if_neg h35, if_neg h36, q1]
end
end Go.Proofs.Ytbjmdehfdnpljaa.Vm
