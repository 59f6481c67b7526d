/-
  The code's readInstr: an instruction is read off an eye that still sees eight bytes. Conditions: none.
-/
import Derived.Test.YtocjimedbnjmiaaCoDec
namespace Go.Proofs.Ytocjimedbnjmiaa.Co
open Go.RowKit
open Go.Proofs.Ytocjimedbnjmiaa.Il hiding S S_size S_app S_list S_inj
open Go.Proofs.Ytocjimedbnjmiaa.Ic Go.Proofs.Ytocjimedbnjmiaa.Oct Sums

theorem fine_next {l : List In} {k : Nat} {x : In} (h : Fine l k) (hx : l[k]? = some x) (hr : rightI x = true) : Fine l (k + 1) := fun j y hj hy => by
  by_cases e : j = k
  · subst e
    rw [hx] at hy
    injection hy with hy
    subst hy
    exact hr
  · exact h j y (by omega) hy
theorem grow_alloc {w w1 : World} {row : Option Nat} (h : w.grownBy w1 row) (o : Obj) : w.grownBy (w1.alloc o) row := only_trans h (World.grownBy_alloc w1 o row)
theorem grow_set {w w1 : World} {row : Option Nat} (h : w.grownBy w1 row) {b : Nat} (hb : w.heap.size ≤ b) (j : Nat) (v : Value) : w.grownBy (w1.setCell ⟨b, j, none⟩ v) row :=
  ⟨h.os, h.tape, h.output, by simp [World.setCell]; exact h.size, fun k hk hne => (Below.heap_setCell _ _ _ _ (fun e => by have e2 : k = b := by simpa using e
                                                                                                                           omega)).trans (h.block k hk hne)⟩
theorem cbyte1 (p : Nat) (o : UInt8) (q : Bs) (w : World) (he : EyeAt w p (o :: q) false) : Calls Try.prog 24 #[.pointer (some ⟨p, 0, none⟩)] w (Reads (.int .u8 (o.toNat : Int)) w p q false) := by
  have h := ebyte_any p (o :: q) false w he
  have e1 : got 1 (o :: q) = [o] := by unfold got; rw [fits_yes (by omega) (by simp; omega)]; rfl
  have e2 : left 1 (o :: q) = q := by unfold left; rw [fits_yes (by omega) (by simp; omega)]; rfl
  have e3 : lost 1 (o :: q) false = false := by unfold lost; rw [fits_yes (by omega) (by simp; omega)]; rfl
  have e4 : num [o] = o.toNat := by show 0 * 256 + o.toNat = _; omega
  rw [e1, e2, e3, e4] at h
  exact h
theorem cbyte0 (p : Nat) (w : World) (he : EyeAt w p [] false) : Calls Try.prog 24 #[.pointer (some ⟨p, 0, none⟩)] w (Reads (.int .u8 0) w p [] true) := ebyte_any p [] false w he
theorem cfour1 (p : Nat) (a b c d : UInt8) (q : Bs) (w : World) (he : EyeAt w p (a :: b :: c :: d :: q) false) : Calls Try.prog 42 #[.pointer (some ⟨p, 0, none⟩)] w (Reads (.int .u32 (num [a, b, c, d] : Nat)) w p q false) := by
  have h := efour_any p (a :: b :: c :: d :: q) false w he
  have e1 : got 4 (a :: b :: c :: d :: q) = [a, b, c, d] := by unfold got; rw [fits_yes (by omega) (by simp; omega)]; rfl
  have e2 : left 4 (a :: b :: c :: d :: q) = q := by unfold left; rw [fits_yes (by omega) (by simp; omega)]; rfl
  have e3 : lost 4 (a :: b :: c :: d :: q) false = false := by unfold lost; rw [fits_yes (by omega) (by simp; omega)]; rfl
  rw [e1, e2, e3] at h
  exact h

/-- How far readInstr has come: what the eye still sees, the cells of the result. -/
structure R0 (w wr : World) (p : Nat) (q : Bs) : Prop where
  eye : EyeAt wr p q false
  res : BoxI wr w.heap.size 0 0 0 0 0
  grown : w.grownBy wr (some p)
  lt : p < w.heap.size
/-- .. and an instruction of its own. -/
structure Ri (w wr : World) (p b : Nat) (q : Bs) (o k a l n : Int) : Prop where
  r : R0 w wr p q
  box : BoxI wr b o k a l n
  hb : w.heap.size < b
section
variable {w wr w' : World} {p b : Nat} {q q' : Bs} {o k a l n v : Int}
theorem R0.new (he : EyeAt w p q false) (t : TypeId) : R0 w (w.alloc (.cells #[.int .i64 0, .int .i64 0, .int .i64 0, .int .i64 0, .int .i64 0] t)) p q :=
  ⟨eye_alloc he _, BoxI.new w 0 0 0 0 0 t, World.grownBy_alloc w _ _, he.lt⟩
theorem R0.next (h : R0 w wr p q) (h1 : EyeAt w' p q' false) (h2 : wr.grownBy w' (some p)) : R0 w w' p q' :=
  ⟨h1, h.res.grown h2 (fun e => by injection e with e; have := h.lt; omega), only_trans h.grown h2, h.lt⟩
theorem Ri.new {o1 k1 a1 l1 v1 : Int} (h : R0 w wr p q) (t : TypeId) : Ri w (wr.alloc (.cells #[.int .i64 o1, .int .i64 k1, .int .i64 a1, .int .i64 l1, .int .i64 v1] t)) p wr.heap.size q o1 k1 a1 l1 v1 :=
  ⟨⟨eye_alloc h.eye _, h.res.grown (World.grownBy_alloc wr _ none) (by simp), grow_alloc h.grown _, h.lt⟩, BoxI.new wr o1 k1 a1 l1 v1 t, h.res.lt⟩
theorem Ri.next (h : Ri w wr p b q o k a l n) (h1 : EyeAt w' p q' false) (h2 : wr.grownBy w' (some p)) : Ri w w' p b q' o k a l n :=
  ⟨h.r.next h1 h2, h.box.grown h2 (fun e => by injection e with e; have := h.hb; have := h.r.lt; omega), h.hb⟩
theorem Ri.set4 (h : Ri w wr p b q o k a l n) (v : Int) : Ri w (wr.setCell ⟨b, 4, none⟩ (.int .i64 v)) p b q o k a l v :=
  ⟨⟨eye_set h.r.eye (by have := h.hb; have := h.r.lt; omega), h.r.res.grown (only_set wr b 4 _) (fun e => by injection e with e; have := h.hb; omega), grow_set h.r.grown (Nat.le_of_lt h.hb) _ _, h.r.lt⟩, h.box.set4 v, h.hb⟩
/-- The result stored. -/
theorem Ri.ends (h : Ri w wr p b q o k a l n) (v0 v1 v2 v3 v4 : Value) : EyeAt (((((wr.setCell ⟨w.heap.size, 0, none⟩ v0).setCell ⟨w.heap.size, 1, none⟩ v1).setCell ⟨w.heap.size, 2, none⟩ v2).setCell ⟨w.heap.size, 3, none⟩ v3).setCell ⟨w.heap.size, 4, none⟩ v4) p q false ∧
    w.grownBy (((((wr.setCell ⟨w.heap.size, 0, none⟩ v0).setCell ⟨w.heap.size, 1, none⟩ v1).setCell ⟨w.heap.size, 2, none⟩ v2).setCell ⟨w.heap.size, 3, none⟩ v3).setCell ⟨w.heap.size, 4, none⟩ v4) (some p) := by
  have hne : w.heap.size ≠ p := Nat.ne_of_gt h.r.lt
  have hle := Nat.le_refl w.heap.size
  exact ⟨eye_set (eye_set (eye_set (eye_set (eye_set h.r.eye hne) hne) hne) hne) hne, grow_set (grow_set (grow_set (grow_set (grow_set h.r.grown hle _ _) hle _ _) hle _ _) hle _ _) hle _ _⟩
end

set_option maxRecDepth 100000 in
set_option maxHeartbeats 4000000 in
theorem cReadIns_any (p : Nat) (o k a l n1 n2 n3 n4 : UInt8) (q : Bs) (w : World) (he : EyeAt w p (o :: k :: a :: l :: n1 :: n2 :: n3 :: n4 :: q) false) :
    Calls Try.prog 27 #[.pointer (some ⟨p, 0, none⟩)] w (Reads (insV ⟨o.toNat, k.toNat, a.toNat, l.toNat, sgnI k.toNat (num [n1, n2, n3, n4])⟩) w p q false) := by
  have HR0 := Lib.hid (R0.new he 45)
  have hM := num_lt4 n1 n2 n3 n4
  have HF := Lib.hid (fun W he => cfour1 p n1 n2 n3 n4 q W he)
  generalize num [n1, n2, n3, n4] = M at *
  have ho : IntKind.i64.wrap (o.toNat : Int) = o.toNat := by rw [IntKind.wrap_i64]; have := o.toNat_lt; omega
  have hk : IntKind.i64.wrap (k.toNat : Int) = k.toNat := by rw [IntKind.wrap_i64]; have := k.toNat_lt; omega
  have ha : IntKind.i64.wrap (a.toNat : Int) = a.toNat := by rw [IntKind.wrap_i64]; have := a.toNat_lt; omega
  have hl : IntKind.i64.wrap (l.toNat : Int) = l.toNat := by rw [IntKind.wrap_i64]; have := l.toNat_lt; omega
  obtain ⟨V, hV⟩ : ∃ V : Int, V = sgnI k.toNat M := ⟨_, rfl⟩
  rw [← hV]
  clear he
  by_cases h7 : k.toNat = 7
  · have hb : ((k.toNat : Int) == 7) = true := by rw [h7]; rfl
    have hv : IntKind.i64.wrap (M : Int) = V := by rw [IntKind.wrap_i64, hV]; unfold sgnI; rw [if_neg (by omega)]; omega
    clear hV h7 hM
    unfold Reads insV
    go_enter Try.func27, Try.ntmps27
    go_wp2_with fail
    refine (cbyte1 p o _ _ HR0.out.eye).mono ?_
    rintro e w1 ⟨rfl, he1, hg1⟩
    have HR1 := Lib.hid (HR0.out.next he1 hg1)
    clear he1 hg1 HR0
    go_wp2_with fail
    refine (cbyte1 p k _ _ HR1.out.eye).mono ?_
    rintro e w2 ⟨rfl, he1, hg1⟩
    have HR2 := Lib.hid (HR1.out.next he1 hg1)
    clear he1 hg1 HR1
    go_wp2_with fail
    refine (cbyte1 p a _ _ HR2.out.eye).mono ?_
    rintro e w3 ⟨rfl, he1, hg1⟩
    have HR3 := Lib.hid (HR2.out.next he1 hg1)
    clear he1 hg1 HR2
    go_wp2_with fail
    refine (cbyte1 p l _ _ HR3.out.eye).mono ?_
    rintro e w4 ⟨rfl, he1, hg1⟩
    have HR4 := Lib.hid (HR3.out.next he1 hg1)
    clear he1 hg1 HR3
    have HR5 := Lib.hid (Ri.new HR4.out (o1 := o.toNat) (k1 := k.toNat) (a1 := a.toNat) (l1 := l.toNat) (v1 := 0) 45)
    clear HR4
    go_wp2_with fail
    refine (HF.out _ HR5.out.r.eye).mono ?_
    rintro e w5 ⟨rfl, he1, hg1⟩
    have HR6 := Lib.hid (HR5.out.next he1 hg1)
    clear he1 hg1 HR5
    generalize w4.heap.size = b at *
    obtain ⟨b0, b1, b2, b3, b4, bf⟩ := HR6.out.box
    have f4 := bf 4
    obtain ⟨r0, r1, r2, r3, r4, rf⟩ := HR6.out.r.res
    have g0 := rf 0
    have g1 := rf 1
    have g2 := rf 2
    have g3 := rf 3
    have g4 := rf 4
    clear bf rf
    have hbn := Nat.ne_of_gt HR6.out.hb
    have hbn2 := hbn.symm
    have HH := Lib.hid HR6.out.hb
    have HR7 := Lib.hid (HR6.out.set4 V)
    clear HR6
    go_wp2
    refine bodyPost_ret (v := .agg #[.int .i64 (o.toNat : Int), .int .i64 (k.toNat : Int), .int .i64 (a.toNat : Int), .int .i64 (l.toNat : Int), .int .i64 V]) (by simp [results, Try.results27, go_sem, r0, r1, r2, r3, r4]) rfl ?_
    exact ⟨rfl, HR7.out.ends _ _ _ _ _⟩
  · have hb : ((k.toNat : Int) == 7) = false := by rw [beq_eq_false_iff_ne]; omega
    by_cases hm : 2147483648 ≤ M
    · have hv : IntKind.i32.wrap (M : Int) = V := by rw [IntKind.wrap_i32, hV]; unfold sgnI; rw [if_pos (by omega)]; omega
      have hv2 : IntKind.i64.wrap V = V := by rw [IntKind.wrap_i64, hV]; unfold sgnI; rw [if_pos (by omega)]; omega
      clear hV h7 hM hm
      unfold Reads insV
      go_enter Try.func27, Try.ntmps27
      go_wp2_with fail
      refine (cbyte1 p o _ _ HR0.out.eye).mono ?_
      rintro e w1 ⟨rfl, he1, hg1⟩
      have HR1 := Lib.hid (HR0.out.next he1 hg1)
      clear he1 hg1 HR0
      go_wp2_with fail
      refine (cbyte1 p k _ _ HR1.out.eye).mono ?_
      rintro e w2 ⟨rfl, he1, hg1⟩
      have HR2 := Lib.hid (HR1.out.next he1 hg1)
      clear he1 hg1 HR1
      go_wp2_with fail
      refine (cbyte1 p a _ _ HR2.out.eye).mono ?_
      rintro e w3 ⟨rfl, he1, hg1⟩
      have HR3 := Lib.hid (HR2.out.next he1 hg1)
      clear he1 hg1 HR2
      go_wp2_with fail
      refine (cbyte1 p l _ _ HR3.out.eye).mono ?_
      rintro e w4 ⟨rfl, he1, hg1⟩
      have HR4 := Lib.hid (HR3.out.next he1 hg1)
      clear he1 hg1 HR3
      have HR5 := Lib.hid (Ri.new HR4.out (o1 := o.toNat) (k1 := k.toNat) (a1 := a.toNat) (l1 := l.toNat) (v1 := 0) 45)
      clear HR4
      go_wp2_with fail
      refine (HF.out _ HR5.out.r.eye).mono ?_
      rintro e w5 ⟨rfl, he1, hg1⟩
      have HR6 := Lib.hid (HR5.out.next he1 hg1)
      clear he1 hg1 HR5
      generalize w4.heap.size = b at *
      obtain ⟨b0, b1, b2, b3, b4, bf⟩ := HR6.out.box
      have f4 := bf 4
      obtain ⟨r0, r1, r2, r3, r4, rf⟩ := HR6.out.r.res
      have g0 := rf 0
      have g1 := rf 1
      have g2 := rf 2
      have g3 := rf 3
      have g4 := rf 4
      clear bf rf
      have hbn := Nat.ne_of_gt HR6.out.hb
      have hbn2 := hbn.symm
      have HH := Lib.hid HR6.out.hb
      have HR7 := Lib.hid (HR6.out.set4 V)
      clear HR6
      go_wp2
      refine bodyPost_ret (v := .agg #[.int .i64 (o.toNat : Int), .int .i64 (k.toNat : Int), .int .i64 (a.toNat : Int), .int .i64 (l.toNat : Int), .int .i64 V]) (by simp [results, Try.results27, go_sem, r0, r1, r2, r3, r4]) rfl ?_
      exact ⟨rfl, HR7.out.ends _ _ _ _ _⟩

    · have hv : IntKind.i32.wrap (M : Int) = V := by rw [IntKind.wrap_i32, hV]; unfold sgnI; rw [if_neg (by omega)]; omega
      have hv2 : IntKind.i64.wrap V = V := by rw [IntKind.wrap_i64, hV]; unfold sgnI; rw [if_neg (by omega)]; omega
      clear hV h7 hM hm
      unfold Reads insV
      go_enter Try.func27, Try.ntmps27
      go_wp2_with fail
      refine (cbyte1 p o _ _ HR0.out.eye).mono ?_
      rintro e w1 ⟨rfl, he1, hg1⟩
      have HR1 := Lib.hid (HR0.out.next he1 hg1)
      clear he1 hg1 HR0
      go_wp2_with fail
      refine (cbyte1 p k _ _ HR1.out.eye).mono ?_
      rintro e w2 ⟨rfl, he1, hg1⟩
      have HR2 := Lib.hid (HR1.out.next he1 hg1)
      clear he1 hg1 HR1
      go_wp2_with fail
      refine (cbyte1 p a _ _ HR2.out.eye).mono ?_
      rintro e w3 ⟨rfl, he1, hg1⟩
      have HR3 := Lib.hid (HR2.out.next he1 hg1)
      clear he1 hg1 HR2
      go_wp2_with fail
      refine (cbyte1 p l _ _ HR3.out.eye).mono ?_
      rintro e w4 ⟨rfl, he1, hg1⟩
      have HR4 := Lib.hid (HR3.out.next he1 hg1)
      clear he1 hg1 HR3
      have HR5 := Lib.hid (Ri.new HR4.out (o1 := o.toNat) (k1 := k.toNat) (a1 := a.toNat) (l1 := l.toNat) (v1 := 0) 45)
      clear HR4
      go_wp2_with fail
      refine (HF.out _ HR5.out.r.eye).mono ?_
      rintro e w5 ⟨rfl, he1, hg1⟩
      have HR6 := Lib.hid (HR5.out.next he1 hg1)
      clear he1 hg1 HR5
      generalize w4.heap.size = b at *
      obtain ⟨b0, b1, b2, b3, b4, bf⟩ := HR6.out.box
      have f4 := bf 4
      obtain ⟨r0, r1, r2, r3, r4, rf⟩ := HR6.out.r.res
      have g0 := rf 0
      have g1 := rf 1
      have g2 := rf 2
      have g3 := rf 3
      have g4 := rf 4
      clear bf rf
      have hbn := Nat.ne_of_gt HR6.out.hb
      have hbn2 := hbn.symm
      have HH := Lib.hid HR6.out.hb
      have HR7 := Lib.hid (HR6.out.set4 V)
      clear HR6
      go_wp2
      refine bodyPost_ret (v := .agg #[.int .i64 (o.toNat : Int), .int .i64 (k.toNat : Int), .int .i64 (a.toNat : Int), .int .i64 (l.toNat : Int), .int .i64 V]) (by simp [results, Try.results27, go_sem, r0, r1, r2, r3, r4]) rfl ?_
      exact ⟨rfl, HR7.out.ends _ _ _ _ _⟩

end Go.Proofs.Ytocjimedbnjmiaa.Co
