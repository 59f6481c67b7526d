/-
  The reference's programs as bytes: Error, Plain, walked. Conditions: numbers that an int holds.
-/
import Derived.Test.YtocjimedbnjmiaaCoMath
import Derived.Test.YtocjimedbnjmiaaIlSame
import Derived.Test.YtocjimedbnjmiaaIlRu
import Derived.Test.YtocjimedbnjmiaaOctEyes
import Derived.Deep.RegionHeldLaw
import Derived.Deep.RegionHeld3
import Derived.Laws.Concat
namespace Go.Proofs.Ytocjimedbnjmiaa.Co
open Go.RowKit
open Go.Proofs.Ytocjimedbnjmiaa.Il hiding S S_size S_app S_list S_inj
open Go.Proofs.Ytocjimedbnjmiaa.Ic Go.Proofs.Ytocjimedbnjmiaa.Oct Sums

theorem cadd (a b : Bs) (h : a.length + b.length ≤ 8000000) (W : World) : (Op.stringOp .add (S a) (S b)).run Try.prog W = .ok (.string (S (a ++ b))) W :=
  run_string_add_lists (P := Try.prog) W a b (by omega) (by omega)
theorem glue {p q : ByteArray} {a b : Bs} (m n : Nat) (hp : p = S a) (hq : q = S b) (ha : a.length ≤ m) (hb : b.length ≤ n) (h : m + n ≤ 100000) : ∃ t, t = S (a ++ b) ∧ (a ++ b).length ≤ m + n ∧ ∀ W, (Op.stringOp .add p q).run Try.prog W = .ok (.string t) W := by
  subst hp hq
  exact ⟨_, rfl, by rw [List.length_append]; omega, cadd a b (by omega)⟩
/-- An instruction that lies in memory, behind what makes memory at most. -/
theorem ins_kept {w0 wr : World} {N b o k : Nat} {l : List In} {x : In} (hI : Items w0 b o l) (hb : Below N w0 wr) (hlt : b < N) (hx : l[k]? = some x) :
    wr.cell? ⟨b, o + k * 5, none⟩ = some (.int .i64 x.op) ∧ wr.cell? ⟨b, o + k * 5 + 1, none⟩ = some (.int .i64 x.kd) ∧ wr.cell? ⟨b, o + k * 5 + 2, none⟩ = some (.int .i64 x.ar) ∧ wr.cell? ⟨b, o + k * 5 + 3, none⟩ = some (.int .i64 x.pl) ∧ wr.cell? ⟨b, o + k * 5 + 4, none⟩ = some (.int .i64 x.n) :=
  (hI.below hb hlt) k x hx
def Fine (l : List In) (k : Nat) : Prop := ∀ (j : Nat) (x : In), j < k → l[j]? = some x → rightI x = true
theorem Fine.all {l : List In} (h : Fine l l.length) : l.all rightI = true := by
  rw [List.all_eq_true]
  intro x hx
  obtain ⟨j, hj, e⟩ := List.mem_iff_getElem.1 hx
  exact h j x hj (by rw [← e]; exact List.getElem?_eq_getElem hj)
theorem not_fine {l : List In} {k : Nat} {x : In} (hx : l[k]? = some x) (h : rightI x = false) : l.all rightI = false := by
  rw [List.all_eq_false]
  exact ⟨x, List.mem_of_getElem? hx, by simp [h]⟩

set_option maxRecDepth 100000 in
set_option maxHeartbeats 4000000 in
theorem rError_any (l : List In) (ao : Option Addr) (cap : Nat) (w : World) (hI : Lies w w.heap.size ao l) (hF : FitL l) :
    Calls Try.prog 8 #[.slice ao l.length cap] w (Tells (.int .i64 (errC l : Nat)) w) := by
  have HI := Lib.hid hI
  have HF := Lib.hid hF
  obtain ⟨N, hN⟩ : ∃ N, w.heap.size = N := ⟨_, rfl⟩
  unfold Tells
  rw [hN] at HI ⊢
  clear hI hF
  by_cases hl : l.length ≤ 200
  · have hli : ¬ (200 : Int) < l.length := by omega
    have hl2 : (l.length : Int) ≤ 200 := by omega
    have he0 := Lib.hid (show l.all rightI = true → errC l = 0 from fun h => by unfold errC; rw [if_neg (by omega), h]; rfl)
    have he3 := Lib.hid (show l.all rightI = false → errC l = 3 from fun h => by unfold errC; rw [if_neg (by omega), h]; rfl)
    generalize errC l = ec at *
    clear hl
    go_enter Try.func8, Try.ntmps8
    go_wp2
    go_loopw [3] (fun i wr => ∃ k : Nat, (k : Int) ≤ l.length ∧ i = .int .i64 k ∧ Hid (Fine l k ∧ Below N w wr ∧ N ≤ wr.heap.size)) (fun i _ => l.length - (intOf i).toNat)
    case atStart => exact ⟨0, by omega, rfl, Lib.hid ⟨fun j x hj _ => by omega, Below.refl _ _, by omega⟩⟩
    case round =>
      obtain ⟨k, hk, rfl, hS⟩ := hrel
      by_cases hlt : (k : Int) < l.length
      · obtain ⟨x, hx⟩ : ∃ x, l[k]? = some x := ⟨_, List.getElem?_eq_getElem (by omega)⟩
        obtain ⟨b, o, rfl, hbN, hIt⟩ := HI.out (by omega)
        obtain ⟨x0, x1, x2, x3, x4⟩ := ins_kept hIt hS.out.2.1 hbN hx
        have HR := Lib.hid (fun W => rright_any x (HF.out k x hx).2.2.2.1 W)
        unfold insV at HR
        have HX := Lib.hid hx
        clear hx hIt
        cases hr : rightI x
        · rw [hr] at HR
          have HP := Lib.hid (he3.out (not_fine HX.out hr))
          clear hr
          go_wp2_with fail
          refine (HR.out _).mono ?_
          rintro e w1 ⟨rfl, hb1⟩
          have HB := Lib.hid (hS.out.2.1.trans (hb1.mono hS.out.2.2))
          clear hb1
          go_wp2
          go_ret
          exact ⟨by rw [HP.out]; rfl, HB.out⟩
        · rw [hr] at HR
          have HFn := Lib.hid (show Fine l (k + 1) from fun j y hj hy => by
            by_cases e : j = k
            · subst e
              rw [HX.out] at hy
              injection hy with hy
              subst hy
              exact hr
            · exact hS.out.1 j y (by omega) hy)
          clear hr
          go_wp2_with fail
          refine (HR.out _).mono ?_
          rintro e w1 ⟨rfl, hb1⟩
          have HB := Lib.hid (show Below N w w1 ∧ N ≤ w1.heap.size from ⟨hS.out.2.1.trans (hb1.mono hS.out.2.2), Nat.le_trans hS.out.2.2 hb1.size⟩)
          clear hb1 x0 x1 x2 x3 x4
          go_wp2
          go_roundw
          case rel => exact ⟨k + 1, by omega, by go_num, Lib.hid ⟨HFn.out, HB.out⟩⟩
          case measure => simp [intOf]; omega
      · obtain rfl : k = l.length := by omega
        have HP := Lib.hid (he0.out hS.out.1.all)
        go_wp2
        go_ret
        exact ⟨by rw [HP.out]; rfl, hS.out.2.1⟩
  · have hli : (200 : Int) < l.length := by omega
    have he : errC l = 2 := by unfold errC; rw [if_pos (by omega)]
    rw [he]
    clear he hl
    go_enter Try.func8, Try.ntmps8
    go_wp2
    go_ret
    exact ⟨rfl, Below.refl _ _⟩

theorem co_next {N M : Nat} {w wr W : World} (h : Below N w wr ∧ N ≤ wr.heap.size) (hM : wr.heap.size = M) (hr : Il.Next M wr W) : Below N w W ∧ N ≤ W.heap.size := by
  subst hM
  exact ⟨h.1.trans (hr.1.mono h.2), Nat.le_trans h.2 (Nat.le_of_lt hr.2)⟩
theorem flat_take {l : List In} {k : Nat} {x : In} (h : l[k]? = some x) : (l.take (k + 1)).flatMap insB = (l.take k).flatMap insB ++ insB x := by
  rw [List.take_add_one, h, List.flatMap_append]
  simp
theorem be_one (a : Nat) : be a 1 = [UInt8.ofNat a] := by
  show [UInt8.ofNat (a / 256 ^ 0)] = _
  simp

set_option maxRecDepth 100000 in
set_option maxHeartbeats 8000000 in
theorem rPlain_any (l : List In) (ao : Option Addr) (cap : Nat) (w : World) (hI : Lies w w.heap.size ao l) (he : errC l = 0) :
    Calls Try.prog 10 #[.slice ao l.length cap] w (Tells (.string (S (bareL l))) w) := by
  have HI := Lib.hid hI
  obtain ⟨h200, hall⟩ := err_zero he
  have HR := Lib.hid (show ∀ (k : Nat) (x : In), l[k]? = some x → rightI x = true from fun k x hx => by rw [List.all_eq_true] at hall; exact hall x (List.mem_of_getElem? hx))
  obtain ⟨N, hN⟩ : ∃ N, w.heap.size = N := ⟨_, rfl⟩
  have HB0 := Lib.hid (fun W => bytes_any l.length 1 (by omega) (by omega) W)
  have hl2 : (l.length : Int) ≤ 200 := by omega
  have hw0 : IntKind.u32.wrap (l.length : Int) = l.length := by rw [IntKind.wrap_u32]; omega
  unfold Tells
  rw [hN] at HI ⊢
  clear hI he h200 hall
  go_enter Try.func10, Try.ntmps10
  go_wp2_with fail
  refine (HB0.out _).mono ?_
  rintro e w1 ⟨rfl, hb1⟩
  rw [hN] at hb1
  have HB1 := Lib.hid hb1
  have HN1 := Lib.hid (show N ≤ w1.heap.size by have := hb1.size; omega)
  clear hb1
  go_wp2
  go_loopw [3, 4] (fun s i wr => ∃ (k : Nat) (t : Bs), (k : Int) ≤ l.length ∧ i = .int .i64 k ∧ s = .string (S t) ∧ Hid (t = UInt8.ofNat l.length :: (l.take k).flatMap insB) ∧ Hid (Below N w wr ∧ N ≤ wr.heap.size)) (fun _ i _ => l.length - (intOf i).toNat)
  case atStart => exact ⟨0, be l.length 1, by omega, rfl, rfl, Lib.hid (by rw [be_one]; rfl), Lib.hid ⟨HB1.out, HN1.out⟩⟩
  case round =>
    obtain ⟨k, t, hk, rfl, rfl, hT, hS⟩ := hrel
    by_cases hlt : (k : Int) < l.length
    · obtain ⟨x, hx⟩ : ∃ x, l[k]? = some x := ⟨_, List.getElem?_eq_getElem (by omega)⟩
      obtain ⟨b, o, rfl, hbN, hIt⟩ := HI.out (by omega)
      obtain ⟨x0, x1, x2, x3, x4⟩ := ins_kept hIt hS.out.1 hbN hx
      obtain ⟨h1, h2, h3, h4, h5, h6, h7, h8, h9, h10⟩ := right_bd (HR.out k x hx)
      have htl : t.length ≤ 1601 := by
        rw [hT.out, List.length_cons, flat_len, List.length_take]
        omega
      obtain ⟨op, kd, ar, pl, n⟩ := x
      dsimp only at *
      obtain ⟨a0, rfl⟩ := Int.eq_ofNat_of_zero_le h1
      obtain ⟨a1, rfl⟩ := Int.eq_ofNat_of_zero_le h3
      obtain ⟨a2, rfl⟩ := Int.eq_ofNat_of_zero_le h5
      obtain ⟨a3, rfl⟩ := Int.eq_ofNat_of_zero_le h7
      obtain ⟨m, hm⟩ : ∃ m : Nat, m = (n % 4294967296).toNat := ⟨_, rfl⟩
      have hins : insB ⟨a0, a1, a2, a3, n⟩ = be a0 1 ++ be a1 1 ++ be a2 1 ++ be a3 1 ++ be m 4 := by
        unfold insB
        rw [hm, be_one, be_one, be_one, be_one]
        simp
      have HT2 := Lib.hid (show t ++ be a0 1 ++ be a1 1 ++ be a2 1 ++ be a3 1 ++ be m 4 = UInt8.ofNat l.length :: (l.take (k + 1)).flatMap insB by
        rw [flat_take hx, hins, hT.out]
        simp)
      have hnr : (n < 0 → n + 4294967296 = (m : Int)) ∧ (0 ≤ n → n = (m : Int)) := by
        by_cases h77 : (a1 : Int) = 7
        · have := h9 h77; omega
        · have := h10 h77; omega
      have hnb : -2147483648 ≤ n ∧ n < 4294967296 := by
        by_cases h77 : (a1 : Int) = 7
        · have := h9 h77; omega
        · have := h10 h77; omega
      have hmb : (m : Int) ≤ 4294967295 := by omega
      have be1 : ∀ a, (be a 1).length ≤ 1 := fun a => by rw [be_length]; omega
      obtain ⟨t1, e1, l1, m1⟩ := glue (p := S t) (a := t) (q := S (be a0 1)) 1601 1 rfl rfl htl (be1 _) (by decide)
      obtain ⟨t2, e2, l2, m2⟩ := glue (q := S (be a1 1)) 1602 1 e1 rfl l1 (be1 _) (by decide)
      obtain ⟨t3, e3, l3, m3⟩ := glue (q := S (be a2 1)) 1603 1 e2 rfl l2 (be1 _) (by decide)
      obtain ⟨t4, e4, l4, m4⟩ := glue (q := S (be a3 1)) 1604 1 e3 rfl l3 (be1 _) (by decide)
      obtain ⟨t5, e5, l5, m5⟩ := glue (q := S (be m 4)) 1605 4 e4 rfl l4 (by rw [be_length]; omega) (by decide)
      have He := Lib.hid e5
      have c0 : Hid (∀ W, Calls Try.prog 21 #[.int .u32 (a0 : Int), .int .i64 1] W fun e w' => e = .returned (.string (S (be a0 1))) ∧ Below W.heap.size W w') := fun W => bytes_any a0 1 (by omega) (by omega) W
      have c1 : Hid (∀ W, Calls Try.prog 21 #[.int .u32 (a1 : Int), .int .i64 1] W fun e w' => e = .returned (.string (S (be a1 1))) ∧ Below W.heap.size W w') := fun W => bytes_any a1 1 (by omega) (by omega) W
      have c2 : Hid (∀ W, Calls Try.prog 21 #[.int .u32 (a2 : Int), .int .i64 1] W fun e w' => e = .returned (.string (S (be a2 1))) ∧ Below W.heap.size W w') := fun W => bytes_any a2 1 (by omega) (by omega) W
      have c3 : Hid (∀ W, Calls Try.prog 21 #[.int .u32 (a3 : Int), .int .i64 1] W fun e w' => e = .returned (.string (S (be a3 1))) ∧ Below W.heap.size W w') := fun W => bytes_any a3 1 (by omega) (by omega) W
      have c4 : Hid (∀ W, Calls Try.prog 21 #[.int .u32 (m : Int), .int .i64 4] W fun e w' => e = .returned (.string (S (be m 4))) ∧ Below W.heap.size W w') := fun W => bytes_any m 4 (by omega) (by omega) W
      have u0 : IntKind.u32.wrap (a0 : Int) = a0 := by rw [IntKind.wrap_u32]; omega
      have u1 : IntKind.u32.wrap (a1 : Int) = a1 := by rw [IntKind.wrap_u32]; omega
      have u2 : IntKind.u32.wrap (a2 : Int) = a2 := by rw [IntKind.wrap_u32]; omega
      have u3 : IntKind.u32.wrap (a3 : Int) = a3 := by rw [IntKind.wrap_u32]; omega
      have u4 : IntKind.u32.wrap (m : Int) = m := by rw [IntKind.wrap_u32]; omega
      obtain ⟨hc, hr⟩ := one_box wr #[.int .i64 (a0 : Int), .int .i64 (a1 : Int), .int .i64 (a2 : Int), .int .i64 (a3 : Int), .int .i64 n] 45
      have y0 := hc 0 (.int .i64 a0) rfl
      have y1 := hc 1 (.int .i64 a1) rfl
      have y2 := hc 2 (.int .i64 a2) rfl
      have y3 := hc 3 (.int .i64 a3) rfl
      have y4 := hc 4 (.int .i64 n) rfl
      have HSz := Lib.hid hS.out
      obtain ⟨M, hM⟩ : ∃ M, wr.heap.size = M := ⟨_, rfl⟩
      rw [hM] at hr y0 y1 y2 y3 y4
      have HIt := Lib.hid hIt
      clear e1 e2 e3 e4 e5 l1 l2 l3 l4 l5 hins hx hIt hc be1 h1 h2 h3 h4 h5 h6 h7 h8 h9 h10 hm htl
      by_cases hn0 : n < 0
      · have hw : IntKind.i64.wrap (n + 4294967296) = (m : Int) := by have := hnr.1 hn0; rw [IntKind.wrap_i64]; omega
        clear hnr hnb hmb
        go_wp2_with fail
        generalize wr.alloc (.cells #[.int .i64 (a0 : Int), .int .i64 (a1 : Int), .int .i64 (a2 : Int), .int .i64 (a3 : Int), .int .i64 n] 45) = W at *
        clear x0 x1 x2 x3 x4
        go_region_held3 (fun W' => W'.cell? ⟨M, 0, none⟩ = some (.int .i64 a0) ∧ W'.cell? ⟨M, 1, none⟩ = some (.int .i64 a1) ∧ W'.cell? ⟨M, 2, none⟩ = some (.int .i64 a2) ∧ W'.cell? ⟨M, 3, none⟩ = some (.int .i64 a3) ∧ W'.cell? ⟨M, 4, none⟩ = some (.int .i64 n) ∧ Il.Next M wr W') (go_keep)
          (first
            | (go_at_call 21; have hS := ‹_ ∧ _ ∧ _ ∧ _ ∧ _ ∧ Il.Next _ _ _›; (with_reducible refine (c0.out _).mono ?_); rintro e w2 ⟨rfl, hb2⟩; have z0 := kept_cell hb2 hS.1; have z1 := kept_cell hb2 hS.2.1; have z2 := kept_cell hb2 hS.2.2.1; have z3 := kept_cell hb2 hS.2.2.2.1; have z4 := kept_cell hb2 hS.2.2.2.2.1; have hr1 := hS.2.2.2.2.2.next hb2)
            | (go_at_call 21; have hS := ‹_ ∧ _ ∧ _ ∧ _ ∧ _ ∧ Il.Next _ _ _›; (with_reducible refine (c1.out _).mono ?_); rintro e w2 ⟨rfl, hb2⟩; have z0 := kept_cell hb2 hS.1; have z1 := kept_cell hb2 hS.2.1; have z2 := kept_cell hb2 hS.2.2.1; have z3 := kept_cell hb2 hS.2.2.2.1; have z4 := kept_cell hb2 hS.2.2.2.2.1; have hr1 := hS.2.2.2.2.2.next hb2)
            | (go_at_call 21; have hS := ‹_ ∧ _ ∧ _ ∧ _ ∧ _ ∧ Il.Next _ _ _›; (with_reducible refine (c2.out _).mono ?_); rintro e w2 ⟨rfl, hb2⟩; have z0 := kept_cell hb2 hS.1; have z1 := kept_cell hb2 hS.2.1; have z2 := kept_cell hb2 hS.2.2.1; have z3 := kept_cell hb2 hS.2.2.2.1; have z4 := kept_cell hb2 hS.2.2.2.2.1; have hr1 := hS.2.2.2.2.2.next hb2)
            | (go_at_call 21; have hS := ‹_ ∧ _ ∧ _ ∧ _ ∧ _ ∧ Il.Next _ _ _›; (with_reducible refine (c3.out _).mono ?_); rintro e w2 ⟨rfl, hb2⟩; have z0 := kept_cell hb2 hS.1; have z1 := kept_cell hb2 hS.2.1; have z2 := kept_cell hb2 hS.2.2.1; have z3 := kept_cell hb2 hS.2.2.2.1; have z4 := kept_cell hb2 hS.2.2.2.2.1; have hr1 := hS.2.2.2.2.2.next hb2)
            | (go_at_call 21; have hS := ‹_ ∧ _ ∧ _ ∧ _ ∧ _ ∧ Il.Next _ _ _›; (with_reducible refine (c4.out _).mono ?_); rintro e w2 ⟨rfl, hb2⟩; have z0 := kept_cell hb2 hS.1; have z1 := kept_cell hb2 hS.2.1; have z2 := kept_cell hb2 hS.2.2.1; have z3 := kept_cell hb2 hS.2.2.2.1; have z4 := kept_cell hb2 hS.2.2.2.2.1; have hr1 := hS.2.2.2.2.2.next hb2))
        all_goals
          have HY := Lib.hid (co_next HSz.out hM hr1)
          clear y0 y1 y2 y3 y4 z0 z1 z2 z3 z4 hS hr1 hr
          go_wp2
          go_roundw
          case rel => exact ⟨k + 1, _, by omega, by go_num, by rw [He.out], HT2, HY⟩
          case measure => simp [intOf]; omega
      · have hnm := hnr.2 (by omega)
        subst hnm
        have hn1 : ¬ ((m : Int) < 0) := by omega
        clear hnr hnb hmb hn0
        go_wp2_with fail
        generalize wr.alloc (.cells #[.int .i64 (a0 : Int), .int .i64 (a1 : Int), .int .i64 (a2 : Int), .int .i64 (a3 : Int), .int .i64 (m : Int)] 45) = W at *
        clear x0 x1 x2 x3 x4
        go_region_held3 (fun W' => W'.cell? ⟨M, 0, none⟩ = some (.int .i64 a0) ∧ W'.cell? ⟨M, 1, none⟩ = some (.int .i64 a1) ∧ W'.cell? ⟨M, 2, none⟩ = some (.int .i64 a2) ∧ W'.cell? ⟨M, 3, none⟩ = some (.int .i64 a3) ∧ W'.cell? ⟨M, 4, none⟩ = some (.int .i64 (m : Int)) ∧ Il.Next M wr W') (go_keep)
          (first
            | (go_at_call 21; have hS := ‹_ ∧ _ ∧ _ ∧ _ ∧ _ ∧ Il.Next _ _ _›; (with_reducible refine (c0.out _).mono ?_); rintro e w2 ⟨rfl, hb2⟩; have z0 := kept_cell hb2 hS.1; have z1 := kept_cell hb2 hS.2.1; have z2 := kept_cell hb2 hS.2.2.1; have z3 := kept_cell hb2 hS.2.2.2.1; have z4 := kept_cell hb2 hS.2.2.2.2.1; have hr1 := hS.2.2.2.2.2.next hb2)
            | (go_at_call 21; have hS := ‹_ ∧ _ ∧ _ ∧ _ ∧ _ ∧ Il.Next _ _ _›; (with_reducible refine (c1.out _).mono ?_); rintro e w2 ⟨rfl, hb2⟩; have z0 := kept_cell hb2 hS.1; have z1 := kept_cell hb2 hS.2.1; have z2 := kept_cell hb2 hS.2.2.1; have z3 := kept_cell hb2 hS.2.2.2.1; have z4 := kept_cell hb2 hS.2.2.2.2.1; have hr1 := hS.2.2.2.2.2.next hb2)
            | (go_at_call 21; have hS := ‹_ ∧ _ ∧ _ ∧ _ ∧ _ ∧ Il.Next _ _ _›; (with_reducible refine (c2.out _).mono ?_); rintro e w2 ⟨rfl, hb2⟩; have z0 := kept_cell hb2 hS.1; have z1 := kept_cell hb2 hS.2.1; have z2 := kept_cell hb2 hS.2.2.1; have z3 := kept_cell hb2 hS.2.2.2.1; have z4 := kept_cell hb2 hS.2.2.2.2.1; have hr1 := hS.2.2.2.2.2.next hb2)
            | (go_at_call 21; have hS := ‹_ ∧ _ ∧ _ ∧ _ ∧ _ ∧ Il.Next _ _ _›; (with_reducible refine (c3.out _).mono ?_); rintro e w2 ⟨rfl, hb2⟩; have z0 := kept_cell hb2 hS.1; have z1 := kept_cell hb2 hS.2.1; have z2 := kept_cell hb2 hS.2.2.1; have z3 := kept_cell hb2 hS.2.2.2.1; have z4 := kept_cell hb2 hS.2.2.2.2.1; have hr1 := hS.2.2.2.2.2.next hb2)
            | (go_at_call 21; have hS := ‹_ ∧ _ ∧ _ ∧ _ ∧ _ ∧ Il.Next _ _ _›; (with_reducible refine (c4.out _).mono ?_); rintro e w2 ⟨rfl, hb2⟩; have z0 := kept_cell hb2 hS.1; have z1 := kept_cell hb2 hS.2.1; have z2 := kept_cell hb2 hS.2.2.1; have z3 := kept_cell hb2 hS.2.2.2.1; have z4 := kept_cell hb2 hS.2.2.2.2.1; have hr1 := hS.2.2.2.2.2.next hb2))
        all_goals
          have HY := Lib.hid (co_next HSz.out hM hr1)
          clear y0 y1 y2 y3 y4 z0 z1 z2 z3 z4 hS hr1 hr
          go_wp2
          go_roundw
          case rel => exact ⟨k + 1, _, by omega, by go_num, by rw [He.out], HT2, HY⟩
          case measure => simp [intOf]; omega
    · obtain rfl : k = l.length := by omega
      have HT2 := Lib.hid (show t = bareL l by rw [hT.out, List.take_length]; rfl)
      go_wp2
      go_ret
      exact ⟨by rw [HT2.out]; rfl, hS.out.1⟩

end Go.Proofs.Ytocjimedbnjmiaa.Co
