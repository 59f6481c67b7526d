/-
  Plain facts: places, literals, counts by Cut's parts; and the landed readPlace, readLiteral, readCount, readAlone, walked. Conditions: none but the texts' length.
-/
import Derived.Test.YtpnjhodpbjhmcaaGreatDoorJd
import Derived.Test.YtpnjhodpbjhmcaaGreatDoorIkT
namespace Go.Proofs.YtpnjhodpbjhmcaaGreatDoor.Il
open Go.RowKit
open Go.Proofs.YtpnjhodpbjhmcaaGreatDoor.Ic

/-! ### Plain -/
theorem kind_names (b : Bs) (h : kindOf b ≠ 0) : ∃ k : Nat, 1 ≤ k ∧ k ≤ 7 ∧ b = nmI k := by
  have hr := named_range ⟨b.toArray⟩
  unfold kindOf at h
  obtain ⟨k, hk⟩ : ∃ k : Nat, namedI ⟨b.toArray⟩ = (k : Int) := ⟨(namedI ⟨b.toArray⟩).toNat, by omega⟩
  refine ⟨k, by omega, by omega, ?_⟩
  have := (named_iff ⟨b.toArray⟩ k (by omega) (by omega)).2 hk
  have h2 := congrArg (fun s : ByteArray => s.data.toList) this
  exact h2
theorem kind_chars (b : Bs) (h : kindOf b ≠ 0) : ∀ c ∈ b, (65 ≤ c.toNat ∧ c.toNat ≤ 90) := by
  obtain ⟨k, h1, h7, rfl⟩ := kind_names b h
  obtain rfl | rfl | rfl | rfl | rfl | rfl | rfl : k = 1 ∨ k = 2 ∨ k = 3 ∨ k = 4 ∨ k = 5 ∨ k = 6 ∨ k = 7 := by omega
  all_goals decide
theorem kind_nil : kindOf [] = 0 := by decide
theorem kind_free {b : Bs} {c : UInt8} (hc : ¬ (65 ≤ c.toNat ∧ c.toNat ≤ 90)) (h : c ∈ b) : kindOf b = 0 := by
  by_cases h0 : kindOf b = 0
  · exact h0
  · exact absurd (kind_chars b h0 c h) hc
theorem num_free {m : Nat} {b : Bs} {c : UInt8} (hc : digitB c = false) (h : c ∈ b) : numB m b = none := by
  unfold numB
  rw [if_neg]
  intro h2
  have := List.all_eq_true.1 h2.2.2 c h
  rw [hc] at this
  cases this
theorem num_nil (m : Nat) : numB m [] = none := by unfold numB; rw [if_neg (fun h => h.1 rfl)]
/-- The parts at one byte: one, two, or more. -/
theorem part_cases (c : UInt8) (s : Bs) : (c ∉ s ∧ splitB c s = [s] ∧ Lib.cut s [c] = (s, [], false)) ∨ ∃ a b, s = a ++ c :: b ∧ Lib.cut s [c] = (a, b, true) ∧ ((c ∉ b ∧ splitB c s = [a, b]) ∨ (c ∈ b ∧ ∃ x y z r, splitB c s = x :: y :: z :: r)) := by
  by_cases h : c ∈ s
  · right
    obtain ⟨a, b, rfl, ha⟩ := List.eq_append_cons_of_mem h
    refine ⟨a, b, rfl, cut_at ha, ?_⟩
    by_cases hb : c ∈ b
    · right
      obtain ⟨a2, b2, rfl, ha2⟩ := List.eq_append_cons_of_mem hb
      refine ⟨hb, a, a2, (splitB c b2).head (split_ne c b2), (splitB c b2).tail, ?_⟩
      rw [split_app ha, split_app ha2, List.cons_head_tail]
    · left
      exact ⟨hb, split_two ha hb⟩
  · left
    exact ⟨h, split_free h, cut_no h⟩
theorem place_cut (s : Bs) : placeB s = (spotB (Lib.cut s [58]).1).bind fun q => if kindOf (Lib.cut s [58]).2.1 = 0 then none else some ⟨0, kindOf (Lib.cut s [58]).2.1, q.1, q.2, 0⟩ := by
  unfold placeB
  rcases part_cases 58 s with ⟨-, h2, h3⟩ | ⟨a, b, -, h3, ⟨-, h5⟩ | ⟨h4, x, y, z, r, h5⟩⟩
  · rw [h2, h3]
    cases spotB s with
    | none => rfl
    | some q =>
      show (none : Option In) = if kindOf [] = 0 then none else some ⟨0, kindOf [], q.1, q.2, 0⟩
      rw [if_pos kind_nil]
  · rw [h5, h3]
  · rw [h5, h3]
    cases spotB a with
    | none => rfl
    | some q =>
      show (none : Option In) = if kindOf b = 0 then none else some ⟨0, kindOf b, q.1, q.2, 0⟩
      rw [if_pos (kind_free (by decide) h4)]
theorem sign_free {b : Bs} (h : (35 : UInt8) ∈ b) : signB b = none := by
  cases b with
  | nil => rfl
  | cons c t =>
    unfold signB
    dsimp only
    by_cases h45 : c = 45
    · rw [if_pos h45, num_free (c := 35) (by decide) (by rcases List.mem_cons.1 h with e | e; (rw [← e] at h45; exact absurd h45 (by decide)); exact e)]
      rfl
    · rw [if_neg h45, num_free (c := 35) (by decide) h]
      rfl
theorem lit_cut (s : Bs) : litB s = (signB (Lib.cut s [35]).2.1).bind fun n => if kindOf (Lib.cut s [35]).1 = 0 then none else some ⟨0, kindOf (Lib.cut s [35]).1, 0, 0, n⟩ := by
  unfold litB
  rcases part_cases 35 s with ⟨-, h2, h3⟩ | ⟨a, b, -, h3, ⟨-, h5⟩ | ⟨h4, x, y, z, r, h5⟩⟩
  · rw [h2, h3]
    rfl
  · rw [h5, h3]
  · rw [h5, h3]
    show none = (signB b).bind _
    rw [sign_free h4]
    rfl
/-- A place and a number, by a comma. -/
def cntB (s : Bs) : Option ((Int × Int) × Nat) := match splitB 44 s with
  | [p, t] => (match spotB p, numB 4 t with | some q, some n => some (q, n) | _, _ => none)
  | _ => none
theorem cnt_cut (s : Bs) : cntB s = match spotB (Lib.cut s [44]).1, numB 4 (Lib.cut s [44]).2.1 with | some q, some n => some (q, n) | _, _ => none := by
  unfold cntB
  rcases part_cases 44 s with ⟨-, h2, h3⟩ | ⟨a, b, -, h3, ⟨-, h5⟩ | ⟨h4, x, y, z, r, h5⟩⟩
  · rw [h2, h3]
    show none = match spotB s, numB 4 [] with | some q, some n => some (q, n) | _, _ => none
    rw [num_nil]
    cases spotB s <;> rfl
  · rw [h5, h3]
  · rw [h5, h3]
    show none = match spotB a, numB 4 b with | some q, some n => some (q, n) | _, _ => none
    rw [num_free (by decide) h4]
    cases spotB a <;> rfl
theorem cut_len (s : Bs) (c : UInt8) : (Lib.cut s [c]).1.length ≤ s.length ∧ (Lib.cut s [c]).2.1.length ≤ s.length := by
  rcases part_cases c s with ⟨-, -, h3⟩ | ⟨a, b, e, h3, -⟩
  · rw [h3]; exact ⟨Nat.le_refl _, Nat.zero_le _⟩
  · rw [h3, e]; simp; omega

/-! ### A box that may be written -/
def Slot5 (W : World) (b : Nat) (i : In) : Prop := At5 W b i ∧ ∀ k, W.frozen? ⟨b, k, none⟩ = false
theorem Slot5.next {W W' : World} {b : Nat} {i : In} (h : Slot5 W b i) (hb : Below W.heap.size W W') : Slot5 W' b i :=
  ⟨h.1.next hb, fun k => (World.frozen?_of_block (a := ⟨b, k, none⟩) (hb.block b (World.block_lt_of_cell? W _ h.1.1))).trans (h.2 k)⟩
theorem slot5 (w : World) (i : In) (t : TypeId) : Slot5 (w.alloc (.cells #[.int .i64 i.op, .int .i64 i.kd, .int .i64 i.ar, .int .i64 i.pl, .int .i64 i.n] t)) w.heap.size i :=
  ⟨(box5 w i t).1, fun _ => World.frozen?_alloc_new _ _ _ _⟩
/-- Five cells written. -/
def put5 (W : World) (b : Nat) (i : In) : World := ((((W.setCell ⟨b, 0, none⟩ (.int .i64 i.op)).setCell ⟨b, 1, none⟩ (.int .i64 i.kd)).setCell ⟨b, 2, none⟩ (.int .i64 i.ar)).setCell ⟨b, 3, none⟩ (.int .i64 i.pl)).setCell ⟨b, 4, none⟩ (.int .i64 i.n)
theorem cell_set {W : World} {b k j : Nat} {v u : Value} (hk : W.cell? ⟨b, k, none⟩ = some u) : (W.setCell ⟨b, k, none⟩ v).cell? ⟨b, j, none⟩ = if k = j then some v else W.cell? ⟨b, j, none⟩ := by
  by_cases e : k = j
  · rw [if_pos e]; subst e
    exact World.cell?_setCell_same' _ _ _ (by rw [hk]; rfl)
  · rw [if_neg e]
    exact World.cell?_setCell_other _ _ _ _ (fun h => e (by injection h))
theorem put5_at {W : World} {b : Nat} {i0 : In} (h : At5 W b i0) (i : In) : At5 (put5 W b i) b i := by
  obtain ⟨h0, h1, h2, h3, h4⟩ := h
  have b1 : (W.setCell ⟨b, 0, none⟩ (.int .i64 i.op)).cell? ⟨b, 1, none⟩ = some (.int .i64 i0.kd) := by rw [cell_set h0, if_neg (by decide)]; exact h1
  have b2 : ((W.setCell ⟨b, 0, none⟩ (.int .i64 i.op)).setCell ⟨b, 1, none⟩ (.int .i64 i.kd)).cell? ⟨b, 2, none⟩ = some (.int .i64 i0.ar) := by rw [cell_set b1, if_neg (by decide), cell_set h0, if_neg (by decide)]; exact h2
  have b3 : (((W.setCell ⟨b, 0, none⟩ (.int .i64 i.op)).setCell ⟨b, 1, none⟩ (.int .i64 i.kd)).setCell ⟨b, 2, none⟩ (.int .i64 i.ar)).cell? ⟨b, 3, none⟩ = some (.int .i64 i0.pl) := by rw [cell_set b2, if_neg (by decide), cell_set b1, if_neg (by decide), cell_set h0, if_neg (by decide)]; exact h3
  have b4 : ((((W.setCell ⟨b, 0, none⟩ (.int .i64 i.op)).setCell ⟨b, 1, none⟩ (.int .i64 i.kd)).setCell ⟨b, 2, none⟩ (.int .i64 i.ar)).setCell ⟨b, 3, none⟩ (.int .i64 i.pl)).cell? ⟨b, 4, none⟩ = some (.int .i64 i0.n) := by rw [cell_set b3, if_neg (by decide), cell_set b2, if_neg (by decide), cell_set b1, if_neg (by decide), cell_set h0, if_neg (by decide)]; exact h4
  unfold put5 At5
  refine ⟨?_, ?_, ?_, ?_, ?_⟩
  · rw [cell_set b4, if_neg (by decide), cell_set b3, if_neg (by decide), cell_set b2, if_neg (by decide), cell_set b1, if_neg (by decide), cell_set h0, if_pos rfl]
  · rw [cell_set b4, if_neg (by decide), cell_set b3, if_neg (by decide), cell_set b2, if_neg (by decide), cell_set b1, if_pos rfl]
  · rw [cell_set b4, if_neg (by decide), cell_set b3, if_neg (by decide), cell_set b2, if_pos rfl]
  · rw [cell_set b4, if_neg (by decide), cell_set b3, if_pos rfl]
  · rw [cell_set b4, if_pos rfl]
theorem below_put5 {N : Nat} {w W : World} {b : Nat} (hb : N ≤ b) (i : In) (h : Below N w W) : Below N w (put5 W b i) :=
  ((((h.setCell (p := ⟨b, 0, none⟩) hb _).setCell (p := ⟨b, 1, none⟩) hb _).setCell (p := ⟨b, 2, none⟩) hb _).setCell (p := ⟨b, 3, none⟩) hb _).setCell (p := ⟨b, 4, none⟩) hb _
theorem Tryz.sizeIns : (Tryz.prog.info? 34).map (·.size) = some 5 := by kernel_rfl
theorem load5 {W : World} {b : Nat} {i : In} (h : At5 W b i) : (loadVar 34 ⟨b, 0, none⟩).run Tryz.prog W = .ok (insV i) W := by
  have h2 := run_loadVar_mid (P := Tryz.prog) W b 0 34 [.int .i64 i.op, .int .i64 i.kd, .int .i64 i.ar, .int .i64 i.pl, .int .i64 i.n] _ (fun j v hv => by
    obtain ⟨h0, h1, h2, h3, h4⟩ := h
    rw [Nat.zero_add]
    match j, hv with
    | 0, hv => rw [h0]; simpa using hv
    | 1, hv => rw [h1]; simpa using hv
    | 2, hv => rw [h2]; simpa using hv
    | 3, hv => rw [h3]; simpa using hv
    | 4, hv => rw [h4]; simpa using hv
    | j + 5, hv => simp at hv) Tryz.underlying34 rfl Tryz.sizeIns
  exact h2
theorem res_1 {fn : Func} {p : Tmp} (h : fn.results = #[.cell p 34]) (tmps : Array Value) {W : World} {b : Nat} {i : In} (hp : tmps.getD p undef = .pointer (some ⟨b, 0, none⟩)) (hi : At5 W b i) : (results fn tmps).run Tryz.prog W = .ok (insV i) W := by
  have hp' : tmps[p]?.getD undef = .pointer (some ⟨b, 0, none⟩) := by simpa using hp
  simp [results, h, hp', asAddr, load5 hi]
theorem res_2 {fn : Func} {p q : Tmp} (h : fn.results = #[.cell p 34, .tmp q]) (tmps : Array Value) {W : World} {b : Nat} {i : In} {v : Value} (hp : tmps.getD p undef = .pointer (some ⟨b, 0, none⟩)) (hv : tmps.getD q undef = v) (hi : At5 W b i) : (results fn tmps).run Tryz.prog W = .ok (.tuple #[insV i, v]) W := by
  have hp' : tmps[p]?.getD undef = .pointer (some ⟨b, 0, none⟩) := by simpa using hp
  have hv' : tmps[q]?.getD undef = v := by simpa using hv
  simp [results, h, hp', hv', asAddr, load5 hi]
/-- What readCount answers. -/
def cntV (s : Bs) : Value := match cntB s with
  | some x => insV ⟨0, 0, x.1.1, x.1.2, (x.2 : Int)⟩
  | none => insV ⟨0, 0, 0, 0, 0⟩

set_option maxRecDepth 100000 in
set_option maxHeartbeats 4000000 in
theorem cCount (s : Bs) (hs : s.length ≤ 100000) (w : World) (hE : Env w) : Calls Tryz.prog 98 #[.string (S s)] w (Tells (cntV s) w) := by
  have HC : Hid (∀ W, Env W → Calls Tryz.prog 51 #[.string (S s), .string ⟨#[44]⟩] W (Tells (cutV s 44) W)) := fun W hE => cCut s 44 hs W hE
  have hl := cut_len s 44
  have HS := Lib.hid (fun W => cSpot0 (Lib.cut s [44]).1 (by omega) W)
  have HD := Lib.hid (fun W => cDigits (Lib.cut s [44]).2.1 4 (by omega) W)
  have hv := Lib.hid (cnt_cut s)
  have hX := Lib.hid (slot5 w ⟨0, 0, 0, 0, 0⟩ 34)
  have hK := Lib.hid (keep_box w hE #[.int .i64 0, .int .i64 0, .int .i64 0, .int .i64 0, .int .i64 0] 34)
  have HV : Hid (cntV s = match cntB s with | some x => insV ⟨0, 0, x.1.1, x.1.2, (x.2 : Int)⟩ | none => insV ⟨0, 0, 0, 0, 0⟩) := rfl
  rw [hv.out] at HV
  clear hv hl hs hE
  unfold cutV at HC
  unfold spotV at HS
  unfold numV at HD
  generalize S (Lib.cut s [44]).1 = sa at *
  generalize S (Lib.cut s [44]).2.1 = sb at *
  generalize (Lib.cut s [44]).2.2 = fb at *
  generalize spotB (Lib.cut s [44]).1 = oa at *
  generalize numB 4 (Lib.cut s [44]).2.1 = ob at *
  generalize cntV s = V at *
  generalize hNN : w.heap.size = NN at *
  cases oa with
  | none =>
    have hV := Lib.hid (show V = insV ⟨0, 0, 0, 0, 0⟩ from by rw [HV.out])
    clear HV
    cases ob with
    | none =>
      go_enter Tryz.func98, Tryz.ntmps98
      go_wp2_with fail
      refine (HC.out _ (Keep.env hK.out)).mono ?_
      rintro e w1 ⟨rfl, hb1⟩
      have hX1 := Lib.hid (hX.out.next hb1)
      have hK1 := Lib.hid (hK.out.next hb1)
      clear hb1 hX hK
      go_wp2_with fail
      refine (HS.out _).mono ?_
      rintro e w2 ⟨rfl, hb2⟩
      have hX2 := Lib.hid (hX1.out.next hb2)
      have hK2 := Lib.hid (hK1.out.next hb2)
      clear hb2 hX1 hK1
      go_wp2_with fail
      refine (HD.out _).mono ?_
      rintro e w3 ⟨rfl, hb3⟩
      have hX3 := Lib.hid (hX2.out.next hb3)
      have hK3 := Lib.hid (hK2.out.next hb3)
      clear hb3 hX2 hK2
      obtain ⟨⟨c0, c1, c2, c3, c4⟩, hf⟩ := hX3.out
      dsimp only at c0 c1 c2 c3 c4
      go_wp2
      refine bodyPost_ret (v := V) ?_ rfl ⟨rfl, ?_⟩
      · rw [hV.out]
        exact res_1 Tryz.results98 _ rfl (put5_at hX3.out.1 ⟨0, 0, 0, 0, 0⟩)
      · rw [hNN]
        exact below_put5 (Nat.le_refl _) ⟨0, 0, 0, 0, 0⟩ hK3.out.1.1
    | some n =>
      go_enter Tryz.func98, Tryz.ntmps98
      go_wp2_with fail
      refine (HC.out _ (Keep.env hK.out)).mono ?_
      rintro e w1 ⟨rfl, hb1⟩
      have hX1 := Lib.hid (hX.out.next hb1)
      have hK1 := Lib.hid (hK.out.next hb1)
      clear hb1 hX hK
      go_wp2_with fail
      refine (HS.out _).mono ?_
      rintro e w2 ⟨rfl, hb2⟩
      have hX2 := Lib.hid (hX1.out.next hb2)
      have hK2 := Lib.hid (hK1.out.next hb2)
      clear hb2 hX1 hK1
      go_wp2_with fail
      refine (HD.out _).mono ?_
      rintro e w3 ⟨rfl, hb3⟩
      have hX3 := Lib.hid (hX2.out.next hb3)
      have hK3 := Lib.hid (hK2.out.next hb3)
      clear hb3 hX2 hK2
      obtain ⟨⟨c0, c1, c2, c3, c4⟩, hf⟩ := hX3.out
      dsimp only at c0 c1 c2 c3 c4
      go_wp2
      refine bodyPost_ret (v := V) ?_ rfl ⟨rfl, ?_⟩
      · rw [hV.out]
        exact res_1 Tryz.results98 _ rfl (put5_at hX3.out.1 ⟨0, 0, 0, 0, 0⟩)
      · rw [hNN]
        exact below_put5 (Nat.le_refl _) ⟨0, 0, 0, 0, 0⟩ hK3.out.1.1
  | some q =>
    cases ob with
    | none =>
      have hV := Lib.hid (show V = insV ⟨0, 0, 0, 0, 0⟩ from by rw [HV.out])
      clear HV
      go_enter Tryz.func98, Tryz.ntmps98
      go_wp2_with fail
      refine (HC.out _ (Keep.env hK.out)).mono ?_
      rintro e w1 ⟨rfl, hb1⟩
      have hX1 := Lib.hid (hX.out.next hb1)
      have hK1 := Lib.hid (hK.out.next hb1)
      clear hb1 hX hK
      go_wp2_with fail
      refine (HS.out _).mono ?_
      rintro e w2 ⟨rfl, hb2⟩
      have hX2 := Lib.hid (hX1.out.next hb2)
      have hK2 := Lib.hid (hK1.out.next hb2)
      clear hb2 hX1 hK1
      go_wp2_with fail
      refine (HD.out _).mono ?_
      rintro e w3 ⟨rfl, hb3⟩
      have hX3 := Lib.hid (hX2.out.next hb3)
      have hK3 := Lib.hid (hK2.out.next hb3)
      clear hb3 hX2 hK2
      obtain ⟨⟨c0, c1, c2, c3, c4⟩, hf⟩ := hX3.out
      dsimp only at c0 c1 c2 c3 c4
      go_wp2
      refine bodyPost_ret (v := V) ?_ rfl ⟨rfl, ?_⟩
      · rw [hV.out]
        exact res_1 Tryz.results98 _ rfl (put5_at hX3.out.1 ⟨0, 0, 0, 0, 0⟩)
      · rw [hNN]
        exact below_put5 (Nat.le_refl _) ⟨0, 0, 0, 0, 0⟩ hK3.out.1.1
    | some n =>
      have hV := Lib.hid (show V = insV ⟨0, 0, q.1, q.2, (n : Int)⟩ from by rw [HV.out])
      clear HV
      go_enter Tryz.func98, Tryz.ntmps98
      go_wp2_with fail
      refine (HC.out _ (Keep.env hK.out)).mono ?_
      rintro e w1 ⟨rfl, hb1⟩
      have hX1 := Lib.hid (hX.out.next hb1)
      have hK1 := Lib.hid (hK.out.next hb1)
      clear hb1 hX hK
      go_wp2_with fail
      refine (HS.out _).mono ?_
      rintro e w2 ⟨rfl, hb2⟩
      have hX2 := Lib.hid (hX1.out.next hb2)
      have hK2 := Lib.hid (hK1.out.next hb2)
      clear hb2 hX1 hK1
      go_wp2_with fail
      refine (HD.out _).mono ?_
      rintro e w3 ⟨rfl, hb3⟩
      have hX3 := Lib.hid (hX2.out.next hb3)
      have hK3 := Lib.hid (hK2.out.next hb3)
      clear hb3 hX2 hK2
      obtain ⟨⟨c0, c1, c2, c3, c4⟩, hf⟩ := hX3.out
      dsimp only at c0 c1 c2 c3 c4
      go_wp2
      refine bodyPost_ret (v := V) ?_ rfl ⟨rfl, ?_⟩
      · rw [hV.out]
        exact res_1 Tryz.results98 _ rfl (put5_at hX3.out.1 ⟨0, 0, q.1, q.2, (n : Int)⟩)
      · rw [hNN]
        exact below_put5 (Nat.le_refl _) ⟨0, 0, q.1, q.2, (n : Int)⟩ hK3.out.1.1

/-- What readLiteral answers. -/
def litV (s : Bs) : Value := match litB s with
  | some i => insV i
  | none => insV ⟨0, 0, 0, 0, 0⟩
theorem sign_pre (s : Bs) : signB s = (numB 10 (cutPre s 45).1).map fun n : Nat => if (cutPre s 45).2 = true then -(n : Int) else (n : Int) := by
  cases s with
  | nil => rfl
  | cons c t =>
    unfold signB cutPre
    dsimp only
    by_cases h : c = 45
    · rw [if_pos h, if_pos (by rw [h]; rfl)]
      rfl
    · rw [if_neg h, if_neg (show ¬ (c :: t).head? = some 45 from fun e => h (Option.some.inj e))]
      rfl
theorem lit_bd {s : Bs} {n : Nat} (h : numB 10 s = some n) : (n : Int) < 10000000000 := by
  unfold numB at h
  split at h
  · next h2 =>
    have h3 := val_lt s h2.2.2
    have h4 : 10 ^ s.length ≤ 10 ^ 10 := Nat.pow_le_pow_right (by omega) h2.2.1
    injection h with h
    omega
  · cases h

set_option maxRecDepth 100000 in
set_option maxHeartbeats 4000000 in
theorem cLiteral (s : Bs) (hs : s.length ≤ 100000) (w : World) (hE : Env w) : Calls Tryz.prog 103 #[.string (S s)] w (Tells (litV s) w) := by
  have HC : Hid (∀ W, Env W → Calls Tryz.prog 51 #[.string (S s), .string ⟨#[35]⟩] W (Tells (cutV s 35) W)) := fun W hE => cCut s 35 hs W hE
  have HM := Lib.hid (fun W => cNamed_any (S (Lib.cut s [35]).1) W)
  have HP : Hid (∀ W, Calls Tryz.prog 104 #[.string (S (Lib.cut s [35]).2.1), .string ⟨#[45]⟩] W (Tells (.tuple #[.string (S (cutPre (Lib.cut s [35]).2.1 45).1), .bool (cutPre (Lib.cut s [35]).2.1 45).2]) W)) := fun W => cPre (Lib.cut s [35]).2.1 45 W
  have HD := Lib.hid (fun W => cDigits (cutPre (Lib.cut s [35]).2.1 45).1 10 (by omega) W)
  have hv := Lib.hid (lit_cut s)
  have hsg := Lib.hid (sign_pre (Lib.cut s [35]).2.1)
  have hX := Lib.hid (slot5 w ⟨0, 0, 0, 0, 0⟩ 34)
  have hK := Lib.hid (keep_box w hE #[.int .i64 0, .int .i64 0, .int .i64 0, .int .i64 0, .int .i64 0] 34)
  have HV : Hid (litV s = match litB s with | some i => insV i | none => insV ⟨0, 0, 0, 0, 0⟩) := rfl
  rw [hv.out, hsg.out] at HV
  have HBD : Hid (∀ n, numB 10 (cutPre (Lib.cut s [35]).2.1 45).1 = some n → (n : Int) < 10000000000) := fun n h => lit_bd h
  clear hv hs hE hsg
  have hkk : namedI (S (Lib.cut s [35]).1) = kindOf (Lib.cut s [35]).1 := rfl
  rw [hkk] at HM
  clear hkk
  unfold cutV at HC
  unfold numV at HD
  generalize S (Lib.cut s [35]).1 = sa at *
  generalize S (Lib.cut s [35]).2.1 = sb at *
  generalize (Lib.cut s [35]).2.2 = fb at *
  generalize kindOf (Lib.cut s [35]).1 = kd at *
  generalize S (cutPre (Lib.cut s [35]).2.1 45).1 = sd at *
  generalize (cutPre (Lib.cut s [35]).2.1 45).2 = mi at *
  generalize numB 10 (cutPre (Lib.cut s [35]).2.1 45).1 = ob at *
  generalize litV s = V at *
  generalize hNN : w.heap.size = NN at *
  cases ob with
  | none =>
    have hV := Lib.hid (show V = insV ⟨0, 0, 0, 0, 0⟩ from by rw [HV.out]; rfl)
    clear HV
    by_cases hk : kd = 0
    · rw [decide_eq_false (fun h => h hk)] at HM
      clear hk
      go_enter Tryz.func103, Tryz.ntmps103
      go_wp2_with fail
      refine (HC.out _ (Keep.env hK.out)).mono ?_
      rintro e w1 ⟨rfl, hb1⟩
      have hX1 := Lib.hid (hX.out.next hb1)
      have hK1 := Lib.hid (hK.out.next hb1)
      clear hb1 hX hK
      go_wp2_with fail
      refine (HM.out _).mono ?_
      rintro e w2 ⟨rfl, hb2⟩
      have hX2 := Lib.hid (hX1.out.next hb2)
      have hK2 := Lib.hid (hK1.out.next hb2)
      clear hb2 hX1 hK1
      go_wp2_with fail
      refine (HP.out _).mono ?_
      rintro e w3 ⟨rfl, hb3⟩
      have hX3 := Lib.hid (hX2.out.next hb3)
      have hK3 := Lib.hid (hK2.out.next hb3)
      clear hb3 hX2 hK2
      go_wp2_with fail
      refine (HD.out _).mono ?_
      rintro e w4 ⟨rfl, hb4⟩
      have hX4 := Lib.hid (hX3.out.next hb4)
      have hK4 := Lib.hid (hK3.out.next hb4)
      clear hb4 hX3 hK3
      obtain ⟨⟨c0, c1, c2, c3, c4⟩, hf⟩ := hX4.out
      dsimp only at c0 c1 c2 c3 c4
      go_wp2
      refine bodyPost_ret (v := V) ?_ rfl ⟨rfl, ?_⟩
      · rw [hV.out]
        exact res_1 Tryz.results103 _ rfl (put5_at hX4.out.1 ⟨0, 0, 0, 0, 0⟩)
      · rw [hNN]
        exact below_put5 (Nat.le_refl _) ⟨0, 0, 0, 0, 0⟩ hK4.out.1.1
    · rw [decide_eq_true hk] at HM
      go_enter Tryz.func103, Tryz.ntmps103
      go_wp2_with fail
      refine (HC.out _ (Keep.env hK.out)).mono ?_
      rintro e w1 ⟨rfl, hb1⟩
      have hX1 := Lib.hid (hX.out.next hb1)
      have hK1 := Lib.hid (hK.out.next hb1)
      clear hb1 hX hK
      go_wp2_with fail
      refine (HM.out _).mono ?_
      rintro e w2 ⟨rfl, hb2⟩
      have hX2 := Lib.hid (hX1.out.next hb2)
      have hK2 := Lib.hid (hK1.out.next hb2)
      clear hb2 hX1 hK1
      go_wp2_with fail
      refine (HP.out _).mono ?_
      rintro e w3 ⟨rfl, hb3⟩
      have hX3 := Lib.hid (hX2.out.next hb3)
      have hK3 := Lib.hid (hK2.out.next hb3)
      clear hb3 hX2 hK2
      go_wp2_with fail
      refine (HD.out _).mono ?_
      rintro e w4 ⟨rfl, hb4⟩
      have hX4 := Lib.hid (hX3.out.next hb4)
      have hK4 := Lib.hid (hK3.out.next hb4)
      clear hb4 hX3 hK3
      obtain ⟨⟨c0, c1, c2, c3, c4⟩, hf⟩ := hX4.out
      dsimp only at c0 c1 c2 c3 c4
      go_wp2
      refine bodyPost_ret (v := V) ?_ rfl ⟨rfl, ?_⟩
      · rw [hV.out]
        exact res_1 Tryz.results103 _ rfl (put5_at hX4.out.1 ⟨0, 0, 0, 0, 0⟩)
      · rw [hNN]
        exact below_put5 (Nat.le_refl _) ⟨0, 0, 0, 0, 0⟩ hK4.out.1.1
  | some n =>
    by_cases hk : kd = 0
    · have hV := Lib.hid (show V = insV ⟨0, 0, 0, 0, 0⟩ from by
        rw [HV.out]
        show (match (if kd = 0 then none else some _ : Option In) with | some i => insV i | none => insV ⟨0, 0, 0, 0, 0⟩) = _
        rw [if_pos hk])
      clear HV
      rw [decide_eq_false (fun h => h hk)] at HM
      clear hk
      go_enter Tryz.func103, Tryz.ntmps103
      go_wp2_with fail
      refine (HC.out _ (Keep.env hK.out)).mono ?_
      rintro e w1 ⟨rfl, hb1⟩
      have hX1 := Lib.hid (hX.out.next hb1)
      have hK1 := Lib.hid (hK.out.next hb1)
      clear hb1 hX hK
      go_wp2_with fail
      refine (HM.out _).mono ?_
      rintro e w2 ⟨rfl, hb2⟩
      have hX2 := Lib.hid (hX1.out.next hb2)
      have hK2 := Lib.hid (hK1.out.next hb2)
      clear hb2 hX1 hK1
      go_wp2_with fail
      refine (HP.out _).mono ?_
      rintro e w3 ⟨rfl, hb3⟩
      have hX3 := Lib.hid (hX2.out.next hb3)
      have hK3 := Lib.hid (hK2.out.next hb3)
      clear hb3 hX2 hK2
      go_wp2_with fail
      refine (HD.out _).mono ?_
      rintro e w4 ⟨rfl, hb4⟩
      have hX4 := Lib.hid (hX3.out.next hb4)
      have hK4 := Lib.hid (hK3.out.next hb4)
      clear hb4 hX3 hK3
      obtain ⟨⟨c0, c1, c2, c3, c4⟩, hf⟩ := hX4.out
      dsimp only at c0 c1 c2 c3 c4
      go_wp2
      refine bodyPost_ret (v := V) ?_ rfl ⟨rfl, ?_⟩
      · rw [hV.out]
        exact res_1 Tryz.results103 _ rfl (put5_at hX4.out.1 ⟨0, 0, 0, 0, 0⟩)
      · rw [hNN]
        exact below_put5 (Nat.le_refl _) ⟨0, 0, 0, 0, 0⟩ hK4.out.1.1
    · rw [decide_eq_true hk] at HM
      have hbd := HBD.out n rfl
      cases mi with
      | true =>
        have hV := Lib.hid (show V = insV ⟨0, kd, 0, 0, -(n : Int)⟩ from by
          rw [HV.out]
          show (match (if kd = 0 then none else some _ : Option In) with | some i => insV i | none => insV ⟨0, 0, 0, 0, 0⟩) = _
          rw [if_neg hk]
          rfl)
        clear HV HBD
        have e1 : IntKind.i64.wrap (-(n : Int)) = -(n : Int) := by rw [IntKind.wrap_i64]; omega
        go_enter Tryz.func103, Tryz.ntmps103
        go_wp2_with fail
        refine (HC.out _ (Keep.env hK.out)).mono ?_
        rintro e w1 ⟨rfl, hb1⟩
        have hX1 := Lib.hid (hX.out.next hb1)
        have hK1 := Lib.hid (hK.out.next hb1)
        clear hb1 hX hK
        go_wp2_with fail
        refine (HM.out _).mono ?_
        rintro e w2 ⟨rfl, hb2⟩
        have hX2 := Lib.hid (hX1.out.next hb2)
        have hK2 := Lib.hid (hK1.out.next hb2)
        clear hb2 hX1 hK1
        go_wp2_with fail
        refine (HP.out _).mono ?_
        rintro e w3 ⟨rfl, hb3⟩
        have hX3 := Lib.hid (hX2.out.next hb3)
        have hK3 := Lib.hid (hK2.out.next hb3)
        clear hb3 hX2 hK2
        go_wp2_with fail
        refine (HD.out _).mono ?_
        rintro e w4 ⟨rfl, hb4⟩
        have hX4 := Lib.hid (hX3.out.next hb4)
        have hK4 := Lib.hid (hK3.out.next hb4)
        clear hb4 hX3 hK3
        obtain ⟨⟨c0, c1, c2, c3, c4⟩, hf⟩ := hX4.out
        dsimp only at c0 c1 c2 c3 c4
        go_wp2
        refine bodyPost_ret (v := V) ?_ rfl ⟨rfl, ?_⟩
        · rw [hV.out]
          exact res_1 Tryz.results103 _ rfl (put5_at hX4.out.1 ⟨0, kd, 0, 0, -(n : Int)⟩)
        · rw [hNN]
          exact below_put5 (Nat.le_refl _) ⟨0, kd, 0, 0, -(n : Int)⟩ hK4.out.1.1
      | false =>
        have hV := Lib.hid (show V = insV ⟨0, kd, 0, 0, (n : Int)⟩ from by
          rw [HV.out]
          show (match (if kd = 0 then none else some _ : Option In) with | some i => insV i | none => insV ⟨0, 0, 0, 0, 0⟩) = _
          rw [if_neg hk]
          rfl)
        clear HV HBD
        go_enter Tryz.func103, Tryz.ntmps103
        go_wp2_with fail
        refine (HC.out _ (Keep.env hK.out)).mono ?_
        rintro e w1 ⟨rfl, hb1⟩
        have hX1 := Lib.hid (hX.out.next hb1)
        have hK1 := Lib.hid (hK.out.next hb1)
        clear hb1 hX hK
        go_wp2_with fail
        refine (HM.out _).mono ?_
        rintro e w2 ⟨rfl, hb2⟩
        have hX2 := Lib.hid (hX1.out.next hb2)
        have hK2 := Lib.hid (hK1.out.next hb2)
        clear hb2 hX1 hK1
        go_wp2_with fail
        refine (HP.out _).mono ?_
        rintro e w3 ⟨rfl, hb3⟩
        have hX3 := Lib.hid (hX2.out.next hb3)
        have hK3 := Lib.hid (hK2.out.next hb3)
        clear hb3 hX2 hK2
        go_wp2_with fail
        refine (HD.out _).mono ?_
        rintro e w4 ⟨rfl, hb4⟩
        have hX4 := Lib.hid (hX3.out.next hb4)
        have hK4 := Lib.hid (hK3.out.next hb4)
        clear hb4 hX3 hK3
        obtain ⟨⟨c0, c1, c2, c3, c4⟩, hf⟩ := hX4.out
        dsimp only at c0 c1 c2 c3 c4
        go_wp2
        refine bodyPost_ret (v := V) ?_ rfl ⟨rfl, ?_⟩
        · rw [hV.out]
          exact res_1 Tryz.results103 _ rfl (put5_at hX4.out.1 ⟨0, kd, 0, 0, (n : Int)⟩)
        · rw [hNN]
          exact below_put5 (Nat.le_refl _) ⟨0, kd, 0, 0, (n : Int)⟩ hK4.out.1.1

/-- A place whose bytes are there. -/
def placeC (s : Bs) : Option In := (placeB s).bind fun i => if thereB i.pl i.kd = true then some i else none
/-- What readPlace answers. -/
def plcV (s : Bs) : Value := match placeC s with
  | some i => .tuple #[insV i, .bool true]
  | none => .tuple #[insV ⟨0, 0, 0, 0, 0⟩, .bool false]
theorem spot_ar {s : Bs} {q : Int × Int} (h : spotB s = some q) : 1 ≤ q.1 ∧ q.1 ≤ 4 := by
  unfold spotB at h
  split at h
  · split at h
    · next c a t hc =>
      rcases area_index a with ⟨-, ha⟩ | ⟨k, hk, -, ha⟩
      · rw [ha] at h; cases h
      · rw [ha] at h
        simp only [Option.bind_some, Option.map_eq_some_iff] at h
        obtain ⟨p, -, rfl⟩ := h
        dsimp only
        omega
    · cases h
  · cases h
theorem hasP_there {kd : Int} {q : Int × Int} (h : 1 ≤ q.1 ∧ q.1 ≤ 4) : hasP ⟨0, kd, q.1, q.2, 0⟩ 1 = thereB q.2 kd := by
  unfold hasP hasB thereB
  dsimp only
  by_cases hz : szI kd = 0
  · simp [hz]
  · by_cases h0 : 0 ≤ q.2 <;> by_cases h4 : q.2 ≤ 64 - (szI kd : Nat) <;> simp [hz, h0, h4, h.1, h.2] <;> omega

set_option maxRecDepth 100000 in
set_option maxHeartbeats 4000000 in
theorem cPlace (s : Bs) (hs : s.length ≤ 100000) (w : World) (hE : Env w) : Calls Tryz.prog 63 #[.string (S s)] w (Tells (plcV s) w) := by
  have HC : Hid (∀ W, Env W → Calls Tryz.prog 51 #[.string (S s), .string ⟨#[58]⟩] W (Tells (cutV s 58) W)) := fun W hE => cCut s 58 hs W hE
  have hl := cut_len s 58
  have HS := Lib.hid (fun W => cSpot0 (Lib.cut s [58]).1 (by omega) W)
  have HM := Lib.hid (fun W => cNamed_any (S (Lib.cut s [58]).2.1) W)
  have hX := Lib.hid (slot5 w ⟨0, 0, 0, 0, 0⟩ 34)
  have hK := Lib.hid (keep_box w hE #[.int .i64 0, .int .i64 0, .int .i64 0, .int .i64 0, .int .i64 0] 34)
  have HV : Hid (plcV s = match placeC s with | some i => .tuple #[insV i, .bool true] | none => .tuple #[insV ⟨0, 0, 0, 0, 0⟩, .bool false]) := rfl
  unfold placeC at HV
  rw [place_cut s] at HV
  have HAR : Hid (∀ q, spotB (Lib.cut s [58]).1 = some q → 1 ≤ q.1 ∧ q.1 ≤ 4) := fun q h => spot_ar h
  clear hl hs hE
  have hkk : namedI (S (Lib.cut s [58]).2.1) = kindOf (Lib.cut s [58]).2.1 := rfl
  rw [hkk] at HM
  clear hkk
  unfold cutV at HC
  unfold spotV at HS
  generalize S (Lib.cut s [58]).1 = sa at *
  generalize S (Lib.cut s [58]).2.1 = sb at *
  generalize (Lib.cut s [58]).2.2 = fb at *
  generalize kindOf (Lib.cut s [58]).2.1 = kd at *
  generalize spotB (Lib.cut s [58]).1 = oa at *
  generalize plcV s = V at *
  generalize hNN : w.heap.size = NN at *
  cases oa with
  | none =>
    have hV : Hid (V = .tuple #[insV ⟨0, 0, 0, 0, 0⟩, .bool false]) := by rw [HV.out]; exact Lib.hid rfl
    clear HV
    by_cases hk : kd = 0
    · rw [decide_eq_false (fun h => h hk)] at HM
      clear hk
      go_enter Tryz.func63, Tryz.ntmps63
      go_wp2_with fail
      refine (HC.out _ (Keep.env hK.out)).mono ?_
      rintro e w1 ⟨rfl, hb1⟩
      have hX1 := Lib.hid (hX.out.next hb1)
      have hK1 := Lib.hid (hK.out.next hb1)
      clear hb1 hX hK
      go_wp2_with fail
      refine (HS.out _).mono ?_
      rintro e w2 ⟨rfl, hb2⟩
      have hX2 := Lib.hid (hX1.out.next hb2)
      have hK2 := Lib.hid (hK1.out.next hb2)
      clear hb2 hX1 hK1
      go_wp2_with fail
      refine (HM.out _).mono ?_
      rintro e w3 ⟨rfl, hb3⟩
      have hX3 := Lib.hid (hX2.out.next hb3)
      have hK3 := Lib.hid (hK2.out.next hb3)
      clear hb3 hX2 hK2
      have hal := (Below.refl w3.heap.size w3).alloc (Nat.le_refl _) (.cells #[.int .i64 0, .int .i64 kd, .int .i64 0, .int .i64 0, .int .i64 0] 34)
      have hX4 := Lib.hid (hX3.out.next hal)
      have hK4 := Lib.hid (hK3.out.next hal)
      clear hal hX3 hK3
      obtain ⟨⟨c0, c1, c2, c3, c4⟩, hf⟩ := hX4.out
      dsimp only at c0 c1 c2 c3 c4
      go_wp2
      refine bodyPost_ret (v := V) ?_ rfl ⟨rfl, ?_⟩
      · rw [hV.out]
        exact res_2 Tryz.results63 _ rfl rfl (put5_at hX4.out.1 ⟨0, 0, 0, 0, 0⟩)
      · rw [hNN]
        exact below_put5 (Nat.le_refl _) ⟨0, 0, 0, 0, 0⟩ hK4.out.1.1
    · rw [decide_eq_true hk] at HM
      go_enter Tryz.func63, Tryz.ntmps63
      go_wp2_with fail
      refine (HC.out _ (Keep.env hK.out)).mono ?_
      rintro e w1 ⟨rfl, hb1⟩
      have hX1 := Lib.hid (hX.out.next hb1)
      have hK1 := Lib.hid (hK.out.next hb1)
      clear hb1 hX hK
      go_wp2_with fail
      refine (HS.out _).mono ?_
      rintro e w2 ⟨rfl, hb2⟩
      have hX2 := Lib.hid (hX1.out.next hb2)
      have hK2 := Lib.hid (hK1.out.next hb2)
      clear hb2 hX1 hK1
      go_wp2_with fail
      refine (HM.out _).mono ?_
      rintro e w3 ⟨rfl, hb3⟩
      have hX3 := Lib.hid (hX2.out.next hb3)
      have hK3 := Lib.hid (hK2.out.next hb3)
      clear hb3 hX2 hK2
      have hal := (Below.refl w3.heap.size w3).alloc (Nat.le_refl _) (.cells #[.int .i64 0, .int .i64 kd, .int .i64 0, .int .i64 0, .int .i64 0] 34)
      have hX4 := Lib.hid (hX3.out.next hal)
      have hK4 := Lib.hid (hK3.out.next hal)
      clear hal hX3 hK3
      obtain ⟨⟨c0, c1, c2, c3, c4⟩, hf⟩ := hX4.out
      dsimp only at c0 c1 c2 c3 c4
      go_wp2
      refine bodyPost_ret (v := V) ?_ rfl ⟨rfl, ?_⟩
      · rw [hV.out]
        exact res_2 Tryz.results63 _ rfl rfl (put5_at hX4.out.1 ⟨0, 0, 0, 0, 0⟩)
      · rw [hNN]
        exact below_put5 (Nat.le_refl _) ⟨0, 0, 0, 0, 0⟩ hK4.out.1.1
  | some q =>
    by_cases hk : kd = 0
    · have hV : Hid (V = .tuple #[insV ⟨0, 0, 0, 0, 0⟩, .bool false]) := by
        rw [HV.out]
        show Hid ((match ((if kd = 0 then none else some ⟨0, kd, q.1, q.2, 0⟩ : Option In)).bind (fun i => if thereB i.pl i.kd = true then some i else none) with | some i => Value.tuple #[insV i, .bool true] | none => .tuple #[insV ⟨0, 0, 0, 0, 0⟩, .bool false]) = _)
        rw [if_pos hk]
        exact Lib.hid rfl
      clear HV
      rw [decide_eq_false (fun h => h hk)] at HM
      clear hk
      go_enter Tryz.func63, Tryz.ntmps63
      go_wp2_with fail
      refine (HC.out _ (Keep.env hK.out)).mono ?_
      rintro e w1 ⟨rfl, hb1⟩
      have hX1 := Lib.hid (hX.out.next hb1)
      have hK1 := Lib.hid (hK.out.next hb1)
      clear hb1 hX hK
      go_wp2_with fail
      refine (HS.out _).mono ?_
      rintro e w2 ⟨rfl, hb2⟩
      have hX2 := Lib.hid (hX1.out.next hb2)
      have hK2 := Lib.hid (hK1.out.next hb2)
      clear hb2 hX1 hK1
      go_wp2_with fail
      refine (HM.out _).mono ?_
      rintro e w3 ⟨rfl, hb3⟩
      have hX3 := Lib.hid (hX2.out.next hb3)
      have hK3 := Lib.hid (hK2.out.next hb3)
      clear hb3 hX2 hK2
      have hal := (Below.refl w3.heap.size w3).alloc (Nat.le_refl _) (.cells #[.int .i64 0, .int .i64 kd, .int .i64 q.1, .int .i64 q.2, .int .i64 0] 34)
      have hX4 := Lib.hid (hX3.out.next hal)
      have hK4 := Lib.hid (hK3.out.next hal)
      clear hal hX3 hK3
      obtain ⟨⟨c0, c1, c2, c3, c4⟩, hf⟩ := hX4.out
      dsimp only at c0 c1 c2 c3 c4
      go_wp2
      refine bodyPost_ret (v := V) ?_ rfl ⟨rfl, ?_⟩
      · rw [hV.out]
        exact res_2 Tryz.results63 _ rfl rfl (put5_at hX4.out.1 ⟨0, 0, 0, 0, 0⟩)
      · rw [hNN]
        exact below_put5 (Nat.le_refl _) ⟨0, 0, 0, 0, 0⟩ hK4.out.1.1
    · rw [decide_eq_true hk] at HM
      have HP : Hid (∀ W, Calls Tryz.prog 29 #[.agg #[.int .i64 0, .int .i64 kd, .int .i64 q.1, .int .i64 q.2, .int .i64 0], .int .i64 1] W (Tells (.bool (hasP ⟨0, kd, q.1, q.2, 0⟩ 1)) W)) := fun W => cPlace_any ⟨0, kd, q.1, q.2, 0⟩ 1 W
      rw [hasP_there (HAR.out q rfl)] at HP
      cases ht : thereB q.2 kd with
      | false =>
        rw [ht] at HP
        have hV : Hid (V = .tuple #[insV ⟨0, 0, 0, 0, 0⟩, .bool false]) := by
          rw [HV.out]
          show Hid ((match ((if kd = 0 then none else some ⟨0, kd, q.1, q.2, 0⟩ : Option In)).bind (fun i => if thereB i.pl i.kd = true then some i else none) with | some i => Value.tuple #[insV i, .bool true] | none => .tuple #[insV ⟨0, 0, 0, 0, 0⟩, .bool false]) = _)
          rw [if_neg hk]
          show Hid ((match (if thereB q.2 kd = true then some (⟨0, kd, q.1, q.2, 0⟩ : In) else none) with | some i => Value.tuple #[insV i, .bool true] | none => .tuple #[insV ⟨0, 0, 0, 0, 0⟩, .bool false]) = _)
          rw [ht]
          exact Lib.hid rfl
        clear HV
        go_enter Tryz.func63, Tryz.ntmps63
        go_wp2_with fail
        refine (HC.out _ (Keep.env hK.out)).mono ?_
        rintro e w1 ⟨rfl, hb1⟩
        have hX1 := Lib.hid (hX.out.next hb1)
        have hK1 := Lib.hid (hK.out.next hb1)
        clear hb1 hX hK
        go_wp2_with fail
        refine (HS.out _).mono ?_
        rintro e w2 ⟨rfl, hb2⟩
        have hX2 := Lib.hid (hX1.out.next hb2)
        have hK2 := Lib.hid (hK1.out.next hb2)
        clear hb2 hX1 hK1
        go_wp2_with fail
        refine (HM.out _).mono ?_
        rintro e w3 ⟨rfl, hb3⟩
        have hX3 := Lib.hid (hX2.out.next hb3)
        have hK3 := Lib.hid (hK2.out.next hb3)
        clear hb3 hX2 hK2
        have hbx := Lib.hid (box5 w3 ⟨0, kd, q.1, q.2, 0⟩ 34).1
        have hal := (Below.refl w3.heap.size w3).alloc (Nat.le_refl _) (.cells #[.int .i64 0, .int .i64 kd, .int .i64 q.1, .int .i64 q.2, .int .i64 0] 34)
        have hX4 := Lib.hid (hX3.out.next hal)
        have hK4 := Lib.hid (hK3.out.next hal)
        clear hal hX3 hK3
        obtain ⟨d0, d1, d2, d3, d4⟩ := hbx.out
        dsimp only at d0 d1 d2 d3 d4
        generalize hMM : w3.heap.size = MM at *
        go_wp2_with fail
        refine (HP.out _).mono ?_
        rintro e w5 ⟨rfl, hb5⟩
        have hX5 := Lib.hid (hX4.out.next hb5)
        have hK5 := Lib.hid (hK4.out.next hb5)
        replace hbx := Lib.hid (hbx.out.next hb5)
        clear hb5 hX4 hK4 d0 d1 d2 d3 d4
        obtain ⟨d0, d1, d2, d3, d4⟩ := hbx.out
        dsimp only at d0 d1 d2 d3 d4
        obtain ⟨⟨c0, c1, c2, c3, c4⟩, hf⟩ := hX5.out
        dsimp only at c0 c1 c2 c3 c4
        go_wp2
        refine bodyPost_ret (v := V) ?_ rfl ⟨rfl, ?_⟩
        · rw [hV.out]
          exact res_2 Tryz.results63 _ rfl rfl (put5_at hX5.out.1 ⟨0, 0, 0, 0, 0⟩)
        · rw [hNN]
          exact below_put5 (Nat.le_refl _) ⟨0, 0, 0, 0, 0⟩ hK5.out.1.1
      | true =>
        rw [ht] at HP
        have hV : Hid (V = .tuple #[insV ⟨0, kd, q.1, q.2, 0⟩, .bool true]) := by
          rw [HV.out]
          show Hid ((match ((if kd = 0 then none else some ⟨0, kd, q.1, q.2, 0⟩ : Option In)).bind (fun i => if thereB i.pl i.kd = true then some i else none) with | some i => Value.tuple #[insV i, .bool true] | none => .tuple #[insV ⟨0, 0, 0, 0, 0⟩, .bool false]) = _)
          rw [if_neg hk]
          show Hid ((match (if thereB q.2 kd = true then some (⟨0, kd, q.1, q.2, 0⟩ : In) else none) with | some i => Value.tuple #[insV i, .bool true] | none => .tuple #[insV ⟨0, 0, 0, 0, 0⟩, .bool false]) = _)
          rw [ht]
          exact Lib.hid rfl
        clear HV
        go_enter Tryz.func63, Tryz.ntmps63
        go_wp2_with fail
        refine (HC.out _ (Keep.env hK.out)).mono ?_
        rintro e w1 ⟨rfl, hb1⟩
        have hX1 := Lib.hid (hX.out.next hb1)
        have hK1 := Lib.hid (hK.out.next hb1)
        clear hb1 hX hK
        go_wp2_with fail
        refine (HS.out _).mono ?_
        rintro e w2 ⟨rfl, hb2⟩
        have hX2 := Lib.hid (hX1.out.next hb2)
        have hK2 := Lib.hid (hK1.out.next hb2)
        clear hb2 hX1 hK1
        go_wp2_with fail
        refine (HM.out _).mono ?_
        rintro e w3 ⟨rfl, hb3⟩
        have hX3 := Lib.hid (hX2.out.next hb3)
        have hK3 := Lib.hid (hK2.out.next hb3)
        clear hb3 hX2 hK2
        have hbx := Lib.hid (box5 w3 ⟨0, kd, q.1, q.2, 0⟩ 34).1
        have hal := (Below.refl w3.heap.size w3).alloc (Nat.le_refl _) (.cells #[.int .i64 0, .int .i64 kd, .int .i64 q.1, .int .i64 q.2, .int .i64 0] 34)
        have hX4 := Lib.hid (hX3.out.next hal)
        have hK4 := Lib.hid (hK3.out.next hal)
        clear hal hX3 hK3
        obtain ⟨d0, d1, d2, d3, d4⟩ := hbx.out
        dsimp only at d0 d1 d2 d3 d4
        generalize hMM : w3.heap.size = MM at *
        go_wp2_with fail
        refine (HP.out _).mono ?_
        rintro e w5 ⟨rfl, hb5⟩
        have hX5 := Lib.hid (hX4.out.next hb5)
        have hK5 := Lib.hid (hK4.out.next hb5)
        replace hbx := Lib.hid (hbx.out.next hb5)
        clear hb5 hX4 hK4 d0 d1 d2 d3 d4
        obtain ⟨d0, d1, d2, d3, d4⟩ := hbx.out
        dsimp only at d0 d1 d2 d3 d4
        obtain ⟨⟨c0, c1, c2, c3, c4⟩, hf⟩ := hX5.out
        dsimp only at c0 c1 c2 c3 c4
        go_wp2
        refine bodyPost_ret (v := V) ?_ rfl ⟨rfl, ?_⟩
        · rw [hV.out]
          exact res_2 Tryz.results63 _ rfl rfl (put5_at hX5.out.1 ⟨0, kd, q.1, q.2, 0⟩)
        · rw [hNN]
          exact below_put5 (Nat.le_refl _) ⟨0, kd, q.1, q.2, 0⟩ hK5.out.1.1

end Go.Proofs.YtpnjhodpbjhmcaaGreatDoor.Il
