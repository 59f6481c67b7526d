/-
  Reading a frame: the code, walked. Conditions: none.
-/
import Derived.Test.YtindekpmicbbiaaDoorPen
import Derived.Test.YtindekpmicbbiaaDoorOctEyes
namespace Go.Proofs.YtindekpmicbbiaaDoor
open Go.RowKit
open Oct Sums

set_option linter.unusedSimpArgs false
attribute [local go_sem ↓] exec_bd exec_ld exec_st load_row loadVar_row store_row
attribute [local go_sem] bd_0 bd_1 bd_5 bd_6 ld_row st_row set_cell_lt set_cell_gt one_int one_bool one_str row_new ok_new free_new row_old ok_old_iff free_old_iff put_in put_cell_lt put_cell_gt put_frozen row_put_in row_put_lt row_put_gt ok_put_iff free_put_iff put_size row_set_in row_set_lt row_set_gt ok_set_iff free_set_iff drew_cell drew_frozen drew_size row_drew ok_drew free_drew

noncomputable def R1 (l : List UInt8) : Nat := num (got 1 l)
noncomputable def R2 (l : List UInt8) : Nat := num (got 2 l)
noncomputable def R4 (l : List UInt8) : Nat := num (got 4 l)
def D1 (l : List UInt8) : List UInt8 := left 1 l
def D2 (l : List UInt8) : List UInt8 := left 2 l
def D4 (l : List UInt8) : List UInt8 := left 4 l
/-- What stands in the bytes of a frame without their sum. -/
noncomputable def frame10 (l : List UInt8) : List UInt8 := D2 (D2 (D1 (D2 (D2 (D1 (D2 (D1 (D1 (D1 l)))))))))
noncomputable def frameL (l : List UInt8) : Fr :=
  let l2 := D1 (D1 l)
  let l3 := D1 l2
  let l4 := D2 l3
  let l5 := D1 l4
  let l6 := D2 l5
  let l7 := D2 l6
  let l8 := D1 l7
  let l9 := D2 l8
  let l10 := D2 l9
  let f : Fr := ⟨R1 l, R1 l2, R1 l4, R2 l3, R2 l5, R2 l6, R1 l7, R2 l8, R2 l9, 0, 0, 0, false, 0, 0, 0, 0, 0, ⟨#[]⟩⟩
  if R1 l = 3 then { f with hc := R2 l10, ha := R1 (D2 l10), hi := R2 (D1 (D2 l10)), wants := ((R1 (D2 (D1 (D2 l10))) : Int) == 1) }
  else if R1 l = 4 then { f with blk := R1 l10, vinc := R2 (D1 l10), vseq := R4 (D2 (D1 l10)), part := R1 (D4 (D2 (D1 l10))), parts := R1 (D1 (D4 (D2 (D1 l10)))), bytes := S (got ((D1 (D1 (D4 (D2 (D1 l10))))).length : Int) (D1 (D1 (D4 (D2 (D1 l10)))))) }
  else f

def EyeL (W : World) (p : Nat) (l : List UInt8) : Prop := ∃ b, EyeAt W p l b
theorem EyeL.kept {W W' : World} {p q : Nat} {l : List UInt8} (h : EyeL W p l) (k : Nat) (v : Value) (hne : p ≠ q) (e : W' = W.setCell ⟨q, k, none⟩ v) : EyeL W' p l := by
  subst e
  obtain ⟨b, hb⟩ := h
  exact ⟨b, hb.kept (only_set W q k v) (by simpa using hne)⟩
theorem e1 (p : Nat) (l : List UInt8) (W : World) (he : EyeL W p l) : Calls Tryd.prog 56 #[.pointer (some ⟨p, 0, none⟩)] W fun e w' => e = .returned (.int .u8 (R1 l : Int)) ∧ EyeL w' p (D1 l) ∧ W.grownBy w' (some p) := by
  obtain ⟨b, hb⟩ := he; exact (ebyte_any p l b W hb).mono fun _ _ ⟨h1, h2, h3⟩ => ⟨h1, ⟨_, h2⟩, h3⟩
theorem e2 (p : Nat) (l : List UInt8) (W : World) (he : EyeL W p l) : Calls Tryd.prog 57 #[.pointer (some ⟨p, 0, none⟩)] W fun e w' => e = .returned (.int .u16 (R2 l : Int)) ∧ EyeL w' p (D2 l) ∧ W.grownBy w' (some p) := by
  obtain ⟨b, hb⟩ := he; exact (etwo_any p l b W hb).mono fun _ _ ⟨h1, h2, h3⟩ => ⟨h1, ⟨_, h2⟩, h3⟩
theorem e4 (p : Nat) (l : List UInt8) (W : World) (he : EyeL W p l) : Calls Tryd.prog 59 #[.pointer (some ⟨p, 0, none⟩)] W fun e w' => e = .returned (.int .u32 (R4 l : Int)) ∧ EyeL w' p (D4 l) ∧ W.grownBy w' (some p) := by
  obtain ⟨b, hb⟩ := he; exact (efour_any p l b W hb).mono fun _ _ ⟨h1, h2, h3⟩ => ⟨h1, ⟨_, h2⟩, h3⟩
theorem e0 (p : Nat) (l : List UInt8) (W : World) (he : EyeL W p l) : Calls Tryd.prog 61 #[.pointer (some ⟨p, 0, none⟩)] W fun e w' => e = .returned (.int .i64 (l.length : Int)) ∧ W = w' := by
  obtain ⟨b, hb⟩ := he; exact left_any p l b W hb
theorem et (p : Nat) (n : Int) (l : List UInt8) (W : World) (he : EyeL W p l) : Calls Tryd.prog 60 #[.pointer (some ⟨p, 0, none⟩), .int .i64 n] W fun e w' => e = .returned (.string (S (got n l))) ∧ EyeL w' p (left n l) ∧ W.grownBy w' (some p) := by
  obtain ⟨b, hb⟩ := he; exact (take_any p n l b W hb).mono fun _ _ ⟨h1, h2, h3⟩ => ⟨h1, ⟨_, h2⟩, h3⟩
theorem R1_le (l : List UInt8) : (R1 l : Int) ≤ 255 := by have := num_got 1 l 1 (by decide); unfold R1; omega
theorem R2_le (l : List UInt8) : (R2 l : Int) ≤ 65535 := by have := num_got 2 l 2 (by decide); unfold R2; omega
theorem R4_le (l : List UInt8) : (R4 l : Int) ≤ 4294967295 := by have := num_got 4 l 4 (by decide); unfold R4; omega

theorem grown_row {W W' : World} {p n : Nat} (hg : W.grownBy W' (some p)) (hne : n ≠ p) (h : RowOk W n) : RowOk W' n ∧ rowArr W' n = rowArr W n := by
  have hc : ∀ k, k < 19 → W'.cell? ⟨n, k, none⟩ = W.cell? ⟨n, k, none⟩ := fun k hk => by
    obtain ⟨v, hv⟩ := Option.isSome_iff_exists.1 (h k hk)
    rw [hv]; exact hg.cell hv (by simpa using hne)
  have hok : RowOk W' n := fun k hk => by rw [hc k hk]; exact h k hk
  exact ⟨hok, rowArr_ext (rowArr_size W n) fun k hk => by rw [hc k hk, rowArr_at W n k hk h]⟩
theorem grown_free {W W' : World} {p n : Nat} (hg : W.grownBy W' (some p)) (hne : n ≠ p) (h : RowFree W n) : RowFree W' n :=
  ⟨(grown_row hg hne h.1).1, fun k hk => by
    obtain ⟨v, hv⟩ := Option.isSome_iff_exists.1 (h.1 k hk)
    rw [World.frozen?_of_block (w := W) (a := ⟨n, k, none⟩) (hg.block n (World.block_lt_of_cell? W ⟨n, k, none⟩ hv) (by simpa using hne))]
    exact h.2 k hk⟩

theorem grown_new {w W : World} {row : Option Nat} {n : Nat} (h : w.grownBy W row) (hn : w.heap.size ≤ n) (k : Nat) (v : Value) : w.grownBy (W.setCell ⟨n, k, none⟩ v) row := by
  have hb := (Below.refl w.heap.size W).setCell (p := ⟨n, k, none⟩) hn v
  exact ⟨hb.os.trans h.os, hb.tape.trans h.tape, hb.output.trans h.output, Nat.le_trans h.size hb.size, fun i hi hne => (hb.block i hi).trans (h.block i hi hne)⟩

/-- Where a reading of a frame stands. -/
def RD (w : World) (N q p : Nat) (c : Array Value) (l : List UInt8) (W : World) : Prop :=
  RowFree W N ∧ RowFree W q ∧ rowArr W q = c ∧ EyeL W p l ∧ Below N w W ∧ N < q ∧ N < p ∧ p ≠ q ∧ N < W.heap.size
theorem RD.set {w W : World} {N q p : Nat} {c : Array Value} {l : List UInt8} (h : RD w N q p c l W) (k : Nat) (hk : k < 19) (v : Value) : RD w N q p (c.setIfInBounds k v) l (W.setCell ⟨q, k, none⟩ v) := by
  obtain ⟨h1, h2, h3, h4, h5, h6, h7, h8, h9⟩ := h
  exact ⟨free_set _ _ _ _ _ h1, free_set _ _ _ _ _ h2, by rw [row_set _ _ _ _ h2.1 hk, h3], h4.kept k v h8 rfl, below_set (Nat.le_of_lt h6) _ _ h5, h6, h7, h8, by simpa using h9⟩
theorem RD.eye {w W W' : World} {N q p : Nat} {c : Array Value} {l l' : List UInt8} (h : RD w N q p c l W) (he : EyeL W' p l') (hg : W.grownBy W' (some p)) : RD w N q p c l' W' := by
  obtain ⟨h1, h2, h3, h4, h5, h6, h7, h8, h9⟩ := h
  exact ⟨grown_free hg (Nat.ne_of_lt h7) h1, grown_free hg h8.symm h2, (grown_row hg h8.symm h2.1).2.trans h3, he, h5.trans (below_only hg (Nat.le_of_lt h7) (Nat.le_of_lt h9)), h6, h7, h8, Nat.lt_of_lt_of_le h9 hg.size⟩

set_option maxRecDepth 100000 in
set_option maxHeartbeats 4000000 in
theorem readEpoch_any (p : Nat) (l : List UInt8) (w : World) (he : EyeL w p l) : Calls Tryd.prog 58 #[.pointer (some ⟨p, 0, none⟩)] w fun e w' => e = .returned (.agg #[.int .u16 (R2 l : Int), .int .u8 (R1 (D2 l) : Int), .int .u16 (R2 (D1 (D2 l)) : Int)]) ∧ EyeL w' p (D2 (D1 (D2 l))) ∧ w.grownBy w' (some p) := by
  obtain ⟨b0, hb0⟩ := he
  have hp : p < w.heap.size := hb0.lt
  go_enter Tryd.func58, Tryd.ntmps58
  go_wp2_with fail
  refine world_cut (G := fun W => Calls _ _ _ W _) (fun W => Blk W w.heap.size #[.int .u16 0, .int .u8 0, .int .u16 0] 24 ∧ (∀ k, W.frozen? ⟨w.heap.size, k, none⟩ = false) ∧ EyeL W p l ∧ w.grownBy W (some p)) ⟨blk_new _ _ _, fun k => World.frozen?_alloc_new _ _ _ _, ⟨b0, hb0.kept (only_below ((Below.refl _ _).alloc (Nat.le_refl _) _) none) (by simp)⟩, only_below ((Below.refl _ _).alloc (Nat.le_refl _) _) _⟩ ?_
  rintro W ⟨hb, hf, he, hg⟩
  have hne : w.heap.size ≠ p := Nat.ne_of_gt hp
  have HN := Lib.hid (Nat.le_refl w.heap.size)
  generalize hn : w.heap.size = n at HN hb hf hne ⊢
  replace HN := Lib.hid hn
  clear hn
  refine (e2 p l W he).mono ?_
  rintro e w1 ⟨rfl, he1, hg1⟩
  go_wp2_with fail
  refine (e1 p _ w1 he1).mono ?_
  rintro e w2 ⟨rfl, he2, hg2⟩
  go_wp2_with fail
  refine (e2 p _ w2 he2).mono ?_
  rintro e w3 ⟨rfl, he3, hg3⟩
  have hG := only_trans hg1 (only_trans hg2 hg3)
  have hlt : n < W.heap.size := by
    unfold Blk at hb; exact (Array.getElem?_eq_some_iff.1 hb).1
  have hB := hG.block n hlt (by simpa using hne)
  have x0 : w3.cell? ⟨n, 0, none⟩ = some (.int .u16 0) := hG.cell (hb.cell 0 _ rfl) (by simpa using hne)
  have x1 : w3.cell? ⟨n, 1, none⟩ = some (.int .u8 0) := hG.cell (hb.cell 1 _ rfl) (by simpa using hne)
  have x2 : w3.cell? ⟨n, 2, none⟩ = some (.int .u16 0) := hG.cell (hb.cell 2 _ rfl) (by simpa using hne)
  have g0 : w3.frozen? ⟨n, 0, none⟩ = false := (World.frozen?_of_block (a := ⟨n, 0, none⟩) hB).trans (hf 0)
  have g1 : w3.frozen? ⟨n, 1, none⟩ = false := (World.frozen?_of_block (a := ⟨n, 1, none⟩) hB).trans (hf 1)
  have g2 : w3.frozen? ⟨n, 2, none⟩ = false := (World.frozen?_of_block (a := ⟨n, 2, none⟩) hB).trans (hf 2)
  clear hb hf
  go_wp2
  refine bodyPost_ret (v := .agg #[.int .u16 (R2 l : Int), .int .u8 (R1 (D2 l) : Int), .int .u16 (R2 (D1 (D2 l)) : Int)]) (by simp [results, Tryd.results58, go_sem, *]) rfl ⟨rfl, ?_, ?_⟩
  · exact ((he3.kept 0 _ hne.symm rfl).kept 1 _ hne.symm rfl).kept 2 _ hne.symm rfl
  · have hn := Nat.le_of_eq HN.out
    exact grown_new (grown_new (grown_new (only_trans hg hG) hn 0 _) hn 1 _) hn 2 _

theorem sets_only (b : Nat) : ∀ (l : List Value) (o : Nat) (W : World), W.grownBy (W.setCells b o l) (some b)
  | [], _, _ => only_refl _ _
  | v :: r, o, W => only_trans (only_set W b o v) (sets_only b r (o + 1) _)
theorem below_put_only (W : World) (n : Nat) (c : Array Value) : W.grownBy (put29 W n c) (some n) := sets_only n _ 0 W

set_option maxRecDepth 100000 in
set_option maxHeartbeats 4000000 in
theorem read_plain (s : ByteArray) (w : World) (h3 : ¬ R1 s.data.toList = 3) (h4 : ¬ R1 s.data.toList = 4) : Calls Tryd.prog 43 #[.string s] w fun e w' => e = .returned (.agg #[.int .i64 (frameL s.data.toList).kind, .int .u8 (frameL s.data.toList).src, .int .u8 (frameL s.data.toList).dst, .int .u16 (frameL s.data.toList).sinc, .int .u16 (frameL s.data.toList).dinc, .int .u16 (frameL s.data.toList).ec, .int .u8 (frameL s.data.toList).ea, .int .u16 (frameL s.data.toList).ei, .int .u16 (frameL s.data.toList).hop, .int .u16 (frameL s.data.toList).hc, .int .u8 (frameL s.data.toList).ha, .int .u16 (frameL s.data.toList).hi, .bool (frameL s.data.toList).wants, .int .u8 (frameL s.data.toList).blk, .int .u16 (frameL s.data.toList).vinc, .int .u32 (frameL s.data.toList).vseq, .int .u8 (frameL s.data.toList).part, .int .u8 (frameL s.data.toList).parts, .string (frameL s.data.toList).bytes]) ∧ Below w.heap.size w w' := by
  have hF : Hid (frameL s.data.toList = ⟨R1 s.data.toList, R1 (D1 (D1 s.data.toList)), R1 (D2 (D1 (D1 (D1 s.data.toList)))), R2 (D1 (D1 (D1 s.data.toList))), R2 (D1 (D2 (D1 (D1 (D1 s.data.toList))))), R2 (D2 (D1 (D2 (D1 (D1 (D1 s.data.toList)))))), R1 (D2 (D2 (D1 (D2 (D1 (D1 (D1 s.data.toList))))))), R2 (D1 (D2 (D2 (D1 (D2 (D1 (D1 (D1 s.data.toList)))))))), R2 (D2 (D1 (D2 (D2 (D1 (D2 (D1 (D1 (D1 s.data.toList))))))))), 0, 0, 0, false, 0, 0, 0, 0, 0, ⟨#[]⟩⟩) := Lib.hid (by unfold frameL; simp only [if_neg h3, if_neg h4])
  have d3 : ((R1 s.data.toList : Int) == 3) = false := by simp; omega
  have d4 : ((R1 s.data.toList : Int) == 4) = false := by simp; omega
  clear h3 h4
  go_enter Tryd.func43, Tryd.ntmps43
  go_wp2_with fail
  refine (neweye_any s _).mono ?_
  rintro e w1 ⟨rfl, he, hb⟩
  have hN : RowFree (w.alloc (.cells #[.int .i64 0, .int .u8 0, .int .u8 0, .int .u16 0, .int .u16 0, .int .u16 0, .int .u8 0, .int .u16 0, .int .u16 0, .int .u16 0, .int .u8 0, .int .u16 0, .bool false, .int .u8 0, .int .u16 0, .int .u32 0, .int .u8 0, .int .u8 0, .string ⟨#[]⟩] 29)) w.heap.size := free_new _ _ _ _ rfl rfl
  have hN1 : RowFree w1 w.heap.size := by
    have h1 := row_below hb hN.1
    exact ⟨h1.1, fun k hk => by rw [hb.frozen (p := ⟨w.heap.size, k, none⟩) (by simp)]; exact hN.2 k hk⟩
  have hbel : Below w.heap.size w w1 := ((Below.refl _ _).alloc (Nat.le_refl _) _).trans (hb.mono (by simp))
  have hsz : w.heap.size < (w.alloc (.cells #[.int .i64 0, .int .u8 0, .int .u8 0, .int .u16 0, .int .u16 0, .int .u16 0, .int .u8 0, .int .u16 0, .int .u16 0, .int .u16 0, .int .u8 0, .int .u16 0, .bool false, .int .u8 0, .int .u16 0, .int .u32 0, .int .u8 0, .int .u8 0, .string ⟨#[]⟩] 29)).heap.size := by simp
  have he0 : EyeL w1 _ s.data.toList := ⟨false, he⟩
  have hp1 : (w.alloc (.cells #[.int .i64 0, .int .u8 0, .int .u8 0, .int .u16 0, .int .u16 0, .int .u16 0, .int .u8 0, .int .u16 0, .int .u16 0, .int .u16 0, .int .u8 0, .int .u16 0, .bool false, .int .u8 0, .int .u16 0, .int .u32 0, .int .u8 0, .int .u8 0, .string ⟨#[]⟩] 29)).heap.size < w1.heap.size := he.lt
  clear hN he hb
  generalize (w.alloc (.cells #[.int .i64 0, .int .u8 0, .int .u8 0, .int .u16 0, .int .u16 0, .int .u16 0, .int .u8 0, .int .u16 0, .int .u16 0, .int .u16 0, .int .u8 0, .int .u16 0, .bool false, .int .u8 0, .int .u16 0, .int .u32 0, .int .u8 0, .int .u8 0, .string ⟨#[]⟩] 29)).heap.size = p at *
  generalize hl : s.data.toList = l at *
  have HL := Lib.hid hl
  clear hl
  generalize hn : w.heap.size = N at *
  have HN := Lib.hid hn
  clear hn
  go_wp2_with fail
  refine (e1 p l _ he0).mono ?_
  rintro e w2 ⟨rfl, he, hg⟩
  have hM : RowFree w2 N := grown_free hg (Nat.ne_of_lt hsz) hN1
  have hB : Below N w w2 := hbel.trans (below_only hg (Nat.le_of_lt hsz) (by omega))
  have hp2 : p < w2.heap.size := Nat.lt_of_lt_of_le hp1 hg.size
  have hw := show IntKind.i64.wrap (R1 l : Int) = (R1 l : Int) from by have := R1_le l; rw [IntKind.wrap_i64]; omega
  clear he0 hg hN1 hbel hp1
  go_wp2_with fail
  refine world_cut (G := fun W => Calls _ _ _ W _) (fun W => RD w N w2.heap.size p #[.int .i64 (R1 l : Int), .int .u8 0, .int .u8 0, .int .u16 0, .int .u16 0, .int .u16 0, .int .u8 0, .int .u16 0, .int .u16 0, .int .u16 0, .int .u8 0, .int .u16 0, .bool false, .int .u8 0, .int .u16 0, .int .u32 0, .int .u8 0, .int .u8 0, .string ⟨#[]⟩] (D1 l) W) (by
    refine ⟨?_, ?_, ?_, ?_, ?_, ?_, ?_, ?_, ?_⟩
    · rw [free_put_iff, free_old_iff _ _ _ (by omega)]; exact hM
    · rw [free_put_iff]; exact free_new _ _ _ _ rfl rfl
    · exact row_put _ _ _ (ok_new _ _ _ _ rfl rfl) rfl
    · obtain ⟨b0, hb0⟩ := he
      exact ⟨b0, (hb0.kept (only_below ((Below.refl _ _).alloc (Nat.le_refl _) _) none) (by simp)).kept (below_put_only _ _ _) (by simp; omega)⟩
    · exact below_put (by omega) _ (below_new hB (by omega) _)
    · omega
    · exact hsz
    · omega
    · rw [put_size]; simp; omega) ?_
  clear hM hB he hw
  rintro w3 hR
  generalize w2.heap.size = q at *
  refine (e1 p (D1 l) _ hR.2.2.2.1).mono ?_
  rintro e w4 ⟨rfl, he, hg⟩
  have hR2 := hR.eye he hg
  clear hR he hg
  have hR := hR2
  clear hR2
  go_wp2_with fail
  refine (e1 p (D1 (D1 l)) _ hR.2.2.2.1).mono ?_
  rintro e w5 ⟨rfl, he, hg⟩
  have hR2 := hR.eye he hg
  clear hR he hg
  have hR := hR2
  clear hR2
  go_wp2_with fail
  refine (e2 p (D1 (D1 (D1 l))) _ hR.2.2.2.1).mono ?_
  rintro e w6 ⟨rfl, he, hg⟩
  have hR2 := hR.eye he hg
  clear hR he hg
  have hR := hR2
  clear hR2
  have y1 := cell_of hR.2.1.1 hR.2.2.1 1 (.int .u8 0) rfl
  have g1 := hR.2.1.2 1 (by decide)
  have y3 := cell_of hR.2.1.1 hR.2.2.1 3 (.int .u16 0) rfl
  have g3 := hR.2.1.2 3 (by decide)
  go_wp2_with fail
  clear y1 g1 y3 g3
  refine world_cut (G := fun W => Calls _ _ _ W _) (fun W => RD w N q p #[.int .i64 (R1 l : Int), .int .u8 (R1 (D1 (D1 l)) : Int), .int .u8 0, .int .u16 (R2 (D1 (D1 (D1 l))) : Int), .int .u16 0, .int .u16 0, .int .u8 0, .int .u16 0, .int .u16 0, .int .u16 0, .int .u8 0, .int .u16 0, .bool false, .int .u8 0, .int .u16 0, .int .u32 0, .int .u8 0, .int .u8 0, .string ⟨#[]⟩] (D2 (D1 (D1 (D1 l)))) W) (show RD w N q p _ _ _ from ((((hR).set 1 (by decide) (.int .u8 (R1 (D1 (D1 l)) : Int)))).set 3 (by decide) (.int .u16 (R2 (D1 (D1 (D1 l))) : Int)))) ?_
  clear hR
  rintro w7 hR
  refine (e1 p (D2 (D1 (D1 (D1 l)))) _ hR.2.2.2.1).mono ?_
  rintro e w8 ⟨rfl, he, hg⟩
  have hR2 := hR.eye he hg
  clear hR he hg
  have hR := hR2
  clear hR2
  go_wp2_with fail
  refine (e2 p (D1 (D2 (D1 (D1 (D1 l))))) _ hR.2.2.2.1).mono ?_
  rintro e w9 ⟨rfl, he, hg⟩
  have hR2 := hR.eye he hg
  clear hR he hg
  have hR := hR2
  clear hR2
  have y2 := cell_of hR.2.1.1 hR.2.2.1 2 (.int .u8 0) rfl
  have g2 := hR.2.1.2 2 (by decide)
  have y4 := cell_of hR.2.1.1 hR.2.2.1 4 (.int .u16 0) rfl
  have g4 := hR.2.1.2 4 (by decide)
  go_wp2_with fail
  clear y2 g2 y4 g4
  refine world_cut (G := fun W => Calls _ _ _ W _) (fun W => RD w N q p #[.int .i64 (R1 l : Int), .int .u8 (R1 (D1 (D1 l)) : Int), .int .u8 (R1 (D2 (D1 (D1 (D1 l)))) : Int), .int .u16 (R2 (D1 (D1 (D1 l))) : Int), .int .u16 (R2 (D1 (D2 (D1 (D1 (D1 l))))) : Int), .int .u16 0, .int .u8 0, .int .u16 0, .int .u16 0, .int .u16 0, .int .u8 0, .int .u16 0, .bool false, .int .u8 0, .int .u16 0, .int .u32 0, .int .u8 0, .int .u8 0, .string ⟨#[]⟩] (D2 (D1 (D2 (D1 (D1 (D1 l)))))) W) (show RD w N q p _ _ _ from ((((hR).set 2 (by decide) (.int .u8 (R1 (D2 (D1 (D1 (D1 l)))) : Int)))).set 4 (by decide) (.int .u16 (R2 (D1 (D2 (D1 (D1 (D1 l))))) : Int)))) ?_
  clear hR
  rintro w10 hR
  refine (readEpoch_any p (D2 (D1 (D2 (D1 (D1 (D1 l)))))) _ hR.2.2.2.1).mono ?_
  rintro e w11 ⟨rfl, he, hg⟩
  have hR2 := hR.eye he hg
  clear hR he hg
  have hR := hR2
  clear hR2
  have y5 := cell_of hR.2.1.1 hR.2.2.1 5 (.int .u16 0) rfl
  have g5 := hR.2.1.2 5 (by decide)
  have y6 := cell_of hR.2.1.1 hR.2.2.1 6 (.int .u8 0) rfl
  have g6 := hR.2.1.2 6 (by decide)
  have y7 := cell_of hR.2.1.1 hR.2.2.1 7 (.int .u16 0) rfl
  have g7 := hR.2.1.2 7 (by decide)
  go_wp2_with fail
  clear y5 g5 y6 g6 y7 g7
  refine world_cut (G := fun W => Calls _ _ _ W _) (fun W => RD w N q p #[.int .i64 (R1 l : Int), .int .u8 (R1 (D1 (D1 l)) : Int), .int .u8 (R1 (D2 (D1 (D1 (D1 l)))) : Int), .int .u16 (R2 (D1 (D1 (D1 l))) : Int), .int .u16 (R2 (D1 (D2 (D1 (D1 (D1 l))))) : Int), .int .u16 (R2 (D2 (D1 (D2 (D1 (D1 (D1 l)))))) : Int), .int .u8 (R1 (D2 (D2 (D1 (D2 (D1 (D1 (D1 l))))))) : Int), .int .u16 (R2 (D1 (D2 (D2 (D1 (D2 (D1 (D1 (D1 l)))))))) : Int), .int .u16 0, .int .u16 0, .int .u8 0, .int .u16 0, .bool false, .int .u8 0, .int .u16 0, .int .u32 0, .int .u8 0, .int .u8 0, .string ⟨#[]⟩] (D2 (D1 (D2 (D2 (D1 (D2 (D1 (D1 (D1 l))))))))) W) (show RD w N q p _ _ _ from ((((((hR).set 5 (by decide) (.int .u16 (R2 (D2 (D1 (D2 (D1 (D1 (D1 l)))))) : Int)))).set 6 (by decide) (.int .u8 (R1 (D2 (D2 (D1 (D2 (D1 (D1 (D1 l))))))) : Int)))).set 7 (by decide) (.int .u16 (R2 (D1 (D2 (D2 (D1 (D2 (D1 (D1 (D1 l)))))))) : Int)))) ?_
  clear hR
  rintro w12 hR
  refine (e2 p (D2 (D1 (D2 (D2 (D1 (D2 (D1 (D1 (D1 l))))))))) _ hR.2.2.2.1).mono ?_
  rintro e w13 ⟨rfl, he, hg⟩
  have hR2 := hR.eye he hg
  clear hR he hg
  have hR := hR2
  clear hR2
  have y8 := cell_of hR.2.1.1 hR.2.2.1 8 (.int .u16 0) rfl
  have g8 := hR.2.1.2 8 (by decide)
  have y0 := cell_of hR.2.1.1 hR.2.2.1 0 (.int .i64 (R1 l : Int)) rfl
  have g0 := hR.2.1.2 0 (by decide)
  have hk := hR.2.1.1
  have hr := hR.2.2.1
  have hf := hR.1
  have hfk := hR.1.1
  have hlt := hR.2.2.2.2.2.1
  go_wp2
  refine bodyPost_ret (v := .agg #[.int .i64 (R1 l : Int), .int .u8 (R1 (D1 (D1 l)) : Int), .int .u8 (R1 (D2 (D1 (D1 (D1 l)))) : Int), .int .u16 (R2 (D1 (D1 (D1 l))) : Int), .int .u16 (R2 (D1 (D2 (D1 (D1 (D1 l))))) : Int), .int .u16 (R2 (D2 (D1 (D2 (D1 (D1 (D1 l)))))) : Int), .int .u8 (R1 (D2 (D2 (D1 (D2 (D1 (D1 (D1 l))))))) : Int), .int .u16 (R2 (D1 (D2 (D2 (D1 (D2 (D1 (D1 (D1 l)))))))) : Int), .int .u16 (R2 (D2 (D1 (D2 (D2 (D1 (D2 (D1 (D1 (D1 l))))))))) : Int), .int .u16 0, .int .u8 0, .int .u16 0, .bool false, .int .u8 0, .int .u16 0, .int .u32 0, .int .u8 0, .int .u8 0, .string ⟨#[]⟩]) (results_29 Tryd.results43 _ _ N _ rfl (by go_simp) (by go_simp)) rfl ⟨?_, ?_⟩
  · rw [HL.out, hF.out]
    simp
  · rw [HN.out]
    exact below_put (Nat.le_refl _) _ (below_set (Nat.le_of_lt hlt) _ _ hR.2.2.2.2.1)


set_option maxRecDepth 100000 in
set_option maxHeartbeats 4000000 in
theorem read_status (s : ByteArray) (w : World) (h3 : R1 s.data.toList = 3) : Calls Tryd.prog 43 #[.string s] w fun e w' => e = .returned (.agg #[.int .i64 (frameL s.data.toList).kind, .int .u8 (frameL s.data.toList).src, .int .u8 (frameL s.data.toList).dst, .int .u16 (frameL s.data.toList).sinc, .int .u16 (frameL s.data.toList).dinc, .int .u16 (frameL s.data.toList).ec, .int .u8 (frameL s.data.toList).ea, .int .u16 (frameL s.data.toList).ei, .int .u16 (frameL s.data.toList).hop, .int .u16 (frameL s.data.toList).hc, .int .u8 (frameL s.data.toList).ha, .int .u16 (frameL s.data.toList).hi, .bool (frameL s.data.toList).wants, .int .u8 (frameL s.data.toList).blk, .int .u16 (frameL s.data.toList).vinc, .int .u32 (frameL s.data.toList).vseq, .int .u8 (frameL s.data.toList).part, .int .u8 (frameL s.data.toList).parts, .string (frameL s.data.toList).bytes]) ∧ Below w.heap.size w w' := by
  have hF : Hid (frameL s.data.toList = ⟨R1 s.data.toList, R1 (D1 (D1 s.data.toList)), R1 (D2 (D1 (D1 (D1 s.data.toList)))), R2 (D1 (D1 (D1 s.data.toList))), R2 (D1 (D2 (D1 (D1 (D1 s.data.toList))))), R2 (D2 (D1 (D2 (D1 (D1 (D1 s.data.toList)))))), R1 (D2 (D2 (D1 (D2 (D1 (D1 (D1 s.data.toList))))))), R2 (D1 (D2 (D2 (D1 (D2 (D1 (D1 (D1 s.data.toList)))))))), R2 (D2 (D1 (D2 (D2 (D1 (D2 (D1 (D1 (D1 s.data.toList))))))))), R2 (D2 (D2 (D1 (D2 (D2 (D1 (D2 (D1 (D1 (D1 s.data.toList)))))))))), R1 (D2 (D2 (D2 (D1 (D2 (D2 (D1 (D2 (D1 (D1 (D1 s.data.toList))))))))))), R2 (D1 (D2 (D2 (D2 (D1 (D2 (D2 (D1 (D2 (D1 (D1 (D1 s.data.toList)))))))))))), ((R1 (D2 (D1 (D2 (D2 (D2 (D1 (D2 (D2 (D1 (D2 (D1 (D1 (D1 s.data.toList))))))))))))) : Int) == 1), 0, 0, 0, 0, 0, ⟨#[]⟩⟩) := Lib.hid (by unfold frameL; simp only [if_pos h3])
  have d3 : ((R1 s.data.toList : Int) == 3) = true := by simp; omega
  clear h3
  go_enter Tryd.func43, Tryd.ntmps43
  go_wp2_with fail
  refine (neweye_any s _).mono ?_
  rintro e w1 ⟨rfl, he, hb⟩
  have hN : RowFree (w.alloc (.cells #[.int .i64 0, .int .u8 0, .int .u8 0, .int .u16 0, .int .u16 0, .int .u16 0, .int .u8 0, .int .u16 0, .int .u16 0, .int .u16 0, .int .u8 0, .int .u16 0, .bool false, .int .u8 0, .int .u16 0, .int .u32 0, .int .u8 0, .int .u8 0, .string ⟨#[]⟩] 29)) w.heap.size := free_new _ _ _ _ rfl rfl
  have hN1 : RowFree w1 w.heap.size := by
    have h1 := row_below hb hN.1
    exact ⟨h1.1, fun k hk => by rw [hb.frozen (p := ⟨w.heap.size, k, none⟩) (by simp)]; exact hN.2 k hk⟩
  have hbel : Below w.heap.size w w1 := ((Below.refl _ _).alloc (Nat.le_refl _) _).trans (hb.mono (by simp))
  have hsz : w.heap.size < (w.alloc (.cells #[.int .i64 0, .int .u8 0, .int .u8 0, .int .u16 0, .int .u16 0, .int .u16 0, .int .u8 0, .int .u16 0, .int .u16 0, .int .u16 0, .int .u8 0, .int .u16 0, .bool false, .int .u8 0, .int .u16 0, .int .u32 0, .int .u8 0, .int .u8 0, .string ⟨#[]⟩] 29)).heap.size := by simp
  have he0 : EyeL w1 _ s.data.toList := ⟨false, he⟩
  have hp1 : (w.alloc (.cells #[.int .i64 0, .int .u8 0, .int .u8 0, .int .u16 0, .int .u16 0, .int .u16 0, .int .u8 0, .int .u16 0, .int .u16 0, .int .u16 0, .int .u8 0, .int .u16 0, .bool false, .int .u8 0, .int .u16 0, .int .u32 0, .int .u8 0, .int .u8 0, .string ⟨#[]⟩] 29)).heap.size < w1.heap.size := he.lt
  clear hN he hb
  generalize (w.alloc (.cells #[.int .i64 0, .int .u8 0, .int .u8 0, .int .u16 0, .int .u16 0, .int .u16 0, .int .u8 0, .int .u16 0, .int .u16 0, .int .u16 0, .int .u8 0, .int .u16 0, .bool false, .int .u8 0, .int .u16 0, .int .u32 0, .int .u8 0, .int .u8 0, .string ⟨#[]⟩] 29)).heap.size = p at *
  generalize hl : s.data.toList = l at *
  have HL := Lib.hid hl
  clear hl
  generalize hn : w.heap.size = N at *
  have HN := Lib.hid hn
  clear hn
  go_wp2_with fail
  refine (e1 p l _ he0).mono ?_
  rintro e w2 ⟨rfl, he, hg⟩
  have hM : RowFree w2 N := grown_free hg (Nat.ne_of_lt hsz) hN1
  have hB : Below N w w2 := hbel.trans (below_only hg (Nat.le_of_lt hsz) (by omega))
  have hp2 : p < w2.heap.size := Nat.lt_of_lt_of_le hp1 hg.size
  have hw := show IntKind.i64.wrap (R1 l : Int) = (R1 l : Int) from by have := R1_le l; rw [IntKind.wrap_i64]; omega
  clear he0 hg hN1 hbel hp1
  go_wp2_with fail
  refine world_cut (G := fun W => Calls _ _ _ W _) (fun W => RD w N w2.heap.size p #[.int .i64 (R1 l : Int), .int .u8 0, .int .u8 0, .int .u16 0, .int .u16 0, .int .u16 0, .int .u8 0, .int .u16 0, .int .u16 0, .int .u16 0, .int .u8 0, .int .u16 0, .bool false, .int .u8 0, .int .u16 0, .int .u32 0, .int .u8 0, .int .u8 0, .string ⟨#[]⟩] (D1 l) W) (by
    refine ⟨?_, ?_, ?_, ?_, ?_, ?_, ?_, ?_, ?_⟩
    · rw [free_put_iff, free_old_iff _ _ _ (by omega)]; exact hM
    · rw [free_put_iff]; exact free_new _ _ _ _ rfl rfl
    · exact row_put _ _ _ (ok_new _ _ _ _ rfl rfl) rfl
    · obtain ⟨b0, hb0⟩ := he
      exact ⟨b0, (hb0.kept (only_below ((Below.refl _ _).alloc (Nat.le_refl _) _) none) (by simp)).kept (below_put_only _ _ _) (by simp; omega)⟩
    · exact below_put (by omega) _ (below_new hB (by omega) _)
    · omega
    · exact hsz
    · omega
    · rw [put_size]; simp; omega) ?_
  clear hM hB he hw
  rintro w3 hR
  generalize w2.heap.size = q at *
  refine (e1 p (D1 l) _ hR.2.2.2.1).mono ?_
  rintro e w4 ⟨rfl, he, hg⟩
  have hR2 := hR.eye he hg
  clear hR he hg
  have hR := hR2
  clear hR2
  go_wp2_with fail
  refine (e1 p (D1 (D1 l)) _ hR.2.2.2.1).mono ?_
  rintro e w5 ⟨rfl, he, hg⟩
  have hR2 := hR.eye he hg
  clear hR he hg
  have hR := hR2
  clear hR2
  go_wp2_with fail
  refine (e2 p (D1 (D1 (D1 l))) _ hR.2.2.2.1).mono ?_
  rintro e w6 ⟨rfl, he, hg⟩
  have hR2 := hR.eye he hg
  clear hR he hg
  have hR := hR2
  clear hR2
  have y1 := cell_of hR.2.1.1 hR.2.2.1 1 (.int .u8 0) rfl
  have g1 := hR.2.1.2 1 (by decide)
  have y3 := cell_of hR.2.1.1 hR.2.2.1 3 (.int .u16 0) rfl
  have g3 := hR.2.1.2 3 (by decide)
  go_wp2_with fail
  clear y1 g1 y3 g3
  refine world_cut (G := fun W => Calls _ _ _ W _) (fun W => RD w N q p #[.int .i64 (R1 l : Int), .int .u8 (R1 (D1 (D1 l)) : Int), .int .u8 0, .int .u16 (R2 (D1 (D1 (D1 l))) : Int), .int .u16 0, .int .u16 0, .int .u8 0, .int .u16 0, .int .u16 0, .int .u16 0, .int .u8 0, .int .u16 0, .bool false, .int .u8 0, .int .u16 0, .int .u32 0, .int .u8 0, .int .u8 0, .string ⟨#[]⟩] (D2 (D1 (D1 (D1 l)))) W) (show RD w N q p _ _ _ from ((((hR).set 1 (by decide) (.int .u8 (R1 (D1 (D1 l)) : Int)))).set 3 (by decide) (.int .u16 (R2 (D1 (D1 (D1 l))) : Int)))) ?_
  clear hR
  rintro w7 hR
  refine (e1 p (D2 (D1 (D1 (D1 l)))) _ hR.2.2.2.1).mono ?_
  rintro e w8 ⟨rfl, he, hg⟩
  have hR2 := hR.eye he hg
  clear hR he hg
  have hR := hR2
  clear hR2
  go_wp2_with fail
  refine (e2 p (D1 (D2 (D1 (D1 (D1 l))))) _ hR.2.2.2.1).mono ?_
  rintro e w9 ⟨rfl, he, hg⟩
  have hR2 := hR.eye he hg
  clear hR he hg
  have hR := hR2
  clear hR2
  have y2 := cell_of hR.2.1.1 hR.2.2.1 2 (.int .u8 0) rfl
  have g2 := hR.2.1.2 2 (by decide)
  have y4 := cell_of hR.2.1.1 hR.2.2.1 4 (.int .u16 0) rfl
  have g4 := hR.2.1.2 4 (by decide)
  go_wp2_with fail
  clear y2 g2 y4 g4
  refine world_cut (G := fun W => Calls _ _ _ W _) (fun W => RD w N q p #[.int .i64 (R1 l : Int), .int .u8 (R1 (D1 (D1 l)) : Int), .int .u8 (R1 (D2 (D1 (D1 (D1 l)))) : Int), .int .u16 (R2 (D1 (D1 (D1 l))) : Int), .int .u16 (R2 (D1 (D2 (D1 (D1 (D1 l))))) : Int), .int .u16 0, .int .u8 0, .int .u16 0, .int .u16 0, .int .u16 0, .int .u8 0, .int .u16 0, .bool false, .int .u8 0, .int .u16 0, .int .u32 0, .int .u8 0, .int .u8 0, .string ⟨#[]⟩] (D2 (D1 (D2 (D1 (D1 (D1 l)))))) W) (show RD w N q p _ _ _ from ((((hR).set 2 (by decide) (.int .u8 (R1 (D2 (D1 (D1 (D1 l)))) : Int)))).set 4 (by decide) (.int .u16 (R2 (D1 (D2 (D1 (D1 (D1 l))))) : Int)))) ?_
  clear hR
  rintro w10 hR
  refine (readEpoch_any p (D2 (D1 (D2 (D1 (D1 (D1 l)))))) _ hR.2.2.2.1).mono ?_
  rintro e w11 ⟨rfl, he, hg⟩
  have hR2 := hR.eye he hg
  clear hR he hg
  have hR := hR2
  clear hR2
  have y5 := cell_of hR.2.1.1 hR.2.2.1 5 (.int .u16 0) rfl
  have g5 := hR.2.1.2 5 (by decide)
  have y6 := cell_of hR.2.1.1 hR.2.2.1 6 (.int .u8 0) rfl
  have g6 := hR.2.1.2 6 (by decide)
  have y7 := cell_of hR.2.1.1 hR.2.2.1 7 (.int .u16 0) rfl
  have g7 := hR.2.1.2 7 (by decide)
  go_wp2_with fail
  clear y5 g5 y6 g6 y7 g7
  refine world_cut (G := fun W => Calls _ _ _ W _) (fun W => RD w N q p #[.int .i64 (R1 l : Int), .int .u8 (R1 (D1 (D1 l)) : Int), .int .u8 (R1 (D2 (D1 (D1 (D1 l)))) : Int), .int .u16 (R2 (D1 (D1 (D1 l))) : Int), .int .u16 (R2 (D1 (D2 (D1 (D1 (D1 l))))) : Int), .int .u16 (R2 (D2 (D1 (D2 (D1 (D1 (D1 l)))))) : Int), .int .u8 (R1 (D2 (D2 (D1 (D2 (D1 (D1 (D1 l))))))) : Int), .int .u16 (R2 (D1 (D2 (D2 (D1 (D2 (D1 (D1 (D1 l)))))))) : Int), .int .u16 0, .int .u16 0, .int .u8 0, .int .u16 0, .bool false, .int .u8 0, .int .u16 0, .int .u32 0, .int .u8 0, .int .u8 0, .string ⟨#[]⟩] (D2 (D1 (D2 (D2 (D1 (D2 (D1 (D1 (D1 l))))))))) W) (show RD w N q p _ _ _ from ((((((hR).set 5 (by decide) (.int .u16 (R2 (D2 (D1 (D2 (D1 (D1 (D1 l)))))) : Int)))).set 6 (by decide) (.int .u8 (R1 (D2 (D2 (D1 (D2 (D1 (D1 (D1 l))))))) : Int)))).set 7 (by decide) (.int .u16 (R2 (D1 (D2 (D2 (D1 (D2 (D1 (D1 (D1 l)))))))) : Int)))) ?_
  clear hR
  rintro w12 hR
  refine (e2 p (D2 (D1 (D2 (D2 (D1 (D2 (D1 (D1 (D1 l))))))))) _ hR.2.2.2.1).mono ?_
  rintro e w13 ⟨rfl, he, hg⟩
  have hR2 := hR.eye he hg
  clear hR he hg
  have hR := hR2
  clear hR2
  have y8 := cell_of hR.2.1.1 hR.2.2.1 8 (.int .u16 0) rfl
  have g8 := hR.2.1.2 8 (by decide)
  have y0 := cell_of hR.2.1.1 hR.2.2.1 0 (.int .i64 (R1 l : Int)) rfl
  have g0 := hR.2.1.2 0 (by decide)
  go_wp2_with fail
  clear y8 g8 y0 g0
  refine world_cut (G := fun W => Calls _ _ _ W _) (fun W => RD w N q p #[.int .i64 (R1 l : Int), .int .u8 (R1 (D1 (D1 l)) : Int), .int .u8 (R1 (D2 (D1 (D1 (D1 l)))) : Int), .int .u16 (R2 (D1 (D1 (D1 l))) : Int), .int .u16 (R2 (D1 (D2 (D1 (D1 (D1 l))))) : Int), .int .u16 (R2 (D2 (D1 (D2 (D1 (D1 (D1 l)))))) : Int), .int .u8 (R1 (D2 (D2 (D1 (D2 (D1 (D1 (D1 l))))))) : Int), .int .u16 (R2 (D1 (D2 (D2 (D1 (D2 (D1 (D1 (D1 l)))))))) : Int), .int .u16 (R2 (D2 (D1 (D2 (D2 (D1 (D2 (D1 (D1 (D1 l))))))))) : Int), .int .u16 0, .int .u8 0, .int .u16 0, .bool false, .int .u8 0, .int .u16 0, .int .u32 0, .int .u8 0, .int .u8 0, .string ⟨#[]⟩] (D2 (D2 (D1 (D2 (D2 (D1 (D2 (D1 (D1 (D1 l)))))))))) W) (show RD w N q p _ _ _ from ((hR).set 8 (by decide) (.int .u16 (R2 (D2 (D1 (D2 (D2 (D1 (D2 (D1 (D1 (D1 l))))))))) : Int)))) ?_
  clear hR
  rintro w14 hR
  refine (readEpoch_any p (D2 (D2 (D1 (D2 (D2 (D1 (D2 (D1 (D1 (D1 l)))))))))) _ hR.2.2.2.1).mono ?_
  rintro e w15 ⟨rfl, he, hg⟩
  have hR2 := hR.eye he hg
  clear hR he hg
  have hR := hR2
  clear hR2
  have y9 := cell_of hR.2.1.1 hR.2.2.1 9 (.int .u16 0) rfl
  have g9 := hR.2.1.2 9 (by decide)
  have y10 := cell_of hR.2.1.1 hR.2.2.1 10 (.int .u8 0) rfl
  have g10 := hR.2.1.2 10 (by decide)
  have y11 := cell_of hR.2.1.1 hR.2.2.1 11 (.int .u16 0) rfl
  have g11 := hR.2.1.2 11 (by decide)
  go_wp2_with fail
  clear y9 g9 y10 g10 y11 g11
  refine world_cut (G := fun W => Calls _ _ _ W _) (fun W => RD w N q p #[.int .i64 (R1 l : Int), .int .u8 (R1 (D1 (D1 l)) : Int), .int .u8 (R1 (D2 (D1 (D1 (D1 l)))) : Int), .int .u16 (R2 (D1 (D1 (D1 l))) : Int), .int .u16 (R2 (D1 (D2 (D1 (D1 (D1 l))))) : Int), .int .u16 (R2 (D2 (D1 (D2 (D1 (D1 (D1 l)))))) : Int), .int .u8 (R1 (D2 (D2 (D1 (D2 (D1 (D1 (D1 l))))))) : Int), .int .u16 (R2 (D1 (D2 (D2 (D1 (D2 (D1 (D1 (D1 l)))))))) : Int), .int .u16 (R2 (D2 (D1 (D2 (D2 (D1 (D2 (D1 (D1 (D1 l))))))))) : Int), .int .u16 (R2 (D2 (D2 (D1 (D2 (D2 (D1 (D2 (D1 (D1 (D1 l)))))))))) : Int), .int .u8 (R1 (D2 (D2 (D2 (D1 (D2 (D2 (D1 (D2 (D1 (D1 (D1 l))))))))))) : Int), .int .u16 (R2 (D1 (D2 (D2 (D2 (D1 (D2 (D2 (D1 (D2 (D1 (D1 (D1 l)))))))))))) : Int), .bool false, .int .u8 0, .int .u16 0, .int .u32 0, .int .u8 0, .int .u8 0, .string ⟨#[]⟩] (D2 (D1 (D2 (D2 (D2 (D1 (D2 (D2 (D1 (D2 (D1 (D1 (D1 l))))))))))))) W) (show RD w N q p _ _ _ from ((((((hR).set 9 (by decide) (.int .u16 (R2 (D2 (D2 (D1 (D2 (D2 (D1 (D2 (D1 (D1 (D1 l)))))))))) : Int)))).set 10 (by decide) (.int .u8 (R1 (D2 (D2 (D2 (D1 (D2 (D2 (D1 (D2 (D1 (D1 (D1 l))))))))))) : Int)))).set 11 (by decide) (.int .u16 (R2 (D1 (D2 (D2 (D2 (D1 (D2 (D2 (D1 (D2 (D1 (D1 (D1 l)))))))))))) : Int)))) ?_
  clear hR
  rintro w16 hR
  refine (e1 p (D2 (D1 (D2 (D2 (D2 (D1 (D2 (D2 (D1 (D2 (D1 (D1 (D1 l))))))))))))) _ hR.2.2.2.1).mono ?_
  rintro e w17 ⟨rfl, he, hg⟩
  have hR2 := hR.eye he hg
  clear hR he hg
  have hR := hR2
  clear hR2
  have y12 := cell_of hR.2.1.1 hR.2.2.1 12 (.bool false) rfl
  have g12 := hR.2.1.2 12 (by decide)
  have hk := hR.2.1.1
  have hr := hR.2.2.1
  have hf := hR.1
  have hfk := hR.1.1
  have hlt := hR.2.2.2.2.2.1
  go_wp2
  refine bodyPost_ret (v := .agg #[.int .i64 (R1 l : Int), .int .u8 (R1 (D1 (D1 l)) : Int), .int .u8 (R1 (D2 (D1 (D1 (D1 l)))) : Int), .int .u16 (R2 (D1 (D1 (D1 l))) : Int), .int .u16 (R2 (D1 (D2 (D1 (D1 (D1 l))))) : Int), .int .u16 (R2 (D2 (D1 (D2 (D1 (D1 (D1 l)))))) : Int), .int .u8 (R1 (D2 (D2 (D1 (D2 (D1 (D1 (D1 l))))))) : Int), .int .u16 (R2 (D1 (D2 (D2 (D1 (D2 (D1 (D1 (D1 l)))))))) : Int), .int .u16 (R2 (D2 (D1 (D2 (D2 (D1 (D2 (D1 (D1 (D1 l))))))))) : Int), .int .u16 (R2 (D2 (D2 (D1 (D2 (D2 (D1 (D2 (D1 (D1 (D1 l)))))))))) : Int), .int .u8 (R1 (D2 (D2 (D2 (D1 (D2 (D2 (D1 (D2 (D1 (D1 (D1 l))))))))))) : Int), .int .u16 (R2 (D1 (D2 (D2 (D2 (D1 (D2 (D2 (D1 (D2 (D1 (D1 (D1 l)))))))))))) : Int), .bool ((R1 (D2 (D1 (D2 (D2 (D2 (D1 (D2 (D2 (D1 (D2 (D1 (D1 (D1 l))))))))))))) : Int) == 1), .int .u8 0, .int .u16 0, .int .u32 0, .int .u8 0, .int .u8 0, .string ⟨#[]⟩]) (results_29 Tryd.results43 _ _ N _ rfl (by go_simp) (by go_simp)) rfl ⟨?_, ?_⟩
  · rw [HL.out, hF.out]
    simp
  · rw [HN.out]
    exact below_put (Nat.le_refl _) _ (below_set (Nat.le_of_lt hlt) _ _ hR.2.2.2.2.1)


set_option maxRecDepth 100000 in
set_option maxHeartbeats 4000000 in
theorem read_data (s : ByteArray) (w : World) (h3 : ¬ R1 s.data.toList = 3) (h4 : R1 s.data.toList = 4) : Calls Tryd.prog 43 #[.string s] w fun e w' => e = .returned (.agg #[.int .i64 (frameL s.data.toList).kind, .int .u8 (frameL s.data.toList).src, .int .u8 (frameL s.data.toList).dst, .int .u16 (frameL s.data.toList).sinc, .int .u16 (frameL s.data.toList).dinc, .int .u16 (frameL s.data.toList).ec, .int .u8 (frameL s.data.toList).ea, .int .u16 (frameL s.data.toList).ei, .int .u16 (frameL s.data.toList).hop, .int .u16 (frameL s.data.toList).hc, .int .u8 (frameL s.data.toList).ha, .int .u16 (frameL s.data.toList).hi, .bool (frameL s.data.toList).wants, .int .u8 (frameL s.data.toList).blk, .int .u16 (frameL s.data.toList).vinc, .int .u32 (frameL s.data.toList).vseq, .int .u8 (frameL s.data.toList).part, .int .u8 (frameL s.data.toList).parts, .string (frameL s.data.toList).bytes]) ∧ Below w.heap.size w w' := by
  have hF : Hid (frameL s.data.toList = ⟨R1 s.data.toList, R1 (D1 (D1 s.data.toList)), R1 (D2 (D1 (D1 (D1 s.data.toList)))), R2 (D1 (D1 (D1 s.data.toList))), R2 (D1 (D2 (D1 (D1 (D1 s.data.toList))))), R2 (D2 (D1 (D2 (D1 (D1 (D1 s.data.toList)))))), R1 (D2 (D2 (D1 (D2 (D1 (D1 (D1 s.data.toList))))))), R2 (D1 (D2 (D2 (D1 (D2 (D1 (D1 (D1 s.data.toList)))))))), R2 (D2 (D1 (D2 (D2 (D1 (D2 (D1 (D1 (D1 s.data.toList))))))))), 0, 0, 0, false, R1 (D2 (D2 (D1 (D2 (D2 (D1 (D2 (D1 (D1 (D1 s.data.toList)))))))))), R2 (D1 (D2 (D2 (D1 (D2 (D2 (D1 (D2 (D1 (D1 (D1 s.data.toList))))))))))), R4 (D2 (D1 (D2 (D2 (D1 (D2 (D2 (D1 (D2 (D1 (D1 (D1 s.data.toList)))))))))))), R1 (D4 (D2 (D1 (D2 (D2 (D1 (D2 (D2 (D1 (D2 (D1 (D1 (D1 s.data.toList))))))))))))), R1 (D1 (D4 (D2 (D1 (D2 (D2 (D1 (D2 (D2 (D1 (D2 (D1 (D1 (D1 s.data.toList)))))))))))))), (S (got ((D1 (D1 (D4 (D2 (D1 (D2 (D2 (D1 (D2 (D2 (D1 (D2 (D1 (D1 (D1 s.data.toList))))))))))))))).length : Int) (D1 (D1 (D4 (D2 (D1 (D2 (D2 (D1 (D2 (D2 (D1 (D2 (D1 (D1 (D1 s.data.toList)))))))))))))))))⟩) := Lib.hid (by unfold frameL; simp only [if_neg h3, if_pos h4])
  have d3 : ((R1 s.data.toList : Int) == 3) = false := by simp; omega
  have d4 : ((R1 s.data.toList : Int) == 4) = true := by simp; omega
  clear h3 h4
  go_enter Tryd.func43, Tryd.ntmps43
  go_wp2_with fail
  refine (neweye_any s _).mono ?_
  rintro e w1 ⟨rfl, he, hb⟩
  have hN : RowFree (w.alloc (.cells #[.int .i64 0, .int .u8 0, .int .u8 0, .int .u16 0, .int .u16 0, .int .u16 0, .int .u8 0, .int .u16 0, .int .u16 0, .int .u16 0, .int .u8 0, .int .u16 0, .bool false, .int .u8 0, .int .u16 0, .int .u32 0, .int .u8 0, .int .u8 0, .string ⟨#[]⟩] 29)) w.heap.size := free_new _ _ _ _ rfl rfl
  have hN1 : RowFree w1 w.heap.size := by
    have h1 := row_below hb hN.1
    exact ⟨h1.1, fun k hk => by rw [hb.frozen (p := ⟨w.heap.size, k, none⟩) (by simp)]; exact hN.2 k hk⟩
  have hbel : Below w.heap.size w w1 := ((Below.refl _ _).alloc (Nat.le_refl _) _).trans (hb.mono (by simp))
  have hsz : w.heap.size < (w.alloc (.cells #[.int .i64 0, .int .u8 0, .int .u8 0, .int .u16 0, .int .u16 0, .int .u16 0, .int .u8 0, .int .u16 0, .int .u16 0, .int .u16 0, .int .u8 0, .int .u16 0, .bool false, .int .u8 0, .int .u16 0, .int .u32 0, .int .u8 0, .int .u8 0, .string ⟨#[]⟩] 29)).heap.size := by simp
  have he0 : EyeL w1 _ s.data.toList := ⟨false, he⟩
  have hp1 : (w.alloc (.cells #[.int .i64 0, .int .u8 0, .int .u8 0, .int .u16 0, .int .u16 0, .int .u16 0, .int .u8 0, .int .u16 0, .int .u16 0, .int .u16 0, .int .u8 0, .int .u16 0, .bool false, .int .u8 0, .int .u16 0, .int .u32 0, .int .u8 0, .int .u8 0, .string ⟨#[]⟩] 29)).heap.size < w1.heap.size := he.lt
  clear hN he hb
  generalize (w.alloc (.cells #[.int .i64 0, .int .u8 0, .int .u8 0, .int .u16 0, .int .u16 0, .int .u16 0, .int .u8 0, .int .u16 0, .int .u16 0, .int .u16 0, .int .u8 0, .int .u16 0, .bool false, .int .u8 0, .int .u16 0, .int .u32 0, .int .u8 0, .int .u8 0, .string ⟨#[]⟩] 29)).heap.size = p at *
  generalize hl : s.data.toList = l at *
  have HL := Lib.hid hl
  clear hl
  generalize hn : w.heap.size = N at *
  have HN := Lib.hid hn
  clear hn
  go_wp2_with fail
  refine (e1 p l _ he0).mono ?_
  rintro e w2 ⟨rfl, he, hg⟩
  have hM : RowFree w2 N := grown_free hg (Nat.ne_of_lt hsz) hN1
  have hB : Below N w w2 := hbel.trans (below_only hg (Nat.le_of_lt hsz) (by omega))
  have hp2 : p < w2.heap.size := Nat.lt_of_lt_of_le hp1 hg.size
  have hw := show IntKind.i64.wrap (R1 l : Int) = (R1 l : Int) from by have := R1_le l; rw [IntKind.wrap_i64]; omega
  clear he0 hg hN1 hbel hp1
  go_wp2_with fail
  refine world_cut (G := fun W => Calls _ _ _ W _) (fun W => RD w N w2.heap.size p #[.int .i64 (R1 l : Int), .int .u8 0, .int .u8 0, .int .u16 0, .int .u16 0, .int .u16 0, .int .u8 0, .int .u16 0, .int .u16 0, .int .u16 0, .int .u8 0, .int .u16 0, .bool false, .int .u8 0, .int .u16 0, .int .u32 0, .int .u8 0, .int .u8 0, .string ⟨#[]⟩] (D1 l) W) (by
    refine ⟨?_, ?_, ?_, ?_, ?_, ?_, ?_, ?_, ?_⟩
    · rw [free_put_iff, free_old_iff _ _ _ (by omega)]; exact hM
    · rw [free_put_iff]; exact free_new _ _ _ _ rfl rfl
    · exact row_put _ _ _ (ok_new _ _ _ _ rfl rfl) rfl
    · obtain ⟨b0, hb0⟩ := he
      exact ⟨b0, (hb0.kept (only_below ((Below.refl _ _).alloc (Nat.le_refl _) _) none) (by simp)).kept (below_put_only _ _ _) (by simp; omega)⟩
    · exact below_put (by omega) _ (below_new hB (by omega) _)
    · omega
    · exact hsz
    · omega
    · rw [put_size]; simp; omega) ?_
  clear hM hB he hw
  rintro w3 hR
  generalize w2.heap.size = q at *
  refine (e1 p (D1 l) _ hR.2.2.2.1).mono ?_
  rintro e w4 ⟨rfl, he, hg⟩
  have hR2 := hR.eye he hg
  clear hR he hg
  have hR := hR2
  clear hR2
  go_wp2_with fail
  refine (e1 p (D1 (D1 l)) _ hR.2.2.2.1).mono ?_
  rintro e w5 ⟨rfl, he, hg⟩
  have hR2 := hR.eye he hg
  clear hR he hg
  have hR := hR2
  clear hR2
  go_wp2_with fail
  refine (e2 p (D1 (D1 (D1 l))) _ hR.2.2.2.1).mono ?_
  rintro e w6 ⟨rfl, he, hg⟩
  have hR2 := hR.eye he hg
  clear hR he hg
  have hR := hR2
  clear hR2
  have y1 := cell_of hR.2.1.1 hR.2.2.1 1 (.int .u8 0) rfl
  have g1 := hR.2.1.2 1 (by decide)
  have y3 := cell_of hR.2.1.1 hR.2.2.1 3 (.int .u16 0) rfl
  have g3 := hR.2.1.2 3 (by decide)
  go_wp2_with fail
  clear y1 g1 y3 g3
  refine world_cut (G := fun W => Calls _ _ _ W _) (fun W => RD w N q p #[.int .i64 (R1 l : Int), .int .u8 (R1 (D1 (D1 l)) : Int), .int .u8 0, .int .u16 (R2 (D1 (D1 (D1 l))) : Int), .int .u16 0, .int .u16 0, .int .u8 0, .int .u16 0, .int .u16 0, .int .u16 0, .int .u8 0, .int .u16 0, .bool false, .int .u8 0, .int .u16 0, .int .u32 0, .int .u8 0, .int .u8 0, .string ⟨#[]⟩] (D2 (D1 (D1 (D1 l)))) W) (show RD w N q p _ _ _ from ((((hR).set 1 (by decide) (.int .u8 (R1 (D1 (D1 l)) : Int)))).set 3 (by decide) (.int .u16 (R2 (D1 (D1 (D1 l))) : Int)))) ?_
  clear hR
  rintro w7 hR
  refine (e1 p (D2 (D1 (D1 (D1 l)))) _ hR.2.2.2.1).mono ?_
  rintro e w8 ⟨rfl, he, hg⟩
  have hR2 := hR.eye he hg
  clear hR he hg
  have hR := hR2
  clear hR2
  go_wp2_with fail
  refine (e2 p (D1 (D2 (D1 (D1 (D1 l))))) _ hR.2.2.2.1).mono ?_
  rintro e w9 ⟨rfl, he, hg⟩
  have hR2 := hR.eye he hg
  clear hR he hg
  have hR := hR2
  clear hR2
  have y2 := cell_of hR.2.1.1 hR.2.2.1 2 (.int .u8 0) rfl
  have g2 := hR.2.1.2 2 (by decide)
  have y4 := cell_of hR.2.1.1 hR.2.2.1 4 (.int .u16 0) rfl
  have g4 := hR.2.1.2 4 (by decide)
  go_wp2_with fail
  clear y2 g2 y4 g4
  refine world_cut (G := fun W => Calls _ _ _ W _) (fun W => RD w N q p #[.int .i64 (R1 l : Int), .int .u8 (R1 (D1 (D1 l)) : Int), .int .u8 (R1 (D2 (D1 (D1 (D1 l)))) : Int), .int .u16 (R2 (D1 (D1 (D1 l))) : Int), .int .u16 (R2 (D1 (D2 (D1 (D1 (D1 l))))) : Int), .int .u16 0, .int .u8 0, .int .u16 0, .int .u16 0, .int .u16 0, .int .u8 0, .int .u16 0, .bool false, .int .u8 0, .int .u16 0, .int .u32 0, .int .u8 0, .int .u8 0, .string ⟨#[]⟩] (D2 (D1 (D2 (D1 (D1 (D1 l)))))) W) (show RD w N q p _ _ _ from ((((hR).set 2 (by decide) (.int .u8 (R1 (D2 (D1 (D1 (D1 l)))) : Int)))).set 4 (by decide) (.int .u16 (R2 (D1 (D2 (D1 (D1 (D1 l))))) : Int)))) ?_
  clear hR
  rintro w10 hR
  refine (readEpoch_any p (D2 (D1 (D2 (D1 (D1 (D1 l)))))) _ hR.2.2.2.1).mono ?_
  rintro e w11 ⟨rfl, he, hg⟩
  have hR2 := hR.eye he hg
  clear hR he hg
  have hR := hR2
  clear hR2
  have y5 := cell_of hR.2.1.1 hR.2.2.1 5 (.int .u16 0) rfl
  have g5 := hR.2.1.2 5 (by decide)
  have y6 := cell_of hR.2.1.1 hR.2.2.1 6 (.int .u8 0) rfl
  have g6 := hR.2.1.2 6 (by decide)
  have y7 := cell_of hR.2.1.1 hR.2.2.1 7 (.int .u16 0) rfl
  have g7 := hR.2.1.2 7 (by decide)
  go_wp2_with fail
  clear y5 g5 y6 g6 y7 g7
  refine world_cut (G := fun W => Calls _ _ _ W _) (fun W => RD w N q p #[.int .i64 (R1 l : Int), .int .u8 (R1 (D1 (D1 l)) : Int), .int .u8 (R1 (D2 (D1 (D1 (D1 l)))) : Int), .int .u16 (R2 (D1 (D1 (D1 l))) : Int), .int .u16 (R2 (D1 (D2 (D1 (D1 (D1 l))))) : Int), .int .u16 (R2 (D2 (D1 (D2 (D1 (D1 (D1 l)))))) : Int), .int .u8 (R1 (D2 (D2 (D1 (D2 (D1 (D1 (D1 l))))))) : Int), .int .u16 (R2 (D1 (D2 (D2 (D1 (D2 (D1 (D1 (D1 l)))))))) : Int), .int .u16 0, .int .u16 0, .int .u8 0, .int .u16 0, .bool false, .int .u8 0, .int .u16 0, .int .u32 0, .int .u8 0, .int .u8 0, .string ⟨#[]⟩] (D2 (D1 (D2 (D2 (D1 (D2 (D1 (D1 (D1 l))))))))) W) (show RD w N q p _ _ _ from ((((((hR).set 5 (by decide) (.int .u16 (R2 (D2 (D1 (D2 (D1 (D1 (D1 l)))))) : Int)))).set 6 (by decide) (.int .u8 (R1 (D2 (D2 (D1 (D2 (D1 (D1 (D1 l))))))) : Int)))).set 7 (by decide) (.int .u16 (R2 (D1 (D2 (D2 (D1 (D2 (D1 (D1 (D1 l)))))))) : Int)))) ?_
  clear hR
  rintro w12 hR
  refine (e2 p (D2 (D1 (D2 (D2 (D1 (D2 (D1 (D1 (D1 l))))))))) _ hR.2.2.2.1).mono ?_
  rintro e w13 ⟨rfl, he, hg⟩
  have hR2 := hR.eye he hg
  clear hR he hg
  have hR := hR2
  clear hR2
  have y8 := cell_of hR.2.1.1 hR.2.2.1 8 (.int .u16 0) rfl
  have g8 := hR.2.1.2 8 (by decide)
  have y0 := cell_of hR.2.1.1 hR.2.2.1 0 (.int .i64 (R1 l : Int)) rfl
  have g0 := hR.2.1.2 0 (by decide)
  go_wp2_with fail
  clear y8 g8 y0 g0
  refine world_cut (G := fun W => Calls _ _ _ W _) (fun W => RD w N q p #[.int .i64 (R1 l : Int), .int .u8 (R1 (D1 (D1 l)) : Int), .int .u8 (R1 (D2 (D1 (D1 (D1 l)))) : Int), .int .u16 (R2 (D1 (D1 (D1 l))) : Int), .int .u16 (R2 (D1 (D2 (D1 (D1 (D1 l))))) : Int), .int .u16 (R2 (D2 (D1 (D2 (D1 (D1 (D1 l)))))) : Int), .int .u8 (R1 (D2 (D2 (D1 (D2 (D1 (D1 (D1 l))))))) : Int), .int .u16 (R2 (D1 (D2 (D2 (D1 (D2 (D1 (D1 (D1 l)))))))) : Int), .int .u16 (R2 (D2 (D1 (D2 (D2 (D1 (D2 (D1 (D1 (D1 l))))))))) : Int), .int .u16 0, .int .u8 0, .int .u16 0, .bool false, .int .u8 0, .int .u16 0, .int .u32 0, .int .u8 0, .int .u8 0, .string ⟨#[]⟩] (D2 (D2 (D1 (D2 (D2 (D1 (D2 (D1 (D1 (D1 l)))))))))) W) (show RD w N q p _ _ _ from ((hR).set 8 (by decide) (.int .u16 (R2 (D2 (D1 (D2 (D2 (D1 (D2 (D1 (D1 (D1 l))))))))) : Int)))) ?_
  clear hR
  rintro w14 hR
  refine (e1 p (D2 (D2 (D1 (D2 (D2 (D1 (D2 (D1 (D1 (D1 l)))))))))) _ hR.2.2.2.1).mono ?_
  rintro e w15 ⟨rfl, he, hg⟩
  have hR2 := hR.eye he hg
  clear hR he hg
  have hR := hR2
  clear hR2
  have y13 := cell_of hR.2.1.1 hR.2.2.1 13 (.int .u8 0) rfl
  have g13 := hR.2.1.2 13 (by decide)
  go_wp2_with fail
  clear y13 g13
  refine world_cut (G := fun W => Calls _ _ _ W _) (fun W => RD w N q p #[.int .i64 (R1 l : Int), .int .u8 (R1 (D1 (D1 l)) : Int), .int .u8 (R1 (D2 (D1 (D1 (D1 l)))) : Int), .int .u16 (R2 (D1 (D1 (D1 l))) : Int), .int .u16 (R2 (D1 (D2 (D1 (D1 (D1 l))))) : Int), .int .u16 (R2 (D2 (D1 (D2 (D1 (D1 (D1 l)))))) : Int), .int .u8 (R1 (D2 (D2 (D1 (D2 (D1 (D1 (D1 l))))))) : Int), .int .u16 (R2 (D1 (D2 (D2 (D1 (D2 (D1 (D1 (D1 l)))))))) : Int), .int .u16 (R2 (D2 (D1 (D2 (D2 (D1 (D2 (D1 (D1 (D1 l))))))))) : Int), .int .u16 0, .int .u8 0, .int .u16 0, .bool false, .int .u8 (R1 (D2 (D2 (D1 (D2 (D2 (D1 (D2 (D1 (D1 (D1 l)))))))))) : Int), .int .u16 0, .int .u32 0, .int .u8 0, .int .u8 0, .string ⟨#[]⟩] (D1 (D2 (D2 (D1 (D2 (D2 (D1 (D2 (D1 (D1 (D1 l))))))))))) W) (show RD w N q p _ _ _ from ((hR).set 13 (by decide) (.int .u8 (R1 (D2 (D2 (D1 (D2 (D2 (D1 (D2 (D1 (D1 (D1 l)))))))))) : Int)))) ?_
  clear hR
  rintro w16 hR
  refine (e2 p (D1 (D2 (D2 (D1 (D2 (D2 (D1 (D2 (D1 (D1 (D1 l))))))))))) _ hR.2.2.2.1).mono ?_
  rintro e w17 ⟨rfl, he, hg⟩
  have hR2 := hR.eye he hg
  clear hR he hg
  have hR := hR2
  clear hR2
  go_wp2_with fail
  refine (e4 p (D2 (D1 (D2 (D2 (D1 (D2 (D2 (D1 (D2 (D1 (D1 (D1 l)))))))))))) _ hR.2.2.2.1).mono ?_
  rintro e w18 ⟨rfl, he, hg⟩
  have hR2 := hR.eye he hg
  clear hR he hg
  have hR := hR2
  clear hR2
  have y14 := cell_of hR.2.1.1 hR.2.2.1 14 (.int .u16 0) rfl
  have g14 := hR.2.1.2 14 (by decide)
  have y15 := cell_of hR.2.1.1 hR.2.2.1 15 (.int .u32 0) rfl
  have g15 := hR.2.1.2 15 (by decide)
  go_wp2_with fail
  clear y14 g14 y15 g15
  refine world_cut (G := fun W => Calls _ _ _ W _) (fun W => RD w N q p #[.int .i64 (R1 l : Int), .int .u8 (R1 (D1 (D1 l)) : Int), .int .u8 (R1 (D2 (D1 (D1 (D1 l)))) : Int), .int .u16 (R2 (D1 (D1 (D1 l))) : Int), .int .u16 (R2 (D1 (D2 (D1 (D1 (D1 l))))) : Int), .int .u16 (R2 (D2 (D1 (D2 (D1 (D1 (D1 l)))))) : Int), .int .u8 (R1 (D2 (D2 (D1 (D2 (D1 (D1 (D1 l))))))) : Int), .int .u16 (R2 (D1 (D2 (D2 (D1 (D2 (D1 (D1 (D1 l)))))))) : Int), .int .u16 (R2 (D2 (D1 (D2 (D2 (D1 (D2 (D1 (D1 (D1 l))))))))) : Int), .int .u16 0, .int .u8 0, .int .u16 0, .bool false, .int .u8 (R1 (D2 (D2 (D1 (D2 (D2 (D1 (D2 (D1 (D1 (D1 l)))))))))) : Int), .int .u16 (R2 (D1 (D2 (D2 (D1 (D2 (D2 (D1 (D2 (D1 (D1 (D1 l))))))))))) : Int), .int .u32 (R4 (D2 (D1 (D2 (D2 (D1 (D2 (D2 (D1 (D2 (D1 (D1 (D1 l)))))))))))) : Int), .int .u8 0, .int .u8 0, .string ⟨#[]⟩] (D4 (D2 (D1 (D2 (D2 (D1 (D2 (D2 (D1 (D2 (D1 (D1 (D1 l))))))))))))) W) (show RD w N q p _ _ _ from ((((hR).set 14 (by decide) (.int .u16 (R2 (D1 (D2 (D2 (D1 (D2 (D2 (D1 (D2 (D1 (D1 (D1 l))))))))))) : Int)))).set 15 (by decide) (.int .u32 (R4 (D2 (D1 (D2 (D2 (D1 (D2 (D2 (D1 (D2 (D1 (D1 (D1 l)))))))))))) : Int)))) ?_
  clear hR
  rintro w19 hR
  refine (e1 p (D4 (D2 (D1 (D2 (D2 (D1 (D2 (D2 (D1 (D2 (D1 (D1 (D1 l))))))))))))) _ hR.2.2.2.1).mono ?_
  rintro e w20 ⟨rfl, he, hg⟩
  have hR2 := hR.eye he hg
  clear hR he hg
  have hR := hR2
  clear hR2
  go_wp2_with fail
  refine (e1 p (D1 (D4 (D2 (D1 (D2 (D2 (D1 (D2 (D2 (D1 (D2 (D1 (D1 (D1 l)))))))))))))) _ hR.2.2.2.1).mono ?_
  rintro e w21 ⟨rfl, he, hg⟩
  have hR2 := hR.eye he hg
  clear hR he hg
  have hR := hR2
  clear hR2
  have y16 := cell_of hR.2.1.1 hR.2.2.1 16 (.int .u8 0) rfl
  have g16 := hR.2.1.2 16 (by decide)
  have y17 := cell_of hR.2.1.1 hR.2.2.1 17 (.int .u8 0) rfl
  have g17 := hR.2.1.2 17 (by decide)
  go_wp2_with fail
  clear y16 g16 y17 g17
  refine world_cut (G := fun W => Calls _ _ _ W _) (fun W => RD w N q p #[.int .i64 (R1 l : Int), .int .u8 (R1 (D1 (D1 l)) : Int), .int .u8 (R1 (D2 (D1 (D1 (D1 l)))) : Int), .int .u16 (R2 (D1 (D1 (D1 l))) : Int), .int .u16 (R2 (D1 (D2 (D1 (D1 (D1 l))))) : Int), .int .u16 (R2 (D2 (D1 (D2 (D1 (D1 (D1 l)))))) : Int), .int .u8 (R1 (D2 (D2 (D1 (D2 (D1 (D1 (D1 l))))))) : Int), .int .u16 (R2 (D1 (D2 (D2 (D1 (D2 (D1 (D1 (D1 l)))))))) : Int), .int .u16 (R2 (D2 (D1 (D2 (D2 (D1 (D2 (D1 (D1 (D1 l))))))))) : Int), .int .u16 0, .int .u8 0, .int .u16 0, .bool false, .int .u8 (R1 (D2 (D2 (D1 (D2 (D2 (D1 (D2 (D1 (D1 (D1 l)))))))))) : Int), .int .u16 (R2 (D1 (D2 (D2 (D1 (D2 (D2 (D1 (D2 (D1 (D1 (D1 l))))))))))) : Int), .int .u32 (R4 (D2 (D1 (D2 (D2 (D1 (D2 (D2 (D1 (D2 (D1 (D1 (D1 l)))))))))))) : Int), .int .u8 (R1 (D4 (D2 (D1 (D2 (D2 (D1 (D2 (D2 (D1 (D2 (D1 (D1 (D1 l))))))))))))) : Int), .int .u8 (R1 (D1 (D4 (D2 (D1 (D2 (D2 (D1 (D2 (D2 (D1 (D2 (D1 (D1 (D1 l)))))))))))))) : Int), .string ⟨#[]⟩] (D1 (D1 (D4 (D2 (D1 (D2 (D2 (D1 (D2 (D2 (D1 (D2 (D1 (D1 (D1 l))))))))))))))) W) (show RD w N q p _ _ _ from ((((hR).set 16 (by decide) (.int .u8 (R1 (D4 (D2 (D1 (D2 (D2 (D1 (D2 (D2 (D1 (D2 (D1 (D1 (D1 l))))))))))))) : Int)))).set 17 (by decide) (.int .u8 (R1 (D1 (D4 (D2 (D1 (D2 (D2 (D1 (D2 (D2 (D1 (D2 (D1 (D1 (D1 l)))))))))))))) : Int)))) ?_
  clear hR
  rintro w22 hR
  refine (e0 p (D1 (D1 (D4 (D2 (D1 (D2 (D2 (D1 (D2 (D2 (D1 (D2 (D1 (D1 (D1 l))))))))))))))) _ hR.2.2.2.1).mono ?_
  rintro e w0 ⟨rfl, rfl⟩
  go_wp2_with fail
  refine (et p _ (D1 (D1 (D4 (D2 (D1 (D2 (D2 (D1 (D2 (D2 (D1 (D2 (D1 (D1 (D1 l))))))))))))))) _ hR.2.2.2.1).mono ?_
  rintro e w00 ⟨rfl, he, hg⟩
  have hR2 := hR.eye he hg
  clear hR he hg
  have hR := hR2
  clear hR2
  have y18 := cell_of hR.2.1.1 hR.2.2.1 18 (.string ⟨#[]⟩) rfl
  have g18 := hR.2.1.2 18 (by decide)
  have hk := hR.2.1.1
  have hr := hR.2.2.1
  have hf := hR.1
  have hfk := hR.1.1
  have hlt := hR.2.2.2.2.2.1
  go_wp2
  refine bodyPost_ret (v := .agg #[.int .i64 (R1 l : Int), .int .u8 (R1 (D1 (D1 l)) : Int), .int .u8 (R1 (D2 (D1 (D1 (D1 l)))) : Int), .int .u16 (R2 (D1 (D1 (D1 l))) : Int), .int .u16 (R2 (D1 (D2 (D1 (D1 (D1 l))))) : Int), .int .u16 (R2 (D2 (D1 (D2 (D1 (D1 (D1 l)))))) : Int), .int .u8 (R1 (D2 (D2 (D1 (D2 (D1 (D1 (D1 l))))))) : Int), .int .u16 (R2 (D1 (D2 (D2 (D1 (D2 (D1 (D1 (D1 l)))))))) : Int), .int .u16 (R2 (D2 (D1 (D2 (D2 (D1 (D2 (D1 (D1 (D1 l))))))))) : Int), .int .u16 0, .int .u8 0, .int .u16 0, .bool false, .int .u8 (R1 (D2 (D2 (D1 (D2 (D2 (D1 (D2 (D1 (D1 (D1 l)))))))))) : Int), .int .u16 (R2 (D1 (D2 (D2 (D1 (D2 (D2 (D1 (D2 (D1 (D1 (D1 l))))))))))) : Int), .int .u32 (R4 (D2 (D1 (D2 (D2 (D1 (D2 (D2 (D1 (D2 (D1 (D1 (D1 l)))))))))))) : Int), .int .u8 (R1 (D4 (D2 (D1 (D2 (D2 (D1 (D2 (D2 (D1 (D2 (D1 (D1 (D1 l))))))))))))) : Int), .int .u8 (R1 (D1 (D4 (D2 (D1 (D2 (D2 (D1 (D2 (D2 (D1 (D2 (D1 (D1 (D1 l)))))))))))))) : Int), .string (S (got ((D1 (D1 (D4 (D2 (D1 (D2 (D2 (D1 (D2 (D2 (D1 (D2 (D1 (D1 (D1 l))))))))))))))).length : Int) (D1 (D1 (D4 (D2 (D1 (D2 (D2 (D1 (D2 (D2 (D1 (D2 (D1 (D1 (D1 l)))))))))))))))))]) (results_29 Tryd.results43 _ _ N _ rfl (by go_simp) (by go_simp)) rfl ⟨?_, ?_⟩
  · rw [HL.out, hF.out]
    simp
  · rw [HN.out]
    exact below_put (Nat.le_refl _) _ (below_set (Nat.le_of_lt hlt) _ _ hR.2.2.2.2.1)

theorem read_any (s : ByteArray) (w : World) : Calls Tryd.prog 43 #[.string s] w fun e w' => e = .returned (.agg #[.int .i64 (frameL s.data.toList).kind, .int .u8 (frameL s.data.toList).src, .int .u8 (frameL s.data.toList).dst, .int .u16 (frameL s.data.toList).sinc, .int .u16 (frameL s.data.toList).dinc, .int .u16 (frameL s.data.toList).ec, .int .u8 (frameL s.data.toList).ea, .int .u16 (frameL s.data.toList).ei, .int .u16 (frameL s.data.toList).hop, .int .u16 (frameL s.data.toList).hc, .int .u8 (frameL s.data.toList).ha, .int .u16 (frameL s.data.toList).hi, .bool (frameL s.data.toList).wants, .int .u8 (frameL s.data.toList).blk, .int .u16 (frameL s.data.toList).vinc, .int .u32 (frameL s.data.toList).vseq, .int .u8 (frameL s.data.toList).part, .int .u8 (frameL s.data.toList).parts, .string (frameL s.data.toList).bytes]) ∧ Below w.heap.size w w' := by
  by_cases h3 : R1 s.data.toList = 3
  · exact read_status s w h3
  · by_cases h4 : R1 s.data.toList = 4
    · exact read_data s w h3 h4
    · exact read_plain s w h3 h4

end Go.Proofs.YtindekpmicbbiaaDoor
