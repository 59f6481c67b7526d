/-
  A frame by its places: the document's answer, walked. Conditions: bytes that are long enough.
-/
import Derived.Test.YtindekpmicbbiaaDoorRFr
namespace Go.Proofs.YtindekpmicbbiaaDoor
open Go.RowKit
open Oct Sums

/-- A text's byte, at the operation's operands' values. -/
noncomputable def ix9 (v i : Value) (W : World) : Result Next := (do pure (Next.value (← Instr.index 9 v i)) : Sem Next).run Tryd.prog W
theorem exec_ix (ρ : Operand → Value) (d : Option Tmp) (x i : Operand) (t : TypeId) (pos : String) (af : _) (g : _) (W : World) :
    (execOp ρ ⟨d, .index 9 x i, t, pos, af, g⟩).run Tryd.prog W = ix9 (ρ x) (ρ i) W := rfl
theorem ix_at (s : ByteArray) (k : Nat) (h : k < s.size) (z : Int) (hz : z = (k : Int)) (W : World) : ix9 (.string s) (.int .i64 z) W = .ok (.value (.int .u8 (byt s k : Int))) W := by
  subst hz
  unfold ix9
  rw [Sem.run_bind, run_index_string W 9 s .i64 (k : Int) Tryd.underlying9, dif_pos ⟨by omega, by omega⟩]
  have e : ((s[(k : Int).toNat]'(by omega)).toNat : Int) = (byt s k : Int) := by
    have h2 := byt_eq s k h
    simp only [Int.toNat_natCast]
    rw [h2]
  rw [e]
  rfl
set_option linter.unusedSimpArgs false
attribute [local go_sem ↓] exec_bd exec_ld exec_st load_row loadVar_row store_row
attribute [local go_sem] bd_0 bd_1 bd_5 bd_6 ld_row st_row set_cell_lt set_cell_gt one_int one_bool one_str row_new ok_new free_new row_old ok_old_iff free_old_iff put_in put_cell_lt put_cell_gt put_frozen row_put_in row_put_lt row_put_gt ok_put_iff free_put_iff put_size row_set_in row_set_lt row_set_gt ok_set_iff free_set_iff drew_cell drew_frozen drew_size row_drew ok_drew free_drew
attribute [local go_sem ↓] exec_ix

/-- .. and the variable's block. -/
def NB (n b : Nat) (w W : World) : Prop := NQ n w W ∧ RowFree W b ∧ n < b ∧ b < W.heap.size
theorem NB.mem {n b : Nat} {w W W' : World} (h : NB n b w W) (hb : Below W.heap.size W W') : NB n b w W' :=
  ⟨h.1.mem hb, free_below hb h.2.1 h.2.2.2, h.2.2.1, Nat.lt_of_lt_of_le h.2.2.2 hb.size⟩
theorem NQ.box {n : Nat} {w W : World} {c : Array Value} {t : TypeId} (h : NQ n w W) (hc : c.size = 19) : NB n W.heap.size w (W.alloc (.cells c t)) :=
  ⟨⟨free_old W _ n h.2.2 h.1, below_new h.2.1 (Nat.le_of_lt h.2.2) _, by simp; have := h.2.2; omega⟩, free_new W c t _ rfl hc, h.2.2, by simp⟩
theorem NB.put {n b : Nat} {w W : World} {c : Array Value} (h : NB n b w W) (hc : c.size = 19) : NB n b w (put29 W b c) ∧ rowArr (put29 W b c) b = c :=
  ⟨⟨⟨by rw [free_put_iff]; exact h.1.1, below_put (Nat.le_of_lt h.2.2.1) _ h.1.2.1, by rw [put_size]; exact h.1.2.2⟩, by rw [free_put_iff]; exact h.2.1, h.2.2.1, by rw [put_size]; exact h.2.2.2⟩, row_put _ _ _ h.2.1.1 hc⟩
theorem row_len (c : Array Value) (h : c.size = 19) : c.size = 19 := h
theorem one_C1 (s : ByteArray) : (#[.int .i64 (byt s 0 : Int), .int .u8 (byt s 2 : Int), .int .u8 (byt s 5 : Int), .int .u16 (numAt s 3 2 : Int), .int .u16 (numAt s 6 2 : Int), .int .u16 0, .int .u8 0, .int .u16 0, .int .u16 (numAt s 13 2 : Int), .int .u16 0, .int .u8 0, .int .u16 0, .bool false, .int .u8 0, .int .u16 0, .int .u32 0, .int .u8 0, .int .u8 0, .string ⟨#[]⟩] : Array Value).all (·.oneCell') = true := by simp [one_int, one_bool, one_str]
/-- Where the first statement ends. -/
def Mid1 (s : ByteArray) (n : Nat) (w : World) (a : Act) (W : World) : Prop :=
  ∃ b, a = ⟨(.string s :: undef :: .pointer (some ⟨n, 0, none⟩) :: .pointer (some ⟨b, 0, none⟩) :: .string s :: .int .u8 (byt s 0 : Int) :: .int .i64 (byt s 0 : Int) :: .string s :: .int .u8 (byt s 2 : Int) :: .string s :: .int .u32 (numAt s 3 2 : Int) :: .int .u16 (numAt s 3 2 : Int) :: .string s :: .int .u8 (byt s 5 : Int) :: .string s :: .int .u32 (numAt s 6 2 : Int) :: .int .u16 (numAt s 6 2 : Int) :: .string s :: .int .u32 (numAt s 13 2 : Int) :: .int .u16 (numAt s 13 2 : Int) :: .agg #[.int .i64 (byt s 0 : Int), .int .u8 (byt s 2 : Int), .int .u8 (byt s 5 : Int), .int .u16 (numAt s 3 2 : Int), .int .u16 (numAt s 6 2 : Int), .int .u16 0, .int .u8 0, .int .u16 0, .int .u16 (numAt s 13 2 : Int), .int .u16 0, .int .u8 0, .int .u16 0, .bool false, .int .u8 0, .int .u16 0, .int .u32 0, .int .u8 0, .int .u8 0, .string ⟨#[]⟩] :: undef :: undef :: undef :: undef :: undef :: undef :: undef :: undef :: undef :: undef :: undef :: undef :: undef :: undef :: undef :: undef :: undef :: undef :: undef :: undef :: undef :: undef :: undef :: undef :: undef :: undef :: undef :: undef :: undef :: undef :: undef :: undef :: undef :: undef :: undef :: undef :: undef :: undef :: undef :: undef :: undef :: undef :: undef :: undef :: undef :: undef :: undef :: undef :: undef :: undef :: undef :: undef :: undef :: []).toArray, []⟩ ∧ NB n b w W ∧ rowArr W b = #[.int .i64 (byt s 0 : Int), .int .u8 (byt s 2 : Int), .int .u8 (byt s 5 : Int), .int .u16 (numAt s 3 2 : Int), .int .u16 (numAt s 6 2 : Int), .int .u16 0, .int .u8 0, .int .u16 0, .int .u16 (numAt s 13 2 : Int), .int .u16 0, .int .u8 0, .int .u16 0, .bool false, .int .u8 0, .int .u16 0, .int .u32 0, .int .u8 0, .int .u8 0, .string ⟨#[]⟩]
/-- .. with what stands in it. -/
def PB (n b : Nat) (c : Array Value) (w W : World) : Prop := NB n b w W ∧ rowArr W b = c
theorem PB.mem {n b : Nat} {c : Array Value} {w W W' : World} (h : PB n b c w W) (hb : Below W.heap.size W W') : PB n b c w W' :=
  ⟨h.1.mem hb, (row_below hb h.1.2.1.1).2.trans h.2⟩
theorem PB.set {n b : Nat} {c : Array Value} {w W : World} (h : PB n b c w W) (k : Nat) (hk : k < 19) (v : Value) : PB n b (c.setIfInBounds k v) w (W.setCell ⟨b, k, none⟩ v) :=
  ⟨⟨⟨by rw [free_set_iff]; exact h.1.1.1, below_set (Nat.le_of_lt h.1.2.2.1) _ _ h.1.1.2.1, by simp; exact h.1.1.2.2⟩, by rw [free_set_iff]; exact h.1.2.1, h.1.2.2.1, by simp; exact h.1.2.2.2⟩,
    by rw [row_set _ _ _ _ h.1.2.1.1 hk, h.2]⟩
theorem PB.cell {n b : Nat} {c : Array Value} {w W : World} (h : PB n b c w W) (k : Nat) (v : Value) (hv : c[k]? = some v) : W.cell? ⟨b, k, none⟩ = some v := cell_of h.1.2.1.1 h.2 k v hv
theorem PB.free {n b : Nat} {c : Array Value} {w W : World} (h : PB n b c w W) (k : Nat) (hk : k < 19) : W.frozen? ⟨b, k, none⟩ = false := h.1.2.1.2 k hk
/-- The frame that stands in bytes by their places. -/
def placeF (s : ByteArray) : Fr :=
  if byt s 0 = 3 then ⟨byt s 0, byt s 2, byt s 5, numAt s 3 2, numAt s 6 2, numAt s 8 2, byt s 10, numAt s 11 2, numAt s 13 2, numAt s 15 2, byt s 17, numAt s 18 2, (byt s 20 : Int) == 1, 0, 0, 0, 0, 0, ⟨#[]⟩⟩
  else if byt s 0 = 4 then ⟨byt s 0, byt s 2, byt s 5, numAt s 3 2, numAt s 6 2, numAt s 8 2, byt s 10, numAt s 11 2, numAt s 13 2, 0, 0, 0, false, byt s 15, numAt s 16 2, numAt s 18 4, byt s 22, byt s 23, s.extract 24 (s.size - 2)⟩
  else ⟨byt s 0, byt s 2, byt s 5, numAt s 3 2, numAt s 6 2, numAt s 8 2, byt s 10, numAt s 11 2, numAt s 13 2, 0, 0, 0, false, 0, 0, 0, 0, 0, ⟨#[]⟩⟩

set_option maxRecDepth 100000 in
set_option maxHeartbeats 4000000 in
theorem rframe_any (s : ByteArray) (h17 : 17 ≤ s.size) (hk3 : byt s 0 = 3 → 21 ≤ s.size) (hk4 : byt s 0 = 4 → 26 ≤ s.size) (hs : s.size ≤ 1000) (w : World) : Calls Tryd.prog 46 #[.string s] w fun e w' => e = .returned (.agg #[.int .i64 (placeF s).kind, .int .u8 (placeF s).src, .int .u8 (placeF s).dst, .int .u16 (placeF s).sinc, .int .u16 (placeF s).dinc, .int .u16 (placeF s).ec, .int .u8 (placeF s).ea, .int .u16 (placeF s).ei, .int .u16 (placeF s).hop, .int .u16 (placeF s).hc, .int .u8 (placeF s).ha, .int .u16 (placeF s).hi, .bool (placeF s).wants, .int .u8 (placeF s).blk, .int .u16 (placeF s).vinc, .int .u32 (placeF s).vseq, .int .u8 (placeF s).part, .int .u8 (placeF s).parts, .string (placeF s).bytes]) ∧ Below w.heap.size w w' := by
  have x0 := ix_at s 0 (by omega) 0 rfl
  have x2 := ix_at s 2 (by omega) 2 rfl
  have x5 := ix_at s 5 (by omega) 5 rfl
  have n3 := Lib.hid (number_i s 3 2 3 2 rfl rfl (by omega) (by decide))
  have n6 := Lib.hid (number_i s 6 2 6 2 rfl rfl (by omega) (by decide))
  have n13 := Lib.hid (number_i s 13 2 13 2 rfl rfl (by omega) (by decide))
  have u0 : IntKind.i64.wrap (byt s 0 : Int) = (byt s 0 : Int) := by have := byt_le s 0; rw [IntKind.wrap_i64]; omega
  have u3 : IntKind.u16.wrap (numAt s 3 2 : Int) = (numAt s 3 2 : Int) := by have := numAt_le2 s 3; rw [IntKind.wrap_u16]; omega
  have u6 : IntKind.u16.wrap (numAt s 6 2 : Int) = (numAt s 6 2 : Int) := by have := numAt_le2 s 6; rw [IntKind.wrap_u16]; omega
  have u13 : IntKind.u16.wrap (numAt s 13 2 : Int) = (numAt s 13 2 : Int) := by have := numAt_le2 s 13; rw [IntKind.wrap_u16]; omega
  have x10 := ix_at s 10 (by omega) 10 rfl
  have n8 := Lib.hid (number_i s 8 2 8 2 rfl rfl (by omega) (by decide))
  have u8 : IntKind.u16.wrap (numAt s 8 2 : Int) = (numAt s 8 2 : Int) := by have := numAt_le2 s 8; rw [IntKind.wrap_u16]; omega
  have n11 := Lib.hid (number_i s 11 2 11 2 rfl rfl (by omega) (by decide))
  have u11 : IntKind.u16.wrap (numAt s 11 2 : Int) = (numAt s 11 2 : Int) := by have := numAt_le2 s 11; rw [IntKind.wrap_u16]; omega
  have H17 := Lib.hid h17
  have HK3 := Lib.hid hk3
  have HK4 := Lib.hid hk4
  have HS1 := Lib.hid hs
  clear h17 hk3 hk4 hs
  go_enter Tryd.func46, Tryd.ntmps46
  go_wp2
  refine world_cut (G := fun W => Code.wp _ _ _ _ W) (fun W => NQ w.heap.size w W.drew) ⟨free_new _ _ _ _ rfl rfl, ((Below.refl _ _).alloc (Nat.le_refl _) _).drew, by simp⟩ ?_
  rintro W hA
  generalize hn : w.heap.size = n at *
  have HN := Lib.hid hn
  clear hn
  refine Code.wp_mono (Q := fun e a W => e = .normal ∧ Mid1 s n w a W) ?_ ?_
  rotate_left
  · clear x10 n8 u8 n11 u11
    refine wp_region_held_drew (S := fun _ => True) (by kernel_rfl) trivial (fun _ => ?_)
    refine world_cut (G := fun W => wpAnyH _ _ _ _ _ _ _ _ W) (fun W => NQ n w W) hA ?_
    clear hA
    rintro V hA
    clear W
    refine wpAnyH_take (i := 0) (v := .string s) rfl (by kernel_rfl) (by kernel_rfl) (by kernel_rfl) (fun _ _ _ h => absurd h.1 (by simp)) (Or.inl ⟨by rfl, by intro w _; go_simp⟩) trivial ?_
    try simp only [Act.put, List.setIfInBounds_toArray, List.set_cons_zero, List.set_cons_succ]
    refine wpAnyH_take (i := 1) (v := .int .u8 (byt s 0 : Int)) rfl (by kernel_rfl) (by kernel_rfl) (by kernel_rfl) (fun _ _ _ h => absurd h.1 (by simp)) (Or.inl ⟨by rfl, by intro w _; exact x0 w⟩) trivial ?_
    try simp only [Act.put, List.setIfInBounds_toArray, List.set_cons_zero, List.set_cons_succ]
    refine wpAnyH_take (i := 2) (v := .int .i64 (byt s 0 : Int)) rfl (by kernel_rfl) (by kernel_rfl) (by kernel_rfl) (fun _ _ _ h => absurd h.1 (by simp)) (Or.inl ⟨by rfl, by intro w _; go_simp⟩) trivial ?_
    try simp only [Act.put, List.setIfInBounds_toArray, List.set_cons_zero, List.set_cons_succ]
    refine wpAnyH_take (i := 3) (v := .string s) rfl (by kernel_rfl) (by kernel_rfl) (by kernel_rfl) (fun _ _ _ h => absurd h.1 (by simp)) (Or.inl ⟨by rfl, by intro w _; go_simp⟩) trivial ?_
    try simp only [Act.put, List.setIfInBounds_toArray, List.set_cons_zero, List.set_cons_succ]
    refine wpAnyH_take (i := 4) (v := .int .u8 (byt s 2 : Int)) rfl (by kernel_rfl) (by kernel_rfl) (by kernel_rfl) (fun _ _ _ h => absurd h.1 (by simp)) (Or.inl ⟨by rfl, by intro w _; exact x2 w⟩) trivial ?_
    try simp only [Act.put, List.setIfInBounds_toArray, List.set_cons_zero, List.set_cons_succ]
    refine wpAnyH_take (i := 5) (v := .string s) rfl (by kernel_rfl) (by kernel_rfl) (by kernel_rfl) (fun _ _ _ h => absurd h.1 (by simp)) (Or.inl ⟨by rfl, by intro w _; go_simp⟩) trivial ?_
    try simp only [Act.put, List.setIfInBounds_toArray, List.set_cons_zero, List.set_cons_succ]
    refine wpAnyH_take (i := 8) (v := .string s) rfl (by kernel_rfl) (by kernel_rfl) (by kernel_rfl) (fun _ _ _ h => absurd h.1 (by simp)) (Or.inl ⟨by rfl, by intro w _; go_simp⟩) trivial ?_
    try simp only [Act.put, List.setIfInBounds_toArray, List.set_cons_zero, List.set_cons_succ]
    refine wpAnyH_take (i := 9) (v := .int .u8 (byt s 5 : Int)) rfl (by kernel_rfl) (by kernel_rfl) (by kernel_rfl) (fun _ _ _ h => absurd h.1 (by simp)) (Or.inl ⟨by rfl, by intro w _; exact x5 w⟩) trivial ?_
    try simp only [Act.put, List.setIfInBounds_toArray, List.set_cons_zero, List.set_cons_succ]
    refine wpAnyH_take (i := 10) (v := .string s) rfl (by kernel_rfl) (by kernel_rfl) (by kernel_rfl) (fun _ _ _ h => absurd h.1 (by simp)) (Or.inl ⟨by rfl, by intro w _; go_simp⟩) trivial ?_
    try simp only [Act.put, List.setIfInBounds_toArray, List.set_cons_zero, List.set_cons_succ]
    refine wpAnyH_take (i := 13) (v := .string s) rfl (by kernel_rfl) (by kernel_rfl) (by kernel_rfl) (fun _ _ _ h => absurd h.1 (by simp)) (Or.inl ⟨by rfl, by intro w _; go_simp⟩) trivial ?_
    try simp only [Act.put, List.setIfInBounds_toArray, List.set_cons_zero, List.set_cons_succ]
    refine wpAnyH_ready (rs := [6, 17]) (by kernel_rfl) (by simp) ?_
    refine AllReadyH.cons rfl (fun K hK => ?_) ?_
    · go_simp
      go_at_call 62
      with_reducible refine (n3.out _).mono ?_
      rintro e V2 ⟨rfl, hb⟩
      refine hK.out _ _ trivial (fun _ => ?_)
      have hA2 := hA.mem hb
      clear hA hb hK K
      have hA := hA2
      clear hA2
      clear V
      rename World => V
      try simp only [Act.put, List.setIfInBounds_toArray, List.set_cons_zero, List.set_cons_succ]
      refine wpAnyH_take (i := 7) (v := .int .u16 (numAt s 3 2 : Int)) rfl (by kernel_rfl) (by kernel_rfl) (by kernel_rfl) (fun _ _ _ h => absurd h.1 (by simp)) (Or.inl ⟨by rfl, by intro w _; go_simp⟩) trivial ?_
      try simp only [Act.put, List.setIfInBounds_toArray, List.set_cons_zero, List.set_cons_succ]
      refine wpAnyH_ready (rs := [11, 17]) (by kernel_rfl) (by simp) ?_
      refine AllReadyH.cons rfl (fun K hK => ?_) ?_
      · go_simp
        go_at_call 62
        with_reducible refine (n6.out _).mono ?_
        rintro e V2 ⟨rfl, hb⟩
        refine hK.out _ _ trivial (fun _ => ?_)
        have hA2 := hA.mem hb
        clear hA hb hK K
        have hA := hA2
        clear hA2
        clear V
        rename World => V
        try simp only [Act.put, List.setIfInBounds_toArray, List.set_cons_zero, List.set_cons_succ]
        refine wpAnyH_take (i := 12) (v := .int .u16 (numAt s 6 2 : Int)) rfl (by kernel_rfl) (by kernel_rfl) (by kernel_rfl) (fun _ _ _ h => absurd h.1 (by simp)) (Or.inl ⟨by rfl, by intro w _; go_simp⟩) trivial ?_
        try simp only [Act.put, List.setIfInBounds_toArray, List.set_cons_zero, List.set_cons_succ]
        refine wpAnyH_ready (rs := [14, 17]) (by kernel_rfl) (by simp) ?_
        refine AllReadyH.cons rfl (fun K hK => ?_) ?_
        · go_simp
          go_at_call 62
          with_reducible refine (n13.out _).mono ?_
          rintro e V2 ⟨rfl, hb⟩
          refine hK.out _ _ trivial (fun _ => ?_)
          have hA2 := hA.mem hb
          clear hA hb hK K
          have hA := hA2
          clear hA2
          clear V
          rename World => V
          try simp only [Act.put, List.setIfInBounds_toArray, List.set_cons_zero, List.set_cons_succ]
          refine wpAnyH_take (i := 15) (v := .int .u16 (numAt s 13 2 : Int)) rfl (by kernel_rfl) (by kernel_rfl) (by kernel_rfl) (fun _ _ _ h => absurd h.1 (by simp)) (Or.inl ⟨by rfl, by intro w _; go_simp⟩) trivial ?_
          try simp only [Act.put, List.setIfInBounds_toArray, List.set_cons_zero, List.set_cons_succ]
          refine wpAnyH_take (i := 16) (v := .agg #[.int .i64 (byt s 0 : Int), .int .u8 (byt s 2 : Int), .int .u8 (byt s 5 : Int), .int .u16 (numAt s 3 2 : Int), .int .u16 (numAt s 6 2 : Int), .int .u16 0, .int .u8 0, .int .u16 0, .int .u16 (numAt s 13 2 : Int), .int .u16 0, .int .u8 0, .int .u16 0, .bool false, .int .u8 0, .int .u16 0, .int .u32 0, .int .u8 0, .int .u8 0, .string ⟨#[]⟩]) rfl (by kernel_rfl) (by kernel_rfl) (by kernel_rfl) (fun _ _ _ h => absurd h.1 (by simp)) (Or.inl ⟨by rfl, by intro w _; go_simp⟩) trivial ?_
          try simp only [Act.put, List.setIfInBounds_toArray, List.set_cons_zero, List.set_cons_succ]
          refine wpAnyH_ready (rs := [17]) (by kernel_rfl) (by simp) ?_
          refine AllReadyH.cons rfl (fun K hK => ?_) ?_
          · go_simp
            refine hK.out _ _ trivial (fun _ => ?_)
            clear hK K
            refine world_cut (G := fun W' => wpAnyH _ _ _ _ _ _ _ _ W') (fun W' => NB n V.heap.size w W') (hA.box rfl) ?_
            clear hA
            rintro V2 hA
            generalize V.heap.size = b at *
            clear V
            rename World => V
            try simp only [Act.put, List.setIfInBounds_toArray, List.set_cons_zero, List.set_cons_succ]
            refine wpAnyH_ready (rs := [18]) (by kernel_rfl) (by simp) ?_
            refine AllReadyH.cons rfl (fun K hK => ?_) AllReadyH.nil
            rw [if_pos (by rfl)]
            show Oper.upon Tryd.prog _ _ K _ (st29 (.pointer (some ⟨_, 0, none⟩)) (.agg #[.int .i64 (byt s 0 : Int), .int .u8 (byt s 2 : Int), .int .u8 (byt s 5 : Int), .int .u16 (numAt s 3 2 : Int), .int .u16 (numAt s 6 2 : Int), .int .u16 0, .int .u8 0, .int .u16 0, .int .u16 (numAt s 13 2 : Int), .int .u16 0, .int .u8 0, .int .u16 0, .bool false, .int .u8 0, .int .u16 0, .int .u32 0, .int .u8 0, .int .u8 0, .string ⟨#[]⟩]) V)
            rw [st_row V _ _ hA.2.1 (row_len _ rfl) (one_C1 s)]
            show K _ _
            refine hK.out _ _ trivial (fun _ => ?_)
            exact wpAnyH_done (by kernel_rfl) ⟨rfl, _, rfl, hA.put (row_len _ rfl)⟩ _
          exact AllReadyH.nil
        refine AllReadyH.cons rfl (fun K hK => ?_) ?_
        · go_simp
          refine hK.out _ _ trivial (fun _ => ?_)
          clear hK K
          refine world_cut (G := fun W' => wpAnyH _ _ _ _ _ _ _ _ W') (fun W' => NB n V.heap.size w W') (hA.box rfl) ?_
          clear hA
          rintro V2 hA
          generalize V.heap.size = b at *
          clear V
          rename World => V
          try simp only [Act.put, List.setIfInBounds_toArray, List.set_cons_zero, List.set_cons_succ]
          refine wpAnyH_ready (rs := [14]) (by kernel_rfl) (by simp) ?_
          refine AllReadyH.cons rfl (fun K hK => ?_) ?_
          · go_simp
            go_at_call 62
            with_reducible refine (n13.out _).mono ?_
            rintro e V2 ⟨rfl, hb⟩
            refine hK.out _ _ trivial (fun _ => ?_)
            have hA2 := hA.mem hb
            clear hA hb hK K
            have hA := hA2
            clear hA2
            clear V
            rename World => V
            try simp only [Act.put, List.setIfInBounds_toArray, List.set_cons_zero, List.set_cons_succ]
            refine wpAnyH_take (i := 15) (v := .int .u16 (numAt s 13 2 : Int)) rfl (by kernel_rfl) (by kernel_rfl) (by kernel_rfl) (fun _ _ _ h => absurd h.1 (by simp)) (Or.inl ⟨by rfl, by intro w _; go_simp⟩) trivial ?_
            try simp only [Act.put, List.setIfInBounds_toArray, List.set_cons_zero, List.set_cons_succ]
            refine wpAnyH_take (i := 16) (v := .agg #[.int .i64 (byt s 0 : Int), .int .u8 (byt s 2 : Int), .int .u8 (byt s 5 : Int), .int .u16 (numAt s 3 2 : Int), .int .u16 (numAt s 6 2 : Int), .int .u16 0, .int .u8 0, .int .u16 0, .int .u16 (numAt s 13 2 : Int), .int .u16 0, .int .u8 0, .int .u16 0, .bool false, .int .u8 0, .int .u16 0, .int .u32 0, .int .u8 0, .int .u8 0, .string ⟨#[]⟩]) rfl (by kernel_rfl) (by kernel_rfl) (by kernel_rfl) (fun _ _ _ h => absurd h.1 (by simp)) (Or.inl ⟨by rfl, by intro w _; go_simp⟩) trivial ?_
            try simp only [Act.put, List.setIfInBounds_toArray, List.set_cons_zero, List.set_cons_succ]
            refine wpAnyH_ready (rs := [18]) (by kernel_rfl) (by simp) ?_
            refine AllReadyH.cons rfl (fun K hK => ?_) AllReadyH.nil
            rw [if_pos (by rfl)]
            show Oper.upon Tryd.prog _ _ K _ (st29 (.pointer (some ⟨_, 0, none⟩)) (.agg #[.int .i64 (byt s 0 : Int), .int .u8 (byt s 2 : Int), .int .u8 (byt s 5 : Int), .int .u16 (numAt s 3 2 : Int), .int .u16 (numAt s 6 2 : Int), .int .u16 0, .int .u8 0, .int .u16 0, .int .u16 (numAt s 13 2 : Int), .int .u16 0, .int .u8 0, .int .u16 0, .bool false, .int .u8 0, .int .u16 0, .int .u32 0, .int .u8 0, .int .u8 0, .string ⟨#[]⟩]) V)
            rw [st_row V _ _ hA.2.1 (row_len _ rfl) (one_C1 s)]
            show K _ _
            refine hK.out _ _ trivial (fun _ => ?_)
            exact wpAnyH_done (by kernel_rfl) ⟨rfl, _, rfl, hA.put (row_len _ rfl)⟩ _
          exact AllReadyH.nil
        exact AllReadyH.nil
      refine AllReadyH.cons rfl (fun K hK => ?_) ?_
      · go_simp
        refine hK.out _ _ trivial (fun _ => ?_)
        clear hK K
        refine world_cut (G := fun W' => wpAnyH _ _ _ _ _ _ _ _ W') (fun W' => NB n V.heap.size w W') (hA.box rfl) ?_
        clear hA
        rintro V2 hA
        generalize V.heap.size = b at *
        clear V
        rename World => V
        try simp only [Act.put, List.setIfInBounds_toArray, List.set_cons_zero, List.set_cons_succ]
        refine wpAnyH_ready (rs := [11]) (by kernel_rfl) (by simp) ?_
        refine AllReadyH.cons rfl (fun K hK => ?_) ?_
        · go_simp
          go_at_call 62
          with_reducible refine (n6.out _).mono ?_
          rintro e V2 ⟨rfl, hb⟩
          refine hK.out _ _ trivial (fun _ => ?_)
          have hA2 := hA.mem hb
          clear hA hb hK K
          have hA := hA2
          clear hA2
          clear V
          rename World => V
          try simp only [Act.put, List.setIfInBounds_toArray, List.set_cons_zero, List.set_cons_succ]
          refine wpAnyH_take (i := 12) (v := .int .u16 (numAt s 6 2 : Int)) rfl (by kernel_rfl) (by kernel_rfl) (by kernel_rfl) (fun _ _ _ h => absurd h.1 (by simp)) (Or.inl ⟨by rfl, by intro w _; go_simp⟩) trivial ?_
          try simp only [Act.put, List.setIfInBounds_toArray, List.set_cons_zero, List.set_cons_succ]
          refine wpAnyH_ready (rs := [14]) (by kernel_rfl) (by simp) ?_
          refine AllReadyH.cons rfl (fun K hK => ?_) ?_
          · go_simp
            go_at_call 62
            with_reducible refine (n13.out _).mono ?_
            rintro e V2 ⟨rfl, hb⟩
            refine hK.out _ _ trivial (fun _ => ?_)
            have hA2 := hA.mem hb
            clear hA hb hK K
            have hA := hA2
            clear hA2
            clear V
            rename World => V
            try simp only [Act.put, List.setIfInBounds_toArray, List.set_cons_zero, List.set_cons_succ]
            refine wpAnyH_take (i := 15) (v := .int .u16 (numAt s 13 2 : Int)) rfl (by kernel_rfl) (by kernel_rfl) (by kernel_rfl) (fun _ _ _ h => absurd h.1 (by simp)) (Or.inl ⟨by rfl, by intro w _; go_simp⟩) trivial ?_
            try simp only [Act.put, List.setIfInBounds_toArray, List.set_cons_zero, List.set_cons_succ]
            refine wpAnyH_take (i := 16) (v := .agg #[.int .i64 (byt s 0 : Int), .int .u8 (byt s 2 : Int), .int .u8 (byt s 5 : Int), .int .u16 (numAt s 3 2 : Int), .int .u16 (numAt s 6 2 : Int), .int .u16 0, .int .u8 0, .int .u16 0, .int .u16 (numAt s 13 2 : Int), .int .u16 0, .int .u8 0, .int .u16 0, .bool false, .int .u8 0, .int .u16 0, .int .u32 0, .int .u8 0, .int .u8 0, .string ⟨#[]⟩]) rfl (by kernel_rfl) (by kernel_rfl) (by kernel_rfl) (fun _ _ _ h => absurd h.1 (by simp)) (Or.inl ⟨by rfl, by intro w _; go_simp⟩) trivial ?_
            try simp only [Act.put, List.setIfInBounds_toArray, List.set_cons_zero, List.set_cons_succ]
            refine wpAnyH_ready (rs := [18]) (by kernel_rfl) (by simp) ?_
            refine AllReadyH.cons rfl (fun K hK => ?_) AllReadyH.nil
            rw [if_pos (by rfl)]
            show Oper.upon Tryd.prog _ _ K _ (st29 (.pointer (some ⟨_, 0, none⟩)) (.agg #[.int .i64 (byt s 0 : Int), .int .u8 (byt s 2 : Int), .int .u8 (byt s 5 : Int), .int .u16 (numAt s 3 2 : Int), .int .u16 (numAt s 6 2 : Int), .int .u16 0, .int .u8 0, .int .u16 0, .int .u16 (numAt s 13 2 : Int), .int .u16 0, .int .u8 0, .int .u16 0, .bool false, .int .u8 0, .int .u16 0, .int .u32 0, .int .u8 0, .int .u8 0, .string ⟨#[]⟩]) V)
            rw [st_row V _ _ hA.2.1 (row_len _ rfl) (one_C1 s)]
            show K _ _
            refine hK.out _ _ trivial (fun _ => ?_)
            exact wpAnyH_done (by kernel_rfl) ⟨rfl, _, rfl, hA.put (row_len _ rfl)⟩ _
          exact AllReadyH.nil
        exact AllReadyH.nil
      exact AllReadyH.nil
    refine AllReadyH.cons rfl (fun K hK => ?_) ?_
    · go_simp
      refine hK.out _ _ trivial (fun _ => ?_)
      clear hK K
      refine world_cut (G := fun W' => wpAnyH _ _ _ _ _ _ _ _ W') (fun W' => NB n V.heap.size w W') (hA.box rfl) ?_
      clear hA
      rintro V2 hA
      generalize V.heap.size = b at *
      clear V
      rename World => V
      try simp only [Act.put, List.setIfInBounds_toArray, List.set_cons_zero, List.set_cons_succ]
      refine wpAnyH_ready (rs := [6]) (by kernel_rfl) (by simp) ?_
      refine AllReadyH.cons rfl (fun K hK => ?_) ?_
      · go_simp
        go_at_call 62
        with_reducible refine (n3.out _).mono ?_
        rintro e V2 ⟨rfl, hb⟩
        refine hK.out _ _ trivial (fun _ => ?_)
        have hA2 := hA.mem hb
        clear hA hb hK K
        have hA := hA2
        clear hA2
        clear V
        rename World => V
        try simp only [Act.put, List.setIfInBounds_toArray, List.set_cons_zero, List.set_cons_succ]
        refine wpAnyH_take (i := 7) (v := .int .u16 (numAt s 3 2 : Int)) rfl (by kernel_rfl) (by kernel_rfl) (by kernel_rfl) (fun _ _ _ h => absurd h.1 (by simp)) (Or.inl ⟨by rfl, by intro w _; go_simp⟩) trivial ?_
        try simp only [Act.put, List.setIfInBounds_toArray, List.set_cons_zero, List.set_cons_succ]
        refine wpAnyH_ready (rs := [11]) (by kernel_rfl) (by simp) ?_
        refine AllReadyH.cons rfl (fun K hK => ?_) ?_
        · go_simp
          go_at_call 62
          with_reducible refine (n6.out _).mono ?_
          rintro e V2 ⟨rfl, hb⟩
          refine hK.out _ _ trivial (fun _ => ?_)
          have hA2 := hA.mem hb
          clear hA hb hK K
          have hA := hA2
          clear hA2
          clear V
          rename World => V
          try simp only [Act.put, List.setIfInBounds_toArray, List.set_cons_zero, List.set_cons_succ]
          refine wpAnyH_take (i := 12) (v := .int .u16 (numAt s 6 2 : Int)) rfl (by kernel_rfl) (by kernel_rfl) (by kernel_rfl) (fun _ _ _ h => absurd h.1 (by simp)) (Or.inl ⟨by rfl, by intro w _; go_simp⟩) trivial ?_
          try simp only [Act.put, List.setIfInBounds_toArray, List.set_cons_zero, List.set_cons_succ]
          refine wpAnyH_ready (rs := [14]) (by kernel_rfl) (by simp) ?_
          refine AllReadyH.cons rfl (fun K hK => ?_) ?_
          · go_simp
            go_at_call 62
            with_reducible refine (n13.out _).mono ?_
            rintro e V2 ⟨rfl, hb⟩
            refine hK.out _ _ trivial (fun _ => ?_)
            have hA2 := hA.mem hb
            clear hA hb hK K
            have hA := hA2
            clear hA2
            clear V
            rename World => V
            try simp only [Act.put, List.setIfInBounds_toArray, List.set_cons_zero, List.set_cons_succ]
            refine wpAnyH_take (i := 15) (v := .int .u16 (numAt s 13 2 : Int)) rfl (by kernel_rfl) (by kernel_rfl) (by kernel_rfl) (fun _ _ _ h => absurd h.1 (by simp)) (Or.inl ⟨by rfl, by intro w _; go_simp⟩) trivial ?_
            try simp only [Act.put, List.setIfInBounds_toArray, List.set_cons_zero, List.set_cons_succ]
            refine wpAnyH_take (i := 16) (v := .agg #[.int .i64 (byt s 0 : Int), .int .u8 (byt s 2 : Int), .int .u8 (byt s 5 : Int), .int .u16 (numAt s 3 2 : Int), .int .u16 (numAt s 6 2 : Int), .int .u16 0, .int .u8 0, .int .u16 0, .int .u16 (numAt s 13 2 : Int), .int .u16 0, .int .u8 0, .int .u16 0, .bool false, .int .u8 0, .int .u16 0, .int .u32 0, .int .u8 0, .int .u8 0, .string ⟨#[]⟩]) rfl (by kernel_rfl) (by kernel_rfl) (by kernel_rfl) (fun _ _ _ h => absurd h.1 (by simp)) (Or.inl ⟨by rfl, by intro w _; go_simp⟩) trivial ?_
            try simp only [Act.put, List.setIfInBounds_toArray, List.set_cons_zero, List.set_cons_succ]
            refine wpAnyH_ready (rs := [18]) (by kernel_rfl) (by simp) ?_
            refine AllReadyH.cons rfl (fun K hK => ?_) AllReadyH.nil
            rw [if_pos (by rfl)]
            show Oper.upon Tryd.prog _ _ K _ (st29 (.pointer (some ⟨_, 0, none⟩)) (.agg #[.int .i64 (byt s 0 : Int), .int .u8 (byt s 2 : Int), .int .u8 (byt s 5 : Int), .int .u16 (numAt s 3 2 : Int), .int .u16 (numAt s 6 2 : Int), .int .u16 0, .int .u8 0, .int .u16 0, .int .u16 (numAt s 13 2 : Int), .int .u16 0, .int .u8 0, .int .u16 0, .bool false, .int .u8 0, .int .u16 0, .int .u32 0, .int .u8 0, .int .u8 0, .string ⟨#[]⟩]) V)
            rw [st_row V _ _ hA.2.1 (row_len _ rfl) (one_C1 s)]
            show K _ _
            refine hK.out _ _ trivial (fun _ => ?_)
            exact wpAnyH_done (by kernel_rfl) ⟨rfl, _, rfl, hA.put (row_len _ rfl)⟩ _
          exact AllReadyH.nil
        exact AllReadyH.nil
      exact AllReadyH.nil
    exact AllReadyH.nil
  rintro e a V ⟨rfl, b, rfl, hB, hrow⟩
  clear hA
  clear W
  have hA : PB n b #[.int .i64 (byt s 0 : Int), .int .u8 (byt s 2 : Int), .int .u8 (byt s 5 : Int), .int .u16 (numAt s 3 2 : Int), .int .u16 (numAt s 6 2 : Int), .int .u16 0, .int .u8 0, .int .u16 0, .int .u16 (numAt s 13 2 : Int), .int .u16 0, .int .u8 0, .int .u16 0, .bool false, .int .u8 0, .int .u16 0, .int .u32 0, .int .u8 0, .int .u8 0, .string ⟨#[]⟩] w V := ⟨hB, hrow⟩
  clear hB hrow
  go_wp2
  refine wp_region_noPanic ?_
  refine wp_region_held_drew (S := fun _ => True) (by kernel_rfl) trivial (fun _ => ?_)
  refine world_cut (G := fun W => wpAnyH _ _ _ _ _ _ _ _ W) (fun W => PB n b #[.int .i64 (byt s 0 : Int), .int .u8 (byt s 2 : Int), .int .u8 (byt s 5 : Int), .int .u16 (numAt s 3 2 : Int), .int .u16 (numAt s 6 2 : Int), .int .u16 0, .int .u8 0, .int .u16 0, .int .u16 (numAt s 13 2 : Int), .int .u16 0, .int .u8 0, .int .u16 0, .bool false, .int .u8 0, .int .u16 0, .int .u32 0, .int .u8 0, .int .u8 0, .string ⟨#[]⟩] w W) (hA.mem ((Below.refl _ _).drew)) ?_
  clear hA
  clear V
  rintro V hA
  refine wpAnyH_take (i := 0) (v := .string s) rfl (by kernel_rfl) (by kernel_rfl) (by kernel_rfl) (fun _ _ _ h => h) (Or.inl ⟨by rfl, by intro w _; go_simp⟩) trivial ?_
  try simp only [Act.put, List.setIfInBounds_toArray, List.set_cons_zero, List.set_cons_succ]
  refine wpAnyH_take (i := 3) (v := .string s) rfl (by kernel_rfl) (by kernel_rfl) (by kernel_rfl) (fun _ _ _ h => h) (Or.inl ⟨by rfl, by intro w _; go_simp⟩) trivial ?_
  try simp only [Act.put, List.setIfInBounds_toArray, List.set_cons_zero, List.set_cons_succ]
  refine wpAnyH_take (i := 4) (v := .int .u8 (byt s 10 : Int)) rfl (by kernel_rfl) (by kernel_rfl) (by kernel_rfl) (fun _ _ _ h => h) (Or.inl ⟨by rfl, by intro w _; exact x10 w⟩) trivial ?_
  try simp only [Act.put, List.setIfInBounds_toArray, List.set_cons_zero, List.set_cons_succ]
  refine wpAnyH_take (i := 5) (v := .string s) rfl (by kernel_rfl) (by kernel_rfl) (by kernel_rfl) (fun _ _ _ h => h) (Or.inl ⟨by rfl, by intro w _; go_simp⟩) trivial ?_
  try simp only [Act.put, List.setIfInBounds_toArray, List.set_cons_zero, List.set_cons_succ]
  refine wpAnyH_ready (rs := [1]) (by kernel_rfl) (by simp) ?_
  refine AllReadyH.cons rfl (fun K hK => ?_) AllReadyH.nil
  go_simp
  go_at_call 62
  with_reducible refine (n8.out _).mono ?_
  rintro e V2 ⟨rfl, hb⟩
  refine hK.out _ _ trivial (fun _ => ?_)
  have hA2 := hA.mem hb
  clear hA hb hK K
  have hA := hA2
  clear hA2
  clear V
  rename World => V
  try simp only [Act.put, List.setIfInBounds_toArray, List.set_cons_zero, List.set_cons_succ]
  refine wpAnyH_take (i := 2) (v := .int .u16 (numAt s 8 2 : Int)) rfl (by kernel_rfl) (by kernel_rfl) (by kernel_rfl) (fun _ _ _ h => h) (Or.inl ⟨by rfl, by intro w _; go_simp⟩) trivial ?_
  try simp only [Act.put, List.setIfInBounds_toArray, List.set_cons_zero, List.set_cons_succ]
  refine wpAnyH_ready (rs := [6]) (by kernel_rfl) (by simp) ?_
  refine AllReadyH.cons rfl (fun K hK => ?_) AllReadyH.nil
  go_simp
  go_at_call 62
  with_reducible refine (n11.out _).mono ?_
  rintro e V2 ⟨rfl, hb⟩
  refine hK.out _ _ trivial (fun _ => ?_)
  have hA2 := hA.mem hb
  clear hA hb hK K
  have hA := hA2
  clear hA2
  clear V
  rename World => V
  try simp only [Act.put, List.setIfInBounds_toArray, List.set_cons_zero, List.set_cons_succ]
  refine wpAnyH_take (i := 7) (v := .int .u16 (numAt s 11 2 : Int)) rfl (by kernel_rfl) (by kernel_rfl) (by kernel_rfl) (fun _ _ _ h => h) (Or.inl ⟨by rfl, by intro w _; go_simp⟩) trivial ?_
  try simp only [Act.put, List.setIfInBounds_toArray, List.set_cons_zero, List.set_cons_succ]
  refine wpAnyH_take (i := 8) (v := .agg #[.int .u16 (numAt s 8 2 : Int), .int .u8 (byt s 10 : Int), .int .u16 (numAt s 11 2 : Int)]) rfl (by kernel_rfl) (by kernel_rfl) (by kernel_rfl) (fun _ _ _ h => h) (Or.inl ⟨by rfl, by intro w _; go_simp⟩) trivial ?_
  try simp only [Act.put, List.setIfInBounds_toArray, List.set_cons_zero, List.set_cons_succ]
  refine wpAnyH_take (i := 9) (v := .pointer (some ⟨b, 5, none⟩)) rfl (by kernel_rfl) (by kernel_rfl) (by kernel_rfl) (fun _ _ _ h => h) (Or.inl ⟨by rfl, by intro w _; go_simp⟩) trivial ?_
  try simp only [Act.put, List.setIfInBounds_toArray, List.set_cons_zero, List.set_cons_succ]
  refine wpAnyH_ready (rs := [10]) (by kernel_rfl) (by simp) ?_
  refine AllReadyH.cons rfl (fun K hK => ?_) AllReadyH.nil
  have y5 := hA.cell 5 (.int .u16 0) rfl
  have g5 := hA.free 5 (by decide)
  have y6 := hA.cell 6 (.int .u8 0) rfl
  have g6 := hA.free 6 (by decide)
  have y7 := hA.cell 7 (.int .u16 0) rfl
  have g7 := hA.free 7 (by decide)
  go_simp
  clear y5 g5 y6 g6 y7 g7
  refine hK.out _ _ trivial (fun _ => ?_)
  clear hK K
  refine world_cut (G := fun W => wpAnyH _ _ _ _ _ _ _ _ W) (fun W => PB n b #[.int .i64 (byt s 0 : Int), .int .u8 (byt s 2 : Int), .int .u8 (byt s 5 : Int), .int .u16 (numAt s 3 2 : Int), .int .u16 (numAt s 6 2 : Int), .int .u16 (numAt s 8 2 : Int), .int .u8 (byt s 10 : Int), .int .u16 (numAt s 11 2 : Int), .int .u16 (numAt s 13 2 : Int), .int .u16 0, .int .u8 0, .int .u16 0, .bool false, .int .u8 0, .int .u16 0, .int .u32 0, .int .u8 0, .int .u8 0, .string ⟨#[]⟩] w W) (show PB n b #[.int .i64 (byt s 0 : Int), .int .u8 (byt s 2 : Int), .int .u8 (byt s 5 : Int), .int .u16 (numAt s 3 2 : Int), .int .u16 (numAt s 6 2 : Int), .int .u16 (numAt s 8 2 : Int), .int .u8 (byt s 10 : Int), .int .u16 (numAt s 11 2 : Int), .int .u16 (numAt s 13 2 : Int), .int .u16 0, .int .u8 0, .int .u16 0, .bool false, .int .u8 0, .int .u16 0, .int .u32 0, .int .u8 0, .int .u8 0, .string ⟨#[]⟩] w _ from (((hA.set 5 (by decide) (.int .u16 (numAt s 8 2 : Int))).set 6 (by decide) (.int .u8 (byt s 10 : Int))).set 7 (by decide) (.int .u16 (numAt s 11 2 : Int)))) ?_
  clear hA
  clear V
  rintro V hA
  try simp only [Act.put, List.setIfInBounds_toArray, List.set_cons_zero, List.set_cons_succ]
  refine wpAnyH_done (by kernel_rfl) ?_ _
  refine NoPanic.normal ?_
  clear x0 x2 x5 x10 n3 n6 n13 n8 n11 u0 u3 u6 u13 u8 u11
  by_cases h3 : byt s 0 = 3
  · have h21 := HK3.out h3
    have HF : Hid (placeF s = _) := Lib.hid (by unfold placeF; rw [if_pos h3])
    have d3 : ((byt s 0 : Int) == 3) = true := by simp; omega
    have d4 : ((byt s 0 : Int) == 4) = false := by simp; omega
    have n15 := Lib.hid (number_i s 15 2 15 2 rfl rfl (by omega) (by decide))
    have u15 : IntKind.u16.wrap (numAt s 15 2 : Int) = (numAt s 15 2 : Int) := by have := numAt_le2 s 15; rw [IntKind.wrap_u16]; omega
    have n18 := Lib.hid (number_i s 18 2 18 2 rfl rfl (by omega) (by decide))
    have u18 : IntKind.u16.wrap (numAt s 18 2 : Int) = (numAt s 18 2 : Int) := by have := numAt_le2 s 18; rw [IntKind.wrap_u16]; omega
    have x17 := ix_at s 17 (by omega) 17 rfl
    have x20 := ix_at s 20 (by omega) 20 rfl
    clear h3 h21
    have y0 := hA.cell 0 (.int .i64 (byt s 0 : Int)) rfl
    go_wp2
    clear y0
    refine wp_region_noPanic ?_
    refine wp_region_held_drew (S := fun _ => True) (by kernel_rfl) trivial (fun _ => ?_)
    refine world_cut (G := fun W => wpAnyH _ _ _ _ _ _ _ _ W) (fun W => PB n b #[.int .i64 (byt s 0 : Int), .int .u8 (byt s 2 : Int), .int .u8 (byt s 5 : Int), .int .u16 (numAt s 3 2 : Int), .int .u16 (numAt s 6 2 : Int), .int .u16 (numAt s 8 2 : Int), .int .u8 (byt s 10 : Int), .int .u16 (numAt s 11 2 : Int), .int .u16 (numAt s 13 2 : Int), .int .u16 0, .int .u8 0, .int .u16 0, .bool false, .int .u8 0, .int .u16 0, .int .u32 0, .int .u8 0, .int .u8 0, .string ⟨#[]⟩] w W) (hA.mem ((Below.refl _ _).drew)) ?_
    clear hA
    clear V
    rintro V hA
    refine wpAnyH_take (i := 0) (v := .string s) rfl (by kernel_rfl) (by kernel_rfl) (by kernel_rfl) (fun _ _ _ h => h) (Or.inl ⟨by rfl, by intro w _; go_simp⟩) trivial ?_
    try simp only [Act.put, List.setIfInBounds_toArray, List.set_cons_zero, List.set_cons_succ]
    refine wpAnyH_take (i := 3) (v := .string s) rfl (by kernel_rfl) (by kernel_rfl) (by kernel_rfl) (fun _ _ _ h => h) (Or.inl ⟨by rfl, by intro w _; go_simp⟩) trivial ?_
    try simp only [Act.put, List.setIfInBounds_toArray, List.set_cons_zero, List.set_cons_succ]
    refine wpAnyH_take (i := 4) (v := .int .u8 (byt s 17 : Int)) rfl (by kernel_rfl) (by kernel_rfl) (by kernel_rfl) (fun _ _ _ h => h) (Or.inl ⟨by rfl, by intro w _; exact x17 w⟩) trivial ?_
    try simp only [Act.put, List.setIfInBounds_toArray, List.set_cons_zero, List.set_cons_succ]
    refine wpAnyH_take (i := 5) (v := .string s) rfl (by kernel_rfl) (by kernel_rfl) (by kernel_rfl) (fun _ _ _ h => h) (Or.inl ⟨by rfl, by intro w _; go_simp⟩) trivial ?_
    try simp only [Act.put, List.setIfInBounds_toArray, List.set_cons_zero, List.set_cons_succ]
    refine wpAnyH_ready (rs := [1]) (by kernel_rfl) (by simp) ?_
    refine AllReadyH.cons rfl (fun K hK => ?_) AllReadyH.nil
    go_simp
    go_at_call 62
    with_reducible refine (n15.out _).mono ?_
    rintro e V2 ⟨rfl, hb⟩
    refine hK.out _ _ trivial (fun _ => ?_)
    have hA2 := hA.mem hb
    clear hA hb hK K
    have hA := hA2
    clear hA2
    clear V
    rename World => V
    try simp only [Act.put, List.setIfInBounds_toArray, List.set_cons_zero, List.set_cons_succ]
    refine wpAnyH_take (i := 2) (v := .int .u16 (numAt s 15 2 : Int)) rfl (by kernel_rfl) (by kernel_rfl) (by kernel_rfl) (fun _ _ _ h => h) (Or.inl ⟨by rfl, by intro w _; go_simp⟩) trivial ?_
    try simp only [Act.put, List.setIfInBounds_toArray, List.set_cons_zero, List.set_cons_succ]
    refine wpAnyH_ready (rs := [6]) (by kernel_rfl) (by simp) ?_
    refine AllReadyH.cons rfl (fun K hK => ?_) AllReadyH.nil
    go_simp
    go_at_call 62
    with_reducible refine (n18.out _).mono ?_
    rintro e V2 ⟨rfl, hb⟩
    refine hK.out _ _ trivial (fun _ => ?_)
    have hA2 := hA.mem hb
    clear hA hb hK K
    have hA := hA2
    clear hA2
    clear V
    rename World => V
    try simp only [Act.put, List.setIfInBounds_toArray, List.set_cons_zero, List.set_cons_succ]
    refine wpAnyH_take (i := 7) (v := .int .u16 (numAt s 18 2 : Int)) rfl (by kernel_rfl) (by kernel_rfl) (by kernel_rfl) (fun _ _ _ h => h) (Or.inl ⟨by rfl, by intro w _; go_simp⟩) trivial ?_
    try simp only [Act.put, List.setIfInBounds_toArray, List.set_cons_zero, List.set_cons_succ]
    refine wpAnyH_take (i := 8) (v := .agg #[.int .u16 (numAt s 15 2 : Int), .int .u8 (byt s 17 : Int), .int .u16 (numAt s 18 2 : Int)]) rfl (by kernel_rfl) (by kernel_rfl) (by kernel_rfl) (fun _ _ _ h => h) (Or.inl ⟨by rfl, by intro w _; go_simp⟩) trivial ?_
    try simp only [Act.put, List.setIfInBounds_toArray, List.set_cons_zero, List.set_cons_succ]
    refine wpAnyH_take (i := 9) (v := .pointer (some ⟨b, 9, none⟩)) rfl (by kernel_rfl) (by kernel_rfl) (by kernel_rfl) (fun _ _ _ h => h) (Or.inl ⟨by rfl, by intro w _; go_simp⟩) trivial ?_
    try simp only [Act.put, List.setIfInBounds_toArray, List.set_cons_zero, List.set_cons_succ]
    refine wpAnyH_ready (rs := [10]) (by kernel_rfl) (by simp) ?_
    refine AllReadyH.cons rfl (fun K hK => ?_) AllReadyH.nil
    have y9 := hA.cell 9 (.int .u16 0) rfl
    have g9 := hA.free 9 (by decide)
    have y10 := hA.cell 10 (.int .u8 0) rfl
    have g10 := hA.free 10 (by decide)
    have y11 := hA.cell 11 (.int .u16 0) rfl
    have g11 := hA.free 11 (by decide)
    go_simp
    clear y9 g9 y10 g10 y11 g11
    refine hK.out _ _ trivial (fun _ => ?_)
    clear hK K
    refine world_cut (G := fun W => wpAnyH _ _ _ _ _ _ _ _ W) (fun W => PB n b #[.int .i64 (byt s 0 : Int), .int .u8 (byt s 2 : Int), .int .u8 (byt s 5 : Int), .int .u16 (numAt s 3 2 : Int), .int .u16 (numAt s 6 2 : Int), .int .u16 (numAt s 8 2 : Int), .int .u8 (byt s 10 : Int), .int .u16 (numAt s 11 2 : Int), .int .u16 (numAt s 13 2 : Int), .int .u16 (numAt s 15 2 : Int), .int .u8 (byt s 17 : Int), .int .u16 (numAt s 18 2 : Int), .bool false, .int .u8 0, .int .u16 0, .int .u32 0, .int .u8 0, .int .u8 0, .string ⟨#[]⟩] w W) (show PB n b #[.int .i64 (byt s 0 : Int), .int .u8 (byt s 2 : Int), .int .u8 (byt s 5 : Int), .int .u16 (numAt s 3 2 : Int), .int .u16 (numAt s 6 2 : Int), .int .u16 (numAt s 8 2 : Int), .int .u8 (byt s 10 : Int), .int .u16 (numAt s 11 2 : Int), .int .u16 (numAt s 13 2 : Int), .int .u16 (numAt s 15 2 : Int), .int .u8 (byt s 17 : Int), .int .u16 (numAt s 18 2 : Int), .bool false, .int .u8 0, .int .u16 0, .int .u32 0, .int .u8 0, .int .u8 0, .string ⟨#[]⟩] w _ from (((hA.set 9 (by decide) (.int .u16 (numAt s 15 2 : Int))).set 10 (by decide) (.int .u8 (byt s 17 : Int))).set 11 (by decide) (.int .u16 (numAt s 18 2 : Int)))) ?_
    clear hA
    clear V
    rintro V hA
    try simp only [Act.put, List.setIfInBounds_toArray, List.set_cons_zero, List.set_cons_succ]
    refine wpAnyH_done (by kernel_rfl) ?_ _
    refine NoPanic.normal ?_
    have y12 := hA.cell 12 (.bool false) rfl
    have g12 := hA.free 12 (by decide)
    have y0 := hA.cell 0 (.int .i64 (byt s 0 : Int)) rfl
    have g0 := hA.free 0 (by decide)
    have hk := hA.1.2.1.1
    have hr := hA.2
    have hf := hA.1.1.1
    have hfk := hA.1.1.1.1
    have hlt := hA.1.2.2.1
    go_wp2
    refine bodyPost_ret (v := .agg #[.int .i64 (byt s 0 : Int), .int .u8 (byt s 2 : Int), .int .u8 (byt s 5 : Int), .int .u16 (numAt s 3 2 : Int), .int .u16 (numAt s 6 2 : Int), .int .u16 (numAt s 8 2 : Int), .int .u8 (byt s 10 : Int), .int .u16 (numAt s 11 2 : Int), .int .u16 (numAt s 13 2 : Int), .int .u16 (numAt s 15 2 : Int), .int .u8 (byt s 17 : Int), .int .u16 (numAt s 18 2 : Int), .bool ((byt s 20 : Int) == 1), .int .u8 0, .int .u16 0, .int .u32 0, .int .u8 0, .int .u8 0, .string ⟨#[]⟩]) (results_29 Tryd.results46 _ _ n _ rfl (by go_simp) (by go_simp)) rfl ⟨?_, ?_⟩
    · rw [HF.out]; rfl
    · rw [HN.out]
      exact below_put (Nat.le_refl _) _ (below_set (Nat.le_of_lt hlt) _ _ hA.1.1.2.1)
  · by_cases h4 : byt s 0 = 4
    · have h26 := HK4.out h4
      obtain ⟨m, hm⟩ : ∃ m, m = s.size - 2 := ⟨_, rfl⟩
      have HF : Hid (placeF s = _) := Lib.hid (by unfold placeF; rw [if_neg h3, if_pos h4, ← hm])
      have d3 : ((byt s 0 : Int) == 3) = false := by simp; omega
      have d4 : ((byt s 0 : Int) == 4) = true := by simp; omega
      have n16 := Lib.hid (number_i s 16 2 16 2 rfl rfl (by omega) (by decide))
      have u16 : IntKind.u16.wrap (numAt s 16 2 : Int) = (numAt s 16 2 : Int) := by have := numAt_le2 s 16; rw [IntKind.wrap_u16]; omega
      have x15 := ix_at s 15 (by omega) 15 rfl
      have x22 := ix_at s 22 (by omega) 22 rfl
      have x23 := ix_at s 23 (by omega) 23 rfl
      have n18 := Lib.hid (number_i s 18 4 18 4 rfl rfl (by omega) (by decide))
      have w2 : IntKind.i64.wrap ((s.size : Int) - 2) = (m : Int) := by rw [IntKind.wrap_i64]; have := HS1.out; omega
      have w3 : (24 : Int) ≤ (m : Int) := by omega
      have w4 : (m : Int) ≤ (s.size : Int) := by omega
      clear h3 h4 h26 hm
      have y13 := hA.cell 13 (.int .u8 0) rfl
      have g13 := hA.free 13 (by decide)
      have y0 := hA.cell 0 (.int .i64 (byt s 0 : Int)) rfl
      have g0 := hA.free 0 (by decide)
      go_wp2_with fail
      clear y13 g13 y0 g0
      refine world_cut (G := fun W => Calls _ _ _ W _) (fun W => PB n b #[.int .i64 (byt s 0 : Int), .int .u8 (byt s 2 : Int), .int .u8 (byt s 5 : Int), .int .u16 (numAt s 3 2 : Int), .int .u16 (numAt s 6 2 : Int), .int .u16 (numAt s 8 2 : Int), .int .u8 (byt s 10 : Int), .int .u16 (numAt s 11 2 : Int), .int .u16 (numAt s 13 2 : Int), .int .u16 0, .int .u8 0, .int .u16 0, .bool false, .int .u8 (byt s 15 : Int), .int .u16 0, .int .u32 0, .int .u8 0, .int .u8 0, .string ⟨#[]⟩] w W) (show PB n b #[.int .i64 (byt s 0 : Int), .int .u8 (byt s 2 : Int), .int .u8 (byt s 5 : Int), .int .u16 (numAt s 3 2 : Int), .int .u16 (numAt s 6 2 : Int), .int .u16 (numAt s 8 2 : Int), .int .u8 (byt s 10 : Int), .int .u16 (numAt s 11 2 : Int), .int .u16 (numAt s 13 2 : Int), .int .u16 0, .int .u8 0, .int .u16 0, .bool false, .int .u8 (byt s 15 : Int), .int .u16 0, .int .u32 0, .int .u8 0, .int .u8 0, .string ⟨#[]⟩] w _ from (hA.set 13 (by decide) (.int .u8 (byt s 15 : Int)))) ?_
      clear hA
      clear V
      rintro V hA
      refine (n16.out _).mono ?_
      rintro e V2 ⟨rfl, hb⟩
      have hA2 := hA.mem hb
      clear hA hb
      clear V
      rename World => V
      have hA := hA2
      clear hA2
      go_wp2_with fail
      refine (n18.out _).mono ?_
      rintro e V2 ⟨rfl, hb⟩
      have hA2 := hA.mem hb
      clear hA hb
      clear V
      rename World => V
      have hA := hA2
      clear hA2
      have y14 := hA.cell 14 (.int .u16 0) rfl
      have g14 := hA.free 14 (by decide)
      have y15 := hA.cell 15 (.int .u32 0) rfl
      have g15 := hA.free 15 (by decide)
      have y16 := hA.cell 16 (.int .u8 0) rfl
      have g16 := hA.free 16 (by decide)
      have y17 := hA.cell 17 (.int .u8 0) rfl
      have g17 := hA.free 17 (by decide)
      have y18 := hA.cell 18 (.string ⟨#[]⟩) rfl
      have g18 := hA.free 18 (by decide)
      have hk := hA.1.2.1.1
      have hr := hA.2
      have hf := hA.1.1.1
      have hfk := hA.1.1.1.1
      have hlt := hA.1.2.2.1
      go_wp2
      refine bodyPost_ret (v := .agg #[.int .i64 (byt s 0 : Int), .int .u8 (byt s 2 : Int), .int .u8 (byt s 5 : Int), .int .u16 (numAt s 3 2 : Int), .int .u16 (numAt s 6 2 : Int), .int .u16 (numAt s 8 2 : Int), .int .u8 (byt s 10 : Int), .int .u16 (numAt s 11 2 : Int), .int .u16 (numAt s 13 2 : Int), .int .u16 0, .int .u8 0, .int .u16 0, .bool false, .int .u8 (byt s 15 : Int), .int .u16 (numAt s 16 2 : Int), .int .u32 (numAt s 18 4 : Int), .int .u8 (byt s 22 : Int), .int .u8 (byt s 23 : Int), .string (s.extract 24 m)]) (results_29 Tryd.results46 _ _ n _ rfl (by go_simp) (by go_simp)) rfl ⟨?_, ?_⟩
      · rw [HF.out]; rfl
      · rw [HN.out]
        exact below_put (Nat.le_refl _) _ (below_set (Nat.le_of_lt hlt) _ _ (below_set (Nat.le_of_lt hlt) _ _ (below_set (Nat.le_of_lt hlt) _ _ (below_set (Nat.le_of_lt hlt) _ _ (below_set (Nat.le_of_lt hlt) _ _ hA.1.1.2.1)))))
    · have HF : Hid (placeF s = _) := Lib.hid (by unfold placeF; rw [if_neg h3, if_neg h4])
      have d3 : ((byt s 0 : Int) == 3) = false := by simp; omega
      have d4 : ((byt s 0 : Int) == 4) = false := by simp; omega
      clear h3 h4
      have y0 := hA.cell 0 (.int .i64 (byt s 0 : Int)) rfl
      have hk := hA.1.2.1.1
      have hr := hA.2
      have hf := hA.1.1.1
      have hfk := hA.1.1.1.1
      have hlt := hA.1.2.2.1
      go_wp2
      refine bodyPost_ret (v := .agg #[.int .i64 (byt s 0 : Int), .int .u8 (byt s 2 : Int), .int .u8 (byt s 5 : Int), .int .u16 (numAt s 3 2 : Int), .int .u16 (numAt s 6 2 : Int), .int .u16 (numAt s 8 2 : Int), .int .u8 (byt s 10 : Int), .int .u16 (numAt s 11 2 : Int), .int .u16 (numAt s 13 2 : Int), .int .u16 0, .int .u8 0, .int .u16 0, .bool false, .int .u8 0, .int .u16 0, .int .u32 0, .int .u8 0, .int .u8 0, .string ⟨#[]⟩]) (results_29 Tryd.results46 _ _ n _ rfl (by go_simp) (by go_simp)) rfl ⟨?_, ?_⟩
      · rw [HF.out]; rfl
      · rw [HN.out]
        exact below_put (Nat.le_refl _) _ hA.1.1.2.1

end Go.Proofs.YtindekpmicbbiaaDoor
