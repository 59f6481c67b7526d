/-
  The library's slices.Delete at a row of pieces, walked. Conditions: none.
-/
import Derived.Test.YthepnckbooioeaaBcAdd
import Derived.Lib.SliceRun
namespace Go.Proofs.Ythepnckbooioeaa.Bus
open Go.RowKit

def zeros4 : List Value := cells4 Pc.zero
theorem zero_run (w : World) : (zeroValue 43).run Try.prog w = .ok Pc.zero.val w := by
  have := Try.zeroValue43 w
  exact this

/-- 'clear(s)' of one piece. -/
theorem clear_one (w : World) (ty : TypeId) (b o c : Nat) (hc : ∀ j, j < 4 → (w.cell? ⟨b, o + j, none⟩).isSome = true) (hf : ∀ j, j < 4 → w.frozen? ⟨b, o + j, none⟩ = false) :
    (Builtin.clear_ #[28] ty #[.slice (some ⟨b, o, none⟩) 1 c]).run Try.prog w = .ok (.tuple #[]) (w.setCells b o zeros4) := by
  have hzc : (Builtin.zeroCells (Value.agg #[.string ⟨#[]⟩, .int .i64 0, .int .u32 0, .bool false]).cells 1).toList = zeros4 := by
    simp [Builtin.zeroCells, zeros4, cells4, Pc.zero, Value.cells]
    rfl
  have hst := run_storeCells_cells (P := Try.prog) b o zeros4 0 w (by simpa [zeros4, cells4] using hc) (by simpa [zeros4, cells4] using hf) (by intro v hv; simp [zeros4, cells4] at hv; rcases hv with rfl | rfl | rfl | rfl <;> rfl)
  simp only [Nat.add_zero] at hst
  simp [Builtin.clear_, run_underlying Try.underlying28, hzc, hst]

/-- A list with others laid over it from a place on. -/
def setL : List Value → Nat → List Value → List Value
  | xs, _, [] => xs
  | xs, o, v :: vs => setL (xs.set o v) (o + 1) vs
theorem setL_eq : ∀ (vs xs : List Value) (o : Nat), o + vs.length ≤ xs.length → setL xs o vs = xs.take o ++ vs ++ xs.drop (o + vs.length)
  | [], xs, o, _ => by simp [setL]
  | v :: vs, xs, o, h => by
    rw [setL, setL_eq vs _ _ (by simp at h ⊢; omega)]
    simp at h
    have e1 : (xs.set o v).take (o + 1) = xs.take o ++ [v] := by
      apply List.ext_getElem?
      intro t
      rw [List.getElem?_take, List.getElem?_set, List.getElem?_append]
      have hl : (xs.take o).length = o := by rw [List.length_take]; omega
      rw [hl]
      by_cases h1 : t < o
      · rw [if_pos (by omega), if_neg (by omega), if_pos h1, List.getElem?_take, if_pos h1]
      · by_cases h2 : t = o
        · subst h2
          rw [if_pos (by omega), if_pos rfl, if_pos (by omega), if_neg (by omega)]
          simp
        · rw [if_neg (by omega), if_neg h1]
          rw [List.getElem?_eq_none (by simp; omega)]
    have e2 : (xs.set o v).drop (o + 1 + vs.length) = xs.drop (o + 1 + vs.length) := List.drop_set_of_lt (by omega)
    rw [e1, e2, show o + (v :: vs).length = o + 1 + vs.length by simp; omega]
    simp
theorem own_cells {g n cap : Nat} : ∀ (vs xs : List Value) (o : Nat) (w : World), w.ownsRow 0 43 4 (.slice (some ⟨g, 0, none⟩) n cap) n xs → (w.setCells g o vs).ownsRow 0 43 4 (.slice (some ⟨g, 0, none⟩) n cap) n (setL xs o vs)
  | [], _, _, _, h => h
  | v :: vs, xs, o, w, h => own_cells vs (xs.set o v) (o + 1) (w.setCell ⟨g, o, none⟩ v) (World.ownsRow.stored h o v).1
theorem only_cells {g : Nat} : ∀ (vs : List Value) (o : Nat) (w : World), OnlyL [g] w (w.setCells g o vs)
  | [], _, w => OnlyL.refl _ w
  | v :: vs, o, w => (OnlyL.set (ms := [g]) (w := w) (b := g) (by simp) o v).trans (only_cells vs (o + 1) (w.setCell ⟨g, o, none⟩ v)) (fun _ hj => .inl hj)
theorem own_less {w : World} {g n cap m : Nat} {xs : List Value} (h : w.ownsRow 0 43 4 (.slice (some ⟨g, 0, none⟩) n cap) n xs) (hm : m ≤ n) : w.ownsRow 0 43 4 (.slice (some ⟨g, 0, none⟩) m cap) m (xs.take (m * 4)) := by
  rcases h.2 with ⟨h', _⟩ | ⟨g', cap', cur, h', hN, hg, h1, h2, h3, h4⟩
  · simp at h'
  · simp only [Value.slice.injEq, Option.some.injEq, Addr.mk.injEq, and_true, true_and] at h'
    obtain ⟨rfl, rfl⟩ := h'
    refine ⟨?_, .inr ⟨g, cap, cur, rfl, hN, hg, by omega, h2, h3, ?_⟩⟩
    · rw [List.length_take, h.1]; omega
    · rw [← h4, List.take_take]
      congr 1
      omega
theorem own_drew {w : World} {v : Value} {n : Nat} {xs : List Value} (h : w.ownsRow 0 43 4 v n xs) : w.drew.ownsRow 0 43 4 v n xs := own_of h (fun _ _ => rfl)

theorem flat_take (l : List Pc) : ∀ k : Nat, (flat l).take (k * 4) = flat (l.take k) := by
  induction l with
  | nil => intro k; simp [flat]
  | cons p l ih =>
    intro k
    match k with
    | 0 => simp [flat]
    | k + 1 =>
      rw [flat_cons, List.take_succ_cons, flat_cons, List.take_append, List.take_of_length_le (by simp [cells4]; omega), show (k + 1) * 4 - (cells4 p).length = k * 4 by simp [cells4]; omega, ih k]
/-- The row with one piece less, and zeros behind. -/
theorem less_cells (l : List Pc) (i : Nat) (hi : i < l.length) : (setL (setL (flat l) (i * 4) (flat (l.drop (i + 1)))) ((l.length - 1) * 4) zeros4).take ((l.length - 1) * 4) = flat (l.eraseIdx i) := by
  have h1 : (flat (l.drop (i + 1))).length = (l.length - (i + 1)) * 4 := by rw [flat_length, List.length_drop]
  have h2 : setL (flat l) (i * 4) (flat (l.drop (i + 1))) = flat (l.take i) ++ flat (l.drop (i + 1)) ++ (flat l).drop (i * 4 + (l.length - (i + 1)) * 4) := by
    rw [setL_eq _ _ _ (by rw [h1, flat_length]; omega), flat_take, h1]
  have h3 : (flat (l.take i) ++ flat (l.drop (i + 1))).length = (l.length - 1) * 4 := by
    rw [List.length_append, h1, flat_length, List.length_take]; omega
  have h4 : (setL (flat l) (i * 4) (flat (l.drop (i + 1)))).length = l.length * 4 := by
    rw [h2, List.length_append, h3, List.length_drop, flat_length]; omega
  rw [setL_eq _ _ _ (by rw [h4]; simp [zeros4, cells4]; omega), List.append_assoc, List.take_append_of_le_length (by rw [List.length_take, h4]; omega), List.take_take, Nat.min_self, h2, List.take_append_of_le_length (by rw [h3]; omega), List.take_of_length_le (by rw [h3]; omega), ← flat_app, List.eraseIdx_eq_take_drop_succ]

set_option maxRecDepth 1000000 in
set_option maxHeartbeats 4000000 in
theorem cDelete_any (g cap i : Nat) (j : Int) (l : List Pc) (w : World) (ho : w.ownsRow 0 43 4 (.slice (some ⟨g, 0, none⟩) l.length cap) l.length (flat l)) (hi : i < l.length) (hj : j = (i : Int) + 1) (hl64 : l.length ≤ 64) :
    Calls Try.prog 34 #[.slice (some ⟨g, 0, none⟩) l.length cap, .int .i64 i, .int .i64 j] w fun e w' => e = .returned (.slice (some ⟨g, 0, none⟩) (l.length - 1) cap) ∧ OnlyL [g] w w' ∧ w'.ownsRow 0 43 4 (.slice (some ⟨g, 0, none⟩) (l.length - 1) cap) (l.length - 1) (flat (l.eraseIdx i)) := by
  obtain ⟨hcap, hm⟩ : l.length ≤ cap ∧ cap ≤ maxLen := by
    rcases ho.2 with ⟨h', _⟩ | ⟨g', cap', cur, h', hN, hg, h1, h2, h3, h4⟩
    · simp at h'
    · simp only [Value.slice.injEq, Option.some.injEq, Addr.mk.injEq, and_true, true_and] at h'
      obtain ⟨rfl, rfl⟩ := h'
      exact ⟨h1, h2⟩
  obtain ⟨k, hk⟩ : ∃ k : Nat, k = i + 1 := ⟨_, rfl⟩
  obtain rfl : j = (k : Int) := by omega
  clear hj
  obtain ⟨i0, hi0, hi1, hi2, hi3⟩ := pc_parts
  -- what is moved to the left
  obtain ⟨news, hnews⟩ : ∃ news, news = flat (l.drop k) := ⟨_, rfl⟩
  have hlen : news.length = (l.length - k) * 4 := by rw [hnews, flat_length, List.length_drop]
  obtain ⟨A, hA, hsrc⟩ : ∃ A : Addr, (if cap = k then some (⟨g, 0, none⟩ : Addr) else some ⟨g, k * 4, none⟩) = some A ∧ Hid (∀ t u, news[t]? = some u → w.drew.cell? (A.add t) = some u) := by
    by_cases h : cap = k
    · refine ⟨⟨g, 0, none⟩, by simp [h], fun t u hu => ?_⟩
      have h0 : news.length = 0 := by rw [hlen]; omega
      rw [List.length_eq_zero_iff.1 h0] at hu
      simp at hu
    · refine ⟨⟨g, k * 4, none⟩, by simp [h], fun t u hu => ?_⟩
      have ht : t < (l.length - k) * 4 := by
        have := (List.getElem?_eq_some_iff.1 hu).1
        rwa [hlen] at this
      have hadd : (⟨g, k * 4, none⟩ : Addr).add t = ⟨g, k * 4 + t, none⟩ := Addr.add_lit _ _ _
      rw [hadd]
      show w.cell? _ = _
      rw [World.ownsRow.cellAt ho (k * 4 + t) (by omega), ← hu, hnews]
      have e : flat (l.drop k) = (flat l).drop (k * 4) := by
        have h1 := flat_take l k
        have h2 : flat l = flat (l.take k) ++ flat (l.drop k) := by rw [← flat_app, List.take_append_drop]
        have h3 : (flat (l.take k)).length = k * 4 := by rw [flat_length, List.length_take]; omega
        rw [h2]
        exact (List.drop_left' h3).symm
      rw [e, List.getElem?_drop]
  have s1 : Hid (news.length = (l.length - k) * 4) := hlen
  have s2 : Hid (∀ u ∈ news, u.oneCell' = true) := by rw [hnews]; exact flat_one _
  have hsome : ∀ t, t < l.length * 4 → (w.drew.cell? ⟨g, t, none⟩).isSome = true ∧ w.drew.frozen? ⟨g, t, none⟩ = false := by
    intro t ht
    refine ⟨?_, World.ownsRow.frozenAt ho t⟩
    show (w.cell? _).isSome = true
    rw [World.ownsRow.cellAt ho t ht, List.getElem?_eq_getElem (by rw [flat_length]; exact ht)]
    rfl
  have s3 : Hid (∀ t, t < news.length → (w.drew.cell? ⟨g, 0 + i * 4 + t, none⟩).isSome = true ∧ w.drew.frozen? ⟨g, 0 + i * 4 + t, none⟩ = false) := by
    intro t ht
    rw [hlen] at ht
    exact hsome _ (by omega)
  obtain ⟨W1, hW1⟩ : ∃ W1, W1 = w.drew.setCells g (0 + i * 4) news := ⟨_, rfl⟩
  have ho1 : W1.ownsRow 0 43 4 (.slice (some ⟨g, 0, none⟩) l.length cap) l.length (setL (flat l) (i * 4) news) := by
    rw [hW1, Nat.zero_add]
    exact own_cells _ _ _ _ (own_drew ho)
  have hxl : (setL (flat l) (i * 4) news).length = l.length * 4 := ho1.1
  have hcl := fun ty => clear_one W1 ty g ((i + (l.length - k)) * 4) (cap - (i + (l.length - k)))
    (fun t ht => by
      rw [World.ownsRow.cellAt ho1 _ (by omega), List.getElem?_eq_getElem (by rw [hxl]; omega)]
      rfl)
    (fun t _ => World.ownsRow.frozenAt ho1 _)
  have HE := Lib.hid (show OnlyL [g] w (W1.setCells g ((i + (l.length - k)) * 4) zeros4) ∧ (W1.setCells g ((i + (l.length - k)) * 4) zeros4).ownsRow 0 43 4 (.slice (some ⟨g, 0, none⟩) (l.length - 1) cap) (l.length - 1) (flat (l.eraseIdx i)) from by
    have o1 : OnlyL [g] w W1 := by
      rw [hW1]
      exact (OnlyL.of_below (ms := [g]) (Below.refl _ _).drew).trans (only_cells _ _ _) (fun _ hj => .inl hj)
    refine ⟨o1.trans (only_cells _ _ _) (fun _ hj => .inl hj), ?_⟩
    have h1 := own_less (own_cells zeros4 _ ((i + (l.length - k)) * 4) W1 ho1) (m := l.length - 1) (by omega)
    rw [hnews, hk, show (i + (l.length - (i + 1))) * 4 = (l.length - 1) * 4 by omega, less_cells l i hi] at h1
    rw [hk, show (i + (l.length - (i + 1))) * 4 = (l.length - 1) * 4 by omega]
    exact h1)
  have hW : Hid (W1 = w.drew.setCells g (0 + i * 4) news) := hW1
  have HI := Lib.hid (⟨hi0, hi1, hi2, hi3⟩ : _ ∧ _ ∧ _ ∧ _)
  clear hi0 hi1 hi2 hi3
  have h1c : l.length - (i + (l.length - k)) = 1 := by omega
  have h1l : l.length - 1 = i + (l.length - k) := by omega
  rw [h1l] at HE ⊢
  have t0 : i ≤ cap := by omega
  have t1 : k ≤ cap := by omega
  have t2 : ¬ i = k := by omega
  have t3 : i ≤ k := by omega
  have t4 : k ≤ l.length := by omega
  clear hW1 ho1 hxl hsome hnews hlen ho h1l hk
  generalize hn : l.length = n at *
  unfold maxLen at hm
  go_enter Try.func34, Try.ntmps34
  go_wp2_with fail
  go_region_law (refine step_append_room rfl (.tmp 22) (.tmp 25) 28 rfl 43 i0 4 Try.underlying28 HI.out.1 HI.out.2.2.1 g 0 i cap (by simp [Act.eval, Act.put]) A (n - k) (cap - k) news (by simp [Act.eval, Act.put]) s1.out hsrc.out s2.out (by omega) s3.out ?_; rw [← hW.out])
  all_goals
    go_wp2
    go_ret
    exact ⟨rfl, HE.out.1, HE.out.2⟩

end Go.Proofs.Ythepnckbooioeaa.Bus
