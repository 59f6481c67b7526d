/-
  The library's slices.Delete of a row's first thing, at one type, walked. Conditions: none.
-/
import Derived.Test.YtpbiigpnbhgilaaQcBase
namespace Go.Proofs.Ytpbiigpnbhgilaa.Qu
open Go.RowKit

/-- 'clear(s)' of one thing. -/
theorem clearS_one (w : World) (ty : TypeId) (b o c : Nat) (hc : (w.cell? ⟨b, o, none⟩).isSome = true) (hf : w.frozen? ⟨b, o, none⟩ = false) :
    (Builtin.clear_ #[36] ty #[.slice (some ⟨b, o, none⟩) 1 c]).run Try.prog w = .ok (.tuple #[]) (w.setCells b o [.string ⟨#[]⟩]) := by
  have hzc : (Builtin.zeroCells (Value.cells (.string ⟨#[]⟩)) 1).toList = [.string ⟨#[]⟩] := by
    simp [Builtin.zeroCells, Value.cells]
    try rfl
  have hst := run_storeCells_cells (P := Try.prog) b o [.string ⟨#[]⟩] 0 w (by intro j hj; simp at hj; subst hj; simpa using hc) (by intro j hj; simp at hj; subst hj; simpa using hf) (by intro v hv; simp at hv; subst hv; rfl)
  simp only [Nat.add_zero] at hst
  simp [Builtin.clear_, run_underlying Try.underlying36, hzc, hst]

set_option maxRecDepth 1000000 in
set_option maxHeartbeats 4000000 in
theorem deleteS_any (g cap : Nat) (l : List Value) (w : World) (h1 : ∀ u ∈ l, u.oneCell' = true) (ho : w.ownsRow 0 9 1 (.slice (some ⟨g, 0, none⟩) l.length cap) l.length l) (hl : 0 < l.length) (hl64 : l.length ≤ 64) :
    Calls Try.prog 27 #[.slice (some ⟨g, 0, none⟩) l.length cap, .int .i64 0, .int .i64 1] w fun e w' => e = .returned (.slice (some ⟨g, 0, none⟩) (l.length - 1) cap) ∧ OnlyL [g] w w' ∧ w'.ownsRow 0 9 1 (.slice (some ⟨g, 0, none⟩) (l.length - 1) cap) (l.length - 1) (l.drop 1) := by
  obtain ⟨hcap, hm⟩ : l.length ≤ cap ∧ cap ≤ maxLen := by
    rcases ho.2 with ⟨h', _⟩ | ⟨g', cap', cur, h', hN, hg, h1, h2, h3, h4⟩
    · simp at h'
    · simp only [Value.slice.injEq, Option.some.injEq, Addr.mk.injEq, and_true, true_and] at h'
      obtain ⟨rfl, rfl⟩ := h'
      exact ⟨h1, h2⟩
  obtain ⟨i0, hi0, hi1, hi2, hi3⟩ := info_parts infoStr
  -- what is moved to the left
  obtain ⟨news, hnews⟩ : ∃ news, news = l.drop 1 := ⟨_, rfl⟩
  have hlen : news.length = (l.length - 1) * 1 := by rw [hnews, List.length_drop, Nat.mul_one]
  obtain ⟨A, hA, hsrc⟩ : ∃ A : Addr, (if cap = 1 then some (⟨g, 0, none⟩ : Addr) else some ⟨g, 1, none⟩) = some A ∧ Hid (∀ t u, news[t]? = some u → w.drew.cell? (A.add t) = some u) := by
    by_cases h : cap = 1
    · refine ⟨⟨g, 0, none⟩, by simp [h], fun t u hu => ?_⟩
      have h0 : news.length = 0 := by rw [hlen]; omega
      rw [List.length_eq_zero_iff.1 h0] at hu
      simp at hu
    · refine ⟨⟨g, 1, none⟩, by simp [h], fun t u hu => ?_⟩
      have ht : t < l.length - 1 := by
        have := (List.getElem?_eq_some_iff.1 hu).1
        omega
      have hadd : (⟨g, 1, none⟩ : Addr).add t = ⟨g, 1 + t, none⟩ := Addr.add_lit _ _ _
      rw [hadd]
      show w.cell? _ = _
      rw [World.ownsRow.cellAt ho (1 + t) (by omega), ← hu, hnews, List.getElem?_drop]
  have s1 : Hid (news.length = (l.length - 1) * 1) := hlen
  have s2 : Hid (∀ u ∈ news, u.oneCell' = true) := by rw [hnews]; exact fun u hu => h1 u (List.mem_of_mem_drop hu)
  have hsome : ∀ t, t < l.length → (w.drew.cell? ⟨g, t, none⟩).isSome = true ∧ w.drew.frozen? ⟨g, t, none⟩ = false := by
    intro t ht
    refine ⟨?_, World.ownsRow.frozenAt ho t⟩
    show (w.cell? _).isSome = true
    rw [World.ownsRow.cellAt ho t (by omega), List.getElem?_eq_getElem ht]
    rfl
  have s3 : Hid (∀ t, t < news.length → (w.drew.cell? ⟨g, 0 + 0 * 1 + t, none⟩).isSome = true ∧ w.drew.frozen? ⟨g, 0 + 0 * 1 + t, none⟩ = false) := by
    intro t ht
    rw [hlen] at ht
    exact hsome _ (by omega)
  obtain ⟨W1, hW1⟩ : ∃ W1, W1 = w.drew.setCells g (0 + 0 * 1) news := ⟨_, rfl⟩
  have ho1 : W1.ownsRow 0 9 1 (.slice (some ⟨g, 0, none⟩) l.length cap) l.length (setL l 0 news) := by
    rw [hW1]
    exact ownC_cells _ _ _ _ (ownC_drew ho)
  have hxl : (setL l 0 news).length = l.length := by have := ho1.1; omega
  have hcl := fun ty => clearS_one W1 ty g (l.length - 1) (cap - (l.length - 1))
    (by
      rw [World.ownsRow.cellAt ho1 _ (by omega), List.getElem?_eq_getElem (by rw [hxl]; omega)]
      rfl)
    (World.ownsRow.frozenAt ho1 _)
  have HE := Lib.hid (show OnlyL [g] w (W1.setCells g (l.length - 1) [.string ⟨#[]⟩]) ∧ (W1.setCells g (l.length - 1) [.string ⟨#[]⟩]).ownsRow 0 9 1 (.slice (some ⟨g, 0, none⟩) (l.length - 1) cap) (l.length - 1) (l.drop 1) from by
    have o1 : OnlyL [g] w W1 := by
      rw [hW1]
      exact (OnlyL.of_below (ms := [g]) (Below.refl _ _).drew).trans (only_cells _ _ _) (fun _ hj => .inl hj)
    refine ⟨o1.trans (only_cells _ _ _) (fun _ hj => .inl hj), ?_⟩
    have h1 := ownC_less (ownC_cells [.string ⟨#[]⟩] _ (l.length - 1) W1 ho1) (m := l.length - 1) (by omega)
    rw [hnews, less_one l _ hl] at h1
    exact h1)
  have hW : Hid (W1 = w.drew.setCells g (0 + 0 * 1) news) := hW1
  have HI := Lib.hid (⟨hi0, hi1, hi2, hi3⟩ : _ ∧ _ ∧ _ ∧ _)
  clear hi0 hi1 hi2 hi3
  have h1c : l.length - (l.length - 1) = 1 := by omega
  have t1 : 1 ≤ cap := by omega
  have t4 : 1 ≤ l.length := hl
  clear hW1 ho1 hxl hsome hnews hlen ho h1
  generalize l.drop 1 = l1 at *
  generalize hn : l.length = n at *
  clear hn
  obtain ⟨k, rfl⟩ : ∃ k, n = k + 1 := ⟨n - 1, by omega⟩
  rw [Nat.add_sub_cancel] at *
  unfold maxLen at hm
  have t5 : (1 : Int) ≤ (k : Int) + 1 := by omega
  go_enter Try.func27, Try.ntmps27
  go_wp2_with fail
  go_region_law (refine step_append_room rfl (.tmp 22) (.tmp 25) 36 rfl 9 i0 1 Try.underlying36 HI.out.1 HI.out.2.2.1 g 0 0 cap (by simp [Act.eval, Act.put]) A k (cap - 1) news (by simp [Act.eval, Act.put]) s1.out hsrc.out s2.out (by omega) s3.out ?_; rw [← hW.out])
  all_goals
    go_wp2
    go_ret
    exact ⟨rfl, HE.out.1, HE.out.2⟩

end Go.Proofs.Ytpbiigpnbhgilaa.Qu
