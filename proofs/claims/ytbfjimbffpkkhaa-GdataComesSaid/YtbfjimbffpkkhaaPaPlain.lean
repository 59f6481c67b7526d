/-
  Parts of one value, in whatever order: plain facts. Conditions: none.
-/
import Derived.Test.YtbfjimbffpkkhaaPaLaw
namespace Go.Proofs.Ytbfjimbffpkkhaa.Pa

theorem join_pcs (v : Bs) : ∀ k, joinB (pcsL v k) = v.take (16 * k)
  | 0 => by simp [pcsL, joinB]
  | k + 1 => by
    have h := join_pcs v k
    unfold joinB at h ⊢
    rw [pcs_next, List.flatten_append, h, List.flatten_singleton, pc_all]
theorem take_all (v : Bs) : v.take (16 * numN v) = v := List.take_of_length_le (by unfold numN; omega)
theorem came_all {l : List Bs} {v : Bs} {m : Nat} (hl : l.length = m) (h : ∀ p, p < m → l.getD p [] = pcL v p) : l = pcsL v m := by
  apply List.ext_getElem?
  intro i
  by_cases hi : i < m
  · rw [pcs_at v hi, List.getElem?_eq_getElem (by omega)]
    have := h i hi
    rw [List.getD_eq_getElem?_getD, List.getElem?_eq_getElem (by omega)] at this
    simpa using this
  · rw [List.getElem?_eq_none (by omega), List.getElem?_eq_none (by rw [pcs_len]; omega)]
theorem pc_len {v : Bs} {p : Nat} : (pcL v p).length = pL v.length p := by
  unfold pcL pL
  rw [List.length_take, List.length_drop]
  omega
theorem pc_ne {v : Bs} {p : Nat} (h : p < pN v.length) : pcL v p ≠ [] := ne_of_len (by rw [pc_len]; exact (pL_bd h).1)
theorem num_pN (v : Bs) : numN v = pN v.length := rfl
theorem nP_pN {v : Bs} (h : v.length ≤ 64) : nP v = pN v.length := by unfold nP; rw [if_pos h]; rfl

/-- One that is left, taken out. -/
def erL {α : Type} (l : List α) (k : Nat) : List α := l.take k ++ l.drop (k + 1)
theorem er_len {α : Type} {l : List α} {k : Nat} (h : k < l.length) : (erL l k).length + 1 = l.length := by
  unfold erL
  rw [List.length_append, List.length_take, List.length_drop]
  omega
theorem er_map {α β : Type} (f : α → β) (l : List α) (k : Nat) : (erL l k).map f = erL (l.map f) k := by
  unfold erL
  rw [List.map_append, List.map_take, List.map_drop]
theorem er_parts {α : Type} {l : List α} {k : Nat} (h : k < l.length) : l = l.take k ++ l[k] :: l.drop (k + 1) := by
  rw [← List.drop_eq_getElem_cons h, List.take_append_drop]
theorem er_mem {l : List Nat} {k : Nat} (h : k < l.length) (hn : l.Nodup) (q : Nat) : q ∈ erL l k ↔ q ∈ l ∧ q ≠ l[k] := by
  have e := er_parts h
  have hn2 := hn
  rw [e] at hn2
  have hn3 := List.nodup_append.1 hn2
  have hn4 := List.nodup_cons.1 hn3.2.1
  have hm : q ∈ l ↔ q ∈ l.take k ∨ q = l[k] ∨ q ∈ l.drop (k + 1) := by
    conv => lhs; rw [e]
    rw [List.mem_append, List.mem_cons]
  rw [hm]
  unfold erL
  rw [List.mem_append]
  constructor
  · rintro (h1 | h1)
    · exact ⟨.inl h1, fun e1 => hn3.2.2 q h1 l[k] (List.mem_cons_self ..) e1⟩
    · exact ⟨.inr (.inr h1), fun e1 => hn4.1 (e1 ▸ h1)⟩
  · rintro ⟨h1 | h1 | h1, h2⟩
    · exact .inl h1
    · exact absurd h1 h2
    · exact .inr h1
theorem er_nodup {l : List Nat} {k : Nat} (hn : l.Nodup) : (erL l k).Nodup := by
  unfold erL
  have h := hn
  rw [← List.take_append_drop k l] at h
  have h1 := List.nodup_append.1 h
  refine List.nodup_append.2 ⟨h1.1, ?_, fun a ha b hb => h1.2.2 a ha b ?_⟩
  · rw [← List.drop_drop]
    exact h1.2.1.sublist (List.drop_sublist _ _)
  · have : l.drop (k + 1) = (l.drop k).drop 1 := by rw [List.drop_drop]
    rw [this] at hb
    exact List.mem_of_mem_drop hb

/-- The glue, when the parts ps of v are left. -/
structure Sp (f : Fr) (v : Bs) (g : Gl) (ps : List Nat) : Prop where
  wg : WG v.length g
  nd : ps.Nodup
  lt : ∀ p ∈ ps, p < pN v.length
  st : (g.is = false ∧ ∀ p, p < pN v.length → p ∈ ps) ∨ (g.is = true ∧ g.inc = f.vinc ∧ g.seq = f.vseq ∧ ∀ p, p < pN v.length → g.came.getD p [] = if p ∈ ps then [] else pcL v p)
def spF (f : Fr) (v : Bs) (p : Nat) : Fr := frP f (nP v) p (pcL v p)
theorem sp_first (f : Fr) (v : Bs) : Sp f v g0 (List.range (pN v.length)) :=
  ⟨wg_0 _, List.nodup_range, fun _ hp => List.mem_range.1 hp, .inl ⟨rfl, fun _ hp => List.mem_range.2 hp⟩⟩
theorem sp_fits {f : Fr} {v : Bs} {p : Nat} (h : v.length ≤ 64) (hp : p < pN v.length) : fitsB v.length (spF f v p) = true :=
  fits_iff.2 ⟨nP_pN h, hp, pc_len⟩
theorem sp_fresh {f : Fr} {v : Bs} {g : Gl} {ps : List Nat} (h : Sp f v g ps) (p : Nat) : olderB g (spF f v p) = false ∧ (freshG v.length g (spF f v p)).is = true ∧ (freshG v.length g (spF f v p)).inc = f.vinc ∧ (freshG v.length g (spF f v p)).seq = f.vseq ∧
    ∀ q, q < pN v.length → (freshG v.length g (spF f v p)).came.getD q [] = if q ∈ ps then [] else pcL v q := by
  rcases h.st with ⟨hi, hall⟩ | ⟨hi, h1, h2, h3⟩
  · have hn : newerB g (spF f v p) = true := by unfold newerB; rw [hi, Bool.not_false, Bool.true_or]
    have hfr : freshG v.length g (spF f v p) = ⟨true, f.vinc, f.vseq, List.replicate (pN v.length) []⟩ := by unfold freshG; rw [if_pos hn]; rfl
    rw [hfr]
    refine ⟨by unfold olderB; rw [hi, Bool.false_and], rfl, rfl, rfl, fun q hq => ?_⟩
    rw [if_pos (hall q hq)]
    exact getD_rep _ _
  · have hv : numV (spF f v p).vinc (spF f v p).vseq = numV g.inc g.seq := by rw [h1, h2]; rfl
    have hn : newerB g (spF f v p) = false := by
      unfold newerB
      rw [hi, hv, Bool.not_true, Bool.false_or]
      exact decide_eq_false (Nat.lt_irrefl _)
    have hfr : freshG v.length g (spF f v p) = g := by unfold freshG; rw [hn]; rfl
    rw [hfr]
    refine ⟨?_, hi, h1, h2, h3⟩
    unfold olderB
    rw [hi, hv, Bool.true_and]
    exact decide_eq_false (Nat.lt_irrefl _)
theorem sp_put {f : Fr} {v : Bs} {g : Gl} {ps : List Nat} (h : Sp f v g ps) (hf : FitF f) (h64 : v.length ≤ 64) {k : Nat} (hk : k < ps.length) :
    errB v.length g (spF f v ps[k]) = 0 ∧ Sp f v (putG v.length g (spF f v ps[k])) (erL ps k) ∧ doneB v.length g (spF f v ps[k]) = decide (erL ps k = []) ∧ (erL ps k = [] → outB v.length g (spF f v ps[k]) = v) ∧ (erL ps k ≠ [] → outB v.length g (spF f v ps[k]) = []) := by
  have hp : ps[k] < pN v.length := h.lt _ (List.getElem_mem hk)
  obtain ⟨ho, hi, h1, h2, h3⟩ := sp_fresh h ps[k]
  have hfit := sp_fits (f := f) h64 hp
  have htw : twiceB v.length g (spF f v ps[k]) = false := by
    unfold twiceB
    have := h3 ps[k] hp
    rw [if_pos (List.getElem_mem hk)] at this
    show decide ((freshG v.length g (spF f v ps[k])).came.getD ps[k] [] ≠ []) = false
    rw [this]
    simp
  have he : errB v.length g (spF f v ps[k]) = 0 := by
    unfold errB
    rw [if_pos (show (spF f v ps[k]).kind = 4 from rfl), if_pos hfit, ho, htw]
    rfl
  have hlen := fresh_len (f := spF f v ps[k]) h.wg
  have hpg : putG v.length g (spF f v ps[k]) = withB (freshG v.length g (spF f v ps[k])) (spF f v ps[k]) := by unfold putG; rw [if_pos he]
  have hcame : ∀ q, q < pN v.length → (putG v.length g (spF f v ps[k])).came.getD q [] = if q ∈ erL ps k then [] else pcL v q := by
    intro q hq
    rw [hpg]
    show ((freshG v.length g (spF f v ps[k])).came.set ps[k] (pcL v ps[k])).getD q [] = _
    rw [getD_set _ _ _ _ (by omega)]
    by_cases e : q = ps[k]
    · rw [if_pos e, if_neg (fun hm => ((er_mem hk h.nd q).1 hm).2 e), e]
    · rw [if_neg e, h3 q hq]
      by_cases hm : q ∈ ps
      · rw [if_pos hm, if_pos ((er_mem hk h.nd q).2 ⟨hm, e⟩)]
      · rw [if_neg hm, if_neg (fun hx => hm ((er_mem hk h.nd q).1 hx).1)]
  have hwg := put_wg h.wg (fitP hf (n := nP v) (p := ps[k]) (pcL v ps[k]) (by have := nP_le v; omega) (by have := (nP_le v); rw [nP_pN h64] at this; omega))
  have hwg' : WG v.length (putG v.length g (spF f v ps[k])) := hwg
  have hi2 : (putG v.length g (spF f v ps[k])).is = true := by rw [hpg]; exact hi
  have hl2 := hwg'.len hi2
  have hdone : doneB v.length g (spF f v ps[k]) = decide (erL ps k = []) := by
    unfold doneB
    rw [he, Bool.eq_iff_iff]
    simp only [decide_true, Bool.true_and, decide_eq_true_iff]
    constructor
    · intro hfu
      rw [List.eq_nil_iff_forall_not_mem]
      intro q hq
      have hql := h.lt q ((er_mem hk h.nd q).1 hq).1
      have := full_at hfu (p := q) (by omega)
      rw [hcame q hql, if_pos hq] at this
      exact this rfl
    · intro hnil
      unfold fullB
      rw [List.all_eq_true]
      intro x hx
      obtain ⟨j, hj, rfl⟩ := List.mem_iff_getElem.1 hx
      have := hcame j (by omega)
      rw [hnil, if_neg (by simp), List.getD_eq_getElem?_getD, List.getElem?_eq_getElem hj] at this
      have hne := pc_ne (v := v) (p := j) (by omega)
      simp only [Option.getD_some] at this
      rw [this]
      exact decide_eq_true hne
  refine ⟨he, ⟨hwg', er_nodup h.nd, fun p hp2 => h.lt p ((er_mem hk h.nd p).1 hp2).1, .inr ⟨hi2, ?_, ?_, hcame⟩⟩, hdone, fun hnil => ?_, fun hne => ?_⟩
  · rw [hpg]; exact h1
  · rw [hpg]; exact h2
  · unfold outB
    rw [hdone, hnil, if_pos (by simp)]
    rw [came_all (m := pN v.length) hl2 (fun q hq => by rw [hcame q hq, hnil, if_neg (by simp)]), join_pcs, ← num_pN, take_all]
  · unfold outB
    rw [hdone, if_neg (by simpa using hne)]
end Go.Proofs.Ytbfjimbffpkkhaa.Pa
