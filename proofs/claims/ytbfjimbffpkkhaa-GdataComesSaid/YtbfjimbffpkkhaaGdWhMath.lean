/-
  A publisher and a subscriber, and what was made: plain facts. Conditions: none.
-/
import Derived.Test.YtbfjimbffpkkhaaGdMath
import Derived.Test.YtbfjimbffpkkhaaPaWp
namespace Go.Proofs.Ytbfjimbffpkkhaa.Pa
open Go.RowKit

/-- What was made: a value for each version. -/
abbrev Mp := List ((Nat × Nat) × Bs)
def lookM (m : Mp) (k : Nat × Nat) : Option Bs := (m.find? fun p => decide (p.1 = k)).map (·.2)
theorem look_app {m : Mp} {k k' : Nat × Nat} {v v' : Bs} (h : lookM m k = some v) : lookM (m ++ [(k', v')]) k = some v := by
  unfold lookM at h ⊢
  rw [List.find?_append]
  cases hf : m.find? fun p => decide (p.1 = k) with
  | none => rw [hf] at h; cases h
  | some x => rw [hf] at h; exact h
theorem look_new {m : Mp} {k : Nat × Nat} (v : Bs) (h : lookM m k = none) : lookM (m ++ [(k, v)]) k = some v := by
  unfold lookM at h ⊢
  rw [List.find?_append]
  cases hf : m.find? fun p => decide (p.1 = k) with
  | none => simp
  | some x => rw [hf] at h; cases h
theorem look_mem {m : Mp} {k : Nat × Nat} {v : Bs} (h : lookM m k = some v) : (k, v) ∈ m := by
  unfold lookM at h
  cases hf : m.find? fun p => decide (p.1 = k) with
  | none => rw [hf] at h; cases h
  | some x =>
    rw [hf] at h
    injection h with h
    have h1 := List.find?_some hf
    have h2 := List.mem_of_find?_eq_some hf
    obtain ⟨a, b⟩ := x
    have : a = k := by simpa using h1
    subst this
    subst h
    exact h2
theorem look_no {m : Mp} {k : Nat × Nat} (h : ∀ e ∈ m, e.1 ≠ k) : lookM m k = none := by
  cases hl : lookM m k with
  | none => rfl
  | some v => exact absurd rfl (h _ (look_mem hl))
theorem numV_inj {i s j t : Nat} (hs : s ≤ 4294967295) (ht : t ≤ 4294967295) (h : numV i s = numV j t) : i = j ∧ s = t := by
  unfold numV at h
  omega

/-- A part of a value that was made. -/
def PartOf (n : Nat) (m : Mp) (f : Fr) : Prop := ∃ (i q : Nat) (v : Bs) (p : Nat), lookM m (i, q) = some v ∧ v.length = n ∧ p < pN n ∧ f = spF (frW i q) v p
theorem PartOf.app {n : Nat} {m : Mp} {f : Fr} {k : Nat × Nat} {u : Bs} (h : PartOf n m f) : PartOf n (m ++ [(k, u)]) f := by
  obtain ⟨i, q, v, p, h1, h2, h3, h4⟩ := h
  exact ⟨i, q, v, p, look_app h1, h2, h3, h4⟩
def topV (s : Sb) : Nat := if s.waits then numV s.bi s.bs else numV s.fi s.fs
structure Wi (n k inc : Nat) (P : Pb) (s : Sb) (went : List Fr) (m : Mp) (last : Nat × Nat) : Prop where
  wp : WP n inc P
  ws : WS n s
  inck : inc ≤ k + 1
  seqk : P.seq ≤ k
  inc1 : 1 ≤ inc
  keys : ∀ e ∈ m, e.1 = (0, 0) ∨ (e.1.1 ≤ inc ∧ (e.1.1 = inc → e.1.2 ≤ P.seq))
  lst : 1 ≤ P.seq → lookM m (inc, P.seq) = some P.last
  way : ∀ f ∈ P.way, PartOf n m f
  wnt : ∀ f ∈ went, PartOf n m f ∧ FitW f
  glue : s.gl.is = true → ∃ v, lookM m (s.gl.inc, s.gl.seq) = some v ∧ v.length = n ∧ ∀ p, p < pN n → s.gl.came.getD p [] = [] ∨ s.gl.came.getD p [] = pcL v p
  front : lookM m (s.fi, s.fs) = some s.front
  beh : s.waits = true → lookM m (s.bi, s.bs) = some s.beh ∧ numV s.fi s.fs ≤ numV s.bi s.bs
  ord : s.gl.is = true → topV s ≤ numV s.gl.inc s.gl.seq
  none : s.gl.is = false → topV s = 0 ∧ s.waits = false
  lastv : numV last.1 last.2 ≤ numV s.fi s.fs
  fault : s.fault = false
  wlen : went.length ≤ k
theorem wi_first {n : Nat} {begin : Bs} (h1 : 1 ≤ n) (h2 : n ≤ 64) : Wi n 0 1 pb0 (sb0 begin) [] [((0, 0), begin)] (0, 0) :=
  ⟨wp_0 h1 h2 (by omega), ws_0 _ h1 h2, by omega, by simp [pb0], by omega, fun e he => .inl (by have := List.mem_singleton.1 he; rw [this]), fun h => by simp [pb0] at h, fun f hf => by simp [pb0] at hf, fun f hf => by simp at hf,
    fun h => by simp [sb0, g0] at h, rfl, fun h => by simp [sb0] at h, fun h => by simp [sb0, g0] at h, fun _ => ⟨by simp [topV, sb0, numV], rfl⟩, Nat.le_refl _, rfl, Nat.le_refl _⟩
section
variable {n k inc : Nat} {P : Pb} {s : Sb} {went : List Fr} {m : Mp} {last : Nat × Nat}
theorem Wi.more (h : Wi n k inc P s went m last) : Wi n (k + 1) inc P s went m last :=
  { h with inck := by have := h.inck; omega, seqk := by have := h.seqk; omega, wlen := by have := h.wlen; omega }
theorem wi_no (h : Wi n k inc P s went m last) : lookM m (inc, P.seq + 1) = none := look_no fun e he => by
  rintro e1
  have h1 := h.inc1
  rcases h.keys e he with e2 | ⟨-, e2⟩
  · rw [e1] at e2
    injection e2 with e2 e3
    omega
  · rw [e1] at e2
    have := e2 rfl
    simp at this
    omega
theorem wi_com (h : Wi n k inc P s went m last) {v : Bs} (hv : v.length = n) (hk : k ≤ 1000) :
    comE n P v = 0 ∧ Wi n (k + 1) inc (comP n P v) s went (m ++ [((inc, P.seq + 1), v)]) last := by
  have hE : comE n P v = 0 := by
    have := h.seqk
    have hne : P.seq ≠ 4294967295 := by omega
    unfold comE
    rw [if_pos hv, if_neg hne]
  have hP : comP n P v = ⟨P.seq + 1, v, P.way⟩ := by unfold comP; rw [if_pos hE]
  have hno := wi_no h
  refine ⟨hE, ?_⟩
  have hw := wp_com (v := v) h.wp
  rw [hP] at hw ⊢
  refine ⟨hw, h.ws, by have := h.inck; omega, by have := h.seqk; show P.seq + 1 ≤ k + 1; omega, h.inc1, fun e he => ?_, fun _ => look_new v hno, fun f hf => (h.way f hf).app, fun f hf => ⟨(h.wnt f hf).1.app, (h.wnt f hf).2⟩,
    fun hi => ?_, look_app h.front, fun hw => ⟨look_app (h.beh hw).1, (h.beh hw).2⟩, h.ord, h.none, h.lastv, h.fault, by have := h.wlen; omega⟩
  · rcases List.mem_append.1 he with he | he
    · rcases h.keys e he with e1 | ⟨e1, e2⟩
      · exact .inl e1
      · exact .inr ⟨e1, fun e3 => by have := e2 e3; show _ ≤ P.seq + 1; omega⟩
    · have := List.mem_singleton.1 he
      subst this
      exact .inr ⟨Nat.le_refl _, fun _ => Nat.le_refl _⟩
  · obtain ⟨u, h1, h2, h3⟩ := h.glue hi
    exact ⟨u, look_app h1, h2, h3⟩
theorem wi_way (h : Wi n k inc P s went m last) (hs : P.seq ≠ 0) : ∀ f ∈ wayOf inc P, PartOf n m f := by
  unfold wayOf
  split
  · intro f hf
    unfold spL at hf
    obtain ⟨p, hp, rfl⟩ := List.mem_map.1 hf
    have hl := h.wp.len (by omega)
    have hp := List.mem_range.1 hp
    rw [nP_pN (by rw [hl]; exact h.wp.n64), hl] at hp
    exact ⟨inc, P.seq, P.last, p, h.lst (by omega), hl, hp, rfl⟩
  · exact h.way
theorem wi_nx (h : Wi n k inc P s went m last) : Wi n (k + 1) inc (nxP inc P) s (if 0 < P.seq then went ++ [nxF inc P] else went) m last := by
  by_cases hs : P.seq = 0
  · rw [if_neg (by omega)]
    have : nxP inc P = P := by unfold nxP; rw [if_pos hs]
    rw [this]
    exact h.more
  · rw [if_pos (by omega)]
    have hP : nxP inc P = { P with way := (wayOf inc P).tail } := by unfold nxP; rw [if_neg hs]
    have hF : nxF inc P = (wayOf inc P).headD fr0 := by unfold nxF; rw [if_neg hs]
    have hne := way_ne h.wp hs
    have hmem : nxF inc P ∈ wayOf inc P := by
      rw [hF]
      cases hw : wayOf inc P with
      | nil => exact absurd hw hne
      | cons x l => exact List.mem_cons_self ..
    have hw := wp_nx h.wp
    have hfit := nx_fit h.wp
    rw [hP] at hw ⊢
    refine ⟨hw, h.ws, by have := h.inck; omega, by have := h.seqk; show P.seq ≤ k + 1; omega, h.inc1, h.keys, h.lst, fun f hf => wi_way h hs f (List.mem_of_mem_tail hf), fun f hf => ?_, h.glue, h.front, h.beh, h.ord, h.none, h.lastv, h.fault, by have := h.wlen; simp; omega⟩
    rcases List.mem_append.1 hf with hf | hf
    · exact h.wnt f hf
    · rw [List.mem_singleton.1 hf]
      exact ⟨wi_way h hs _ hmem, hfit⟩
theorem wi_new (h : Wi n k inc P s went m last) (hk : k ≤ 1000) : Wi n (k + 1) (inc + 1) pb0 s went m last :=
  ⟨wp_0 h.wp.n1 h.wp.n64 (by have := h.inck; omega), h.ws, by have := h.inck; omega, by simp [pb0], by omega, fun e he => (h.keys e he).imp id fun h1 => ⟨by omega, fun h2 => by omega⟩, fun h => by simp [pb0] at h, fun f hf => by simp [pb0] at hf, h.wnt,
    h.glue, h.front, h.beh, h.ord, h.none, h.lastv, h.fault, by have := h.wlen; omega⟩
theorem wi_lat (h : Wi n k inc P s went m last) : Wi n (k + 1) inc P (latS s) went m last := by
  by_cases hw : s.waits = true
  · have e : latS s = ⟨s.gl, s.beh, s.bi, s.bs, [], 0, 0, false, s.fault⟩ := by unfold latS; rw [if_pos hw]
    have hws := ws_lat h.ws
    obtain ⟨h1, h2⟩ := h.beh hw
    have ht : topV s = numV s.bi s.bs := by unfold topV; rw [if_pos hw]
    rw [e] at hws ⊢
    refine ⟨h.wp, hws, by have := h.inck; omega, by have := h.seqk; omega, h.inc1, h.keys, h.lst, h.way, h.wnt, h.glue, h1, (fun e => by cases e), fun hi => ?_, fun hi => ?_, ?_, h.fault, by have := h.wlen; omega⟩
    · have := h.ord hi
      rw [ht] at this
      exact this
    · have := (h.none hi).2
      rw [hw] at this
      cases this
    · have := h.lastv
      show _ ≤ numV s.bi s.bs
      omega
  · have : latS s = s := by unfold latS; rw [if_neg hw]
    rw [this]
    exact h.more
theorem wi_end (h : Wi n k inc P s went m last) : Wi n k inc P s went m (s.fi, s.fs) := { h with lastv := Nat.le_refl _ }
theorem wi_fr (h : Wi n k inc P s went m last) : numV s.fi s.fs ≤ topV s := by
  unfold topV
  split
  · rename_i hw
    exact (h.beh hw).2
  · exact Nat.le_refl _
theorem wi_put (h : Wi n k inc P s went m last) {f : Fr} (hf : f ∈ went) : Wi n (k + 1) inc P (putS n s f) went m last := by
  obtain ⟨⟨i, q, v, p, hl, hvl, hp, rfl⟩, hfit⟩ := h.wnt f hf
  have hn64 := h.wp.n64
  have hF := hfit.fit
  have hfits : fitsB n (spF (frW i q) v p) = true := by
    have := sp_fits (f := frW i q) (v := v) (p := p) (by omega) (by rw [hvl]; exact hp)
    rwa [hvl] at this
  have hkind : (spF (frW i q) v p).kind = 4 := rfl
  have hE : errB n s.gl (spF (frW i q) v p) = if olderB s.gl (spF (frW i q) v p) then 1 else if twiceB n s.gl (spF (frW i q) v p) then 14 else 0 := by
    unfold errB
    rw [if_pos hkind, if_pos hfits]
  have h3 : errB n s.gl (spF (frW i q) v p) ≠ 3 := by
    rw [hE]
    split
    · decide
    · split <;> decide
  have hWS := ws_put h.ws hF
  by_cases he : errB n s.gl (spF (frW i q) v p) = 0
  · obtain ⟨-, -, hold, htw⟩ := err_zero he
    have hpg : putG n s.gl (spF (frW i q) v p) = withB (freshG n s.gl (spF (frW i q) v p)) (spF (frW i q) v p) := by unfold putG; rw [if_pos he]
    have hwg := put_wg h.ws.gl hF
    have hlen := fresh_len (f := spF (frW i q) v p) h.ws.gl
    have hfi : (freshG n s.gl (spF (frW i q) v p)).is = true := fresh_is
    have key : (freshG n s.gl (spF (frW i q) v p)).inc = i ∧ (freshG n s.gl (spF (frW i q) v p)).seq = q ∧ (∀ r, r < pN n → (freshG n s.gl (spF (frW i q) v p)).came.getD r [] = [] ∨ (freshG n s.gl (spF (frW i q) v p)).came.getD r [] = pcL v r) ∧ topV s ≤ numV i q := by
      by_cases hnw : newerB s.gl (spF (frW i q) v p) = true
      · have hfr : freshG n s.gl (spF (frW i q) v p) = ⟨true, i, q, List.replicate (pN n) []⟩ := by unfold freshG; rw [if_pos hnw]; rfl
        rw [hfr]
        refine ⟨rfl, rfl, fun r _ => .inl (getD_rep _ _), ?_⟩
        cases hi : s.gl.is
        · rw [(h.none hi).1]; omega
        · have h1 := h.ord hi
          unfold newerB at hnw
          rw [hi, Bool.not_true, Bool.false_or, decide_eq_true_iff] at hnw
          have h2 : numV s.gl.inc s.gl.seq < numV i q := hnw
          omega
      · have hfr : freshG n s.gl (spF (frW i q) v p) = s.gl := by unfold freshG; rw [if_neg hnw]
        rw [hfr]
        cases hi : s.gl.is
        · exact absurd (by unfold newerB; rw [hi, Bool.not_false, Bool.true_or]) hnw
        · unfold newerB at hnw
          rw [hi, Bool.not_true, Bool.false_or, decide_eq_true_iff] at hnw
          unfold olderB at hold
          rw [hi, Bool.true_and, decide_eq_false_iff_not] at hold
          have h1 : ¬ numV s.gl.inc s.gl.seq < numV i q := hnw
          have h2 : ¬ numV i q < numV s.gl.inc s.gl.seq := hold
          obtain ⟨e1, e2⟩ := numV_inj (i := s.gl.inc) (j := i) (t := q) h.ws.gl.seq hF.vs (by omega)
          obtain ⟨u, g1, g2, g3⟩ := h.glue hi
          rw [e1, e2] at g1
          rw [hl] at g1
          injection g1 with g1
          subst g1
          refine ⟨e1, e2, g3, ?_⟩
          have := h.ord hi
          rw [e1, e2] at this
          exact this
    obtain ⟨k1, k2, k3, k4⟩ := key
    have hcame : ∀ r, r < pN n → (putG n s.gl (spF (frW i q) v p)).came.getD r [] = [] ∨ (putG n s.gl (spF (frW i q) v p)).came.getD r [] = pcL v r := by
      intro r hr
      rw [hpg]
      show ((freshG n s.gl (spF (frW i q) v p)).came.set p (pcL v p)).getD r [] = [] ∨ ((freshG n s.gl (spF (frW i q) v p)).came.set p (pcL v p)).getD r [] = _
      rw [getD_set _ _ _ _ (by omega)]
      by_cases e : r = p
      · rw [if_pos e, e]; exact .inr rfl
      · rw [if_neg e]; exact k3 r hr
    have hi2 : (putG n s.gl (spF (frW i q) v p)).is = true := by rw [hpg]; exact hfi
    have hin : (putG n s.gl (spF (frW i q) v p)).inc = i := by rw [hpg]; exact k1
    have hse : (putG n s.gl (spF (frW i q) v p)).seq = q := by rw [hpg]; exact k2
    have hdb : doneB n s.gl (spF (frW i q) v p) = fullB (putG n s.gl (spF (frW i q) v p)).came := by unfold doneB; rw [he]; simp
    have hfr := wi_fr h
    cases hd : doneB n s.gl (spF (frW i q) v p)
    · have hS : putS n s (spF (frW i q) v p) = ⟨putG n s.gl (spF (frW i q) v p), s.front, s.fi, s.fs, s.beh, s.bi, s.bs, s.waits, s.fault⟩ := by
        unfold putS
        rw [hd, decide_eq_false h3, Bool.or_false, Bool.or_false]
        rfl
      rw [hS] at hWS ⊢
      refine ⟨h.wp, hWS, by have := h.inck; omega, by have := h.seqk; omega, h.inc1, h.keys, h.lst, h.way, h.wnt, fun _ => ⟨v, ?_, hvl, hcame⟩, h.front, h.beh, fun _ => ?_, fun hi => ?_, h.lastv, h.fault, by have := h.wlen; omega⟩
      · show lookM m ((putG n s.gl (spF (frW i q) v p)).inc, (putG n s.gl (spF (frW i q) v p)).seq) = _
        rw [hin, hse]; exact hl
      · show topV s ≤ numV (putG n s.gl (spF (frW i q) v p)).inc (putG n s.gl (spF (frW i q) v p)).seq
        rw [hin, hse]; exact k4
      · have hi : (putG n s.gl (spF (frW i q) v p)).is = false := hi
        rw [hi2] at hi
        cases hi
    · have hfu : fullB (putG n s.gl (spF (frW i q) v p)).came = true := by rw [← hdb]; exact hd
      have ho : outB n s.gl (spF (frW i q) v p) = v := by
        unfold outB
        rw [hd, if_pos rfl]
        have hl2 := hwg.len hi2
        rw [came_all (v := v) hl2 (fun r hr => (hcame r hr).resolve_left (full_at hfu (by omega))), join_pcs]
        have := take_all v
        rw [num_pN, hvl] at this
        exact this
      have hS : putS n s (spF (frW i q) v p) = ⟨putG n s.gl (spF (frW i q) v p), s.front, s.fi, s.fs, v, i, q, true, s.fault⟩ := by
        unfold putS
        rw [hd, decide_eq_false h3, Bool.or_false, Bool.or_true, ho]
        rfl
      rw [hS] at hWS ⊢
      refine ⟨h.wp, hWS, by have := h.inck; omega, by have := h.seqk; omega, h.inc1, h.keys, h.lst, h.way, h.wnt, fun _ => ⟨v, ?_, hvl, hcame⟩, h.front, fun _ => ⟨hl, by show numV s.fi s.fs ≤ numV i q; omega⟩, fun _ => ?_, fun hi => ?_, h.lastv, h.fault, by have := h.wlen; omega⟩
      · show lookM m ((putG n s.gl (spF (frW i q) v p)).inc, (putG n s.gl (spF (frW i q) v p)).seq) = _
        rw [hin, hse]; exact hl
      · show numV i q ≤ numV (putG n s.gl (spF (frW i q) v p)).inc (putG n s.gl (spF (frW i q) v p)).seq
        rw [hin, hse]; exact Nat.le_refl _
      · have hi : (putG n s.gl (spF (frW i q) v p)).is = false := hi
        rw [hi2] at hi
        cases hi
  · have hpg : putG n s.gl (spF (frW i q) v p) = s.gl := by unfold putG; rw [if_neg he]
    have hd : doneB n s.gl (spF (frW i q) v p) = false := by unfold doneB; simp [he]
    have hS : putS n s (spF (frW i q) v p) = s := by
      unfold putS
      rw [hd, hpg, decide_eq_false h3, Bool.or_false, Bool.or_false]
      rfl
    rw [hS]
    exact h.more
end
end Go.Proofs.Ytbfjimbffpkkhaa.Pa
