/-
  A publisher and a subscriber: plain facts. Conditions: none.
-/
import Derived.Test.YtbfjimbffpkkhaaPaLaw
import Derived.Test.YtbfjimbffpkkhaaPaLeft
namespace Go.Proofs.Ytbfjimbffpkkhaa.Pa
open Go.RowKit

/-- A publisher: how many were committed, the last one, what is under way. -/
structure Pb where
  seq : Nat
  last : Bs
  way : List Fr
def pb0 : Pb := ⟨0, [], []⟩
def comE (n : Nat) (P : Pb) (v : Bs) : Nat := if v.length = n then (if P.seq = 4294967295 then 13 else 0) else 10
def comP (n : Nat) (P : Pb) (v : Bs) : Pb := if comE n P v = 0 then ⟨P.seq + 1, v, P.way⟩ else P
def wayOf (inc : Nat) (P : Pb) : List Fr := if P.way = [] then spL (frW inc P.seq) P.last (nP P.last) else P.way
def nxF (inc : Nat) (P : Pb) : Fr := if P.seq = 0 then fr0 else (wayOf inc P).headD fr0
def nxP (inc : Nat) (P : Pb) : Pb := if P.seq = 0 then P else { P with way := (wayOf inc P).tail }
structure FitW (f : Fr) : Prop where
  fit : FitF f
  len : f.bytes.length ≤ 16
structure WP (n inc : Nat) (P : Pb) : Prop where
  n1 : 1 ≤ n
  n64 : n ≤ 64
  inc : inc ≤ 65535
  seq : P.seq ≤ 4294967295
  len : 1 ≤ P.seq → P.last.length = n
  none : P.seq = 0 → P.last = [] ∧ P.way = []
  way : ∀ f ∈ P.way, FitW f
  short : P.way.length ≤ 4
theorem wp_0 {n inc : Nat} (h1 : 1 ≤ n) (h2 : n ≤ 64) (h3 : inc ≤ 65535) : WP n inc pb0 := ⟨h1, h2, h3, by simp [pb0], by simp [pb0], fun _ => ⟨rfl, rfl⟩, by simp [pb0], by simp [pb0]⟩
theorem wp_last {n inc : Nat} {P : Pb} (h : WP n inc P) : P.last.length ≤ 64 := by
  rcases Nat.eq_zero_or_pos P.seq with e | e
  · rw [(h.none e).1]; simp
  · rw [h.len e]; exact h.n64
theorem wp_com {n inc : Nat} {P : Pb} {v : Bs} (h : WP n inc P) : WP n inc (comP n P v) := by
  unfold comP
  split
  · rename_i he
    unfold comE at he
    split at he
    · rename_i hl
      split at he
      · cases he
      · rename_i hs
        have := h.seq
        exact ⟨h.n1, h.n64, h.inc, by simp only []; omega, fun _ => hl, fun e => absurd e (by simp), h.way, h.short⟩
    · cases he
  · exact h
theorem sp_fit {inc seq : Nat} {v : Bs} (hi : inc ≤ 65535) (hs : seq ≤ 4294967295) : ∀ f ∈ spL (frW inc seq) v (nP v), FitW f := by
  intro f hf
  unfold spL at hf
  obtain ⟨p, hp, rfl⟩ := List.mem_map.1 hf
  have hp := List.mem_range.1 hp
  have := nP_le v
  refine ⟨fitP (fitW hi hs) _ (by omega) (by omega), ?_⟩
  show (pcL v p).length ≤ 16
  unfold pcL
  rw [List.length_take]
  omega
theorem way_fit {n inc : Nat} {P : Pb} (h : WP n inc P) : ∀ f ∈ wayOf inc P, FitW f := by
  unfold wayOf
  split
  · exact sp_fit h.inc h.seq
  · exact h.way
theorem way_short {n inc : Nat} {P : Pb} (h : WP n inc P) : (wayOf inc P).length ≤ 4 := by
  unfold wayOf
  split
  · rw [sp_len]; exact nP_le _
  · exact h.short
theorem way_ne {n inc : Nat} {P : Pb} (h : WP n inc P) (hs : P.seq ≠ 0) : wayOf inc P ≠ [] := by
  unfold wayOf
  split
  · intro e
    have e1 := congrArg List.length e
    have h1 := h.len (by omega)
    have h2 := (pN_bd h.n1 h.n64).1
    rw [sp_len, nP_pN (by rw [h1]; exact h.n64), h1] at e1
    simp at e1
    omega
  · assumption
theorem wp_nx {n inc : Nat} {P : Pb} (h : WP n inc P) : WP n inc (nxP inc P) := by
  unfold nxP
  split
  · exact h
  · rename_i hs
    refine ⟨h.n1, h.n64, h.inc, h.seq, h.len, fun e => absurd e hs, fun f hf => way_fit h f (List.mem_of_mem_tail hf), ?_⟩
    have := way_short h
    show (wayOf inc P).tail.length ≤ 4
    rw [List.length_tail]
    omega
theorem nx_fit {n inc : Nat} {P : Pb} (h : WP n inc P) : FitW (nxF inc P) := by
  unfold nxF
  split
  · exact ⟨⟨by simp [fr0], by simp [fr0], by simp [fr0], by simp [fr0]⟩, by simp [fr0]⟩
  · rename_i hs
    have hne := way_ne h hs
    cases hw : wayOf inc P with
    | nil => exact absurd hw hne
    | cons x l => exact way_fit h x (by rw [hw]; exact List.mem_cons_self ..)

/-- A subscriber. -/
structure Sb where
  gl : Gl
  front : Bs
  fi : Nat
  fs : Nat
  beh : Bs
  bi : Nat
  bs : Nat
  waits : Bool
  fault : Bool
def sb0 (v : Bs) : Sb := ⟨g0, v, 0, 0, [], 0, 0, false, false⟩
def putS (n : Nat) (s : Sb) (f : Fr) : Sb :=
  ⟨putG n s.gl f, s.front, s.fi, s.fs, if doneB n s.gl f then outB n s.gl f else s.beh, if doneB n s.gl f then f.vinc else s.bi, if doneB n s.gl f then f.vseq else s.bs, s.waits || doneB n s.gl f, s.fault || decide (errB n s.gl f = 3)⟩
def latS (s : Sb) : Sb := if s.waits then ⟨s.gl, s.beh, s.bi, s.bs, [], 0, 0, false, s.fault⟩ else s
structure WS (n : Nat) (s : Sb) : Prop where
  n1 : 1 ≤ n
  n64 : n ≤ 64
  gl : WG n s.gl
  fi : s.fi ≤ 65535
  fs : s.fs ≤ 4294967295
  bi : s.bi ≤ 65535
  bs : s.bs ≤ 4294967295
  none : s.waits = false → s.beh = [] ∧ s.bi = 0 ∧ s.bs = 0
theorem ws_0 {n : Nat} (v : Bs) (h1 : 1 ≤ n) (h2 : n ≤ 64) : WS n (sb0 v) := ⟨h1, h2, wg_0 n, by simp [sb0], by simp [sb0], by simp [sb0], by simp [sb0], fun _ => ⟨rfl, rfl, rfl⟩⟩
theorem ws_put {n : Nat} {s : Sb} {f : Fr} (h : WS n s) (hf : FitF f) : WS n (putS n s f) := by
  refine ⟨h.n1, h.n64, put_wg h.gl hf, h.fi, h.fs, ?_, ?_, ?_⟩
  · show (if _ then _ else _) ≤ _
    split
    · exact hf.vi
    · exact h.bi
  · show (if _ then _ else _) ≤ _
    split
    · exact hf.vs
    · exact h.bs
  · intro e
    have e : (s.waits || doneB n s.gl f) = false := e
    rw [Bool.or_eq_false_iff] at e
    obtain ⟨a, b, c⟩ := h.none e.1
    unfold putS
    simp only [e.2]
    exact ⟨a, b, c⟩
theorem ws_lat {n : Nat} {s : Sb} (h : WS n s) : WS n (latS s) := by
  unfold latS
  split
  · exact ⟨h.n1, h.n64, h.gl, h.bi, h.bs, by simp, by simp, fun _ => ⟨rfl, rfl, rfl⟩⟩
  · exact h
end Go.Proofs.Ytbfjimbffpkkhaa.Pa
