/-
  Clusters: plain facts. Conditions: none.
-/
import Derived.Test.YtmlopacekoghkaaImMath
import Derived.Test.YtmlopacekoghkaaVeMath
import Derived.WalkKit
namespace Go.Proofs.Ytmlopacekoghkaa.Cf
open Go.Proofs.Ytmlopacekoghkaa.Bl (Blk Spt findB layO noS)
open Go.Proofs.Ytmlopacekoghkaa.Il (In)

/-- Where a list lies, and how many places it has. -/
structure Hd where
  ao : Option Addr
  cap : Nat
/-- A station. -/
structure Sta where
  ad : Int
  sc : Int
  lo : Int
  cd : List In
  sb : List Spt
  pb : List Spt
  co : Hd
  so : Hd
  po : Hd
/-- A cluster. -/
structure Clu where
  sl : Int
  tt : Int
  gp : Int
  rt : Int
  lm : Int
  tp : Int
  bl : List Blk
  st : List Sta
  bo : Hd
  sh : Hd
def noH : Hd := ⟨none, 0⟩
def noT : Sta := ⟨0, 0, 0, [], [], [], noH, noH, noH⟩
theorem tget_at {l : List Sta} {k : Nat} {b : Sta} (h : l[k]? = some b) : l.getD k noT = b := by rw [List.getD_eq_getElem?_getD, h]; rfl

def inB (n a b : Int) : Bool := decide (a ≤ n) && decide (n ≤ b)
theorem in_iff {n a b : Int} : inB n a b = true ↔ a ≤ n ∧ n ≤ b := by unfold inB; simp
def timB (c : Clu) : Bool := inB c.sl 4 50 && (inB c.tt 1 10000 && (inB c.gp 1 50 && (inB c.rt 0 3 && (inB c.lm 1 65535 && inB c.tp 0 31))))
/-- A program's error. -/
def codE (c : List In) : Nat := match Ve.allB c with
  | .error p => p.1
  | .ok _ => 0
/-- Has one of the stations ahead of i, from k on, this address? -/
def ahB (l : List Sta) (i k : Nat) (a : Int) : Bool := ((l.take i).drop k).any fun s => decide (s.ad = a)
theorem ah_end (l : List Sta) (i : Nat) (a : Int) : ahB l i i a = false := by
  unfold ahB
  rw [List.drop_eq_nil_of_le (by simp; omega)]
  rfl
theorem ah_at {l : List Sta} {i k : Nat} {x : Sta} (h : l[k]? = some x) (hk : k < i) (a : Int) : ahB l i k a = (decide (x.ad = a) || ahB l i (k + 1) a) := by
  unfold ahB
  obtain ⟨hl, rfl⟩ := List.getElem?_eq_some_iff.1 h
  have hk2 : k < (l.take i).length := by rw [List.length_take]; omega
  rw [List.drop_eq_getElem_cons hk2, List.any_cons]
  simp
/-- Is a block, from the spot k on, another address'? -/
def namB (D : List Blk) (a : Int) (l : List Spt) (k : Nat) : Bool := (l.drop k).any fun s => (findB D s.b).1.ad != a
theorem nam_end (D : List Blk) (a : Int) (l : List Spt) : namB D a l l.length = false := by
  unfold namB
  rw [List.drop_eq_nil_of_le (Nat.le_refl _)]
  rfl
theorem nam_at {D : List Blk} {a : Int} {l : List Spt} {k : Nat} {x : Spt} (h : l[k]? = some x) : namB D a l k = (((findB D x.b).1.ad != a) || namB D a l (k + 1)) := by
  unfold namB
  obtain ⟨hl, rfl⟩ := List.getElem?_eq_some_iff.1 h
  rw [List.drop_eq_getElem_cons hl, List.any_cons]
/-- The error of a station by itself; of one among all. -/
def ownE (c : Clu) (s : Sta) : Int :=
  if (layO true s.lo s.sb c.bl).1 = 0 then (if codE s.cd = 0 then (if (layO false 0 s.pb c.bl).1 = 0 then (if namB c.bl s.ad s.pb 0 = true then 5 else 0) else (layO false 0 s.pb c.bl).1) else codE s.cd) else (layO true s.lo s.sb c.bl).1
def fauS (c : Clu) (i : Nat) (s : Sta) : Int :=
  if (inB s.ad 0 c.tp && inB s.sc 1 1000) = true then (if ahB c.st i 0 s.ad = true then 14 else ownE c s) else 3
def fauB (c : Clu) (i : Nat) : Int := fauS c i (c.st.getD i noT)
def chkF (c : Clu) : Nat → Nat → Int × Int
  | _, 0 => (0, 0)
  | i, n + 1 => if fauB c i = 0 then chkF c (i + 1) n else (fauB c i, 100 + (i : Int))
theorem chkF_go {c : Clu} {k : Nat} (h : k < c.st.length) : chkF c k (c.st.length - k) = if fauB c k = 0 then chkF c (k + 1) (c.st.length - (k + 1)) else (fauB c k, 100 + (k : Int)) := by
  obtain ⟨n, hn⟩ : ∃ n, c.st.length - k = n + 1 := ⟨c.st.length - k - 1, by omega⟩
  rw [hn, show c.st.length - (k + 1) = n by omega]
  rfl
theorem chkF_end (c : Clu) : chkF c c.st.length (c.st.length - c.st.length) = (0, 0) := by rw [Nat.sub_self]; rfl
def chkC (c : Clu) : Int × Int :=
  if timB c = true then (if (Bl.chkB c.bl).1 = 0 then (if 1 ≤ c.st.length ∧ c.st.length ≤ 32 then chkF c 0 c.st.length else (2, 100)) else ((Bl.chkB c.bl).1, ((Bl.chkB c.bl).2 : Int) + 1)) else (3, 0)

/-! ### Those that may be -/
theorem chkF_ok {c : Clu} : ∀ (n i : Nat), (chkF c i n).1 = 0 ↔ ∀ k, i ≤ k → k < i + n → fauB c k = 0
  | 0, i => ⟨fun _ k h1 h2 => by omega, fun _ => rfl⟩
  | n + 1, i => by
    unfold chkF
    by_cases h : fauB c i = 0
    · rw [if_pos h, chkF_ok n (i + 1)]
      constructor
      · intro h1 k h2 h3
        by_cases e : k = i
        · rw [e]; exact h
        · exact h1 k (by omega) (by omega)
      · intro h1 k h2 h3
        exact h1 k (by omega) (by omega)
    · rw [if_neg h]
      constructor
      · intro h1
        exact absurd h1 h
      · intro h1
        exact absurd (h1 i (Nat.le_refl _) (by omega)) h
theorem chkF_zero {c : Clu} : ∀ (n i : Nat), (chkF c i n).1 = 0 → chkF c i n = (0, 0)
  | 0, _, _ => rfl
  | n + 1, i, h => by
    unfold chkF at *
    by_cases h1 : fauB c i = 0
    · rw [if_pos h1] at *
      exact chkF_zero n (i + 1) h
    · rw [if_neg h1] at h
      exact absurd h h1
/-- All that is asked. -/
def May (c : Clu) : Prop := timB c = true ∧ (Bl.chkB c.bl).1 = 0 ∧ 1 ≤ c.st.length ∧ c.st.length ≤ 32 ∧ ∀ k, k < c.st.length → fauB c k = 0
theorem chk_may {c : Clu} : (chkC c).1 = 0 ↔ May c := by
  unfold chkC May
  by_cases h1 : timB c = true
  · rw [if_pos h1]
    by_cases h2 : (Bl.chkB c.bl).1 = 0
    · rw [if_pos h2]
      by_cases h3 : 1 ≤ c.st.length ∧ c.st.length ≤ 32
      · rw [if_pos h3, chkF_ok]
        constructor
        · intro h
          exact ⟨h1, h2, h3.1, h3.2, fun k hk => h k (by omega) (by omega)⟩
        · intro h k _ hk
          exact h.2.2.2.2 k (by omega)
      · rw [if_neg h3]
        constructor
        · intro h; cases h
        · intro h; exact absurd ⟨h.2.2.1, h.2.2.2.1⟩ h3
    · rw [if_neg h2]
      constructor
      · intro h; exact absurd h h2
      · intro h; exact absurd h.2.1 h2
  · rw [if_neg h1]
    constructor
    · intro h; cases h
    · intro h; exact absurd h.1 h1
theorem chk_zero {c : Clu} (h : (chkC c).1 = 0) : chkC c = (0, 0) := by
  have hm := chk_may.1 h
  unfold chkC at *
  rw [if_pos hm.1, if_pos hm.2.1, if_pos ⟨hm.2.2.1, hm.2.2.2.1⟩] at *
  exact chkF_zero _ _ h
theorem fau_zero {c : Clu} {i : Nat} {s : Sta} : fauS c i s = 0 ↔ (inB s.ad 0 c.tp && inB s.sc 1 1000) = true ∧ ahB c.st i 0 s.ad = false ∧ ownE c s = 0 := by
  unfold fauS
  by_cases h1 : (inB s.ad 0 c.tp && inB s.sc 1 1000) = true
  · rw [if_pos h1]
    cases h2 : ahB c.st i 0 s.ad
    · rw [if_neg (by decide)]
      exact ⟨fun h => ⟨h1, rfl, h⟩, fun h => h.2.2⟩
    · rw [if_pos rfl]
      exact ⟨fun h => absurd h (by decide), fun h => absurd h.2.1 (by decide)⟩
  · rw [if_neg h1]
    exact ⟨fun h => absurd h (by decide), fun h => absurd h.1 h1⟩
theorem ah_false {l : List Sta} {i : Nat} {a : Int} : ahB l i 0 a = false ↔ ∀ k x, k < i → l[k]? = some x → x.ad ≠ a := by
  unfold ahB
  rw [List.drop_zero, List.any_eq_false]
  constructor
  · intro h k x hk hx he
    refine h x ?_ (decide_eq_true he)
    rw [List.mem_take_iff_getElem]
    obtain ⟨hl, rfl⟩ := List.getElem?_eq_some_iff.1 hx
    exact ⟨k, by omega, rfl⟩
  · intro h x hx he
    rw [List.mem_take_iff_getElem] at hx
    obtain ⟨k, hk, rfl⟩ := hx
    exact h k _ (by omega) (List.getElem?_eq_getElem (by omega)) (of_decide_eq_true he)
/-- With other numbers of the ring, all of them within their limits. -/
theorem may_numbers {c d : Clu} (h : May c) (hb : d.bl = c.bl) (hs : d.st = c.st) (ht : timB d = true) (hp : d.tp = 31) : May d := by
  obtain ⟨h1, h2, h3, h4, h5⟩ := h
  refine ⟨ht, by rw [hb]; exact h2, by rw [hs]; exact h3, by rw [hs]; exact h4, fun k hk => ?_⟩
  rw [hs] at hk
  have h6 := h5 k hk
  unfold fauB at *
  rw [hs]
  obtain ⟨g1, g2, g3⟩ := fau_zero.1 h6
  have h31 : c.tp ≤ 31 := by
    unfold timB at h1
    simp only [Bool.and_eq_true] at h1
    exact (in_iff.1 h1.2.2.2.2.2).2
  refine fau_zero.2 ⟨?_, by rw [hs]; exact g2, ?_⟩
  · rw [Bool.and_eq_true, in_iff] at g1 ⊢
    rw [hp]
    exact ⟨⟨g1.1.1, by omega⟩, g1.2⟩
  · unfold ownE at *
    rw [hb]
    exact g3
def cutL (l : List Sta) (k : Nat) : List Sta := l.take k ++ l.drop (k + 1)
theorem cut_len {l : List Sta} {k : Nat} (h : k < l.length) : (cutL l k).length = l.length - 1 := by
  unfold cutL
  rw [List.length_append, List.length_take, List.length_drop]
  omega
theorem cut_at {l : List Sta} {k : Nat} (h : k < l.length) (i : Nat) : (cutL l k)[i]? = l[if i < k then i else i + 1]? := by
  unfold cutL
  rw [List.getElem?_append, List.length_take, Nat.min_eq_left (by omega)]
  by_cases c : i < k
  · rw [if_pos c, if_pos c, List.getElem?_take, if_pos c]
  · rw [if_neg c, if_neg c, List.getElem?_drop]
    congr 1
    omega
/-- Without one of its stations. -/
theorem may_cut {c d : Clu} (h : May c) {k : Nat} (hk : k < c.st.length) (h1 : 2 ≤ c.st.length) (hb : d.bl = c.bl) (hs : d.st = cutL c.st k) (ht : timB d = true) (hp : d.tp = c.tp) : May d := by
  obtain ⟨_, h2, h3, h4, h5⟩ := h
  have hl := cut_len hk
  refine ⟨ht, by rw [hb]; exact h2, by rw [hs, hl]; omega, by rw [hs, hl]; omega, fun i hi => ?_⟩
  rw [hs, hl] at hi
  obtain ⟨j, hj⟩ : ∃ j, j = if i < k then i else i + 1 := ⟨_, rfl⟩
  have hjl : j < c.st.length := by rw [hj]; split <;> omega
  have hx : c.st[j]? = some c.st[j] := List.getElem?_eq_getElem hjl
  have hx2 : d.st[i]? = some c.st[j] := by rw [hs, cut_at hk, ← hj, hx]
  have h6 := h5 j hjl
  unfold fauB at *
  rw [tget_at hx] at h6
  rw [tget_at hx2]
  obtain ⟨g1, g2, g3⟩ := fau_zero.1 h6
  refine fau_zero.2 ⟨by rw [hp]; exact g1, ?_, ?_⟩
  · rw [ah_false] at *
    intro m x hm hmx
    rw [hs, cut_at hk] at hmx
    exact g2 _ x (by rw [hj]; split <;> split <;> omega) hmx
  · unfold ownE at *
    rw [hb]
    exact g3

/-! ### Which are asked -/
def findC : List Sta → Int → Sta × Bool
  | [], _ => (noT, false)
  | s :: l, a => if s.ad = a then (s, true) else findC l a
theorem findC_at {l : List Sta} {k : Nat} {b : Sta} (h : l[k]? = some b) (a : Int) : findC (l.drop k) a = if b.ad = a then (b, true) else findC (l.drop (k + 1)) a := by
  obtain ⟨hk, rfl⟩ := List.getElem?_eq_some_iff.1 h
  rw [List.drop_eq_getElem_cons hk]
  rfl
theorem findC_mem : ∀ (l : List Sta) (a : Int), (findC l a = (noT, false)) ∨ (∃ (k : Nat) (x : Sta), l[k]? = some x ∧ findC l a = (x, true))
  | [], _ => .inl rfl
  | s :: l, a => by
    unfold findC
    by_cases h : s.ad = a
    · rw [if_pos h]
      exact .inr ⟨0, s, rfl, rfl⟩
    · rw [if_neg h]
      rcases findC_mem l a with h1 | ⟨k, x, h1, h2⟩
      · exact .inl h1
      · exact .inr ⟨k + 1, x, by simpa using h1, h2⟩
def valL (D : List Blk) (l : List Spt) : List Int := l.map fun s => (findB D s.b).1.sz
theorem val_at {D : List Blk} {l : List Spt} {k : Nat} {x : Spt} (h : l[k]? = some x) : valL D (l.take (k + 1)) = valL D (l.take k) ++ [(findB D x.b).1.sz] := by
  obtain ⟨hk, rfl⟩ := List.getElem?_eq_some_iff.1 h
  unfold valL
  rw [List.take_succ_eq_append_getElem hk, List.map_append]
  rfl
theorem val_len (D : List Blk) (l : List Spt) : (valL D l).length = l.length := by unfold valL; simp
def hasS (l : List Spt) (k : Nat) (b : Int) : Bool := (l.drop k).any fun s => decide (s.b = b)
theorem has_end (l : List Spt) (b : Int) : hasS l l.length b = false := by
  unfold hasS
  rw [List.drop_eq_nil_of_le (Nat.le_refl _)]
  rfl
theorem has_at {l : List Spt} {k : Nat} {x : Spt} (h : l[k]? = some x) (b : Int) : hasS l k b = (decide (x.b = b) || hasS l (k + 1) b) := by
  unfold hasS
  obtain ⟨hl, rfl⟩ := List.getElem?_eq_some_iff.1 h
  rw [List.drop_eq_getElem_cons hl, List.any_cons]
end Go.Proofs.Ytmlopacekoghkaa.Cf
