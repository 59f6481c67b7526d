/-
  Two rows of numbers whose heads lie in an array; the code's queue of numbers, what came in and what went out, side by side. Conditions: none.
-/
import Derived.Test.YtpbiigpnbhgilaaQuActs
import Derived.Deep.AppendLies
namespace Go.Proofs.Ytpbiigpnbhgilaa.Qu
open Go.RowKit

def ints (l : List Int) : List Value := l.map (Value.int .i64)
theorem ints_length (l : List Int) : (ints l).length = l.length := by simp [ints]
theorem ints_app (a b : List Int) : ints (a ++ b) = ints a ++ ints b := by simp [ints]
theorem ints_at (l : List Int) (i : Nat) (h : i < l.length) : (ints l)[i]? = some (.int .i64 l[i]) := by simp [ints, h]
theorem infoInt : (Try.prog.info? 3).map (fun i => (i.zero, i.size, i.bytes)) = some (some (.int .i64 0), 1, 8) := by kernel_rfl
def coli (h : Bool) : Nat := if h then 1 else 0
def updB (L : Bool → List Int) (h : Bool) (l : List Int) : Bool → List Int := fun c => if c = h then l else L c
theorem updB_same (L : Bool → List Int) (h : Bool) (l : List Int) : updB L h l h = l := by unfold updB; rw [if_pos rfl]
theorem updB_other (L : Bool → List Int) (h : Bool) (l : List Int) : updB L h l (!h) = L (!h) := by unfold updB; rw [if_neg (by cases h <;> decide)]
abbrev Row (w : World) (v : Value) (l : List Int) : Prop := w.ownsRow 0 3 1 v l.length (ints l)
theorem row_of {w w' : World} {v : Value} {l : List Int} (h : Row w v l) (hb : ∀ k, v.ownBlock = some k → w'.heap[k]? = w.heap[k]?) : Row w' v l := by
  rcases h.2 with ⟨rfl, h0⟩ | ⟨g, cap, cur, rfl, hN, hg, h1, h2, h3, h4⟩
  · exact ⟨h.1, .inl ⟨rfl, h0⟩⟩
  · exact ⟨h.1, .inr ⟨g, cap, cur, rfl, hN, (hb g rfl).trans hg, h1, h2, h3, h4⟩⟩
theorem row_form {w : World} {v : Value} {l : List Int} (h : Row w v l) : ∃ A c, v = .slice A l.length c ∧ l.length ≤ maxLen ∧ l.length ≤ c ∧ ∀ i (hi : i < l.length), ∃ g, A = some ⟨g, 0, none⟩ ∧ w.cell? ⟨g, i, none⟩ = some (.int .i64 l[i]) := by
  rcases h.2 with ⟨rfl, h0⟩ | ⟨g, cap, cur, rfl, hN, hg, h1, h2, h3, h4⟩
  · exact ⟨none, 0, by rw [h0], by rw [h0]; exact Nat.zero_le _, by omega, fun i hi => by omega⟩
  · refine ⟨_, cap, rfl, Nat.le_trans h1 h2, h1, fun i hi => ⟨g, rfl, ?_⟩⟩
    have := World.ownsRow.cellAt h i (by omega)
    rw [this, ints_at l i hi]

/-- Block b holds two rows' heads, low and high. -/
structure DuoV (w : World) (b : Nat) (L : Bool → List Int) (v : Bool → Value) : Prop where
  cl : ∀ h, w.cell? ⟨b, coli h, none⟩ = some (v h)
  fz : ∀ j, w.frozen? ⟨b, j, none⟩ = false
  row : ∀ h, Row w (v h) (L h)
  nb : ∀ h, (v h).ownBlock ≠ some b
  apart : (v false).ownBlock = none ∨ (v false).ownBlock ≠ (v true).ownBlock
def DuoAt (w : World) (b : Nat) (bs : List Nat) (L : Bool → List Int) : Prop := ∃ v, bs = b :: ((v false).ownBlock.toList ++ (v true).ownBlock.toList) ∧ DuoV w b L v
section
variable {w w' : World} {b : Nat} {bs : List Nat} {L : Bool → List Int}
theorem DuoAt.of (h : DuoAt w b bs L) (hb : ∀ k ∈ bs, w'.heap[k]? = w.heap[k]?) : DuoAt w' b bs L := by
  obtain ⟨v, rfl, h⟩ := h
  have hbb := hb b (by simp)
  exact ⟨v, rfl, fun c => (World.cell?_of_block (a := ⟨b, coli c, none⟩) hbb).trans (h.cl c), fun j => (World.frozen?_of_block (a := ⟨b, j, none⟩) hbb).trans (h.fz j), fun c => row_of (h.row c) (fun k hk => hb k (own_mem c hk)), h.nb, h.apart⟩
theorem DuoAt.lt (h : DuoAt w b bs L) : ∀ k ∈ bs, k < w.heap.size := by
  obtain ⟨v, rfl, h⟩ := h
  intro k hk
  simp only [List.mem_cons, List.mem_append, Option.mem_toList] at hk
  rcases hk with rfl | hk | hk
  · exact World.block_lt_of_cell? w ⟨k, coli false, none⟩ (h.cl false)
  · exact (World.ownsRow.lt (h.row false) k hk).2
  · exact (World.ownsRow.lt (h.row true) k hk).2
theorem DuoAt.below (h : DuoAt w b bs L) (hb : Below w.heap.size w w') : DuoAt w' b bs L := h.of (fun k hk => hb.block k (h.lt k hk))
theorem DuoAt.only {ns : List Nat} (h : DuoAt w b bs L) (hb : OnlyL ns w w') (hd : ∀ k ∈ bs, k ∉ ns) : DuoAt w' b bs L := h.of (fun k hk => hb.block k (h.lt k hk) (hd k hk))
end
theorem DuoAt.fresh (w : World) (t : TypeId) : DuoAt (w.alloc (.cells #[.slice none 0 0, .slice none 0 0] t)) w.heap.size [w.heap.size] (fun _ => []) := by
  have hc : ∀ j u, #[Value.slice none 0 0, .slice none 0 0][j]? = some u → (w.alloc (.cells #[.slice none 0 0, .slice none 0 0] t)).cell? ⟨w.heap.size, j, none⟩ = some u := by
    intro j u hu
    rw [cell_of_row _ _ j _ t (0, 0) (heap_alloc_new w _)]
    exact hu
  exact ⟨fun _ => .slice none 0 0, rfl, fun c => by cases c; exact hc 0 _ rfl; exact hc 1 _ rfl, fun j => by simp [go_sem], fun c => World.ownsRow_nil _ _ _ _, fun _ => by simp [Value.ownBlock], .inl rfl⟩

/-- One number more at the end of a row. -/
theorem duo_append {w W1 W2 : World} {b g cap : Nat} {L : Bool → List Int} {v : Bool → Value} {i : Int} {h : Bool} (hv : DuoV w b L v) (hb : Below w.heap.size w W1) (hg : W1.grownBy W2 (v h).ownBlock)
    (hu : W2.ownsRow 0 3 1 (.slice (some ⟨g, 0, none⟩) ((L h).length + 1) cap) ((L h).length + 1) (ints (L h) ++ [.int .i64 i])) (hw : (v h).ownBlock = some g ∨ g = W1.heap.size) :
    ∃ bs', DuoAt (W2.setCell ⟨b, coli h, none⟩ (.slice (some ⟨g, 0, none⟩) ((L h).length + 1) cap)) b bs' (updB L h (L h ++ [i])) ∧
      OnlyL (b :: ((v false).ownBlock.toList ++ (v true).ownBlock.toList)) w (W2.setCell ⟨b, coli h, none⟩ (.slice (some ⟨g, 0, none⟩) ((L h).length + 1) cap)) ∧
      ∀ j ∈ bs', j ∈ b :: ((v false).ownBlock.toList ++ (v true).ownBlock.toList) ∨ w.heap.size ≤ j := by
  have hbl : b < w.heap.size := World.block_lt_of_cell? w ⟨b, coli false, none⟩ (hv.cl false)
  have hpre := put_pre hb hg
  have htwo : (v h).ownBlock = none ∨ (v h).ownBlock ≠ (v (!h)).ownBlock := by
    have ha := hv.apart
    cases h
    · exact ha
    · rcases ha with e | e
      · by_cases e5 : (v true).ownBlock = none
        · exact .inl e5
        · exact .inr (fun e2 => e5 (e2.trans e))
      · exact .inr (fun e2 => e e2.symm)
  have hne : ∀ k, (v (!h)).ownBlock = some k → some k ≠ (v h).ownBlock := fun k hk e => by
    rcases htwo with e0 | e0
    · rw [e0] at e; cases e
    · exact e0 (by rw [← e, hk])
  have hlt : ∀ c k, (v c).ownBlock = some k → k < w.heap.size := fun c k hk => (World.ownsRow.lt (hv.row c) k hk).2
  generalize hU : Value.slice (some ⟨g, 0, none⟩) ((L h).length + 1) cap = u at *
  have huo : u.ownBlock = some g := by rw [← hU]; rfl
  have hgb : g ≠ b := fun e => by
    rcases hw with e2 | e2
    · exact hv.nb h (by rw [e2, e])
    · have := hb.size; omega
  have hset : ∀ k, k ≠ b → (W2.setCell ⟨b, coli h, none⟩ u).heap[k]? = W2.heap[k]? := fun k hk => Below.heap_setCell _ _ _ _ hk
  have hbb : W2.heap[b]? = w.heap[b]? := hpre b hbl (fun e => hv.nb h e.symm)
  have gl := fun c => (World.cell?_of_block (a := ⟨b, coli c, none⟩) hbb).trans (hv.cl c)
  have gf := fun j => (World.frozen?_of_block (a := ⟨b, j, none⟩) hbb).trans (hv.fz j)
  have hrow : Row (W2.setCell ⟨b, coli h, none⟩ u) u (L h ++ [i]) := by
    refine row_of (w := W2) ?_ (fun k hk => hset k (fun e => hgb (by rw [huo] at hk; injection hk with hk; rw [hk, e])))
    show W2.ownsRow 0 3 1 u (L h ++ [i]).length (ints (L h ++ [i]))
    rw [show (L h ++ [i]).length = (L h).length + 1 by simp, ints_app]
    exact hu
  have hoth : Row (W2.setCell ⟨b, coli h, none⟩ u) (v (!h)) (L (!h)) := row_of (hv.row (!h)) (fun k hk => (hset k (fun e => hv.nb (!h) (by rw [hk, e]))).trans (hpre k (hlt _ k hk) (hne k hk)))
  have hR : DuoV (W2.setCell ⟨b, coli h, none⟩ u) b (updB L h (L h ++ [i])) (fun c => if c = h then u else v c) := by
    refine ⟨fun c => ?_, fun j => (World.frozen?_setCell _ _ _ _).trans (gf j), fun c => ?_, fun c => ?_, ?_⟩
    · by_cases hc : c = h
      · subst hc
        rw [if_pos rfl]
        exact World.cell?_setCell_same _ _ _ (gl c)
      · rw [if_neg hc, World.cell?_setCell_other _ _ _ _ (off_ne b (by cases h <;> cases c <;> first | decide | exact absurd rfl hc))]
        exact gl c
    · by_cases hc : c = h
      · subst hc
        rw [if_pos rfl, updB_same]
        exact hrow
      · have e : c = !h := by cases c <;> cases h <;> first | rfl | exact absurd rfl hc
        subst e
        rw [if_neg hc, updB_other]
        exact hoth
    · by_cases hc : c = h
      · rw [if_pos hc, huo]; exact fun e => hgb (by injection e)
      · rw [if_neg hc]; exact hv.nb c
    · have hgn : some g ≠ (v (!h)).ownBlock := fun e => by
        rcases hw with e2 | e2
        · exact hne g e.symm e2.symm
        · have := hlt _ g e.symm; have := hb.size; omega
      cases h
      · simp only [if_true, Bool.true_eq_false, if_false]
        right; rw [huo]; exact hgn
      · simp only [if_true, Bool.false_eq_true, if_false]
        right; rw [huo]; exact fun e => hgn e.symm
  have hO : OnlyL (b :: ((v false).ownBlock.toList ++ (v true).ownBlock.toList)) w W2 :=
    ⟨hg.os.trans hb.os, hg.tape.trans hb.tape, hg.output.trans hb.output, Nat.le_trans hb.size hg.size, fun k hk hm => hpre k hk (fun e => hm (own_mem h e.symm))⟩
  refine ⟨_, ⟨_, rfl, hR⟩, hO.trans (OnlyL.set (ms := b :: ((v false).ownBlock.toList ++ (v true).ownBlock.toList)) (by simp) _ _) (fun j hj => .inl hj), fun j hj => ?_⟩
  simp only [List.mem_cons, List.mem_append, Option.mem_toList] at hj ⊢
  have hown : ∀ c, j ∈ (if c = h then u else v c).ownBlock → (j = b ∨ (v false).ownBlock = some j ∨ (v true).ownBlock = some j) ∨ w.heap.size ≤ j := fun c hc => by
    by_cases e : c = h
    · rw [if_pos e, huo] at hc
      have e2 : g = j := by simpa using hc
      subst e2
      rcases hw with e3 | e3
      · left; right
        cases h
        · exact .inl e3
        · exact .inr e3
      · right; have := hb.size; omega
    · rw [if_neg e] at hc
      left; right
      cases c
      · exact .inl hc
      · exact .inr hc
  rcases hj with hj | hj | hj
  · exact .inl (.inl hj)
  · exact hown false hj
  · exact hown true hj

/-- The queue, what points to it, what came in, and what went out. -/
structure OS (F : Face Int) (N : Nat) (w0 w : World) (p : Nat) (ms : List Nat) (x : Qs Int) (q ib : Nat) (is : List Nat) (L : Bool → List Int) (ob : Nat) (os : List Nat) (M : Bool → List Int) : Prop where
  run : Run F N w0 w p ms x
  c8 : w.cell? ⟨q, 0, none⟩ = some (.pointer (some ⟨p, 0, none⟩))
  inn : DuoAt w ib is L
  out : DuoAt w ob os M
  lq : N ≤ q
  li : ∀ k ∈ is, N ≤ k
  lo : ∀ k ∈ os, N ≤ k
  d1 : ∀ k ∈ ms, k ∉ is
  d2 : ∀ k ∈ ms, k ∉ os
  d3 : ∀ k ∈ is, k ∉ os
  e1 : q ∉ ms
  e2 : q ∉ is
  e3 : q ∉ os
section
variable {F : Face Int} {N p q ib ob : Nat} {ms ns is js os ks : List Nat} {w0 w w' : World} {x y : Qs Int} {L L' M M' : Bool → List Int}
theorem OS.lt8 (h : OS F N w0 w p ms x q ib is L ob os M) : q < w.heap.size := World.block_lt_of_cell? w ⟨q, 0, none⟩ h.c8
theorem OS.more (h : OS F N w0 w p ms x q ib is L ob os M) (hb : Below w.heap.size w w') : OS F N w0 w' p ms x q ib is L ob os M :=
  ⟨h.run.more hb, (World.cell?_of_block (a := ⟨q, 0, none⟩) (hb.block q h.lt8)).trans h.c8, h.inn.below hb, h.out.below hb, h.lq, h.li, h.lo, h.d1, h.d2, h.d3, h.e1, h.e2, h.e3⟩
theorem OS.drewN (h : OS F N w0 w p ms x q ib is L ob os M) (n : Nat) : OS F N w0 (w.drewN n) p ms x q ib is L ob os M := h.more ⟨rfl, rfl, rfl, Nat.le_refl _, fun _ _ => rfl⟩
theorem OS.queue (h : OS F N w0 w p ms x q ib is L ob os M) (hx : F.At w' p ns y) (ho : OnlyL ms w w') (hn : ∀ j ∈ ns, j ∈ ms ∨ w.heap.size ≤ j) : OS F N w0 w' p ns y q ib is L ob os M :=
  ⟨h.run.next hx ho hn, onlyL_cell ho h.c8 h.e1, h.inn.only ho (fun k hk hin => h.d1 k hin hk), h.out.only ho (fun k hk hin => h.d2 k hin hk), h.lq, h.li, h.lo,
    fun k hk hin => (hn k hk).elim (fun h1 => h.d1 k h1 hin) (fun h1 => by have := h.inn.lt k hin; omega), fun k hk hin => (hn k hk).elim (fun h1 => h.d2 k h1 hin) (fun h1 => by have := h.out.lt k hin; omega), h.d3, notin_next h.e1 h.lt8 hn, h.e2, h.e3⟩
theorem OS.came (h : OS F N w0 w p ms x q ib is L ob os M) (hx : DuoAt w' ib js L') (ho : OnlyL is w w') (hn : ∀ j ∈ js, j ∈ is ∨ w.heap.size ≤ j) : OS F N w0 w' p ms x q ib js L' ob os M :=
  ⟨⟨Face.only h.run.at_ ho h.d1, h.run.below.trans (ho.below h.li h.run.size), h.run.hm, Nat.le_trans h.run.size ho.size⟩, onlyL_cell ho h.c8 h.e2, hx, h.out.only ho (fun k hk hin => h.d3 k hin hk), h.lq,
    fun k hk => (hn k hk).elim (h.li k) (fun hle => Nat.le_trans h.run.size hle), h.lo, fun k hk hin => (hn k hin).elim (h.d1 k hk) (fun h1 => by have := F.lt h.run.at_ k hk; omega), h.d2,
    fun k hk hin => (hn k hk).elim (fun h1 => h.d3 k h1 hin) (fun h1 => by have := h.out.lt k hin; omega), h.e1, notin_next h.e2 h.lt8 hn, h.e3⟩
theorem OS.went (h : OS F N w0 w p ms x q ib is L ob os M) (hx : DuoAt w' ob ks M') (ho : OnlyL os w w') (hn : ∀ j ∈ ks, j ∈ os ∨ w.heap.size ≤ j) : OS F N w0 w' p ms x q ib is L ob ks M' :=
  ⟨⟨Face.only h.run.at_ ho h.d2, h.run.below.trans (ho.below h.lo h.run.size), h.run.hm, Nat.le_trans h.run.size ho.size⟩, onlyL_cell ho h.c8 h.e3, h.inn.only ho h.d3, hx, h.lq, h.li,
    fun k hk => (hn k hk).elim (h.lo k) (fun hle => Nat.le_trans h.run.size hle), h.d1, fun k hk hin => (hn k hin).elim (h.d2 k hk) (fun h1 => by have := F.lt h.run.at_ k hk; omega),
    fun k hk hin => (hn k hin).elim (h.d3 k hk) (fun h1 => by have := h.inn.lt k hk; omega), h.e1, h.e2, notin_next h.e3 h.lt8 hn⟩
end

end Go.Proofs.Ytpbiigpnbhgilaa.Qu
