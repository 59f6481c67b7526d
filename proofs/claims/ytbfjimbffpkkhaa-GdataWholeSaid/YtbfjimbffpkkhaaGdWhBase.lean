/-
  A publisher, a subscriber, a map, a row of frames in memory, apart from one another. Conditions: as each states.
-/
import Derived.Test.YtbfjimbffpkkhaaGdMap
import Derived.Test.YtbfjimbffpkkhaaGdSubs
namespace Go.Proofs.Ytbfjimbffpkkhaa.Pa
open Go.RowKit

structure Dw (w W : World) (N b g n inc : Nat) (P : Pb) (sb q : Nat) (s : Sb) (mr : Nat) (m : Mp) (lb : Nat) (last : Nat × Nat) (wv : Value) (went : List Fr) : Prop where
  pub : PubAt W b g n inc P
  sub : SubAt W sb q n s
  map : MapV W mr m
  lst : W.heap[lb]? = some (.cells #[.int .u16 last.1, .int .u32 last.2] 31 (0, 0))
  row : FRow N W wv went
  bel : Below N w W
  low : N ≤ b ∧ N ≤ sb ∧ N ≤ q ∧ N ≤ mr ∧ N ≤ lb
  fix : sb ≠ mr ∧ sb ≠ lb ∧ q ≠ mr ∧ q ≠ lb ∧ mr ≠ lb
  bn : b ≠ sb ∧ b ≠ q ∧ b ≠ mr ∧ b ≠ lb
  gn : g ≠ sb ∧ g ≠ q ∧ g ≠ mr ∧ g ≠ lb
  rn : ∀ x, wv.ownBlock = some x → x ≠ sb ∧ x ≠ q ∧ x ≠ mr ∧ x ≠ lb ∧ x ≠ b ∧ x ≠ g
theorem own_lt {N : Nat} {W : World} {v : Value} {l : List Fr} (h : FRow N W v l) {x : Nat} (hx : v.ownBlock = some x) : x < W.heap.size := by
  rcases h.2 with ⟨rfl, -⟩ | ⟨g, cap, cur, rfl, -, hg, -⟩
  · cases hx
  · injection hx with hx
    subst hx
    exact lt_of_heap hg
section
variable {w W W' : World} {N b g n inc sb q mr lb : Nat} {P : Pb} {s : Sb} {m : Mp} {last : Nat × Nat} {wv : Value} {went : List Fr}
theorem Dw.lts (h : Dw w W N b g n inc P sb q s mr m lb last wv went) : b < W.heap.size ∧ sb < W.heap.size ∧ q < W.heap.size ∧ mr < W.heap.size ∧ lb < W.heap.size :=
  ⟨h.pub.lt, h.sub.lt, h.sub.qlt, h.map.lt, lt_of_heap h.lst⟩
theorem Dw.NW (h : Dw w W N b g n inc P sb q s mr m lb last wv went) : N ≤ W.heap.size := by have := h.pub.lt; have := h.low.1; omega
theorem Dw.below (h : Dw w W N b g n inc P sb q s mr m lb last wv went) (hb : Below W.heap.size W W') : Dw w W' N b g n inc P sb q s mr m lb last wv went :=
  ⟨h.pub.below hb, h.sub.below hb, h.map.only (OnlyL.of_below hb) (List.not_mem_nil), (hb.block lb h.lts.2.2.2.2).trans h.lst, h.row.kept hb, h.bel.trans (hb.mono h.NW), h.low, h.fix, h.bn, h.gn, h.rn⟩
theorem PubAt.glt (h : PubAt W b g n inc P) (hw : P.way ≠ []) : g < W.heap.size := by
  obtain ⟨v, k⟩ := h
  obtain ⟨a, cap, -, -, h3⟩ := k.way
  obtain ⟨o, -, h4⟩ := h3 hw
  obtain ⟨x, l, hx⟩ := List.exists_cons_of_ne_nil hw
  rw [hx] at h4
  exact World.block_lt_of_cell? W _ (h4 0 (.int .i64 x.kind) rfl)
theorem PubAt.any {g' : Nat} (h : PubAt W b g n inc P) (hw : P.way = []) (hg : g' ≠ b) : PubAt W b g' n inc P := by
  obtain ⟨v, k⟩ := h
  obtain ⟨a, cap, hv, hc, -⟩ := k.way
  exact ⟨v, k.head, ⟨a, cap, hv, hc, fun hn => absurd hw hn⟩, hg⟩
/-- The publisher has turned. -/
theorem Dw.pubs {g' : Nat} {P' : Pb} (h : Dw w W N b g n inc P sb q s mr m lb last wv went) (hp : PubAt W' b g' n inc P') (ho : OnlyL [b] W W') (hg : g' = g ∨ W.heap.size ≤ g') : Dw w W' N b g' n inc P' sb q s mr m lb last wv went := by
  obtain ⟨l1, l2, l3, l4, l5⟩ := h.lts
  obtain ⟨b1, b2, b3, b4⟩ := h.bn
  obtain ⟨g1, g2, g3, g4⟩ := h.gn
  refine ⟨hp, h.sub.only ho (by simp; omega) (by simp; omega), h.map.only ho (by simp; omega), (ho.block lb l5 (by simp; omega)).trans h.lst, h.row.only ho (fun x hx => by have := h.rn x hx; simp; omega), h.bel.trans (ho.below (by have := h.low.1; simp; omega) h.NW), h.low, h.fix, h.bn, ?_, fun x hx => ?_⟩
  · rcases hg with e | e <;> omega
  · have h1 := h.rn x hx
    have h2 := own_lt h.row hx
    rcases hg with e | e <;> omega
/-- The subscriber has turned. -/
theorem Dw.subs {s' : Sb} (h : Dw w W N b g n inc P sb q s mr m lb last wv went) (hp : SubAt W' sb q n s') (ho : OnlyL [sb, q] W W') : Dw w W' N b g n inc P sb q s' mr m lb last wv went := by
  obtain ⟨l1, l2, l3, l4, l5⟩ := h.lts
  obtain ⟨b1, b2, b3, b4⟩ := h.bn
  obtain ⟨g1, g2, g3, g4⟩ := h.gn
  obtain ⟨f1, f2, f3, f4, f5⟩ := h.fix
  obtain ⟨n1, n2, n3, n4, n5⟩ := h.low
  exact ⟨h.pub.only ho (by simp; omega) (by simp; omega), hp, h.map.only ho (by simp; omega), (ho.block lb l5 (by simp; omega)).trans h.lst, h.row.only ho (fun x hx => by have := h.rn x hx; simp; omega), h.bel.trans (ho.below (by simp; omega) h.NW), h.low, h.fix, h.bn, h.gn, h.rn⟩
/-- The map has turned. -/
theorem Dw.maps {m' : Mp} {o : Obj} (h : Dw w W N b g n inc P sb q s mr m lb last wv went) (hm : ∀ W' : World, W'.heap[mr]? = some o → MapV W' mr m') : Dw w (putM W mr o) N b g n inc P sb q s mr m' lb last wv went := by
  obtain ⟨l1, l2, l3, l4, l5⟩ := h.lts
  obtain ⟨b1, b2, b3, b4⟩ := h.bn
  obtain ⟨g1, g2, g3, g4⟩ := h.gn
  obtain ⟨f1, f2, f3, f4, f5⟩ := h.fix
  obtain ⟨n1, n2, n3, n4, n5⟩ := h.low
  have ho : OnlyL [mr] W (putM W mr o) := OnlyL.put (by simp) o
  exact ⟨h.pub.only ho (by simp; omega) (by simp; omega), h.sub.only ho (by simp; omega) (by simp; omega), hm _ (putM_at l4), (ho.block lb l5 (by simp; omega)).trans h.lst, h.row.only ho (fun x hx => by have := h.rn x hx; simp; omega), h.bel.trans (ho.below (by simp; omega) h.NW), h.low, h.fix, h.bn, h.gn, h.rn⟩
/-- The row has turned. -/
theorem Dw.rows {wv' : Value} {went' : List Fr} (h : Dw w W N b g n inc P sb q s mr m lb last wv went) (hr : FRow N W' wv' went') (hg : W.grownBy W' wv.ownBlock) (hn : ∀ x, wv'.ownBlock = some x → wv.ownBlock = some x ∨ W.heap.size ≤ x) :
    ∃ g', Dw w W' N b g' n inc P sb q s mr m lb last wv' went' := by
  obtain ⟨l1, l2, l3, l4, l5⟩ := h.lts
  have hsz := hg.size
  have hNW := h.NW
  have ho : OnlyL wv.ownBlock.toList W W' := ⟨hg.os, hg.tape, hg.output, hg.size, fun k hk hm => hg.block k hk (fun e => hm (by rw [← e]; simp))⟩
  have hx : ∀ k, (k = sb ∨ k = q ∨ k = mr ∨ k = lb ∨ k = b ∨ k = g) → k ∉ wv.ownBlock.toList := fun k hk hm => by
    have := h.rn k (by simpa using hm)
    omega
  have hp0 := h.pub.only ho (hx b (by simp)) (hx g (by simp))
  have hbel : Below N W W' := ho.below (fun j hj => own_base h.row j (by simpa using hj)) hNW
  obtain ⟨g', hp, hg1, hg2⟩ : ∃ g', PubAt W' b g' n inc P ∧ (g' ≠ sb ∧ g' ≠ q ∧ g' ≠ mr ∧ g' ≠ lb) ∧ ∀ x, wv'.ownBlock = some x → x ≠ g' := by
    by_cases hw : P.way = []
    · refine ⟨W'.heap.size + 1, hp0.any hw (by omega), by omega, fun x hx => ?_⟩
      have := own_lt hr hx
      omega
    · have hgl := h.pub.glt hw
      refine ⟨g, hp0, h.gn, fun x hx => ?_⟩
      rcases hn x hx with e | e
      · exact (h.rn x e).2.2.2.2.2
      · omega
  refine ⟨g', hp, h.sub.only ho (hx sb (by simp)) (hx q (by simp)), h.map.only ho (hx mr (by simp)), (ho.block lb l5 (hx lb (by simp))).trans h.lst, hr, h.bel.trans hbel, h.low, h.fix, h.bn, hg1, fun x hx => ?_⟩
  have h1 := hg2 x hx
  rcases hn x hx with e | e
  · have := h.rn x e
    omega
  · omega
/-- The mark has turned. -/
theorem Dw.mark (h : Dw w W N b g n inc P sb q s mr m lb last wv went) (i k : Nat) : Dw w ((W.setCell ⟨lb, 0, none⟩ (.int .u16 i)).setCell ⟨lb, 1, none⟩ (.int .u32 k)) N b g n inc P sb q s mr m lb (i, k) wv went := by
  obtain ⟨l1, l2, l3, l4, l5⟩ := h.lts
  obtain ⟨b1, b2, b3, b4⟩ := h.bn
  obtain ⟨g1, g2, g3, g4⟩ := h.gn
  obtain ⟨f1, f2, f3, f4, f5⟩ := h.fix
  obtain ⟨n1, n2, n3, n4, n5⟩ := h.low
  have ho : OnlyL [lb] W ((W.setCell ⟨lb, 0, none⟩ (.int .u16 i)).setCell ⟨lb, 1, none⟩ (.int .u32 k)) := (OnlyL.set (by simp) _ _).tr (OnlyL.set (by simp) _ _)
  exact ⟨h.pub.only ho (by simp; omega) (by simp; omega), h.sub.only ho (by simp; omega) (by simp; omega), h.map.only ho (by simp; omega), heap_setCell_same _ _ _ _ _ _ (heap_setCell_same _ _ _ _ _ _ h.lst), h.row.only ho (fun x hx => by have := h.rn x hx; simp; omega), h.bel.trans (ho.below (by simp; omega) h.NW), h.low, h.fix, h.bn, h.gn, h.rn⟩
/-- Another publisher. -/
theorem Dw.anew {b' inc' : Nat} {P' : Pb} (h : Dw w W N b g n inc P sb q s mr m lb last wv went) (hb : Below W.heap.size W W') (hp : PubAt W' b' (b' + 1) n inc' P') (hl : W.heap.size ≤ b') : Dw w W' N b' (b' + 1) n inc' P' sb q s mr m lb last wv went := by
  obtain ⟨l1, l2, l3, l4, l5⟩ := h.lts
  have h' := h.below hb
  have := h.NW
  refine ⟨hp, h'.sub, h'.map, h'.lst, h'.row, h'.bel, ⟨by omega, h.low.2⟩, h.fix, by omega, by omega, fun x hx => ?_⟩
  have h1 := h.rn x hx
  have h2 := own_lt h.row hx
  omega
end
end Go.Proofs.Ytbfjimbffpkkhaa.Pa
