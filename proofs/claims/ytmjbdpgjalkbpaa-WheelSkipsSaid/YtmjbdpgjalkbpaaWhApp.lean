/-
  A list appended to a row of the call's own, whatever it is, nil or not. Conditions: fewer than a million numbers.
-/
import Derived.Test.YtmjbdpgjalkbpaaWhActs
import Derived.Laws.AppendOwnNone
namespace Go.Proofs.Ytmjbdpgjalkbpaa.Whl
open Go.RowKit

theorem wpList_append_list {w : World} {ops : Array Oper} {rest : List Oper} {o : Oper} {a : Act} {Q : Exit → Act → World → Prop} (hgd : o.guard = none) (s x : Operand)
    (ho : o.op = .call { callee := .builtin .append, args := #[s, x], argTypes := #[35, 35] })
    (N : Nat) (v u : Value) (la lb : List Nat) (hs : a.eval s = v) (hown : OwnL N w v la) (hx : a.eval x = u) (hu : ListAt w u lb) (hlen : la.length + lb.length ≤ 1000000) (hN : N ≤ w.heap.size)
    (h : ∀ v' w', OwnL N w' v' (la ++ lb) → w.grownBy w' v.ownBlock → wpList Try.prog ops Q rest (a.put o.dst v') w') : wpList Try.prog ops Q (o :: rest) a w := by
  obtain ⟨i0, hi, hz0, hz1, hz2⟩ := info_parts infoInt
  rcases hu with ⟨rfl, rfl⟩ | ⟨b, c, rfl, hlt, h1, h2, h3⟩
  · refine wpList_append_own_none hgd s x 35 ho N 3 i0 1 Try.underlying35 hi v la.length (ints la) hs hown hx ?_
    refine h v w ?_ ⟨rfl, rfl, rfl, Nat.le_refl _, fun _ _ _ => rfl⟩
    rw [List.append_nil]
    exact hown
  · refine wpList_append_own w hgd s x 35 ho N 3 i0 (.int .i64 0) 1 8 Try.underlying35 hi hz0 hz1 hz2 rfl (by decide) v la.length (ints la) hs hown ⟨b, 0, none⟩ lb.length c (ints lb) hx (by rw [ints_length, Nat.mul_one]) (fun j u' hj => ?_) (ints_one _) (by unfold maxLen; omega) (by omega) hN (fun v' w' h4 h5 _ => h v' w' ?_ h5)
    · have hjl : j < lb.length := by
        have := (List.getElem?_eq_some_iff.1 hj).1
        rw [ints_length] at this
        exact this
      rw [ints_at lb j hjl] at hj
      injection hj with hj
      subst hj
      have hadd : (⟨b, 0, none⟩ : Addr).add j = ⟨b, j, none⟩ := by unfold Addr.add; split <;> simp_all
      rw [hadd]
      exact h3 j hjl
    · unfold OwnL
      rw [List.length_append, ints_app]
      exact h4

/-- What lies below N, and rows that lie elsewhere, stay behind an append. -/
theorem grown_below {N M : Nat} {w w' : World} {v : Value} {l : List Nat} (h : OwnL N w v l) (hg : w.grownBy w' v.ownBlock) (hM : M ≤ N) (hN : N ≤ w.heap.size) : Below M w w' :=
  ⟨hg.os, hg.tape, hg.output, hg.size, fun k hk => hg.block k (by omega) (fun e => by have := (World.ownsRow.lt h k e.symm).1; omega)⟩

/-- A row that lies below another one stays behind an append to that. -/
theorem own_grown {N M : Nat} {w w' : World} {u v : Value} {k l : List Nat} (hu : OwnL N w u k) (hb : ∀ j, u.ownBlock = some j → j < M) (h : OwnL M w v l) (hg : w.grownBy w' v.ownBlock) : OwnL N w' u k := by
  refine World.ownsRow.kept hu hg ?_
  cases hj : u.ownBlock with
  | none => exact .inl rfl
  | some j =>
    refine .inr fun e => ?_
    have h1 := hb j hj
    have h2 := (World.ownsRow.lt h j e.symm).1
    omega
theorem own_lt {N : Nat} {w : World} {u : Value} {k : List Nat} (hu : OwnL N w u k) : ∀ j, u.ownBlock = some j → j < w.heap.size := fun j e => (World.ownsRow.lt hu j e).2
theorem Two.low {F : Face} {N B p g p2 g2 : Nat} {w0 w w' : World} {x y : Wh} (h : Two F N w0 w p g p2 g2 x y) (hb : Below B w w') (hN : N ≤ B) (h1 : p < B) (h2 : g < B) (h3 : p2 < B) (h4 : g2 < B) : Two F N w0 w' p g p2 g2 x y :=
  ⟨⟨F.of h.r1.at_ (hb.block p h1) (hb.block g h2), h.r1.below.trans (hb.mono hN), h.r1.hp, h.r1.hg, Nat.le_trans h.r1.size hb.size⟩,
   ⟨F.of h.r2.at_ (hb.block p2 h3) (hb.block g2 h4), h.r2.below.trans (hb.mono hN), h.r2.hp, h.r2.hg, Nat.le_trans h.r2.size hb.size⟩, h.n1, h.n2, h.n3, h.n4⟩

end Go.Proofs.Ytmjbdpgjalkbpaa.Whl
