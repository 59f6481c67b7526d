/-
  ImageApart: the values that the law makes, and what it asks. Conditions: as each states.
-/
import Derived.Test.YtncodfogioaddaaImLaw
import Derived.Test.YtncodfogioaddaaImApMath
import Derived.Deep.DeepCutAuto
import Derived.Deep.CutRange
namespace Go.Proofs.Ytncodfogioaddaa.Bl
open Go.RowKit

theorem own_base {w : World} {base n size : Nat} {e : TypeId} {v : Value} {xs : List Value} (h : w.ownsRow base e size v n xs) (g : Nat) (hg : v.ownBlock = some g) : base ≤ g := by
  rcases h.2 with ⟨rfl, _⟩ | ⟨g', cap, cur, rfl, hb, _⟩
  · simp [Value.ownBlock] at hg
  · simp [Value.ownBlock] at hg; omega
theorem own_form {w : World} {base n size : Nat} {e : TypeId} {v : Value} {xs : List Value} (h : w.ownsRow base e size v n xs) : ∃ A c, v = .slice A n c := by
  rcases h.2 with ⟨rfl, h0⟩ | ⟨g', cap, cur, rfl, _⟩
  · exact ⟨none, 0, by rw [h0]⟩
  · exact ⟨_, _, rfl⟩
theorem cell_one_new (w : World) (v : Value) (t : TypeId) : ∀ (j : Nat) (u : Value), [v][j]? = some u → (w.alloc (.cells #[v] t)).cell? ((⟨w.heap.size, 0, none⟩ : Addr).add j) = some u := by
  intro j u hu
  match j with
  | 0 =>
    simp at hu
    subst hu
    simp [Addr.add]
  | j + 1 => simp at hu

theorem infoStr : (Try.prog.info? 9).map (fun i => (i.zero, i.size, i.bytes)) = some (some (.string ⟨#[]⟩), 1, 16) := by kernel_rfl
def strs (l : List Bs) : List Value := l.map (fun x => .string (S x))
theorem strs_length (l : List Bs) : (strs l).length = l.length := by simp [strs]
theorem strs_at (l : List Bs) (i : Nat) (h : i < l.length) : (strs l)[i]? = some (.string (S (l.getD i []))) := by
  simp [strs, h]
/-- Texts in a row of the call's own. -/
def SRow (N : Nat) (w : World) (v : Value) (l : List Bs) : Prop := w.ownsRow N 9 1 v l.length (strs l)
theorem SRow.nil (N : Nat) (w : World) : SRow N w (.slice none 0 0) [] := ⟨rfl, .inl ⟨rfl, rfl⟩⟩
theorem SRow.cellAt {N : Nat} {w : World} {g cap : Nat} {l : List Bs} (h : SRow N w (.slice (some ⟨g, 0, none⟩) l.length cap) l) {i : Nat} (hi : i < l.length) : w.cell? ⟨g, i, none⟩ = some (.string (S (l.getD i []))) :=
  (World.ownsRow.cellAt (show w.ownsRow N 9 1 _ l.length (strs l) from h) i (by omega)).trans (strs_at l i hi)

theorem own_kept {N : Nat} {w w' : World} {v : Value} {e : TypeId} {n : Nat} {l : List Value} (h : w.ownsRow N e 1 v n l) (hb : Below w.heap.size w w') : w'.ownsRow N e 1 v n l := by
  rcases h.2 with ⟨rfl, h0⟩ | ⟨g, cap, cur, rfl, hN, hg, h1, h2, h3, h4⟩
  · exact ⟨h.1, .inl ⟨rfl, h0⟩⟩
  · exact ⟨h.1, .inr ⟨g, cap, cur, rfl, hN, (hb.block g (Array.getElem?_eq_some_iff.1 hg).1).trans hg, h1, h2, h3, h4⟩⟩

/-- The law's world: spots, the directory, the values so far. -/
structure Av (w W : World) (so : Option Addr) (l : List Spt) (bo : Option Addr) (D : List Blk) (v : Value) (xs : List Bs) : Prop where
  im : Im w W so l bo D
  row : SRow w.heap.size W v xs
section
variable {w W W' : World} {so bo : Option Addr} {l : List Spt} {D : List Blk} {v : Value} {xs : List Bs}
theorem Av.next (h : Av w W so l bo D v xs) (hb : Below W.heap.size W W') : Av w W' so l bo D v xs := ⟨h.im.next hb, own_kept h.row hb⟩
theorem SRow.lies {N : Nat} {A : Option Addr} {n c : Nat} (h : SRow N W (.slice A n c) xs) : LiesT W W.heap.size A xs := fun h1 => by
  rcases h.2 with ⟨e, h0⟩ | ⟨g, cap, cur, e, hN, hg, _⟩
  · omega
  · injection e with e1 e2 e3
    subst e1 e2 e3
    refine ⟨g, 0, rfl, (Array.getElem?_eq_some_iff.1 hg).1, fun i x hx => ?_⟩
    have hi := (List.getElem?_eq_some_iff.1 hx).1
    have := h.cellAt hi
    rw [Nat.zero_add, this, List.getD_eq_getElem?_getD, hx]
    rfl
theorem Av.it {A : Option Addr} {n c : Nat} (h : Av w W so l bo D (.slice A n c) xs) : It W W so l A xs := ⟨h.im.self.sp, h.row.lies, Below.refl _ _⟩
end
theorem AreaAt.one {W : World} {b i : Nat} {A : Bs} (h : AreaAt W b A) (hi : i < A.length) (c : UInt8) : AreaAt (W.setCell ⟨b, i, none⟩ (.int .u8 (c.toNat : Nat))) b (A.set i c) := fun j x hx => by
  rw [World.frozen?_setCell]
  by_cases e : j = i
  · subst e
    rw [List.getElem?_set_self hi] at hx
    injection hx with hx
    subst hx
    obtain ⟨h1, h2⟩ := h j _ (List.getElem?_eq_getElem hi)
    exact ⟨World.cell?_setCell_same _ _ _ h1, h2⟩
  · rw [List.getElem?_set_ne (fun h => e h.symm)] at hx
    rw [World.cell?_setCell_other _ _ _ _ (off_ne b (fun h => e h.symm))]
    exact h j x hx
/-- A value under way: its first j bytes. -/
def wv (k z j : Nat) : Bs := (List.range z).map fun q => if q < j then vB k q else 0
theorem wv_len (k z j : Nat) : (wv k z j).length = z := by unfold wv; simp
theorem wv_first (k z : Nat) : wv k z 0 = zeroA z := by
  unfold wv zeroA
  rw [List.map_congr_left (g := fun _ => (0 : UInt8)) (fun q _ => by rw [if_neg (by omega)]), List.map_const', List.length_range]
theorem wv_last (k z : Nat) : wv k z z = valN k z := by
  unfold wv valN
  exact List.map_congr_left fun q hq => by rw [if_pos (List.mem_range.1 hq)]
theorem wv_next {k z j : Nat} (h : j < z) : (wv k z j).set j (vB k j) = wv k z (j + 1) := by
  apply List.ext_getElem?
  intro q
  have hg : ∀ c, (wv k z c)[q]? = if q < z then some (if q < c then vB k q else 0) else none := fun c => by
    unfold wv
    rw [List.getElem?_map]
    by_cases hq : q < z
    · rw [List.getElem?_range hq, if_pos hq]
      rfl
    · rw [List.getElem?_eq_none (by rw [List.length_range]; omega), if_neg hq]
      rfl
  by_cases e : j = q
  · subst e
    rw [List.getElem?_set_self (by rw [wv_len]; exact h), hg, if_pos h, if_pos (by omega)]
  · rw [List.getElem?_set_ne e, hg, hg]
    congr 2
    by_cases c : q < j
    · rw [if_pos c, if_pos (by omega)]
    · rw [if_neg c, if_neg (by omega)]
theorem vB_nat {k j : Nat} (h : k < 15) : (vB k j).toNat = 1 + k * 16 + j % 16 := by
  unfold vB
  rw [UInt8.toNat_ofNat']
  omega
end Go.Proofs.Ytncodfogioaddaa.Bl
