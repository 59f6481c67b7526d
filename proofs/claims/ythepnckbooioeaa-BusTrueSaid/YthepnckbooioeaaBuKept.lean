/-
  What the law BusTrue stands on: where the pieces under way come from, and how often each address may still get one. No call is walked here. Conditions: none.
-/
import Derived.Test.YthepnckbooioeaaBuBits
namespace Go.Proofs.Ythepnckbooioeaa.Bus
open Go.RowKit

/-- How many pieces are still to come to an address. -/
def toN (l : List Pc) (a : Nat) : Nat := l.countP fun p => p.to.getLsbD a
/-- Each piece comes from a text that was sent; what has come to an address, and what is still to come, is no more than was sent or doubled. -/
structure Inv (K : List ByteArray) (x : Bs) (C : List Nat) (m : Nat) : Prop where
  src : ∀ p ∈ x.l, ∃ t ∈ K, fromB t p.b = true ∧ (p.hurt = false → p.b = t)
  cnt : ∀ a, a < 32 → C.getD a 0 + toN x.l a ≤ m
theorem Inv.of_l {K : List ByteArray} {x y : Bs} {C : List Nat} {m : Nat} (h : Inv K x C m) (e : y.l = x.l) : Inv K y C m := ⟨by rw [e]; exact h.src, by rw [e]; exact h.cnt⟩
theorem zeros_at (a : Nat) : (List.replicate 32 0).getD a 0 = 0 := by
  rw [List.getD_eq_getElem?_getD, List.getElem?_replicate]
  split <;> rfl
theorem Inv.zero : Inv [] Bs.zero (List.replicate 32 0) 0 := ⟨fun p hp => absurd hp List.not_mem_nil, fun a _ => by rw [zeros_at]; exact Nat.le_refl _⟩

theorem toN_app (l : List Pc) (p : Pc) (a : Nat) : toN (l ++ [p]) a ≤ toN l a + 1 := by
  unfold toN
  rw [List.countP_append]
  have := List.countP_le_length (p := fun p : Pc => p.to.getLsbD a) (l := [p])
  simp only [List.length_singleton] at this
  omega
theorem toN_erase (l : List Pc) (k a : Nat) : toN (l.eraseIdx k) a ≤ toN l a := (List.eraseIdx_sublist l k).countP_le
theorem toN_same (l : List Pc) (k : Nat) (p : Pc) (a : Nat) (h : k < l.length) (e : p.to.getLsbD a = true → l[k].to.getLsbD a = true) : toN (l.set k p) a ≤ toN l a := by
  unfold toN
  rw [List.countP_set h]
  by_cases h1 : p.to.getLsbD a = true
  · have hpos : 0 < l.countP fun p => p.to.getLsbD a := List.countP_pos_iff.2 ⟨l[k], List.getElem_mem h, e h1⟩
    rw [if_pos h1, if_pos (e h1)]
    omega
  · rw [if_neg h1]
    omega
theorem toN_less (l : List Pc) (k : Nat) (p : Pc) (a : Nat) (h : k < l.length) (e : l[k].to.getLsbD a = true) (e2 : p.to.getLsbD a = false) : toN (l.set k p) a + 1 ≤ toN l a := by
  unfold toN
  rw [List.countP_set h]
  have hpos : 0 < l.countP fun p => p.to.getLsbD a := List.countP_pos_iff.2 ⟨l[k], List.getElem_mem h, e⟩
  rw [if_pos e, if_neg (by simp [e2])]
  omega

section
variable {K : List ByteArray} {x : Bs} {C : List Nat} {m : Nat}
theorem Inv.app (h : Inv K x C m) (p : Pc) (K' : List ByteArray) (hK : ∀ t ∈ K, t ∈ K') (hp : ∃ t ∈ K', fromB t p.b = true ∧ (p.hurt = false → p.b = t)) (f : Bool) : Inv K' ⟨x.l ++ [p], f⟩ C (m + 1) :=
  ⟨fun q hq => by
    simp only [List.mem_append, List.mem_singleton] at hq
    rcases hq with hq | rfl
    · obtain ⟨t, ht, h1⟩ := h.src q hq
      exact ⟨t, hK t ht, h1⟩
    · exact hp, fun a ha => by have := h.cnt a ha; have := toN_app x.l p a; show C.getD a 0 + toN (x.l ++ [p]) a ≤ m + 1; omega⟩
theorem Inv.erase (h : Inv K x C m) (k : Nat) : Inv K (lessX x k) C m :=
  ⟨fun q hq => h.src q (List.mem_of_mem_eraseIdx hq), fun a ha => by have := h.cnt a ha; have := toN_erase x.l k a; show C.getD a 0 + toN (x.l.eraseIdx k) a ≤ m; omega⟩
theorem Inv.put (h : Inv K x C m) (k : Nat) (hk : k < x.l.length) (p : Pc) (hp : ∃ t ∈ K, fromB t p.b = true ∧ (p.hurt = false → p.b = t)) (ht : ∀ a, a < 32 → p.to.getLsbD a = true → x.l[k].to.getLsbD a = true) : Inv K (putX x k p) C m :=
  ⟨fun q hq => by
    rcases List.mem_or_eq_of_mem_set hq with hq | rfl
    · exact h.src q hq
    · exact hp, fun a ha => by have := h.cnt a ha; have := toN_same x.l k p a hk (ht a ha); show C.getD a 0 + toN (x.l.set k p) a ≤ m; omega⟩
end

/-- Of a list of 32 numbers one is one more. -/
def bump (C : List Nat) (a : Nat) : List Nat := C.set a (C.getD a 0 + 1)
theorem bump_len (C : List Nat) (a : Nat) : (bump C a).length = C.length := by unfold bump; rw [List.length_set]
theorem bump_at (C : List Nat) (a j : Nat) (ha : a < C.length) : (bump C a).getD j 0 = if a = j then C.getD a 0 + 1 else C.getD j 0 := by
  unfold bump
  simp only [List.getD_eq_getElem?_getD]
  by_cases e : a = j
  · subst e; simp [ha]
  · simp [e]

/-- What is delivered comes from what was sent. -/
theorem Inv.deliver {K : List ByteArray} {x : Bs} {C : List Nat} {m : Nat} (h : Inv K x C m) (hC : C.length = 32) {k to : Int} (hd : delB x k to = true) :
    ∃ a : Nat, to = a ∧ a < 32 ∧ Inv K (delX x k to) (bump C a) m ∧ C.getD a 0 + 1 ≤ m ∧ ∃ t ∈ K, fromB t (delS x k to) = true := by
  have hd2 := hd
  simp only [delB, Bool.and_eq_true] at hd2
  obtain ⟨ht, hh⟩ := hd2
  obtain ⟨n, rfl, hn⟩ := there_nat ht
  rw [Int.toNat_natCast] at hh
  have hp : pieceOf x n = x.l[n] := getD_lt _ _ hn
  rw [hp] at hh
  have ha := hh
  simp only [Mem.hasB, Bool.and_eq_true] at ha
  obtain ⟨ha1, hb⟩ := ha
  obtain ⟨h0, h32⟩ := (Mem.adr_iff to).1 ha1
  obtain ⟨a, rfl⟩ := Int.eq_ofNat_of_zero_le h0
  rw [show ((a : Int)).toNat = a from Int.toNat_natCast a] at hb
  have ha32 : a < 32 := by omega
  have hbit : ∀ j, j < 32 → (gotP x.l[n] (a : Int)).to.getLsbD j = (x.l[n].to.getLsbD j && !decide ((a : Int) = (j : Int))) := fun j hj => Mem.woB_bit _ _ j hj
  have hsrc := h.src x.l[n] (List.getElem_mem hn)
  have hput : Inv K (putX x n (gotP x.l[n] (a : Int))) (bump C a) m :=
    ⟨fun q hq => by
      rcases List.mem_or_eq_of_mem_set hq with hq | rfl
      · exact h.src q hq
      · exact hsrc, fun j hj => by
      have hc := h.cnt j hj
      rw [bump_at C a j (by omega)]
      show _ + toN (x.l.set n _) j ≤ m
      by_cases e : a = j
      · subst e
        rw [if_pos rfl]
        have := toN_less x.l n (gotP x.l[n] (a : Int)) a hn hb (by rw [hbit a hj]; simp)
        omega
      · rw [if_neg e]
        have := toN_same x.l n (gotP x.l[n] (a : Int)) j hn (fun h1 => by rw [hbit j hj, Bool.and_eq_true] at h1; exact h1.1)
        omega⟩
  refine ⟨a, rfl, ha32, ?_, ?_, ?_⟩
  · unfold delX
    rw [if_pos hd, Int.toNat_natCast]
    unfold gotX
    rw [hp]
    split
    · exact hput.erase n
    · exact hput
  · have hc := h.cnt a ha32
    have hpos : 0 < toN x.l a := List.countP_pos_iff.2 ⟨x.l[n], List.getElem_mem hn, hb⟩
    omega
  · unfold delS
    rw [if_pos hd, Int.toNat_natCast, hp]
    obtain ⟨t, ht1, ht2, _⟩ := hsrc
    exact ⟨t, ht1, ht2⟩
theorem Inv.lose {K : List ByteArray} {x : Bs} {C : List Nat} {m : Nat} (h : Inv K x C m) {k to : Int} : Inv K (delX x k to) C m := by
  unfold delX
  split
  · rename_i hd
    simp only [delB, Bool.and_eq_true] at hd
    obtain ⟨n, rfl, hn⟩ := there_nat hd.1
    rw [Int.toNat_natCast]
    have hp : pieceOf x n = x.l[n] := getD_lt _ _ hn
    have hsrc := h.src x.l[n] (List.getElem_mem hn)
    have hput : Inv K (putX x n (gotP x.l[n] to)) C m := h.put n hn _ hsrc (fun j hj h1 => by
      have hb : (gotP x.l[n] to).to.getLsbD j = (x.l[n].to.getLsbD j && !decide (to = (j : Int))) := Mem.woB_bit _ _ j hj
      rw [hb, Bool.and_eq_true] at h1; exact h1.1)
    unfold gotX
    rw [hp]
    split
    · exact hput.erase n
    · exact hput
  · exact h
theorem Inv.drop {K : List ByteArray} {x : Bs} {C : List Nat} {m : Nat} (h : Inv K x C m) {k : Int} : Inv K (dropX x k) C m := by
  unfold dropX
  split
  · exact h.erase _
  · exact h
theorem Inv.hurt {K : List ByteArray} {x : Bs} {C : List Nat} {m : Nat} (h : Inv K x C m) {k at_ : Int} {pat : BitVec 16} : Inv K (hurX x k at_ pat) C m := by
  unfold hurX
  split
  · rename_i hd
    simp only [Bool.and_eq_true, Bool.not_eq_true'] at hd
    obtain ⟨n, rfl, hn⟩ := there_nat hd.1
    have hd2 := hd.2
    rw [Int.toNat_natCast] at hd2 ⊢
    have hp : pieceOf x n = x.l[n] := getD_lt _ _ hn
    rw [hp] at hd2 ⊢
    obtain ⟨t, ht, h1, h2⟩ := h.src x.l[n] (List.getElem_mem hn)
    have hb := h2 hd2
    refine h.put n hn _ ⟨t, ht, ?_, fun h3 => ?_⟩ (fun j _ h1 => h1)
    · show fromB t (burB x.l[n].b at_ pat) = true
      rw [hb]; exact from_burst t at_ pat
    · have h4 : (!decide (burB x.l[n].b at_ pat = x.l[n].b)) = false := h3
      simp only [Bool.not_eq_false', decide_eq_true_eq] at h4
      show burB x.l[n].b at_ pat = t
      rw [h4, hb]
  · exact h
theorem Inv.cut {K : List ByteArray} {x : Bs} {C : List Nat} {m : Nat} (h : Inv K x C m) {k n : Int} : Inv K (cutX x k n) C m := by
  unfold cutX
  split
  · rename_i hd
    simp only [Bool.and_eq_true, Bool.not_eq_true'] at hd
    obtain ⟨i, rfl, hn⟩ := there_nat hd.1
    have hd2 := hd.2
    rw [Int.toNat_natCast] at hd2 ⊢
    have hp : pieceOf x i = x.l[i] := getD_lt _ _ hn
    rw [hp] at hd2 ⊢
    obtain ⟨t, ht, h1, h2⟩ := h.src x.l[i] (List.getElem_mem hn)
    have hb := h2 hd2.1
    have hc : 1 ≤ n ∧ n < x.l[i].b.size := by simpa [cutOk] using hd2.2
    refine h.put i hn _ ⟨t, ht, ?_, fun h3 => by cases h3⟩ (fun j _ h1 => h1)
    show fromB t (x.l[i].b.extract 0 (x.l[i].b.size - n.toNat)) = true
    rw [hb] at hc ⊢
    exact from_cut t n.toNat (by omega) (by omega)
  · exact h

/-- An act that is refused leaves the pieces as they were. -/
theorem fail_l (x : Bs) (y : Ac) (h : doE x y ≠ 0) : (doX x y).l = x.l := by
  have hadd : ∀ p, addE x ≠ 0 → (addX x p).l = x.l := fun p h => by
    unfold addE at h; unfold addX
    split at h
    · rename_i hl; rw [if_pos hl]
    · exact absurd rfl h
  unfold doE at h
  unfold doX
  split
  · rw [if_pos (by assumption)] at h
    unfold sendE at h; unfold sendX
    split
    · rw [if_pos (by assumption)] at h; exact hadd _ h
    · rfl
  · rw [if_neg (by assumption)] at h
    split
    · rw [if_pos (by assumption)] at h
      unfold delE at h; unfold delX
      split
      · rw [if_pos (by assumption)] at h; exact absurd rfl h
      · rfl
    · rw [if_neg (by assumption)] at h
      split
      · rw [if_pos (by assumption)] at h
        unfold delE at h; unfold delX
        split
        · rw [if_pos (by assumption)] at h; exact absurd rfl h
        · rfl
      · rw [if_neg (by assumption)] at h
        split
        · rw [if_pos (by assumption)] at h
          unfold dropE at h; unfold dropX
          split
          · rw [if_pos (by assumption)] at h; exact absurd rfl h
          · rfl
        · rw [if_neg (by assumption)] at h
          split
          · rw [if_pos (by assumption)] at h
            unfold twiceE at h; unfold twiceX
            split
            · rw [if_pos (by assumption)] at h; exact hadd _ h
            · rfl
          · rw [if_neg (by assumption)] at h
            split
            · rw [if_pos (by assumption)] at h
              unfold hurE at h; unfold hurX
              by_cases h1 : thereB x y.k = true
              · rw [if_pos h1] at h
                by_cases h2 : (pieceOf x y.k.toNat).hurt = true
                · rw [if_neg (by simp [h2])]
                · rw [if_neg h2] at h; exact absurd rfl h
              · rw [if_neg (by simp [h1])]
            · rw [if_neg (by assumption)] at h
              unfold cutE at h; unfold cutX
              by_cases h1 : thereB x y.k = true
              · rw [if_pos h1] at h
                by_cases h2 : (pieceOf x y.k.toNat).hurt = true
                · rw [if_neg (by simp [h2])]
                · rw [if_neg h2] at h
                  by_cases h3 : cutOk (pieceOf x y.k.toNat) y.at_ = true
                  · rw [if_pos h3] at h; exact absurd rfl h
                  · rw [if_neg (by simp [h3])]
              · rw [if_neg (by simp [h1])]
theorem Inv.fail {K : List ByteArray} {x : Bs} {C : List Nat} {m : Nat} (h : Inv K x C m) {y : Ac} (hy : doE x y ≠ 0) : Inv K (doX x y) C m := h.of_l (fail_l x y hy)

theorem Inv.send {K : List ByteArray} {x : Bs} {C : List Nat} {m : Nat} (h : Inv K x C m) {y : Ac} (h0 : y.a % 7 = 0) (hy : doE x y = 0) : Inv (K ++ [y.s]) (doX x y) C (m + 1) := by
  unfold doE at hy; unfold doX
  rw [if_pos h0] at hy ⊢
  unfold sendE at hy; unfold sendX
  split at hy
  · rw [if_pos (by assumption)]
    unfold addE at hy; unfold addX
    split at hy
    · cases hy
    · rw [if_neg (by assumption)]
      exact h.app _ _ (fun t ht => List.mem_append_left _ ht) ⟨y.s, by simp, from_self _, fun _ => rfl⟩ _
  · cases hy
theorem Inv.twice {K : List ByteArray} {x : Bs} {C : List Nat} {m : Nat} (h : Inv K x C m) {y : Ac} (h4 : y.a % 7 = 4) (hy : doE x y = 0) : Inv K (doX x y) C (m + 1) := by
  unfold doE at hy; unfold doX
  rw [if_neg (by omega), if_neg (by omega), if_neg (by omega), if_neg (by omega), if_pos h4] at hy ⊢
  unfold twiceE at hy; unfold twiceX
  split at hy
  · rename_i ht
    rw [if_pos ht]
    obtain ⟨n, hn, hlt⟩ := there_nat ht
    unfold addE at hy; unfold addX
    split at hy
    · cases hy
    · rw [if_neg (by assumption), hn, Int.toNat_natCast]
      have hp : pieceOf x n = x.l[n] := getD_lt _ _ hlt
      rw [hp]
      exact h.app _ K (fun t ht => ht) (h.src _ (List.getElem_mem hlt)) _
  · cases hy
theorem Inv.came {K : List ByteArray} {x : Bs} {C : List Nat} {m : Nat} (h : Inv K x C m) (hC : C.length = 32) {y : Ac} (h1 : y.a % 7 = 1) (hy : doE x y = 0) :
    ∃ a : Nat, y.at_ = a ∧ a < 32 ∧ Inv K (doX x y) (bump C a) m ∧ C.getD a 0 + 1 ≤ m ∧ ∃ t ∈ K, fromB t (doS x y) = true := by
  unfold doE at hy; unfold doX doS
  rw [if_neg (by omega), if_pos h1] at hy
  rw [if_neg (by omega), if_pos h1, if_pos h1]
  unfold delE at hy
  split at hy
  · exact h.deliver hC (by assumption)
  · cases hy
theorem Inv.other {K : List ByteArray} {x : Bs} {C : List Nat} {m : Nat} (h : Inv K x C m) {y : Ac} (h0 : y.a % 7 ≠ 0) (h1 : y.a % 7 ≠ 1) (h4 : y.a % 7 ≠ 4) : Inv K (doX x y) C m := by
  unfold doX
  rw [if_neg h0, if_neg h1]
  split
  · exact h.lose
  · split
    · exact h.drop
    · split
      · exact h.hurt
      · exact h.cut
/-- What was delivered is no longer than a piece may be. -/
theorem doS_small {x : Bs} (hx : x.Ok) (y : Ac) : (doS x y).size ≤ 255 := by
  unfold doS delS
  split
  · split
    · exact piece_small hx _
    · decide
  · decide

end Go.Proofs.Ythepnckbooioeaa.Bus
