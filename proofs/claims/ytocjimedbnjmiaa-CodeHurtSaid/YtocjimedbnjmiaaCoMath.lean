/-
  Plain facts on programs as bytes: what is made is read back, what can be read was made; bursts and cuts. No program is named here. Conditions: none.
-/
import Derived.Test.YtocjimedbnjmiaaBurstMath
import Derived.Test.YtocjimedbnjmiaaOctMath
import Derived.Test.YtocjimedbnjmiaaIlPrint
namespace Go.Proofs.Ytocjimedbnjmiaa.Co
open Go.Proofs.Ytocjimedbnjmiaa.Il Go.Proofs.Ytocjimedbnjmiaa.Ic Go.Proofs.Ytocjimedbnjmiaa.Oct Sums

/-- A text's bytes with their sum behind them. -/
def sealL (b : Bs) : Bs := (sealedB (Oct.S b)).data.toList
theorem seal_S (b : Bs) : sealedB (Oct.S b) = Oct.S (sealL b) := rfl
theorem seal_len (b : Bs) : (sealL b).length = b.length + 2 := by
  have := sealed_size (Oct.S b)
  rw [Lib.size_eq, S_size] at this
  exact this
theorem seal_take (b : Bs) : (sealL b).take ((sealL b).length - 2) = b := by
  rw [seal_len]
  unfold sealL
  rw [sealed_list]
  show (b ++ _).take (b.length + 2 - 2) = b
  rw [Nat.add_sub_cancel, List.take_left]

def insB (i : In) : Bs := [UInt8.ofNat i.op.toNat, UInt8.ofNat i.kd.toNat, UInt8.ofNat i.ar.toNat, UInt8.ofNat i.pl.toNat] ++ be (i.n % 4294967296).toNat 4
def bareL (l : List In) : Bs := UInt8.ofNat l.length :: l.flatMap insB
/-- A program's error. -/
def errC (l : List In) : Nat := if 200 < l.length then 2 else if l.all rightI then 0 else 3
def encL (l : List In) : Bs := if errC l = 0 then sealL (bareL l) else []
def sgnI (k : Nat) (n : Nat) : Int := if k ≠ 7 ∧ 2147483648 ≤ n then (n : Int) - 4294967296 else n
def listOf : Bs → List In
  | o :: k :: a :: p :: n1 :: n2 :: n3 :: n4 :: r => ⟨o.toNat, k.toNat, a.toNat, p.toNat, sgnI k.toNat (num [n1, n2, n3, n4])⟩ :: listOf r
  | _ => []
/-- What bytes are decoded to. -/
def decC (t : Bs) : Except Nat (List In) :=
  if t.length < 2 ∨ sealL (t.take (t.length - 2)) ≠ t then .error 9
  else match t.take (t.length - 2) with
    | [] => .error 10
    | c :: r => if r.length ≠ 8 * c.toNat then .error 10 else if 200 < c.toNat then .error 2 else if (listOf r).all rightI then .ok (listOf r) else .error 3

theorem u8_back (n : Nat) (h : n < 256) : (UInt8.ofNat n).toNat = n := by
  rw [UInt8.toNat_ofNat']; exact Nat.mod_eq_of_lt h
theorem u8_same (c : UInt8) : UInt8.ofNat c.toNat = c := by simp
theorem ins_len (i : In) : (insB i).length = 8 := by unfold insB; rw [List.length_append, be_length]; rfl
theorem flat_len (l : List In) : (l.flatMap insB).length = 8 * l.length := by
  induction l with
  | nil => rfl
  | cons i l ih => rw [List.flatMap_cons, List.length_append, ins_len, ih, List.length_cons]; omega
theorem bare_len (l : List In) : (bareL l).length = 1 + 8 * l.length := by unfold bareL; rw [List.length_cons, flat_len]; omega
theorem four_be (n : Nat) : be n 4 = [UInt8.ofNat (n / 256 ^ 3), UInt8.ofNat (n / 256 ^ 2), UInt8.ofNat (n / 256 ^ 1), UInt8.ofNat (n / 256 ^ 0)] := rfl
theorem be_num4 (a b c d : UInt8) : be (num [a, b, c, d]) 4 = [a, b, c, d] := by
  have ha := a.toNat_lt
  have hb := b.toNat_lt
  have hc := c.toNat_lt
  have hd := d.toNat_lt
  have hn : num [a, b, c, d] = ((a.toNat * 256 + b.toNat) * 256 + c.toNat) * 256 + d.toNat := by
    show (((0 * 256 + a.toNat) * 256 + b.toNat) * 256 + c.toNat) * 256 + d.toNat = _
    omega
  rw [four_be, hn]
  have e : ∀ (x : UInt8) (m : Nat), m % 256 = x.toNat → UInt8.ofNat m = x := fun x m h => by
    apply UInt8.toNat_inj.1
    rw [UInt8.toNat_ofNat']; exact h
  rw [e a _ (by omega), e b _ (by omega), e c _ (by omega), e d _ (by omega)]
theorem num_lt4 (a b c d : UInt8) : num [a, b, c, d] < 4294967296 := by
  have h := num_lt [a, b, c, d]
  have e : (256 : Nat) ^ 4 = 4294967296 := by decide
  have e2 : [a, b, c, d].length = 4 := rfl
  rw [e2, e] at h
  exact h

/-- What numbers an instruction that may be has. -/
theorem right_bd {i : In} (h : rightI i = true) : 0 ≤ i.op ∧ i.op < 256 ∧ 0 ≤ i.kd ∧ i.kd < 256 ∧ 0 ≤ i.ar ∧ i.ar < 256 ∧ 0 ≤ i.pl ∧ i.pl < 256 ∧ (i.kd = 7 → 0 ≤ i.n ∧ i.n < 4294967296) ∧ (i.kd ≠ 7 → -2147483648 ≤ i.n ∧ i.n < 2147483648) := by
  have ho := op_range h
  have hk : ∀ k, szI k ≠ 0 → 1 ≤ k ∧ k ≤ 7 := fun k => (sz_iff k).1
  cases right_way h with
  | lit h ha hp hn =>
    have h1 := hk _ (is_sz hn)
    have h2 : leastI i.kd ≤ i.n ∧ i.n < leastI i.kd + manyI i.kd := by
      unfold isI at hn
      rw [decide_eq_true_iff] at hn
      exact hn.2
    have h3 : (i.kd = 7 → leastI i.kd = 0 ∧ manyI i.kd = 4294967296) ∧ (i.kd ≠ 7 → -2147483648 ≤ leastI i.kd ∧ leastI i.kd + manyI i.kd ≤ 2147483648) := by
      rcases kinds i.kd with h | h | h | h | h | h | h | h
      · omega
      all_goals rw [h]; decide
    refine ⟨by omega, by omega, by omega, by omega, by omega, by omega, by omega, by omega, fun h => ?_, fun h => ?_⟩
    · have := h3.1 h; omega
    · have := h3.2 h; omega
  | get h h1 h4 ht hn => have h5 := there_bd ht; have h6 := hk _ h5.1; exact ⟨by omega, by omega, by omega, by omega, by omega, by omega, by omega, by omega, by omega, by omega⟩
  | put h h1 h4 ht hn => have h5 := there_bd ht; have h6 := hk _ h5.1; exact ⟨by omega, by omega, by omega, by omega, by omega, by omega, by omega, by omega, by omega, by omega⟩
  | jump h hk ha h0 h1 hn => exact ⟨by omega, by omega, by omega, by omega, by omega, by omega, by omega, by omega, by omega, by omega⟩
  | bare h hk ha hp hn => exact ⟨by omega, by omega, by omega, by omega, by omega, by omega, by omega, by omega, by omega, by omega⟩
  | close h hk ha hp hn => exact ⟨by omega, by omega, by omega, by omega, by omega, by omega, by omega, by omega, by omega, by omega⟩
  | conv h hk2 ha hp hn => have h6 := hk _ hk2; exact ⟨by omega, by omega, by omega, by omega, by omega, by omega, by omega, by omega, by omega, by omega⟩
  | opens h hk ha hr2 hp hn =>
    obtain ⟨k1, k2, k3, k4, k5, k6, k7, k8, k9, k10, k11⟩ := (op_facts i.pl).1 hr2
    exact ⟨by omega, by omega, by omega, by omega, by omega, by omega, by omega, by omega, by omega, by omega⟩
  | timer h hk h3 h4 h0 h1 hn hm => exact ⟨by omega, by omega, by omega, by omega, by omega, by omega, by omega, by omega, by omega, by omega⟩
  | trig h hk h3 h4 h0 h1 hn => exact ⟨by omega, by omega, by omega, by omega, by omega, by omega, by omega, by omega, by omega, by omega⟩
theorem list_ins {i : In} (h : rightI i = true) (r : Bs) : listOf (insB i ++ r) = i :: listOf r := by
  obtain ⟨h1, h2, h3, h4, h5, h6, h7, h8, h9, h10⟩ := right_bd h
  obtain ⟨op, kd, ar, pl, n⟩ := i
  dsimp only at *
  unfold insB
  rw [four_be]
  have hm : num (be (n % 4294967296).toNat 4) = (n % 4294967296).toNat := by
    rw [num_be]
    apply Nat.mod_eq_of_lt
    have e : (256 : Nat) ^ 4 = 4294967296 := rfl
    rw [e]; omega
  rw [four_be] at hm
  show In.mk _ _ _ _ _ :: listOf r = _
  dsimp only
  rw [hm, u8_back op.toNat (by omega), u8_back kd.toNat (by omega), u8_back ar.toNat (by omega), u8_back pl.toNat (by omega)]
  have hs : sgnI kd.toNat (n % 4294967296).toNat = n := by
    unfold sgnI
    by_cases h7 : kd = 7
    · have := h9 h7
      rw [if_neg (by omega)]
      omega
    · have := h10 h7
      by_cases hn : 0 ≤ n
      · rw [if_neg (by omega)]; omega
      · rw [if_pos (by omega)]; omega
  rw [hs, Int.toNat_of_nonneg h1, Int.toNat_of_nonneg h3, Int.toNat_of_nonneg h5, Int.toNat_of_nonneg h7]
theorem list_flat : ∀ (l : List In), (∀ i ∈ l, rightI i = true) → listOf (l.flatMap insB) = l
  | [], _ => rfl
  | i :: l, h => by rw [List.flatMap_cons, list_ins (h i (by simp)), list_flat l (fun j hj => h j (by simp [hj]))]
theorem err_zero {l : List In} (h : errC l = 0) : l.length ≤ 200 ∧ l.all rightI = true := by
  unfold errC at h
  split at h
  · cases h
  · split at h
    · next h1 h2 => exact ⟨by omega, h2⟩
    · cases h
/-- What is made is read back. -/
theorem dec_enc {l : List In} (h : errC l = 0) : decC (sealL (bareL l)) = .ok l := by
  obtain ⟨h1, h2⟩ := err_zero h
  have hr : ∀ i ∈ l, rightI i = true := by rw [List.all_eq_true] at h2; exact h2
  unfold decC
  have ht := seal_take (bareL l)
  rw [ht, if_neg (by rw [seal_len]; simp)]
  unfold bareL
  dsimp only
  rw [u8_back _ (by omega), if_neg (by rw [flat_len]; omega), if_neg (by omega), list_flat l hr, h2, if_pos rfl]
theorem list_len : ∀ (n : Nat) (r : Bs), r.length = 8 * n → (listOf r).length = n
  | 0, r, h => by
    have : r = [] := List.eq_nil_of_length_eq_zero (by omega)
    rw [this]; rfl
  | n + 1, o :: k :: a :: p :: n1 :: n2 :: n3 :: n4 :: r, h => by
    show (listOf r).length + 1 = n + 1
    rw [list_len n r (by simp at h; omega)]
  | n + 1, [], h => by simp at h
  | n + 1, [_], h => by simp at h; omega
  | n + 1, [_, _], h => by simp at h; omega
  | n + 1, [_, _, _], h => by simp at h; omega
  | n + 1, [_, _, _, _], h => by simp at h; omega
  | n + 1, [_, _, _, _, _], h => by simp at h; omega
  | n + 1, [_, _, _, _, _, _], h => by simp at h; omega
  | n + 1, [_, _, _, _, _, _, _], h => by simp at h; omega
theorem flat_list : ∀ (n : Nat) (r : Bs), r.length = 8 * n → (listOf r).flatMap insB = r
  | 0, r, h => by
    have : r = [] := List.eq_nil_of_length_eq_zero (by omega)
    rw [this]; rfl
  | n + 1, o :: k :: a :: p :: n1 :: n2 :: n3 :: n4 :: r, h => by
    have ih := flat_list n r (by simp at h; omega)
    have hl := num_lt4 n1 n2 n3 n4
    show insB ⟨o.toNat, k.toNat, a.toNat, p.toNat, sgnI k.toNat (num [n1, n2, n3, n4])⟩ ++ (listOf r).flatMap insB = _
    rw [ih]
    unfold insB
    dsimp only
    have hs : (sgnI k.toNat (num [n1, n2, n3, n4]) % 4294967296).toNat = num [n1, n2, n3, n4] := by
      unfold sgnI
      split <;> omega
    rw [hs, be_num4]
    simp
  | n + 1, [], h => by simp at h
  | n + 1, [_], h => by simp at h; omega
  | n + 1, [_, _], h => by simp at h; omega
  | n + 1, [_, _, _], h => by simp at h; omega
  | n + 1, [_, _, _, _], h => by simp at h; omega
  | n + 1, [_, _, _, _, _], h => by simp at h; omega
  | n + 1, [_, _, _, _, _, _], h => by simp at h; omega
  | n + 1, [_, _, _, _, _, _, _], h => by simp at h; omega
/-- What can be read was made. -/
theorem enc_dec {t : Bs} {l : List In} (h : decC t = .ok l) : errC l = 0 ∧ sealL (bareL l) = t := by
  unfold decC at h
  split at h
  · cases h
  · next h1 =>
    split at h
    · cases h
    · next c r hc =>
      split at h
      · cases h
      · next h2 =>
        split at h
        · cases h
        · next h3 =>
          split at h
          · next h4 =>
            injection h with h
            subst h
            have hl := list_len c.toNat r (by omega)
            refine ⟨?_, ?_⟩
            · unfold errC
              rw [hl, if_neg (by omega), h4, if_pos rfl]
            · unfold bareL
              rw [hl, flat_list c.toNat r (by omega), u8_same, ← hc]
              have : ¬ sealL (t.take (t.length - 2)) ≠ t := fun h => h1 (.inr h)
              exact Decidable.not_not.1 this
          · cases h
/-- A burst that turns something isn't overlooked. -/
theorem dec_burst {l : List In} {a : Nat} {p : BitVec 16} (ha : a < 8 * (sealL (bareL l)).length) (hne : burstB (Oct.S (sealL (bareL l))) a p ≠ Oct.S (sealL (bareL l))) : decC (burstB (Oct.S (sealL (bareL l))) a p).data.toList = .error 9 := by
  have hs : ∀ b : Bs, (Oct.S b).size = b.length := fun b => by rw [S_size]
  have hb := burst_none (Oct.S (bareL l)) a p (by rw [seal_S, hs]; exact ha) (by rw [seal_S]; exact hne)
  rw [seal_S] at hb
  unfold decC
  rw [if_pos]
  right
  intro e
  apply hb
  have h1 : ∀ z : ByteArray, z.extract 0 (z.size - 2) = Oct.S (z.data.toList.take (z.data.toList.length - 2)) := fun z => by
    rw [Lib.extract_eq, List.drop_zero, Nat.sub_zero, Lib.size_eq]
    rfl
  rw [h1, seal_S, e]
  rfl
/-- What is cut off is no program. -/
theorem dec_cut {l : List In} (hl : l.length ≤ 200) (k : Nat) (hk : k < (sealL (bareL l)).length) (m : List In) : decC ((sealL (bareL l)).take k) ≠ .ok m := by
  intro h
  obtain ⟨h1, h2⟩ := enc_dec h
  obtain ⟨h3, -⟩ := err_zero h1
  have hlen := congrArg List.length h2
  rw [seal_len, List.length_take, bare_len] at hlen
  have e : ∀ q : List In, (sealL (bareL q))[0]? = some (UInt8.ofNat q.length) := fun q => by
    have := seal_take (bareL q)
    have h5 : ((sealL (bareL q)).take ((sealL (bareL q)).length - 2))[0]? = (bareL q)[0]? := by rw [this]
    rw [List.getElem?_take, if_pos (by rw [seal_len, bare_len]; omega)] at h5
    rw [h5]; rfl
  have h4 := e m
  rw [h2, List.getElem?_take, if_pos (by omega), e l] at h4
  have h5 := congrArg UInt8.toNat (Option.some.inj h4)
  rw [u8_back _ (by omega), u8_back _ (by omega)] at h5
  rw [seal_len, bare_len] at hk hlen
  omega

end Go.Proofs.Ytocjimedbnjmiaa.Co
