/-
  Plain facts on what a commit, or a boot, makes of a store's bytes and of its newest record: free, armed, without power. Conditions: none.
-/
import Derived.Test.YtahmngmbgbcmhaaDoorRtLaw
namespace Go.Proofs.YtahmngmbgbcmhaaDoor.Ret
open Oct
open Sto (St)

theorem next_commit {l : List UInt8} {inc : Nat} {d : ByteArray} (hl : 148 ≤ l.length) (hd : d.size ≤ 64) (hq : (newR l).q ≠ 4294967295) : nextE l false d = 0 ∧ nextR l false inc d = ⟨(newR l).q + 1, inc, d⟩ := by
  have h : nextE l false d = 0 := by
    unfold nextE
    rw [if_neg (by intro h; omega), if_neg (by omega), if_neg (by intro h; cases h.1), if_neg hq]
  refine ⟨h, ?_⟩
  unfold nextR
  rw [if_pos h]
  rfl
theorem next_boot {l : List UInt8} {inc : Nat} {d : ByteArray} (hl : 148 ≤ l.length) (hi : (newR l).i ≠ 65535) (hq : (newR l).q ≠ 4294967295) : nextE l true d = 0 ∧ nextR l true inc d = ⟨(newR l).q + 1, (newR l).i + 1, (newR l).d⟩ := by
  have h : nextE l true d = 0 := by
    unfold nextE
    rw [if_neg (by intro h; cases h.1), if_neg (by omega), if_neg (by intro h; exact hi h.2), if_neg hq]
  refine ⟨h, ?_⟩
  unfold nextR
  rw [if_pos h]
  rfl

theorem goes_le (l : List UInt8) : goes l ≤ 74 := by unfold goes; split <;> omega

/-- What is next may be. -/
theorem next_ok {l : List UInt8} {boot : Bool} {inc : Nat} {d : ByteArray} (hl : 148 ≤ l.length) (hinc : (inc : Int) ≤ 65535) (h : nextE l boot d = 0) : (nextR l boot inc d).Ok ∧ (nextR l boot inc d).q = (newR l).q + 1 := by
  have hR := newR_ok hl
  have hq0 := hR.q
  have hi0 := hR.i
  have hd0 := hR.d
  unfold nextR
  rw [if_pos h]
  unfold nextE at h
  by_cases h1 : boot = false ∧ 64 < d.size
  · rw [if_pos h1] at h; cases h
  rw [if_neg h1, if_neg (by omega)] at h
  by_cases h2 : boot = true ∧ (newR l).i = 65535
  · rw [if_pos h2] at h; cases h
  rw [if_neg h2] at h
  by_cases h3 : (newR l).q = 4294967295
  · rw [if_pos h3] at h; cases h
  refine ⟨⟨?_, ?_, ?_⟩, rfl⟩
  · show (((newR l).q + 1 : Nat) : Int) ≤ _; omega
  · show ((if boot = true then (newR l).i + 1 else inc : Nat) : Int) ≤ _
    cases boot with
    | true => simp at h2; simp; omega
    | false => exact hinc
  · show (if boot = true then (newR l).d else d).size ≤ 64
    cases boot with
    | true => exact hd0
    | false => simp at h1; simpa using h1

/-- A commit, or a boot, of a store that is free: it is done. -/
theorem cm_free {l : List UInt8} {n inc : Nat} {boot : Bool} {d : ByteArray} (hl : 148 ≤ l.length) (hinc : (inc : Int) ≤ 65535) (h : nextE l boot d = 0) :
    ∃ l', cmE ⟨l, true, none, n⟩ boot inc d = 0 ∧ cmX ⟨l, true, none, n⟩ boot inc d = ⟨l', true, none, n + 75⟩ ∧ l'.length = l.length ∧ newR l' = nextR l boot inc d ∧ 0 ≤ newI l' := by
  obtain ⟨hok, hq⟩ := next_ok (inc := inc) hl hinc h
  obtain ⟨e1, e2⟩ := three_free (l := l) (n := n) (k := goes l) (slot_length hok.d) (by have := goes_le l; omega)
  obtain ⟨w1, w2⟩ := new_whole hl hok hq
  refine ⟨_, ?_, ?_, cur_length l (goes l) (slot (nextR l boot inc d)) 75, w2, w1⟩
  · unfold cmE
    rw [if_neg (fun hn => hn h)]
    exact e1
  · unfold cmX
    rw [if_neg (fun hn => hn h)]
    exact e2

/-- .. of a store without power: nothing turns. -/
theorem cm_down {l : List UInt8} {a : Option Nat} {n inc : Nat} {boot : Bool} {d : ByteArray} (hl : 148 ≤ l.length) (h : nextE l boot d = 0) :
    cmE ⟨l, false, a, n⟩ boot inc d = 12 ∧ cmX ⟨l, false, a, n⟩ boot inc d = ⟨l, false, a, n⟩ := by
  obtain ⟨e1, e2⟩ := three_down (l := l) (a := a) (n := n) (k := goes l) (sl := slot (nextR l boot inc d)) (by have := goes_le l; omega)
  unfold cmE cmX
  rw [if_neg (fun hn => hn h), if_neg (fun hn => hn h)]
  exact ⟨e1, e2⟩

/-- .. of one that is armed: for too few bytes, or for enough. -/
theorem cm_torn {l : List UInt8} {m n inc : Nat} {boot : Bool} {d : ByteArray} (hl : 148 ≤ l.length) (hinc : (inc : Int) ≤ 65535) (h : nextE l boot d = 0) (hm : m < 75) :
    ∃ l', cmE ⟨l, true, some m, n⟩ boot inc d = 12 ∧ cmX ⟨l, true, some m, n⟩ boot inc d = ⟨l', false, none, n + m⟩ ∧ l'.length = l.length ∧ newR l' = newR l ∧ newI l' = newI l ∧ l' = cur l (goes l) (slot (nextR l boot inc d)) m := by
  obtain ⟨hok, hq⟩ := next_ok (inc := inc) hl hinc h
  obtain ⟨e1, e2⟩ := (three_arm (l := l) (m := m) (n := n) (k := goes l) (slot_length hok.d) (by have := goes_le l; omega)).1 hm
  obtain ⟨w1, w2⟩ := new_torn hl hok m hm
  refine ⟨_, ?_, ?_, cur_length l (goes l) (slot (nextR l boot inc d)) m, w2, w1, rfl⟩
  · unfold cmE
    rw [if_neg (fun hn => hn h)]
    exact e1
  · unfold cmX
    rw [if_neg (fun hn => hn h)]
    exact e2
theorem cm_full {l : List UInt8} {m n inc : Nat} {boot : Bool} {d : ByteArray} (hl : 148 ≤ l.length) (hinc : (inc : Int) ≤ 65535) (h : nextE l boot d = 0) (hm : 75 ≤ m) :
    ∃ l', cmE ⟨l, true, some m, n⟩ boot inc d = 0 ∧ cmX ⟨l, true, some m, n⟩ boot inc d = ⟨l', true, some (m - 75), n + 75⟩ ∧ l'.length = l.length ∧ newR l' = nextR l boot inc d ∧ 0 ≤ newI l' := by
  obtain ⟨hok, hq⟩ := next_ok (inc := inc) hl hinc h
  obtain ⟨e1, e2⟩ := (three_arm (l := l) (m := m) (n := n) (k := goes l) (slot_length hok.d) (by have := goes_le l; omega)).2 hm
  obtain ⟨w1, w2⟩ := new_whole hl hok hq
  refine ⟨_, ?_, ?_, cur_length l (goes l) (slot (nextR l boot inc d)) 75, w2, w1⟩
  · unfold cmE
    rw [if_neg (fun hn => hn h)]
    exact e1
  · unfold cmX
    rw [if_neg (fun hn => hn h)]
    exact e2

/-- .. that may not be: nothing turns. -/
theorem cm_bad {x : St} {inc : Nat} {boot : Bool} {d : ByteArray} (h : nextE x.l boot d ≠ 0) : cmE x boot inc d = nextE x.l boot d ∧ cmX x boot inc d = x := by
  unfold cmE cmX
  rw [if_pos h, if_pos h]
  exact ⟨rfl, rfl⟩

/-- A new store has no record. -/
theorem zeros_none (n : Nat) : newI (Sto.zeros n) = -1 ∧ newR (Sto.zeros n) = Rc.zero := by
  have hz : ∀ k, (Sto.zeros n).getD k 0 = 0 := fun k => by
    unfold Sto.zeros
    rw [List.getD_eq_getElem?_getD]
    by_cases h : k < n
    · simp [h]
    · rw [List.getElem?_eq_none (by simp; omega)]; rfl
  have hA : wholeB ((Sto.zeros n).take 74) = false := whole_no (by
    have := first_getD (l := Sto.zeros n) (k := 0)
    rw [List.drop_zero] at this
    rw [this, hz])
  have hB : wholeB (((Sto.zeros n).drop 74).take 74) = false := whole_no (by rw [first_getD, hz])
  unfold newI newR
  rw [hA, hB]
  exact ⟨rfl, rfl⟩

end Go.Proofs.YtahmngmbgbcmhaaDoor.Ret
