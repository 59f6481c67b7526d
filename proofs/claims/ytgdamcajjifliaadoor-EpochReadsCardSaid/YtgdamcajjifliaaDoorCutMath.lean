/-
  A text's part ahead of its first point, and the one behind it; the numbers that stand in a text. Conditions: none.
-/
import Derived.Test.YtgdamcajjifliaaDoorMath
import Derived.Lib.Bytealg
namespace Go.Proofs.YtgdamcajjifliaaDoor

def cutA : List UInt8 → List UInt8
  | [] => []
  | b :: l => if b = 46 then [] else b :: cutA l
def cutB : List UInt8 → List UInt8
  | [] => []
  | b :: l => if b = 46 then l else cutB l
def hasDot : List UInt8 → Bool
  | [] => false
  | b :: l => if b = 46 then true else hasDot l

/-- A list of bytes as a text. -/
def txt (l : List UInt8) : ByteArray := ⟨l.toArray⟩
theorem txt_list (l : List UInt8) : (txt l).data.toList = l := rfl
theorem txt_of (s : ByteArray) : txt s.data.toList = s := rfl
theorem txt_size (l : List UInt8) : (txt l).size = l.length := by simp [txt, ByteArray.size]
theorem size_list (s : ByteArray) : s.data.toList.length = s.size := Array.length_toList

theorem cut_cases (l : List UInt8) : (Lib.indexByte l 46 = -1 ∧ cutA l = l ∧ cutB l = [] ∧ hasDot l = false) ∨
    ∃ k : Nat, k < l.length ∧ Lib.indexByte l 46 = (k : Int) ∧ cutA l = l.take k ∧ cutB l = l.drop (k + 1) ∧ hasDot l = true := by
  induction l with
  | nil => exact .inl ⟨rfl, rfl, rfl, rfl⟩
  | cons b l ih =>
    by_cases hb : b = 46
    · subst hb
      exact .inr ⟨0, by simp, by simp [Lib.indexByte], by simp [cutA], by simp [cutB], by simp [hasDot]⟩
    · have hb' : (b == 46) = false := by simpa using hb
      rcases ih with ⟨h1, h2, h3, h4⟩ | ⟨k, h0, h1, h2, h3, h4⟩
      · exact .inl ⟨by simp [Lib.indexByte, hb', h1], by simp [cutA, hb, h2], by simp [cutB, hb, h3], by simp [hasDot, hb, h4]⟩
      · refine .inr ⟨k + 1, by simp; omega, ?_, by simp [cutA, hb, h2], by simp [cutB, hb, h3], by simp [hasDot, hb, h4]⟩
        have : ¬ ((k : Int) = -1) := by omega
        simp [Lib.indexByte, hb', h1, this]

theorem extract_take (s : ByteArray) (k : Nat) : s.extract 0 k = txt (s.data.toList.take k) := by
  apply ByteArray.ext
  apply Array.toList_inj.1
  simp [txt, ByteArray.data_extract]

theorem extract_drop (s : ByteArray) (k : Nat) : s.extract k s.size = txt (s.data.toList.drop k) := by
  apply ByteArray.ext
  apply Array.toList_inj.1
  have h : s.size = s.data.toList.length := Array.length_toList.symm
  simp only [txt, ByteArray.data_extract, Array.toList_extract, List.extract]
  apply List.take_of_length_le
  rw [h, List.length_drop]
  omega

end Go.Proofs.YtgdamcajjifliaaDoor
