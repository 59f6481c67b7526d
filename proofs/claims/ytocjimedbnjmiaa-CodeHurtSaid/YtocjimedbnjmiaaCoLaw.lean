/-
  Plain facts for the laws on programs as bytes: the one that awake makes, what decodes and what does not; crc.Burst as one contract. Conditions: none.
-/
import Derived.Test.YtocjimedbnjmiaaCoDecW
namespace Go.Proofs.Ytocjimedbnjmiaa.Co
open Go.RowKit
open Go.Proofs.Ytocjimedbnjmiaa.Il hiding S S_size S_app S_list S_inj
open Go.Proofs.Ytocjimedbnjmiaa.Ic Go.Proofs.Ytocjimedbnjmiaa.Oct Sums

theorem enc_ok {l : List In} (h : errC l = 0) : encL l = sealL (bareL l) := by unfold encL; rw [if_pos h]
theorem enc_no {l : List In} (h : errC l ≠ 0) : encL l = [] := by unfold encL; rw [if_neg h]
theorem dec_of_enc {l : List In} (h : errC l = 0) : decC (encL l) = .ok l := by rw [enc_ok h]; exact dec_enc h
theorem enc_of_dec {t : Bs} {l : List In} (h : decC t = .ok l) : errC l = 0 ∧ encL l = t := by
  obtain ⟨h1, h2⟩ := enc_dec h
  exact ⟨h1, by rw [enc_ok h1]; exact h2⟩
theorem enc_len {l : List In} (h : errC l = 0) : (encL l).length = 8 * l.length + 3 := by rw [enc_ok h, seal_len, bare_len]; omega
theorem enc_short (l : List In) : (encL l).length ≤ 1603 := by
  by_cases h : errC l = 0
  · rw [enc_len h]; have := (err_zero h).1; omega
  · rw [enc_no h]; simp
theorem err_le (l : List In) : errC l ≤ 3 := by unfold errC; repeat' split
                                                all_goals omega
theorem dec_ways (t : Bs) : (∃ l, decC t = .ok l) ∨ ∃ k, decC t = .error k ∧ 2 ≤ k ∧ k ≤ 10 := by
  unfold decC
  split
  · exact .inr ⟨9, rfl, by omega, by omega⟩
  · split
    · exact .inr ⟨10, rfl, by omega, by omega⟩
    · split
      · exact .inr ⟨10, rfl, by omega, by omega⟩
      · split
        · exact .inr ⟨2, rfl, by omega, by omega⟩
        · split
          · exact .inl ⟨_, rfl⟩
          · exact .inr ⟨3, rfl, by omega, by omega⟩
theorem dec_none {t : Bs} (h : ∀ m, decC t ≠ .ok m) : codeE (decC t) = [] ∧ 2 ≤ errE (decC t) ∧ errE (decC t) ≤ 10 := by
  rcases dec_ways t with ⟨l, hl⟩ | ⟨k, hk, h1, h2⟩
  · exact absurd hl (h l)
  · rw [hk]; exact ⟨rfl, h1, h2⟩
def l0 : List In := [⟨1, 2, 0, 0, -1⟩]
theorem err0 : errC l0 = 0 := by
  have h : rightI ⟨1, 2, 0, 0, -1⟩ = true := by decide
  have h2 : l0.all rightI = true := by unfold l0; rw [List.all_cons, h]; rfl
  unfold errC
  rw [h2]
  rfl
/-- The stamp. -/
def stampN (l : List In) : Nat := if errC l = 0 then (sum (bareL l)).toNat else 0
theorem stamp_ok {l : List In} (h : errC l = 0) : stampN l = (sum (bareL l)).toNat := by unfold stampN; rw [if_pos h]
theorem stamp_no {l : List In} (h : errC l ≠ 0) : stampN l = 0 := by unfold stampN; rw [if_neg h]

/-- crc.Burst, whatever the bit: the text itself, or the one that is turned. -/
theorem burst_one (z : ByteArray) (hz : z.size ≤ 4000) (n : Int) (hn : n ≤ 9223372036854775807) (p : BitVec 16) :
    ∃ b : ByteArray, (∀ w, Calls Try.prog 16 #[.string z, .int .i64 n, .int .u16 (p.toNat : Int)] w fun e w' => e = .returned (.string b) ∧ Below w.heap.size w w') ∧
      (b = z ∨ ∃ a : Nat, a < 8 * z.size ∧ b = burstB z a p) := by
  by_cases h0 : n < 0
  · exact ⟨z, fun w => burst_out z n _ w h0, .inl rfl⟩
  · obtain ⟨a, rfl⟩ := Int.eq_ofNat_of_zero_le (show 0 ≤ n by omega)
    by_cases h1 : a < 8 * z.size
    · refine ⟨burstB z a p, fun w => burst_in z a (min 3 (z.size - a / 8)) p w hz h1 (by omega), .inr ⟨a, h1, rfl⟩⟩
    · exact ⟨z, fun w => burst_past z a _ w (by omega) hn, .inl rfl⟩

end Go.Proofs.Ytocjimedbnjmiaa.Co
