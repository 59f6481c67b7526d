/-
  Frames and their bytes: what is encoded is decoded. Conditions: none.
-/
import Derived.Test.YtindekpmicbbiaaDoorEnc
import Derived.Test.YtindekpmicbbiaaDoorRd
import Derived.Test.YtindekpmicbbiaaDoorBurstMath
import Derived.Test.YtindekpmicbbiaaDoorDec
namespace Go.Proofs.YtindekpmicbbiaaDoor
open Go.RowKit
open Oct Sums

theorem num_be_lt (n k : Nat) (h : n < 256 ^ k) : num (be n k) = n := by rw [num_be, Nat.mod_eq_of_lt h]
theorem got_app (k : Nat) (a b : List UInt8) (h : a.length = k) : got (k : Int) (a ++ b) = a := by
  unfold got; rw [fits_yes (by omega) (by rw [List.length_append]; omega)]; simp [h.symm]
theorem left_app (k : Nat) (a b : List UInt8) (h : a.length = k) : left (k : Int) (a ++ b) = b := by
  unfold left; rw [fits_yes (by omega) (by rw [List.length_append]; omega)]; simp [h.symm]
theorem R1_be (n : Nat) (r : List UInt8) (h : n ≤ 255) : R1 (be n 1 ++ r) = n := by
  have e := got_app 1 (be n 1) r (be_length _ _)
  unfold R1; rw [show ((1 : Nat) : Int) = 1 from rfl] at e; rw [e, num_be_lt n 1 (by omega)]
theorem R2_be (n : Nat) (r : List UInt8) (h : n ≤ 65535) : R2 (be n 2 ++ r) = n := by
  have e := got_app 2 (be n 2) r (be_length _ _)
  unfold R2; rw [show ((2 : Nat) : Int) = 2 from rfl] at e; rw [e, num_be_lt n 2 (by omega)]
theorem R4_be (n : Nat) (r : List UInt8) (h : n ≤ 4294967295) : R4 (be n 4 ++ r) = n := by
  have e := got_app 4 (be n 4) r (be_length _ _)
  unfold R4; rw [show ((4 : Nat) : Int) = 4 from rfl] at e; rw [e, num_be_lt n 4 (by omega)]
theorem D1_be (n : Nat) (r : List UInt8) : D1 (be n 1 ++ r) = r := left_app 1 _ _ (be_length _ _)
theorem D2_be (n : Nat) (r : List UInt8) : D2 (be n 2 ++ r) = r := left_app 2 _ _ (be_length _ _)
theorem D4_be (n : Nat) (r : List UInt8) : D4 (be n 4 ++ r) = r := left_app 4 _ _ (be_length _ _)
theorem got_all (l : List UInt8) : got (l.length : Int) l = l := by
  unfold got; rw [fits_yes (by omega) (by omega)]; simp

theorem rt_of {f : Fr} (h : rtB f = true) : Rt f := Classical.byContradiction fun hn => by rw [rtB_no hn] at h; cases h

theorem own_k4 (f : Fr) (h : f.kind = 4) : own f = ⟨f.kind, f.src, 0, f.sinc, 0, f.ec, f.ea, f.ei, f.hop, 0, 0, 0, false, f.blk, f.vinc, f.vseq, f.part, f.parts, f.bytes⟩ := by unfold own; rw [if_pos h]
theorem own_k3 (f : Fr) (h : f.kind = 3) : own f = ⟨f.kind, f.src, f.dst, f.sinc, f.dinc, f.ec, f.ea, f.ei, f.hop, f.hc, f.ha, f.hi, f.wants, 0, 0, 0, 0, 0, ⟨#[]⟩⟩ := by unfold own; rw [if_neg (by omega), if_pos h]
theorem own_k2 (f : Fr) (h4 : ¬ f.kind = 4) (h3 : ¬ f.kind = 3) : own f = ⟨f.kind, f.src, f.dst, f.sinc, f.dinc, f.ec, f.ea, f.ei, f.hop, 0, 0, 0, false, 0, 0, 0, 0, 0, ⟨#[]⟩⟩ := by unfold own; rw [if_neg h4, if_neg h3]
theorem fr_eta (f : Fr) : f = ⟨f.kind, f.src, f.dst, f.sinc, f.dinc, f.ec, f.ea, f.ei, f.hop, f.hc, f.ha, f.hi, f.wants, f.blk, f.vinc, f.vseq, f.part, f.parts, f.bytes⟩ := rfl

/-- A frame that may be is read of its bytes. -/
theorem read_back (f : Fr) (hf : f.fit) (hr : rtB f = true) : frameL (bodyL f) = f := by
  obtain ⟨k1, k2, ho, s1, s2, s3, s4, hd⟩ := rt_of hr
  obtain ⟨u1, u2, u3, u4, u5, u6, u7, u8, u9, u10, u11, u12, u13, u14, u15, u16, u17⟩ := hf
  have hz : sizeN f ≤ 255 := by
    unfold sizeN
    rw [hr, if_pos rfl]
    split
    · omega
    · split
      · rename_i h; have := (hd h).2.2.2.2; omega
      · omega
  have e0 : bodyL f = be f.kind.toNat 1 ++ (be (sizeN f) 1 ++ (be f.src 1 ++ (be f.sinc 2 ++ (be f.dst 1 ++ (be f.dinc 2 ++ (be f.ec 2 ++ (be f.ea 1 ++ (be f.ei 2 ++ (be f.hop 2 ++ restL f))))))))) := by
    unfold bodyL headL beE; simp only [List.append_assoc]
  unfold frameL
  rw [e0]
  simp only [D1_be, D2_be]
  rw [R1_be _ _ (by omega), R1_be _ _ (by omega), R1_be _ _ (by omega), R1_be _ _ (by omega), R2_be _ _ (by omega), R2_be _ _ (by omega), R2_be _ _ (by omega), R2_be _ _ (by omega), R2_be _ _ (by omega)]
  have hk : ((f.kind.toNat : Nat) : Int) = f.kind := by omega
  rw [hk]
  by_cases h3 : f.kind = 3
  · have n3 : f.kind.toNat = 3 := by omega
    have er : restL f = be f.hc 2 ++ (be f.ha 1 ++ (be f.hi 2 ++ be (if f.wants then 1 else 0) 1)) := by
      unfold restL beE oneB; rw [if_pos h3]; simp only [List.append_assoc]
    have eo := own_k3 f h3
    rw [if_pos n3, er]
    simp only [D1_be, D2_be]
    rw [R1_be _ _ (by omega), R2_be _ _ (by omega), R2_be _ _ (by omega)]
    have ew : ((R1 (be (if f.wants then 1 else 0) 1) : Int) == 1) = f.wants := by
      have h := R1_be (if f.wants then 1 else 0) [] (by split <;> omega)
      rw [List.append_nil] at h
      rw [h]
      cases f.wants <;> rfl
    rw [ew]
    rw [eo] at ho
    exact ho.symm
  · have n3 : ¬ f.kind.toNat = 3 := by omega
    rw [if_neg n3]
    by_cases h4 : f.kind = 4
    · have n4 : f.kind.toNat = 4 := by omega
      have er : restL f = be f.blk 1 ++ (be f.vinc 2 ++ (be f.vseq 4 ++ (be f.part 1 ++ (be f.parts 1 ++ f.bytes.data.toList)))) := by
        unfold restL; rw [if_neg h3, if_pos h4]; simp only [List.append_assoc]
      have eo := own_k4 f h4
      rw [if_pos n4, er]
      simp only [D1_be, D2_be, D4_be]
      rw [R1_be _ _ (by omega), R1_be _ _ (by omega), R1_be _ _ (by omega), R2_be _ _ (by omega), R4_be _ _ (by omega), got_all, S_of]
      rw [eo] at ho
      have hds : f.dst = 0 := congrArg Fr.dst ho
      have hdi : f.dinc = 0 := congrArg Fr.dinc ho
      rw [hds, hdi]
      exact ho.symm
    · have n4 : ¬ f.kind.toNat = 4 := by omega
      have eo := own_k2 f h4 h3
      rw [if_neg n4]
      rw [eo] at ho
      exact ho.symm

theorem head_length (k z : Nat) (f : Fr) : (headL k z f).length = 15 := by unfold headL; simp only [List.length_append, be_length, beE_length]
/-- How many bytes a frame that may be has. -/
theorem enc_size (f : Fr) (hr : rtB f = true) : (encB f).size = sizeN f := by
  have hR := rt_of hr
  have e1 : (encB f).size = (bodyL f).length + 2 := by
    unfold encB; rw [hr, if_pos rfl, sealed_size, S_size]
  rw [e1]
  unfold bodyL sizeN
  rw [hr, if_pos rfl, List.length_append, head_length]
  unfold restL
  split
  · simp only [List.length_append, oneB_length, beE_length]
  · split
    · simp only [List.length_append, be_length, size_list]; omega
    · rfl

end Go.Proofs.YtindekpmicbbiaaDoor
