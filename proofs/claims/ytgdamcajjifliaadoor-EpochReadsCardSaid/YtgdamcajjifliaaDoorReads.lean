/-
  The law EpochReads, walked: it returns true. Conditions: numbers such as their kinds hold; the library's variables are as the program lays them.
-/
import Derived.Test.YtgdamcajjifliaaDoorRefReadWalk
import Derived.Test.YtgdamcajjifliaaDoorMints
namespace Go.Proofs.YtgdamcajjifliaaDoor
open Go.RowKit

/-- What the program reads. -/
def codeR (s : ByteArray) : Ep × Bool := if textE (rd s.data.toList) = s then (rd s.data.toList, true) else (⟨0, 0, 0⟩, false)

theorem code_ref (s : ByteArray) : refR s = codeR s := by
  unfold codeR
  by_cases h : textE (rd s.data.toList) = s
  · rw [if_pos h]
    have hf := rd_fit s.data.toList
    have hn := nums_text _ hf
    rw [h] at hn
    unfold refR
    rw [hn]
    have e : (if (rd s.data.toList).c ≤ 65535 ∧ (rd s.data.toList).a ≤ 255 ∧ (rd s.data.toList).i ≤ 65535 then (if textE (rd s.data.toList) = s then (rd s.data.toList, true) else (⟨0, 0, 0⟩, false)) else (⟨0, 0, 0⟩, false)) = (rd s.data.toList, true) := by
      rw [if_pos (show (rd s.data.toList).c ≤ 65535 ∧ (rd s.data.toList).a ≤ 255 ∧ (rd s.data.toList).i ≤ 65535 from hf), if_pos h]
    exact e
  · rw [if_neg h]
    unfold refR
    split
    · rename_i a b c hn
      by_cases hf : a ≤ 65535 ∧ b ≤ 255 ∧ c ≤ 65535
      · rw [if_pos hf]
        by_cases ht : textE ⟨a, b, c⟩ = s
        · exfalso
          apply h
          have hr := rd_text ⟨a, b, c⟩ hf
          rw [ht] at hr
          rw [hr, ht]
        · rw [if_neg ht]
      · rw [if_neg hf]
    · rfl

theorem read_is (s : ByteArray) (hs : s.size ≤ 1000) (r : Ep) (ok : Bool) (h : codeR s = (r, ok)) (w : World) (hE : Env w) :
    Calls Tryd.prog 19 #[.string s] w fun e w' => e = .returned (.tuple #[.agg #[.int .u16 r.c, .int .u8 r.a, .int .u16 r.i], .bool ok]) ∧ Below w.heap.size w w' := by
  unfold codeR at h
  by_cases ht : textE (rd s.data.toList) = s
  · rw [if_pos ht] at h
    obtain ⟨rfl, rfl⟩ := Prod.mk.inj h
    exact read_yes s hs ht w hE
  · rw [if_neg ht] at h
    obtain ⟨rfl, rfl⟩ := Prod.mk.inj h
    exact read_no s hs ht w hE

theorem text_size (x : Ep) (hx : x.fit) : (textE x).size ≤ 1000 := by
  obtain ⟨h1, h2, h3⟩ := hx
  have s1 := dgs_size x.c h1
  have s2 := dgs_size x.a (by omega)
  have s3 := dgs_size x.i h3
  have sd : dot.size ≤ 1 := by decide
  have := add_size (add_size (add_size (add_size s1 sd) s2) sd) s3
  unfold textE
  omega

theorem read_back (x : Ep) (hx : x.fit) (w : World) (hE : Env w) :
    Calls Tryd.prog 19 #[.string (textE x)] w fun e w' => e = .returned (.tuple #[.agg #[.int .u16 x.c, .int .u8 x.a, .int .u16 x.i], .bool true]) ∧ Below w.heap.size w w' := by
  have h := read_yes (textE x) (text_size x hx) (by rw [rd_text x hx]) w hE
  rw [rd_text x hx] at h
  exact h

set_option maxRecDepth 100000 in
set_option maxHeartbeats 4000000 in
theorem reads_walk (s : ByteArray) (x : Ep) (hx : x.fit) (w : World) (hE : Env w) :
    Calls Tryd.prog 6 #[.string s, .agg #[.int .u16 x.c, .int .u8 x.a, .int .u16 x.i]] w fun e w' => e = .returned (.bool true) ∧ Below w.heap.size w w' := by
  have HX := Lib.hid hx
  have R0 : Hid (Rest w.heap.size w (w.alloc (.cells [.int .u16 x.c, .int .u8 x.a, .int .u16 x.i].toArray 24))) := Lib.hid ⟨hE.below ((Below.refl _ _).alloc (Nat.le_refl _) _), (Below.refl _ _).alloc (Nat.le_refl _) _, by simp⟩
  have X0 := Lib.hid (cells_mk w [.int .u16 x.c, .int .u8 x.a, .int .u16 x.i] 24)
  clear hx hE
  by_cases h60 : s.size ≤ 60
  · obtain ⟨r, ok, hc⟩ : ∃ r ok, codeR s = (r, ok) := ⟨_, _, rfl⟩
    have HC := Lib.hid hc
    have HR := Lib.hid ((code_ref s).trans hc)
    have HS := Lib.hid (show s.size ≤ 1000 by omega)
    have hd : decide ((60 : Int) < (s.size : Int)) = false := by simp; omega
    clear hc h60
    go_enter Tryd.func6, Tryd.ntmps6
    go_wp2_with fail
    refine (awake_any _ R0.out.1).mono ?_
    rintro e w0 ⟨rfl, hb⟩
    have R1 := Lib.hid (R0.out.next hb)
    have X1 := Lib.hid (X0.out.below hb)
    clear hb R0 X0
    generalize hN : w.heap.size = b1 at *
    go_wp2_with fail
    refine (read_is s HS.out r ok HC.out _ R1.out.1).mono ?_
    rintro e w1 ⟨rfl, hb⟩
    have R2 := Lib.hid ((R1.out.next hb).new (.cells #[.int .u16 r.c, .int .u8 r.a, .int .u16 r.i] 24))
    have X2 := Lib.hid ((X1.out.below hb).new (.cells #[.int .u16 r.c, .int .u8 r.a, .int .u16 r.i] 24))
    have A2 := Lib.hid (cells_mk w1 [.int .u16 r.c, .int .u8 r.a, .int .u16 r.i] 24)
    clear hb R1 X1
    go_wp2_with fail
    generalize w1.heap.size = b2 at *
    refine (rread_any s HS.out r ok HR.out _).mono ?_
    rintro e w2 ⟨rfl, hb⟩
    have R3 := Lib.hid ((R2.out.next hb).new (.cells #[.int .u16 r.c, .int .u8 r.a, .int .u16 r.i] 24))
    have X3 := Lib.hid ((X2.out.below hb).new (.cells #[.int .u16 r.c, .int .u8 r.a, .int .u16 r.i] 24))
    have A3 := Lib.hid ((A2.out.below hb).new (.cells #[.int .u16 r.c, .int .u8 r.a, .int .u16 r.i] 24))
    have B3 := Lib.hid (cells_mk w2 [.int .u16 r.c, .int .u8 r.a, .int .u16 r.i] 24)
    clear hb R2 X2 A2
    have x0 := X3.out.2 0 _ rfl
    have x1 := X3.out.2 1 _ rfl
    have x2 := X3.out.2 2 _ rfl
    go_wp2_with fail
    generalize w2.heap.size = b3 at *
    refine (text_any x HX.out _ R3.out.1).mono ?_
    rintro e w3 ⟨rfl, hb⟩
    have R4 := Lib.hid (R3.out.next hb)
    have X4 := Lib.hid (X3.out.below hb)
    have A4 := Lib.hid (A3.out.below hb)
    have B4 := Lib.hid (B3.out.below hb)
    clear x0 x1 x2 hb R3 X3 A3 B3
    go_wp2_with fail
    refine (read_back x HX.out _ R4.out.1).mono ?_
    rintro e w4 ⟨rfl, hb⟩
    have R5 := Lib.hid ((R4.out.next hb).new (.cells #[.int .u16 x.c, .int .u8 x.a, .int .u16 x.i] 24))
    have X5 := Lib.hid ((X4.out.below hb).new (.cells #[.int .u16 x.c, .int .u8 x.a, .int .u16 x.i] 24))
    have A5 := Lib.hid ((A4.out.below hb).new (.cells #[.int .u16 x.c, .int .u8 x.a, .int .u16 x.i] 24))
    have B5 := Lib.hid ((B4.out.below hb).new (.cells #[.int .u16 x.c, .int .u8 x.a, .int .u16 x.i] 24))
    clear hb R4 X4 A4 B4
    have x0 := X5.out.2 0 _ rfl
    have x1 := X5.out.2 1 _ rfl
    have x2 := X5.out.2 2 _ rfl
    have r0 := A5.out.2 0 _ rfl
    have r1 := A5.out.2 1 _ rfl
    have r2 := A5.out.2 2 _ rfl
    have s0 := B5.out.2 0 _ rfl
    have s1 := B5.out.2 1 _ rfl
    have s2 := B5.out.2 2 _ rfl
    go_wp2
    go_ret
    exact ⟨rfl, by rw [hN]; exact R5.out.2.1⟩
  · have hd : decide ((60 : Int) < (s.size : Int)) = true := by simp; omega
    clear h60
    go_enter Tryd.func6, Tryd.ntmps6
    go_wp2_with fail
    refine (awake_any _ R0.out.1).mono ?_
    rintro e w0 ⟨rfl, hb⟩
    have R1 := Lib.hid (R0.out.next hb)
    clear hb R0 X0
    go_wp2
    go_ret
    exact ⟨rfl, R1.out.2.1⟩

end Go.Proofs.YtgdamcajjifliaaDoor
