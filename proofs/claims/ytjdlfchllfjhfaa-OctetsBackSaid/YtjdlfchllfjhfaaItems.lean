/-
  Things in memory, and the law's look whether they are few and short, walked. Conditions: none.
-/
import Derived.Test.YtjdlfchllfjhfaaEyes
namespace Go.Proofs.Ytjdlfchllfjhfaa
open Go.RowKit
open Oct

/-- At b, o lie the things xs. -/
def Items (w : World) (b o : Nat) (xs : List It) : Prop :=
  ∀ (i : Nat) (x : It), xs[i]? = some x → w.cell? ⟨b, o + i * 3, none⟩ = some (.int .u8 x.a) ∧ w.cell? ⟨b, o + i * 3 + 1, none⟩ = some (.int .u32 x.n) ∧ w.cell? ⟨b, o + i * 3 + 2, none⟩ = some (.string x.s)

/-- Their numbers are of their kinds. -/
def Fit (xs : List It) : Prop := ∀ (i : Nat) (x : It), xs[i]? = some x → x.a < 256 ∧ (x.n : Int) ≤ 4294967295 ∧ x.s.size ≤ maxLen

theorem Items.below {w w' : World} {b o : Nat} {xs : List It} (h : Items w b o xs) {N : Nat} (hb : Below N w w') (hN : b < N) : Items w' b o xs := by
  intro i x hx
  obtain ⟨h1, h2, h3⟩ := h i x hx
  exact ⟨(hb.cell (p := ⟨b, _, none⟩) hN).trans h1, (hb.cell (p := ⟨b, _, none⟩) hN).trans h2, (hb.cell (p := ⟨b, _, none⟩) hN).trans h3⟩

/-- Below N, where the slice's head points to, lie the things xs. -/
def Lies (w : World) (N : Nat) (ao : Option Addr) (xs : List It) : Prop := 1 ≤ xs.length → ∃ b o, ao = some ⟨b, o, none⟩ ∧ b < N ∧ Items w b o xs

theorem Lies.below {w w' : World} {N : Nat} {ao : Option Addr} {xs : List It} (h : Lies w N ao xs) (hb : Below N w w') : Lies w' N ao xs := by
  intro h1
  obtain ⟨b, o, ha, hlt, hI⟩ := h h1
  exact ⟨b, o, ha, hlt, hI.below hb hlt⟩

def smallB (xs : List It) : Bool := decide (xs.length ≤ 60) && xs.all fun x => decide (x.s.size ≤ 300)

theorem small_no {xs : List It} {k : Nat} {x : It} (hx : xs[k]? = some x) (h : 300 < x.s.size) : smallB xs = false := by
  have hm := List.mem_of_getElem? hx
  unfold smallB
  rw [Bool.and_eq_false_iff]
  right
  rw [List.all_eq_false]
  exact ⟨x, hm, by simp; omega⟩

theorem small_yes {xs : List It} (h60 : xs.length ≤ 60) (h : ∀ (j : Nat) (x : It), j < xs.length → xs[j]? = some x → x.s.size ≤ 300) : smallB xs = true := by
  simp only [smallB, Bool.and_eq_true, decide_eq_true_eq, List.all_eq_true]
  refine ⟨h60, fun x hx => ?_⟩
  obtain ⟨j, hj⟩ := List.getElem?_of_mem hx
  exact h j x (List.getElem?_eq_some_iff.1 hj).1 hj

theorem small_out {xs : List It} (h : smallB xs = true) : xs.length ≤ 60 ∧ ∀ x ∈ xs, x.s.size ≤ 300 := by
  simpa [smallB] using h

set_option maxHeartbeats 800000 in
theorem small_any (N cap : Nat) (ao : Option Addr) (xs : List It) (w : World) (hI : Lies w N ao xs) (hF : Fit xs) (hN : N ≤ w.heap.size) (hl : xs.length ≤ maxLen) :
    Calls Try.prog 7 #[.slice ao xs.length cap] w fun e w' => e = .returned (.bool (smallB xs)) ∧ Below N w w' := by
  unfold maxLen at hl
  by_cases h60 : xs.length ≤ 60
  · have HI := Lib.hid hI
    have HF := Lib.hid hF
    clear hI hF
    go_enter Try.func7, Try.ntmps7
    go_wp2
    go_loopw [10] (fun i wr => ∃ k : Nat, k ≤ xs.length ∧ i = .int .i64 k ∧ Hid (∀ (j : Nat) (x : It), j < k → xs[j]? = some x → x.s.size ≤ 300) ∧ Below N w wr) (fun i _ => xs.length - (intOf i).toNat)
    case atStart => exact ⟨0, Nat.zero_le _, rfl, fun j x h => by omega, Below.refl _ _⟩
    case round =>
      obtain ⟨k, hk, rfl, hall, hbel⟩ := hrel
      by_cases hlt : k < xs.length
      · have HX := Lib.hid (List.getElem?_eq_getElem hlt)
        obtain ⟨b, o, rfl, hb, hi⟩ := HI.out.below hbel (by omega)
        have hc := hi k _ HX.out
        have hf := HF.out k _ HX.out
        have hbel2 := fun ob => hbel.alloc (Nat.le_trans hN hbel.size) ob
        clear hi hbel
        generalize xs[k] = x at *
        obtain ⟨c0, c1, c2⟩ := hc
        obtain ⟨f0, f1, f2⟩ := hf
        unfold maxLen at f2
        by_cases h300 : x.s.size ≤ 300
        · go_wp2
          go_roundw
          case rel =>
            refine ⟨k + 1, by omega, by go_num, fun j y hj hy => ?_, hbel2 _⟩
            by_cases hjk : j = k
            · subst hjk
              have := HX.out
              rw [this] at hy
              injection hy with hy
              rw [← hy]; exact h300
            · exact hall.out j y (by omega) hy
          case measure => simp [intOf]; omega
        · have HN := Lib.hid (small_no HX.out (by omega))
          go_wp2
          go_ret
          exact ⟨by rw [HN.out]; rfl, hbel2 _⟩
      · have HY := Lib.hid (small_yes h60 (fun j x hj => hall.out j x (by omega)))
        go_wp2
        go_ret
        exact ⟨by rw [HY.out]; rfl, hbel⟩
  · have HN := Lib.hid (show smallB xs = false by simp [smallB, h60])
    clear hI
    go_enter Try.func7, Try.ntmps7
    go_wp2
    go_ret
    exact ⟨by rw [HN.out]; rfl, Below.refl _ _⟩

end Go.Proofs.Ytjdlfchllfjhfaa
