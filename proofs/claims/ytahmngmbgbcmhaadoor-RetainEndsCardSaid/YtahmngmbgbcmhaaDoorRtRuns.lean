/-
  The law RetainRuns, walked: it returns true, where the calls answer as is asked. Conditions: that, and on sizes.
-/
import Derived.Test.YtahmngmbgbcmhaaDoorRtDo
namespace Go.Proofs.YtahmngmbgbcmhaaDoor.Ret
open Go.RowKit
open Oct
open Sto (St CodeAt Only)

/-- At b, o lie the acts xs. -/
def Items (w : World) (b o : Nat) (xs : List Ac) : Prop :=
  ∀ (i : Nat) (x : Ac), xs[i]? = some x → w.cell? ⟨b, o + i * 4, none⟩ = some (.int .u8 x.a) ∧ w.cell? ⟨b, o + i * 4 + 1, none⟩ = some (.int .u16 x.inc) ∧ w.cell? ⟨b, o + i * 4 + 2, none⟩ = some (.string x.d) ∧ w.cell? ⟨b, o + i * 4 + 3, none⟩ = some (.int .u8 x.n)

/-- Their numbers are of their kinds. -/
def Fit (xs : List Ac) : Prop := ∀ (i : Nat) (x : Ac), xs[i]? = some x → (x.a : Int) ≤ 255 ∧ (x.inc : Int) ≤ 65535 ∧ x.d.size ≤ maxLen ∧ (x.n : Int) ≤ 255

theorem Items.below {w w' : World} {b o : Nat} {xs : List Ac} (h : Items w b o xs) {N : Nat} (hb : Below N w w') (hN : b < N) : Items w' b o xs := by
  intro i x hx
  obtain ⟨h1, h2, h3, h4⟩ := h i x hx
  exact ⟨(hb.cell (p := ⟨b, _, none⟩) hN).trans h1, (hb.cell (p := ⟨b, _, none⟩) hN).trans h2, (hb.cell (p := ⟨b, _, none⟩) hN).trans h3, (hb.cell (p := ⟨b, _, none⟩) hN).trans h4⟩

/-- Below N, where the slice's head points to, lie the acts xs. -/
def Lies (w : World) (N : Nat) (ao : Option Addr) (xs : List Ac) : Prop := 1 ≤ xs.length → ∃ b o, ao = some ⟨b, o, none⟩ ∧ b < N ∧ Items w b o xs

theorem Lies.below {w w' : World} {N : Nat} {ao : Option Addr} {xs : List Ac} (h : Lies w N ao xs) (hb : Below N w w') : Lies w' N ao xs := by
  intro h1
  obtain ⟨b, o, ha, hlt, hI⟩ := h h1
  exact ⟨b, o, ha, hlt, hI.below hb hlt⟩

/-- A store made behind w: all that the loop keeps. -/
structure At (N : Nat) (w w' : World) (p g cap : Nat) (x : St) : Prop where
  code : CodeAt w' p g cap x
  below : Below N w w'
  p : N ≤ p
  g : N ≤ g
theorem At.only {N p g cap : Nat} {w a b : World} {x y : St} (h : At N w a p g cap x) (hN : N ≤ w.heap.size) (hy : CodeAt b p g cap y) (ho : Only p g a b) : At N w b p g cap y :=
  ⟨hy, h.below.trans (ho.below h.p h.g (Nat.le_trans hN h.below.size)), h.p, h.g⟩
theorem At.more {N p g cap : Nat} {w a b : World} {x : St} (h : At N w a p g cap x) (hN : N ≤ w.heap.size) (hb : Below a.heap.size a b) : At N w b p g cap x :=
  ⟨h.code.below hb h.code.plt h.code.glt, h.below.trans (hb.mono (Nat.le_trans hN h.below.size)), h.p, h.g⟩

/-- Its number is small, and so is what it is armed for. -/
def Small (k : Nat) (x : St) : Prop := x.n ≤ 75 * k ∧ ∀ j, x.arm = some j → j ≤ 255
theorem Small.fine {k : Nat} {x : St} (h : Small k x) (hk : k ≤ 100) : Fine x := ⟨by have := h.1; omega, fun j hj => by have := h.2 j hj; omega⟩
theorem Small.did {k : Nat} {x : St} {y : Ac} (h : Small k x) (hinc : (y.inc : Int) ≤ 65535) (hn : (y.n : Int) ≤ 255) : Small (k + 1) (did x y) :=
  ⟨by have := did_n (x := x) hinc; have := h.1; omega, did_arm hinc hn h.2⟩
theorem Small.up {k : Nat} {x : St} (h : Small k x) : Small k { x with up := true } := h

set_option maxRecDepth 100000 in
set_option maxHeartbeats 4000000 in
theorem runs_walk (C : Code) (s : ByteArray) (cap : Nat) (ao : Option Addr) (xs : List Ac) (w : World) (hs : s.size ≤ maxLen) (hI : Lies w w.heap.size ao xs) (hF : Fit xs) (hl : xs.length ≤ maxLen) :
    Calls Tryd.prog 3 #[.string s, .slice ao xs.length cap] w fun e w' => e = .returned (.bool true) ∧ Below w.heap.size w w' := by
  unfold maxLen at hl
  have CC := Lib.hid C
  have HI := Lib.hid hI
  have HF := Lib.hid hF
  have HS := Lib.hid hs
  unfold maxLen at hs
  clear hI hF C
  by_cases h400 : s.size ≤ 400
  · by_cases h20 : xs.length ≤ 20
    · go_enter Tryd.func3, Tryd.ntmps3
      go_wp2_with fail
      refine (awake_true CC.out _).mono ?_
      rintro e w1 ⟨rfl, hb1⟩
      go_wp2_with fail
      refine (Sto.of_any s _ HS.out).mono ?_
      rintro e w2 ⟨p, g, c, rfl, hx2, hp, hg, hb2⟩
      have hA : At w.heap.size w w2 p g c ⟨s.data.toList.take 1000, true, none, 0⟩ := ⟨hx2, hb1.trans (hb2.mono hb1.size), Nat.le_trans hb1.size hp, Nat.le_trans hb1.size hg⟩
      have HX0 : Hid (Small 0 ⟨s.data.toList.take 1000, true, none, 0⟩) := ⟨Nat.le_refl _, fun k hk => by cases hk⟩
      clear hx2 hp hg hb1 hb2
      generalize (⟨s.data.toList.take 1000, true, none, 0⟩ : St) = X at *
      go_wp2_with fail
      have HA := Lib.hid hA
      clear hA
      go_loopw [22] (fun i wr => ∃ (k : Nat) (x : St), k ≤ xs.length ∧ i = .int .i64 k ∧ Hid (Small k x) ∧ At w.heap.size w wr p g c x) (fun i _ => xs.length - (intOf i).toNat)
      case atStart => exact ⟨0, X, Nat.zero_le _, rfl, HX0, HA.out⟩
      case round =>
        obtain ⟨k, x, hk, rfl, hsm, hAr⟩ := hrel
        clear HA HX0
        by_cases hlt : k < xs.length
        · have HX := Lib.hid (List.getElem?_eq_getElem hlt)
          obtain ⟨bb, o, rfl, hbb, hi⟩ := HI.out.below hAr.below (by omega)
          have hc := hi k _ HX.out
          have hf := HF.out k _ HX.out
          have hBa := fun ob => hAr.more (Nat.le_refl _) ((Below.refl wr.heap.size wr).alloc (Nat.le_refl _) ob)
          clear hi hAr
          generalize xs[k] = y at *
          obtain ⟨c0, c1, c2, c3⟩ := hc
          obtain ⟨f0, f1, f2, f3⟩ := hf
          have HF2 := Lib.hid f2
          unfold maxLen at f2
          have hda := Lib.hid (hsm.out.did f1 f3).up
          have hfi := Lib.hid (hsm.out.fine (k := k) (by omega))
          by_cases h100 : y.d.size ≤ 100
          · go_wp2_with fail
            refine (one_any CC.out p g c x y _ (hBa _).code hfi.out f1 f3 HF2.out).mono ?_
            rintro e w5 ⟨rfl, hx5, ho5⟩
            have hA5 := (hBa _).only (Nat.le_refl _) hx5 ho5
            clear hBa c0 c1 c2 c3 hx5 ho5
            go_wp2_with fail
            refine (load_true CC.out p g c _ _ hA5.code).mono ?_
            rintro e w6 ⟨rfl, hb6⟩
            have hA6 := hA5.more (Nat.le_refl _) hb6
            clear hA5 hb6
            go_wp2_with fail
            refine (Sto.on_any p g c _ _ hA6.code).mono ?_
            rintro e w7 ⟨rfl, hx7, ho7⟩
            have hA7 := hA6.only (Nat.le_refl _) hx7 ho7
            clear hA6 hx7 ho7
            go_wp2_with fail
            go_roundw
            case rel => exact ⟨k + 1, _, by omega, by go_num, hda, hA7⟩
            case measure => simp [intOf]; omega
          · have hbl := fun ob => (hBa ob).below
            clear hBa
            go_wp2
            go_ret
            exact ⟨rfl, hbl _⟩
        · go_wp2_with fail
          refine (load_true CC.out p g c _ _ hAr.code).mono ?_
          rintro e w6 ⟨rfl, hb6⟩
          have hA6 := (hAr.more (Nat.le_refl _) hb6).below
          clear hAr hb6
          go_wp2
          go_ret
          exact ⟨rfl, hA6⟩
    · clear HI HF
      go_enter Tryd.func3, Tryd.ntmps3
      go_wp2_with fail
      refine (awake_true CC.out _).mono ?_
      rintro e w1 ⟨rfl, hb1⟩
      go_wp2_with fail
      go_ret
      exact ⟨rfl, hb1⟩
  · clear HI HF
    go_enter Tryd.func3, Tryd.ntmps3
    go_wp2_with fail
    refine (awake_true CC.out _).mono ?_
    rintro e w1 ⟨rfl, hb1⟩
    go_wp2_with fail
    go_ret
    exact ⟨rfl, hb1⟩

end Go.Proofs.YtahmngmbgbcmhaaDoor.Ret
