/-
  The reference's newest slot, walked. Conditions: texts of 148 bytes at least.
-/
import Derived.Test.YtahmngmbgbcmhaaDoorRtWhole
namespace Go.Proofs.YtahmngmbgbcmhaaDoor.Ret
open Go.RowKit
open Oct

theorem RecAt.below {w w' : World} {b q i : Nat} {d : ByteArray} (h : RecAt w b q i d) (hb : Below w.heap.size w w') : RecAt w' b q i d := h.of (hb.block b h.lt)

/-- What Newest leaves. -/
def Newest (k : Int) (r : Rc) (w : World) (e : Ending) (w' : World) : Prop :=
  e = .returned (.tuple #[.int .i64 k, .agg #[.int .u32 r.q, .int .u16 r.i, .string r.d]]) ∧ Below w.heap.size w w'

set_option maxRecDepth 100000 in
set_option maxHeartbeats 4000000 in
theorem rnewest_any (s : ByteArray) (w : World) (hs : 148 ≤ s.size) :
    Calls Tryd.prog 26 #[.string s] w (Newest (newI s.data.toList) (newR s.data.toList) w) := by
  have e1 : (s.extract 0 74).size = 74 := by rw [ByteArray.size_extract]; omega
  have e2 : (s.extract 74 148).size = 74 := by rw [ByteArray.size_extract]; omega
  have l1 : (s.extract 0 74).data.toList = s.data.toList.take 74 := by simp
  have l2 : (s.extract 74 148).data.toList = (s.data.toList.drop 74).take 74 := by simp
  have HC1 := Lib.hid (fun w => rwhole_any (s.extract 0 74) w e1)
  have HC2 := Lib.hid (fun w => rwhole_any (s.extract 74 148) w e2)
  rw [l1] at HC1
  rw [l2] at HC2
  unfold newI newR
  generalize wholeV (s.data.toList.take 74) = A at *
  generalize wholeB (s.data.toList.take 74) = x at *
  generalize wholeV ((s.data.toList.drop 74).take 74) = B at *
  generalize wholeB ((s.data.toList.drop 74).take 74) = y at *
  have h148 : (148 : Int) ≤ s.size := by omega
  have h74 : (74 : Int) ≤ s.size := by omega
  have m74 : 74 ≤ s.size := by omega
  clear e1 e2 l1 l2
  go_enter Tryd.func26, Tryd.ntmps26
  have hA := (Below.refl w.heap.size w).alloc (Nat.le_refl _) (Obj.cells #[Value.int IntKind.u32 0, Value.int IntKind.u16 0, Value.string { data := #[] }] 39)
  have hz : RecAt _ w.heap.size 0 0 ⟨#[]⟩ := RecAt.new w 0 0 ⟨#[]⟩ 39
  have HZ := Lib.hid (⟨hA, hz⟩ : _ ∧ _)
  clear hA hz
  go_wp2_with fail
  obtain ⟨hA, hz⟩ := HZ.out
  clear HZ
  generalize w.alloc (Obj.cells #[Value.int IntKind.u32 0, Value.int IntKind.u16 0, Value.string { data := #[] }] 39) = W0 at *
  refine (HC1.out _).mono ?_
  rintro e w1 ⟨rfl, hb1⟩
  have hz1 := hz.below hb1
  have hA1 := hA.trans (hb1.mono hA.size)
  have hal := (Below.refl w1.heap.size w1).alloc (Nat.le_refl _) (Obj.cells #[Value.int IntKind.u32 A.q, Value.int IntKind.u16 A.i, Value.string A.d] 39)
  have hr1 : RecAt _ w1.heap.size A.q A.i A.d := RecAt.new w1 A.q A.i A.d 39
  have HZ := Lib.hid (⟨hz1.below hal, hA1.trans (hal.mono hA1.size), hr1, hz1.lt⟩ : _ ∧ _ ∧ _ ∧ _)
  clear hb1 hz1 hA1 hal hr1 hz hA
  go_wp2_with fail
  obtain ⟨hz, hA, hr1, hlt⟩ := HZ.out
  clear HZ
  generalize w1.alloc (Obj.cells #[Value.int IntKind.u32 A.q, Value.int IntKind.u16 A.i, Value.string A.d] 39) = W1 at *
  generalize w1.heap.size = b at *
  refine (HC2.out _).mono ?_
  rintro e w2 ⟨rfl, hb2⟩
  have hz2 := hz.below hb2
  have hr2 := hr1.below hb2
  have hA2 := hA.trans (hb2.mono hA.size)
  have hal := (Below.refl w2.heap.size w2).alloc (Nat.le_refl _) (Obj.cells #[Value.int IntKind.u32 B.q, Value.int IntKind.u16 B.i, Value.string B.d] 39)
  have hq2 : RecAt _ w2.heap.size B.q B.i B.d := RecAt.new w2 B.q B.i B.d 39
  have hrz : w.heap.size < w2.heap.size := hz2.lt
  have hrb : b < w2.heap.size := hr2.lt
  have HZ := Lib.hid (⟨hz2.below hal, hA2.trans (hal.mono hA2.size), hr2.below hal, hq2⟩ : _ ∧ _ ∧ _ ∧ _)
  have HZ2 := Lib.hid hz2
  have HA2 := Lib.hid hA2
  clear hz2 hr2 hA2 hal hq2 hb2 hz hA hr1
  have hz := HZ.out.1
  have hr := HZ.out.2.2.1
  have hq := HZ.out.2.2.2
  have r0 := hr.c0
  have r1 := hr.c1
  have r2 := hr.c2
  have q0 := hq.c0
  have q1 := hq.c1
  have q2 := hq.c2
  have z0 := hz.c0
  have z1 := hz.c1
  have z2 := hz.c2
  have g0 := hz.f0
  have g1 := hz.f1
  have g2 := hz.f2
  clear hz hr hq
  have hB := HZ.out.2.1
  clear HZ
  have HB := Lib.hid hB
  clear hB
  have hne : w.heap.size ≠ b := by omega
  have hne2 : w.heap.size ≠ w2.heap.size := by omega
  have hne3 : b ≠ w2.heap.size := by omega
  cases x with
  | true =>
    cases y with
    | true =>
      by_cases hge : B.q ≤ A.q
      · have h1 : pickI true true A.q B.q = 0 := by simp [pickI, hge]
        have h2 : pickR true true A B = A := by simp [pickR, hge]
        have HE : Hid (pickI true true A.q B.q = _ ∧ pickR true true A B = _) := Lib.hid ⟨h1, h2⟩
        clear h1 h2
        go_wp2_with fail
        generalize w2.alloc (Obj.cells #[Value.int IntKind.u32 B.q, Value.int IntKind.u16 B.i, Value.string B.d] 39) = W2 at *
        go_region
        all_goals
          go_wp2
          exact bodyPost_ret (v := .tuple #[.int .i64 (0), .agg #[.int .u32 A.q, .int .u16 A.i, .string A.d]]) (by simp [results, Tryd.results26, go_sem, *]) rfl ⟨by rw [HE.out.1, HE.out.2], (((HB.out.drew).setCell (p := ⟨w.heap.size, 0, none⟩) (Nat.le_refl _) _).setCell (p := ⟨w.heap.size, 1, none⟩) (Nat.le_refl _) _).setCell (p := ⟨w.heap.size, 2, none⟩) (Nat.le_refl _) _⟩
      · have h1 : pickI true true A.q B.q = 1 := by simp [pickI, hge]
        have h2 : pickR true true A B = B := by simp [pickR, hge]
        have HE : Hid (pickI true true A.q B.q = _ ∧ pickR true true A B = _) := Lib.hid ⟨h1, h2⟩
        clear h1 h2
        go_wp2_with fail
        generalize w2.alloc (Obj.cells #[Value.int IntKind.u32 B.q, Value.int IntKind.u16 B.i, Value.string B.d] 39) = W2 at *
        go_region
        all_goals
          go_wp2
          exact bodyPost_ret (v := .tuple #[.int .i64 (1), .agg #[.int .u32 B.q, .int .u16 B.i, .string B.d]]) (by simp [results, Tryd.results26, go_sem, *]) rfl ⟨by rw [HE.out.1, HE.out.2], (((HB.out.drew).setCell (p := ⟨w.heap.size, 0, none⟩) (Nat.le_refl _) _).setCell (p := ⟨w.heap.size, 1, none⟩) (Nat.le_refl _) _).setCell (p := ⟨w.heap.size, 2, none⟩) (Nat.le_refl _) _⟩
    | false =>
      have h1 : pickI true false A.q B.q = 0 := by simp [pickI]
      have h2 : pickR true false A B = A := by simp [pickR]
      have HE := Lib.hid (⟨h1, h2⟩ : _ ∧ _)
      clear h1 h2
      go_wp2_with fail
      generalize w2.alloc (Obj.cells #[Value.int IntKind.u32 B.q, Value.int IntKind.u16 B.i, Value.string B.d] 39) = W2 at *
      go_region
      all_goals
        go_wp2
        exact bodyPost_ret (v := .tuple #[.int .i64 (0), .agg #[.int .u32 A.q, .int .u16 A.i, .string A.d]]) (by simp [results, Tryd.results26, go_sem, *]) rfl ⟨by rw [HE.out.1, HE.out.2], (((HB.out.drew).setCell (p := ⟨w.heap.size, 0, none⟩) (Nat.le_refl _) _).setCell (p := ⟨w.heap.size, 1, none⟩) (Nat.le_refl _) _).setCell (p := ⟨w.heap.size, 2, none⟩) (Nat.le_refl _) _⟩
  | false =>
    cases y with
    | true =>
      have h1 : pickI false true A.q B.q = 1 := by simp [pickI]
      have h2 : pickR false true A B = B := by simp [pickR]
      have HE := Lib.hid (⟨h1, h2⟩ : _ ∧ _)
      clear h1 h2
      go_wp2_with fail
      generalize w2.alloc (Obj.cells #[Value.int IntKind.u32 B.q, Value.int IntKind.u16 B.i, Value.string B.d] 39) = W2 at *
      go_region
      all_goals
        go_wp2
        exact bodyPost_ret (v := .tuple #[.int .i64 (1), .agg #[.int .u32 B.q, .int .u16 B.i, .string B.d]]) (by simp [results, Tryd.results26, go_sem, *]) rfl ⟨by rw [HE.out.1, HE.out.2], (((HB.out.drew).setCell (p := ⟨w.heap.size, 0, none⟩) (Nat.le_refl _) _).setCell (p := ⟨w.heap.size, 1, none⟩) (Nat.le_refl _) _).setCell (p := ⟨w.heap.size, 2, none⟩) (Nat.le_refl _) _⟩
    | false =>
      have h1 : pickI false false A.q B.q = -1 := by simp [pickI]
      have h2 : pickR false false A B = Rc.zero := by simp [pickR]
      have HE := Lib.hid (⟨h1, h2⟩ : _ ∧ _)
      clear h1 h2
      have y0 := HZ2.out.c0
      have y1 := HZ2.out.c1
      have y2 := HZ2.out.c2
      have y3 := HZ2.out.f0
      have y4 := HZ2.out.f1
      have y5 := HZ2.out.f2
      go_wp2_with fail
      exact bodyPost_ret (v := .tuple #[.int .i64 (-1), .agg #[.int .u32 0, .int .u16 0, .string ⟨#[]⟩]]) (by simp [results, Tryd.results26, go_sem, *]) rfl ⟨by rw [HE.out.1, HE.out.2]; rfl, (((HA2.out.setCell (p := ⟨w.heap.size, 0, none⟩) (Nat.le_refl _) _).setCell (p := ⟨w.heap.size, 1, none⟩) (Nat.le_refl _) _).setCell (p := ⟨w.heap.size, 2, none⟩) (Nat.le_refl _) _).alloc (by simp [World.setCell]; omega) _⟩

end Go.Proofs.YtahmngmbgbcmhaaDoor.Ret
