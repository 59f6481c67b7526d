/-
  The reference's next record, walked. Conditions: none but on sizes.
-/
import Derived.Test.YtahmngmbgbcmhaaDoorRtNew
namespace Go.Proofs.YtahmngmbgbcmhaaDoor.Ret
open Go.RowKit
open Oct

/-- The error of a commit, or a boot, at a store's bytes; the record that it commits. -/
def nextE (l : List UInt8) (boot : Bool) (d : ByteArray) : Int :=
  if boot = false ∧ 64 < d.size then 2 else if l.length < 148 then 1 else if boot = true ∧ (newR l).i = 65535 then 13 else if (newR l).q = 4294967295 then 13 else 0
def nextR (l : List UInt8) (boot : Bool) (inc : Nat) (d : ByteArray) : Rc :=
  if nextE l boot d = 0 then ⟨(newR l).q + 1, if boot = true then (newR l).i + 1 else inc, if boot = true then (newR l).d else d⟩ else Rc.zero

/-- What Next leaves. -/
def NextEnd (r : Rc) (k : Int) (w : World) (e : Ending) (w' : World) : Prop :=
  e = .returned (.tuple #[.agg #[.int .u32 r.q, .int .u16 r.i, .string r.d], .int .i64 k]) ∧ Below w.heap.size w w'

set_option maxRecDepth 100000 in
set_option maxHeartbeats 4000000 in
theorem rnext_bad (s : ByteArray) (boot : Bool) (inc : Nat) (d : ByteArray) (w : World) (h : (boot = false ∧ 64 < d.size) ∨ (¬ (boot = false ∧ 64 < d.size) ∧ s.size < 148)) (hd : d.size ≤ maxLen) (hs : s.size ≤ maxLen) :
    Calls Tryd.prog 24 #[.string s, .bool boot, .int .u16 inc, .string d] w (NextEnd Rc.zero (nextE s.data.toList boot d) w) := by
  unfold maxLen at hs hd
  have hb := (Below.refl w.heap.size w).alloc (Nat.le_refl _) (Obj.cells #[Value.int IntKind.u32 0, Value.int IntKind.u16 0, Value.string { data := #[] }] 39)
  rcases h with ⟨rfl, h⟩ | ⟨h, h2⟩
  · have HE : Hid (nextE s.data.toList false d = 2) := by unfold nextE; rw [if_pos ⟨rfl, h⟩]; exact Lib.hid rfl
    go_enter Tryd.func24, Tryd.ntmps24
    go_wp2
    exact bodyPost_ret (v := .tuple #[.agg #[.int .u32 0, .int .u16 0, .string ⟨#[]⟩], .int .i64 2]) (by simp [results, Tryd.results24, go_sem]) rfl ⟨by rw [HE.out]; rfl, hb⟩
  · have HE : Hid (nextE s.data.toList boot d = 1) := by unfold nextE; rw [if_neg h, if_pos (by rw [Sto.size_list]; exact h2)]; exact Lib.hid rfl
    cases boot with
    | true =>
      clear h
      go_enter Tryd.func24, Tryd.ntmps24
      go_wp2
      exact bodyPost_ret (v := .tuple #[.agg #[.int .u32 0, .int .u16 0, .string ⟨#[]⟩], .int .i64 1]) (by simp [results, Tryd.results24, go_sem]) rfl ⟨by rw [HE.out]; rfl, hb⟩
    | false =>
      have h64 : d.size ≤ 64 := by simp at h; omega
      clear h
      go_enter Tryd.func24, Tryd.ntmps24
      go_wp2
      exact bodyPost_ret (v := .tuple #[.agg #[.int .u32 0, .int .u16 0, .string ⟨#[]⟩], .int .i64 1]) (by simp [results, Tryd.results24, go_sem]) rfl ⟨by rw [HE.out]; rfl, hb⟩

/-- What lies there behind Newest, with its record laid. -/
theorem laid_next {w w1 : World} (hb1 : Below (w.alloc (Obj.cells #[Value.int IntKind.u32 0, Value.int IntKind.u16 0, Value.string { data := #[] }] 39)).heap.size (w.alloc (Obj.cells #[Value.int IntKind.u32 0, Value.int IntKind.u16 0, Value.string { data := #[] }] 39)) w1) :
    RecAt w1 w.heap.size 0 0 ⟨#[]⟩ ∧ Below w.heap.size w w1 ∧ w.heap.size < w1.heap.size := by
  have hz : RecAt _ w.heap.size 0 0 ⟨#[]⟩ := RecAt.new w 0 0 ⟨#[]⟩ 39
  have h1 := hz.below hb1
  exact ⟨h1, ((Below.refl w.heap.size w).alloc (Nat.le_refl _) _).trans (hb1.mono (by simp)), h1.lt⟩

theorem three_below {N : Nat} {w w1 : World} (h : Below N w w1) (hN : N ≤ w1.heap.size) (a b c : Value) (o : Obj) : Below N w ((((w1.setCell ⟨N, 0, none⟩ a).setCell ⟨N, 1, none⟩ b).setCell ⟨N, 2, none⟩ c).alloc o) :=
  (((h.setCell (p := ⟨N, 0, none⟩) (Nat.le_refl _) _).setCell (p := ⟨N, 1, none⟩) (Nat.le_refl _) _).setCell (p := ⟨N, 2, none⟩) (Nat.le_refl _) _).alloc (by simp [World.setCell]; omega) _

set_option maxRecDepth 100000 in
set_option maxHeartbeats 4000000 in
theorem rnext_commit (s : ByteArray) (inc : Nat) (d : ByteArray) (w : World) (hs : 148 ≤ s.size) (hd : d.size ≤ 64) :
    Calls Tryd.prog 24 #[.string s, .bool false, .int .u16 inc, .string d] w (NextEnd (nextR s.data.toList false inc d) (nextE s.data.toList false d) w) := by
  have HN := Lib.hid (fun w => rnewest_any s w hs)
  have hok := newR_ok (l := s.data.toList) (by rw [Sto.size_list]; exact hs)
  have e1 : nextE s.data.toList false d = if (newR s.data.toList).q = 4294967295 then 13 else 0 := by
    unfold nextE
    rw [if_neg (by intro h; omega), if_neg (by rw [Sto.size_list]; omega), if_neg (by intro h; cases h.1)]
  have e2 : nextR s.data.toList false inc d = if (newR s.data.toList).q = 4294967295 then Rc.zero else ⟨(newR s.data.toList).q + 1, inc, d⟩ := by
    unfold nextR
    rw [e1]
    by_cases h : (newR s.data.toList).q = 4294967295
    · rw [if_pos h, if_pos h]; rfl
    · rw [if_neg h, if_neg h]; rfl
  rw [e1, e2]
  clear e1 e2
  have hq := hok.q
  generalize newR s.data.toList = R at *
  generalize newI s.data.toList = I at *
  replace HN : Hid (∀ w : World, Calls Tryd.prog 26 #[.string s] w fun e w' => e = .returned (.tuple #[.int .i64 I, .agg #[.int .u32 (R.q : Int), .int .u16 (R.i : Int), .string R.d]]) ∧ Below w.heap.size w w') := HN
  have h148 : (148 : Int) ≤ s.size := by omega
  by_cases hsat : R.q = 4294967295
  · rw [if_pos hsat, if_pos hsat]
    have hsat2 : (R.q : Int) = 4294967295 := by omega
    clear hsat hok hq
    go_enter Tryd.func24, Tryd.ntmps24
    go_wp2_with fail
    refine (HN.out _).mono ?_
    rintro e w1 ⟨rfl, hb1⟩
    obtain ⟨hz, hb, hlt⟩ := laid_next hb1
    have HB := Lib.hid hb
    have z0 := hz.c0
    have z1 := hz.c1
    have z2 := hz.c2
    have f0 := hz.f0
    have f1 := hz.f1
    have f2 := hz.f2
    have hne : w.heap.size ≠ w1.heap.size := by omega
    clear hz hb1 hb
    go_wp2
    exact bodyPost_ret (v := .tuple #[.agg #[.int .u32 0, .int .u16 0, .string ⟨#[]⟩], .int .i64 13]) (by simp [results, Tryd.results24, go_sem, *]) rfl ⟨rfl, three_below HB.out (by omega) _ _ _ _⟩
  · rw [if_neg hsat, if_neg hsat]
    have hsat2 : (R.q : Int) + 1 ≤ 4294967295 := by omega
    have hsat3 : ¬ ((R.q : Int) = 4294967295) := by omega
    have hw : IntKind.u32.wrap ((R.q : Int) + 1) = (R.q : Int) + 1 := IntWalk.u32_in _ (by omega)
    clear hsat hok hq
    generalize hQ : (R.q : Int) = Q at *
    have HQ := Lib.hid hQ
    clear hQ
    go_enter Tryd.func24, Tryd.ntmps24
    go_wp2_with fail
    refine (HN.out _).mono ?_
    rintro e w1 ⟨rfl, hb1⟩
    obtain ⟨hz, hb, hlt⟩ := laid_next hb1
    have HB := Lib.hid hb
    have z0 := hz.c0
    have z1 := hz.c1
    have z2 := hz.c2
    have f0 := hz.f0
    have f1 := hz.f1
    have f2 := hz.f2
    have hne : w.heap.size ≠ w1.heap.size := by omega
    clear hz hb1 hb
    go_wp2
    exact bodyPost_ret (v := .tuple #[.agg #[.int .u32 (Q + 1), .int .u16 inc, .string d], .int .i64 0]) (by simp [results, Tryd.results24, go_sem, *]) rfl ⟨by show _ = Ending.returned (.tuple #[.agg #[.int .u32 ((R.q + 1 : Nat) : Int), .int .u16 inc, .string d], .int .i64 0]); rw [show ((R.q + 1 : Nat) : Int) = Q + 1 by have := HQ.out; omega], three_below HB.out (by omega) _ _ _ _⟩

set_option maxRecDepth 100000 in
set_option maxHeartbeats 4000000 in
theorem rnext_boot (s : ByteArray) (inc : Nat) (d : ByteArray) (w : World) (hs : 148 ≤ s.size) :
    Calls Tryd.prog 24 #[.string s, .bool true, .int .u16 inc, .string d] w (NextEnd (nextR s.data.toList true inc d) (nextE s.data.toList true d) w) := by
  have HN := Lib.hid (fun w => rnewest_any s w hs)
  have hok := newR_ok (l := s.data.toList) (by rw [Sto.size_list]; exact hs)
  have e1 : nextE s.data.toList true d = if (newR s.data.toList).i = 65535 then 13 else if (newR s.data.toList).q = 4294967295 then 13 else 0 := by
    unfold nextE
    rw [if_neg (by intro h; cases h.1), if_neg (by rw [Sto.size_list]; omega)]
    simp
  have e2 : nextR s.data.toList true inc d = if (newR s.data.toList).i = 65535 then Rc.zero else if (newR s.data.toList).q = 4294967295 then Rc.zero else ⟨(newR s.data.toList).q + 1, (newR s.data.toList).i + 1, (newR s.data.toList).d⟩ := by
    unfold nextR
    rw [e1]
    by_cases h1 : (newR s.data.toList).i = 65535
    · rw [if_pos h1, if_pos h1]; rfl
    · rw [if_neg h1, if_neg h1]
      by_cases h : (newR s.data.toList).q = 4294967295
      · rw [if_pos h, if_pos h]; rfl
      · rw [if_neg h, if_neg h]; rfl
  rw [e1, e2]
  clear e1 e2
  have hq := hok.q
  have hi := hok.i
  generalize newR s.data.toList = R at *
  generalize newI s.data.toList = I at *
  replace HN : Hid (∀ w : World, Calls Tryd.prog 26 #[.string s] w fun e w' => e = .returned (.tuple #[.int .i64 I, .agg #[.int .u32 (R.q : Int), .int .u16 (R.i : Int), .string R.d]]) ∧ Below w.heap.size w w') := HN
  have h148 : (148 : Int) ≤ s.size := by omega
  by_cases hinc : R.i = 65535
  · rw [if_pos hinc, if_pos hinc]
    have hinc2 : (R.i : Int) = 65535 := by omega
    clear hinc hok hq hi
    go_enter Tryd.func24, Tryd.ntmps24
    go_wp2_with fail
    refine (HN.out _).mono ?_
    rintro e w1 ⟨rfl, hb1⟩
    obtain ⟨hz, hb, hlt⟩ := laid_next hb1
    have HB := Lib.hid hb
    have z0 := hz.c0
    have z1 := hz.c1
    have z2 := hz.c2
    have f0 := hz.f0
    have f1 := hz.f1
    have f2 := hz.f2
    have hne : w.heap.size ≠ w1.heap.size := by omega
    clear hz hb1 hb
    go_wp2
    exact bodyPost_ret (v := .tuple #[.agg #[.int .u32 0, .int .u16 0, .string ⟨#[]⟩], .int .i64 13]) (by simp [results, Tryd.results24, go_sem, *]) rfl ⟨rfl, three_below HB.out (by omega) _ _ _ _⟩
  · rw [if_neg hinc, if_neg hinc]
    have hinc2 : ¬ ((R.i : Int) = 65535) := by omega
    have hi2 : (R.i : Int) + 1 ≤ 65535 := by omega
    have hwi : IntKind.u16.wrap ((R.i : Int) + 1) = (R.i : Int) + 1 := IntWalk.u16_in _ (by omega)
    clear hinc hi
    generalize hJ : (R.i : Int) = J at *
    have HJ := Lib.hid hJ
    clear hJ
    by_cases hsat : R.q = 4294967295
    · rw [if_pos hsat, if_pos hsat]
      have hsat2 : (R.q : Int) = 4294967295 := by omega
      clear hsat hok hq
      generalize (R.q : Int) = Q at *
      go_enter Tryd.func24, Tryd.ntmps24
      go_wp2_with fail
      refine (HN.out _).mono ?_
      rintro e w1 ⟨rfl, hb1⟩
      obtain ⟨hz, hb, hlt⟩ := laid_next hb1
      have HB := Lib.hid hb
      have z0 := hz.c0
      have z1 := hz.c1
      have z2 := hz.c2
      have f0 := hz.f0
      have f1 := hz.f1
      have f2 := hz.f2
      have hne : w.heap.size ≠ w1.heap.size := by omega
      clear hz hb1 hb
      go_wp2
      exact bodyPost_ret (v := .tuple #[.agg #[.int .u32 0, .int .u16 0, .string ⟨#[]⟩], .int .i64 13]) (by simp [results, Tryd.results24, go_sem, *]) rfl ⟨rfl, three_below HB.out (by omega) _ _ _ _⟩
    · rw [if_neg hsat, if_neg hsat]
      have hsat2 : (R.q : Int) + 1 ≤ 4294967295 := by omega
      have hsat3 : ¬ ((R.q : Int) = 4294967295) := by omega
      have hw : IntKind.u32.wrap ((R.q : Int) + 1) = (R.q : Int) + 1 := IntWalk.u32_in _ (by omega)
      clear hsat hok hq
      generalize hQ : (R.q : Int) = Q at *
      have HQ := Lib.hid hQ
      clear hQ
      go_enter Tryd.func24, Tryd.ntmps24
      go_wp2_with fail
      refine (HN.out _).mono ?_
      rintro e w1 ⟨rfl, hb1⟩
      obtain ⟨hz, hb, hlt⟩ := laid_next hb1
      have HB := Lib.hid hb
      have z0 := hz.c0
      have z1 := hz.c1
      have z2 := hz.c2
      have f0 := hz.f0
      have f1 := hz.f1
      have f2 := hz.f2
      have hne : w.heap.size ≠ w1.heap.size := by omega
      clear hz hb1 hb
      go_wp2
      exact bodyPost_ret (v := .tuple #[.agg #[.int .u32 (Q + 1), .int .u16 (J + 1), .string R.d], .int .i64 0]) (by simp [results, Tryd.results24, go_sem, *]) rfl ⟨by show _ = Ending.returned (.tuple #[.agg #[.int .u32 ((R.q + 1 : Nat) : Int), .int .u16 ((R.i + 1 : Nat) : Int), .string R.d], .int .i64 0]); rw [show ((R.q + 1 : Nat) : Int) = Q + 1 by have := HQ.out; omega, show ((R.i + 1 : Nat) : Int) = J + 1 by have := HJ.out; omega], three_below HB.out (by omega) _ _ _ _⟩

/-- Next, whatever is asked. -/
theorem rnext_any (s : ByteArray) (boot : Bool) (inc : Nat) (d : ByteArray) (w : World) (hd : d.size ≤ maxLen) (hs : s.size ≤ maxLen) :
    Calls Tryd.prog 24 #[.string s, .bool boot, .int .u16 inc, .string d] w (NextEnd (nextR s.data.toList boot inc d) (nextE s.data.toList boot d) w) := by
  have bad : ∀ h : (boot = false ∧ 64 < d.size) ∨ (¬ (boot = false ∧ 64 < d.size) ∧ s.size < 148), nextR s.data.toList boot inc d = Rc.zero := by
    intro h
    unfold nextR
    rw [if_neg]
    unfold nextE
    rcases h with h | ⟨h, h2⟩
    · rw [if_pos h]; decide
    · rw [if_neg h, if_pos (by rw [Sto.size_list]; exact h2)]; decide
  by_cases h1 : boot = false ∧ 64 < d.size
  · rw [bad (.inl h1)]
    exact rnext_bad s boot inc d w (.inl h1) hd hs
  · by_cases h2 : s.size < 148
    · rw [bad (.inr ⟨h1, h2⟩)]
      exact rnext_bad s boot inc d w (.inr ⟨h1, h2⟩) hd hs
    · cases boot with
      | true => exact rnext_boot s inc d w (by omega)
      | false => exact rnext_commit s inc d w (by omega) (by simp at h1; omega)

end Go.Proofs.YtahmngmbgbcmhaaDoor.Ret
