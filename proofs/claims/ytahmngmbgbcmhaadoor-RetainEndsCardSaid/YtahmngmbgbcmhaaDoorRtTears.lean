/-
  The law RetainTears, walked: it returns true, where the calls answer as is asked. Conditions: that, and on sizes.
-/
import Derived.Test.YtahmngmbgbcmhaaDoorRtBoots
namespace Go.Proofs.YtahmngmbgbcmhaaDoor.Ret
open Go.RowKit
open Oct
open Sto (St CodeAt Only)

/-- What a commit to a store that is armed leaves: for enough bytes, and for too few. -/
def CommitYes (p g cap : Nat) (len n : Nat) (R : Rc) (w : World) (e : Ending) (w' : World) : Prop :=
  ∃ l' a', e = .returned (.int .i64 0) ∧ CodeAt w' p g cap ⟨l', true, a', n + 75⟩ ∧ newR l' = R ∧ 0 ≤ newI l' ∧ l'.length = len ∧ Only p g w w'
def CommitNo (p g cap : Nat) (len n m : Nat) (R : Rc) (I : Int) (w : World) (e : Ending) (w' : World) : Prop :=
  ∃ l', e = .returned (.int .i64 12) ∧ CodeAt w' p g cap ⟨l', false, none, n + m⟩ ∧ newR l' = R ∧ newI l' = I ∧ l'.length = len ∧ Only p g w w'

theorem commit_yes (C : Code) (p g cap : Nat) (l : List UInt8) (m n inc : Nat) (d : ByteArray) (R R1 : Rc) (w : World) (hx : CodeAt w p g cap ⟨l, true, some m, n⟩) (hR : newR l = R) (hR1 : R1 = ⟨R.q + 1, inc, d⟩) (hl : 148 ≤ l.length) (hq : R.q ≠ 4294967295) (hn : n ≤ 1000000) (hm : 75 ≤ m) (hm2 : m ≤ 255) (hd : d.size ≤ 64) (hinc : (inc : Int) ≤ 65535) :
    Calls Tryd.prog 14 #[.pointer (some ⟨p, 0, none⟩), .int .u16 inc, .string d] w (CommitYes p g cap l.length n R1 w) :=
  (C.commit p g cap _ inc d w hx hinc (by unfold maxLen; omega) ⟨hn, fun k hk => by cases hk; omega⟩).mono fun e w' ⟨he, hx', ho⟩ => by
    subst hR hR1
    obtain ⟨h1, h2⟩ := next_commit (inc := inc) hl hd hq
    obtain ⟨l', a1, a2, a3, a4, a5⟩ := cm_full (n := n) (inc := inc) hl hinc h1 hm
    rw [a1] at he
    rw [a2] at hx'
    rw [h2] at a4
    exact ⟨l', some (m - 75), he, hx', a4, a5, a3, ho⟩
theorem commit_no (C : Code) (p g cap : Nat) (l : List UInt8) (m n inc : Nat) (d : ByteArray) (R : Rc) (w : World) (hx : CodeAt w p g cap ⟨l, true, some m, n⟩) (hR : newR l = R) (hl : 148 ≤ l.length) (hq : R.q ≠ 4294967295) (hn : n ≤ 1000000) (hm : m < 75) (hd : d.size ≤ 64) (hinc : (inc : Int) ≤ 65535) :
    Calls Tryd.prog 14 #[.pointer (some ⟨p, 0, none⟩), .int .u16 inc, .string d] w (CommitNo p g cap l.length n m R (newI l) w) :=
  (C.commit p g cap _ inc d w hx hinc (by unfold maxLen; omega) ⟨hn, fun k hk => by cases hk; omega⟩).mono fun e w' ⟨he, hx', ho⟩ => by
    subst hR
    obtain ⟨h1, h2⟩ := next_commit (inc := inc) hl hd hq
    obtain ⟨l', a1, a2, a3, a4, a5, -⟩ := cm_torn (n := n) (inc := inc) hl hinc h1 hm
    rw [a1] at he
    rw [a2] at hx'
    exact ⟨l', he, hx', a4, a5, a3, ho⟩
theorem load_is (C : Code) (p g cap : Nat) (x : St) (R : Rc) (b : Bool) (w : World) (hx : CodeAt w p g cap x) (hR : newR x.l = R) (hl : 148 ≤ x.l.length) (hI : decide (0 ≤ newI x.l) = b) :
    Calls Tryd.prog 15 #[.pointer (some ⟨p, 0, none⟩)] w fun e w' => e = .returned (.tuple #[.agg #[.int .u32 R.q, .int .u16 R.i, .string R.d], .bool b]) ∧ Below w.heap.size w w' :=
  (C.load p g cap x w hx).mono fun e w' ⟨he, hb⟩ => by
    have h1 : loadR x.l = R := by unfold loadR; rw [if_pos hl]; exact hR
    have h2 : loadB x.l = b := by unfold loadB; simp [hl, hI]
    rw [h1, h2] at he
    exact ⟨he, hb⟩

/-- At b, o lie the texts xs. -/
def SItems (w : World) (b o : Nat) (xs : List ByteArray) : Prop := ∀ (i : Nat) (x : ByteArray), xs[i]? = some x → w.cell? ⟨b, o + i, none⟩ = some (.string x)
def SFit (xs : List ByteArray) : Prop := ∀ (i : Nat) (x : ByteArray), xs[i]? = some x → x.size ≤ maxLen
def SLies (w : World) (N : Nat) (ao : Option Addr) (xs : List ByteArray) : Prop := 1 ≤ xs.length → ∃ b o, ao = some ⟨b, o, none⟩ ∧ b < N ∧ SItems w b o xs
theorem SLies.below {w w' : World} {N : Nat} {ao : Option Addr} {xs : List ByteArray} (h : SLies w N ao xs) (hb : Below N w w') : SLies w' N ao xs := by
  intro h1
  obtain ⟨b, o, ha, hlt, hI⟩ := h h1
  exact ⟨b, o, ha, hlt, fun i x hx => (hb.cell (p := ⟨b, _, none⟩) hlt).trans (hI i x hx)⟩

/-- What the loop keeps of the bytes. -/
structure Was (k : Nat) (v : ByteArray) (l : List UInt8) (n : Nat) : Prop where
  len : l.length = 148
  idx : decide (0 ≤ newI l) = decide (0 < k)
  nr : newR l = ⟨k, k - 1, v⟩
  n : n ≤ 75 * k
  v : v.size ≤ 64

structure Was2 (k I : Nat) (v : ByteArray) (l : List UInt8) (n : Nat) : Prop where
  len : l.length = 148
  nr : newR l = ⟨k, I, v⟩
  n : n ≤ 600
  v : v.size ≤ 64

set_option maxRecDepth 100000 in
set_option maxHeartbeats 8000000 in
theorem tears_walk (C : Code) (d : ByteArray) (x cap : Nat) (ao : Option Addr) (xs : List ByteArray) (w : World) (hs : d.size ≤ maxLen) (hx : (x : Int) ≤ 255) (hI : SLies w w.heap.size ao xs) (hF : SFit xs) (hl : xs.length ≤ maxLen) :
    Calls Tryd.prog 4 #[.slice ao xs.length cap, .string d, .int .u8 x] w fun e w' => e = .returned (.bool true) ∧ Below w.heap.size w w' := by
  unfold maxLen at hl
  have CC := Lib.hid C
  have HI := Lib.hid hI
  have HF := Lib.hid hF
  unfold maxLen at hs
  clear hI hF C
  by_cases h8 : xs.length ≤ 8
  · by_cases h64 : d.size ≤ 64
    · go_enter Tryd.func4, Tryd.ntmps4
      go_wp2_with fail
      refine (awake_true CC.out _).mono ?_
      rintro e w1 ⟨rfl, hb1⟩
      go_wp2_with fail
      refine (CC.out.size _).mono ?_
      rintro e w1b ⟨rfl, rfl⟩
      go_wp2_with fail
      refine (Sto.new_any 148 148 (by decide) _).mono ?_
      rintro e w2 ⟨p, g, c, rfl, hx2, hp, hg, hb2⟩
      have hA2 : At w.heap.size w w2 p g c ⟨Sto.zeros 148, true, none, 0⟩ := ⟨hx2, hb1.trans (hb2.mono hb1.size), Nat.le_trans hb1.size hp, Nat.le_trans hb1.size hg⟩
      have HN3 : Hid (Was 0 ⟨#[]⟩ (Sto.zeros 148) 0) := ⟨Sto.zeros_length 148, by rw [(zeros_none 148).1]; rfl, (zeros_none 148).2, Nat.le_refl _, by decide⟩
      clear hx2 hp hg hb1 hb2
      generalize Sto.zeros 148 = l0 at *
      go_wp2_with fail
      have HA := Lib.hid hA2
      clear hA2
      go_loopw [33, 8] (fun i s wr => ∃ (k : Nat) (v : ByteArray) (l : List UInt8) (n : Nat), k ≤ xs.length ∧ i = .int .i64 k ∧ s = .string v ∧ Hid (Was k v l n) ∧ At w.heap.size w wr p g c ⟨l, true, none, n⟩) (fun i _ _ => xs.length - (intOf i).toNat)
      case atStart => exact ⟨0, ⟨#[]⟩, l0, 0, Nat.zero_le _, rfl, rfl, HN3, HA.out⟩
      case round =>
        obtain ⟨k, v, l, n, hk, rfl, rfl, HW, hAr⟩ := hrel
        clear HA HN3
        by_cases hlt : k < xs.length
        · have HX := Lib.hid (List.getElem?_eq_getElem hlt)
          obtain ⟨bb, o, rfl, hbb, hi⟩ := HI.out.below hAr.below (by omega)
          have c0 := hi k _ HX.out
          have hf := HF.out k _ HX.out
          unfold maxLen at hf
          clear hi
          generalize xs[k] = s at *
          by_cases hs64 : s.size ≤ 64
          · go_wp2_with fail
            refine (commit_step CC.out p g c l n k s ⟨k, k - 1, v⟩ _ hAr.code HW.out.nr (by rw [HW.out.len]; exact Nat.le_refl _) (by show k ≠ 4294967295; omega) (by have := HW.out.n; omega) hs64 (by omega)).mono ?_
            rintro e w3 ⟨l3, rfl, hx3, hr3, hi3, hn3, ho3⟩
            rw [HW.out.len] at hn3
            have hA3 := hAr.only (Nat.le_refl _) hx3 ho3
            have HN3 : Hid (Was (k + 1) s l3 (n + 75)) := ⟨hn3, (decide_eq_true hi3).trans (decide_eq_true (by omega)).symm, hr3, by have := HW.out.n; omega, hs64⟩
            clear hAr hx3 ho3 hr3 hi3 hn3 c0
            go_wp2_with fail
            go_roundw
            case rel => exact ⟨k + 1, s, l3, _, by omega, by go_num, rfl, HN3, hA3⟩
            case measure => simp [intOf]; omega
          · have hbl := hAr.below
            clear hAr
            go_wp2
            go_ret
            exact ⟨rfl, hbl⟩
        · have hkk : k = xs.length := by omega
          by_cases hK : (xs.length : Int) > 0
          · have hB : decide (0 ≤ newI l) = true := HW.out.idx.trans (decide_eq_true (by omega))
            obtain ⟨I, hI2⟩ : ∃ I, I = k - 1 := ⟨_, rfl⟩
            obtain ⟨Q, hQ2⟩ : ∃ Q, Q = k := ⟨_, rfl⟩
            have hQ : Q ≤ 8 := by omega
            replace HW : Hid (Was2 Q I v l n) := by subst hI2 hQ2; exact ⟨HW.out.len, HW.out.nr, by have := HW.out.n; omega, HW.out.v⟩
            clear hI2 hQ2 hkk
            go_wp2_with fail
            refine (load_is CC.out p g c _ ⟨Q, I, v⟩ true _ hAr.code HW.out.nr (by rw [HW.out.len]; exact Nat.le_refl _) hB).mono ?_
            rintro e w1 ⟨rfl, hb1⟩
            have hA1 := hAr.more (Nat.le_refl _) hb1
            have hal := (Below.refl w1.heap.size w1).alloc (Nat.le_refl _) (Obj.cells #[Value.int IntKind.u32 Q, Value.int IntKind.u16 I, Value.string v] 39)
            have hrA : RecAt (w1.alloc (Obj.cells #[Value.int IntKind.u32 Q, Value.int IntKind.u16 I, Value.string v] 39)) w1.heap.size Q I v := RecAt.new w1 Q I v 39
            have hnp : w1.heap.size ≠ p := by have := hA1.code.plt; omega
            have hng : w1.heap.size ≠ g := by have := hA1.code.glt; omega
            have c0 := hrA.c0
            have c1 := hrA.c1
            have c2 := hrA.c2
            have HZ := Lib.hid (⟨hA1.more (Nat.le_refl _) hal, hrA⟩ : _ ∧ _)
            clear hb1 hA1 hAr hal hrA
            go_wp2_with fail
            obtain ⟨hA2, hrA⟩ := HZ.out
            clear HZ c0 c1 c2
            generalize w1.alloc (Obj.cells #[Value.int IntKind.u32 Q, Value.int IntKind.u16 I, Value.string v] 39) = W1 at *
            generalize w1.heap.size = ba at *
            refine (Sto.arm_any p g c _ _ _ hA2.code).mono ?_
            rintro e w4 ⟨rfl, hx4, ho4⟩
            rw [Int.toNat_natCast] at hx4
            have hA4 : At w.heap.size w w4 p g c ⟨l, true, some x, n⟩ := hA2.only (Nat.le_refl _) hx4 ho4
            have hrA4 := hrA.of (ho4.block ba hrA.lt hnp hng)
            clear hA2 hrA hx4 ho4
            go_wp2_with fail
            by_cases h75 : (x : Int) < 75
            · refine (commit_no CC.out p g c l x n 99 d ⟨Q, I, v⟩ _ hA4.code HW.out.nr (by rw [HW.out.len]; exact Nat.le_refl _) (by show Q ≠ 4294967295; omega) (by have := HW.out.n; omega) (by omega) h64 (by decide)).mono ?_
              rintro e w5 ⟨l5, rfl, hx5, hr5, hi5, hn5, ho5⟩
              rw [HW.out.len] at hn5
              have hA5 := hA4.only (Nat.le_refl _) hx5 ho5
              have hrA5 := hrA4.of (ho5.block ba hrA4.lt hnp hng)
              have HR5 := Lib.hid hr5
              have HI5 : Hid (decide (0 ≤ newI l5) = true) := by rw [hi5]; exact hB
              have HL5 := Lib.hid hn5
              clear hx5 ho5 hA4 hrA4 hr5 hi5 hn5
              go_wp2_with fail
              refine (Sto.off_any p g c _ _ hA5.code).mono ?_
              rintro e w6 ⟨rfl, hx6, ho6⟩
              have hA6 : At w.heap.size w w6 p g c ⟨l5, false, none, n + x⟩ := hA5.only (Nat.le_refl _) hx6 ho6
              have hrA6 := hrA5.of (ho6.block ba hrA5.lt hnp hng)
              clear hA5 hx6 ho6 hrA5
              go_wp2_with fail
              refine (load_is CC.out p g c _ ⟨Q, I, v⟩ true _ hA6.code HR5.out (by rw [HL5.out]; exact Nat.le_refl _) HI5.out).mono ?_
              rintro e w7 ⟨rfl, hb7⟩
              have hA7 := hA6.more (Nat.le_refl _) hb7
              have hrA7 := hrA6.below hb7
              have hal := (Below.refl w7.heap.size w7).alloc (Nat.le_refl _) (Obj.cells #[Value.int IntKind.u32 Q, Value.int IntKind.u16 I, Value.string v] 39)
              have hrB : RecAt (w7.alloc (Obj.cells #[Value.int IntKind.u32 Q, Value.int IntKind.u16 I, Value.string v] 39)) w7.heap.size Q I v := RecAt.new w7 Q I v 39
              have hA8 := hA7.more (Nat.le_refl _) hal
              have hrA8 := hrA7.below hal
              have hbp : w7.heap.size ≠ p := by have := hA7.code.plt; omega
              have hbg : w7.heap.size ≠ g := by have := hA7.code.glt; omega
              have hbs := hrA7.lt
              have HZ := Lib.hid (⟨hA8, hrA8, hrB⟩ : _ ∧ _ ∧ _)
              clear hb7 hA6 hrA6 hA7 hrA7 hal hA8 hrA8 hrB
              go_wp2_with fail
              obtain ⟨hA8, hrA8, hrB⟩ := HZ.out
              clear HZ
              generalize w7.alloc (Obj.cells #[Value.int IntKind.u32 Q, Value.int IntKind.u16 I, Value.string v] 39) = W7 at *
              generalize w7.heap.size = bb at *
              refine (CC.out.cost _).mono ?_
              rintro e w8 ⟨rfl, rfl⟩
              have r0 := hrA8.c0
              have r1 := hrA8.c1
              have r2 := hrA8.c2
              have s0 := hrB.c0
              have s1 := hrB.c1
              have s2 := hrB.c2
              have HZ := Lib.hid (⟨hA8, hrB⟩ : _ ∧ _)
              clear hA8 hrA8 hrB
              go_wp2_with fail
              obtain ⟨hA8, hrB⟩ := HZ.out
              clear HZ r0 r1 r2 s0 s1 s2
              refine (Sto.on_any p g c _ _ hA8.code).mono ?_
              rintro e w9 ⟨rfl, hx9, ho9⟩
              have hA9 : At w.heap.size w w9 p g c ⟨l5, true, none, n + x⟩ := hA8.only (Nat.le_refl _) hx9 ho9
              have hrB9 := hrB.of (ho9.block bb hrB.lt hbp hbg)
              clear hA8 hrB hx9 ho9
              go_wp2_with fail
              obtain ⟨q2, hq2⟩ : ∃ q2, q2 = Q + 1 := ⟨_, rfl⟩
              refine (commit_step CC.out p g c l5 _ 100 v ⟨Q, I, v⟩ _ hA9.code HR5.out (by rw [HL5.out]; exact Nat.le_refl _) (by show Q ≠ 4294967295; omega) (by have := HW.out.n; omega) HW.out.v (by decide)).mono ?_
              rintro e w10 ⟨l10, rfl, hx10, hr10, hi10, hn10, ho10⟩
              rw [HL5.out] at hn10
              have hr10 : newR l10 = ⟨q2, 100, v⟩ := by rw [hr10, hq2]
              have hq3 : (Q : Int) + 1 = (q2 : Int) := by omega
              clear hq2
              have hA10 := hA9.only (Nat.le_refl _) hx10 ho10
              have hrB10 := hrB9.of (ho10.block bb hrB9.lt hbp hbg)
              have HR10 := Lib.hid hr10
              have HI10 := Lib.hid hi10
              have HL10 := Lib.hid hn10
              clear hA9 hrB9 hx10 ho10 hr10 hi10 hn10
              go_wp2_with fail
              refine (load_is CC.out p g c _ ⟨q2, 100, v⟩ true _ hA10.code HR10.out (by rw [HL10.out]; exact Nat.le_refl _) (decide_eq_true HI10.out)).mono ?_
              rintro e w11 ⟨rfl, hb11⟩
              have hA11 := hA10.more (Nat.le_refl _) hb11
              have hrB11 := hrB10.below hb11
              have hal := (Below.refl w11.heap.size w11).alloc (Nat.le_refl _) (Obj.cells #[Value.int IntKind.u32 q2, Value.int IntKind.u16 100, Value.string v] 39)
              have hrC : RecAt (w11.alloc (Obj.cells #[Value.int IntKind.u32 q2, Value.int IntKind.u16 100, Value.string v] 39)) w11.heap.size q2 100 v := RecAt.new w11 q2 100 v 39
              have hrB12 := hrB11.below hal
              have HA12 := Lib.hid (hA11.more (Nat.le_refl _) hal).below
              have s0 := hrB12.c0
              have t0 := hrC.c0
              have t1 := hrC.c1
              have t2 := hrC.c2
              clear hA10 hrB10 hb11 hA11 hrB11 hal hrC hrB12
              go_wp2_with fail
              go_ret
              exact ⟨by simp, HA12.out⟩
            · obtain ⟨q1, hq1⟩ : ∃ q1, q1 = Q + 1 := ⟨_, rfl⟩
              refine (commit_yes CC.out p g c l x n 99 d ⟨Q, I, v⟩ ⟨q1, 99, d⟩ _ hA4.code HW.out.nr (by subst hq1; rfl) (by rw [HW.out.len]; exact Nat.le_refl _) (by show Q ≠ 4294967295; omega) (by have := HW.out.n; omega) (by omega) (by omega) h64 (by decide)).mono ?_
              rintro e w5 ⟨l5, a5, rfl, hx5, hr5, hi5, hn5, ho5⟩
              have hq4 : (Q : Int) + 1 = (q1 : Int) := by omega
              clear hq1
              rw [HW.out.len] at hn5
              have hA5 := hA4.only (Nat.le_refl _) hx5 ho5
              have hrA5 := hrA4.of (ho5.block ba hrA4.lt hnp hng)
              have HR5 := Lib.hid hr5
              have HI5 : Hid (decide (0 ≤ newI l5) = true) := decide_eq_true hi5
              have HL5 := Lib.hid hn5
              clear hx5 ho5 hA4 hrA4 hr5 hi5 hn5
              go_wp2_with fail
              refine (Sto.off_any p g c _ _ hA5.code).mono ?_
              rintro e w6 ⟨rfl, hx6, ho6⟩
              have hA6 : At w.heap.size w w6 p g c ⟨l5, false, none, n + 75⟩ := hA5.only (Nat.le_refl _) hx6 ho6
              have hrA6 := hrA5.of (ho6.block ba hrA5.lt hnp hng)
              clear hA5 hx6 ho6 hrA5
              go_wp2_with fail
              refine (load_is CC.out p g c _ ⟨q1, 99, d⟩ true _ hA6.code HR5.out (by rw [HL5.out]; exact Nat.le_refl _) HI5.out).mono ?_
              rintro e w7 ⟨rfl, hb7⟩
              have hA7 := hA6.more (Nat.le_refl _) hb7
              have hrA7 := hrA6.below hb7
              have hal := (Below.refl w7.heap.size w7).alloc (Nat.le_refl _) (Obj.cells #[Value.int IntKind.u32 q1, Value.int IntKind.u16 99, Value.string d] 39)
              have hrB : RecAt (w7.alloc (Obj.cells #[Value.int IntKind.u32 q1, Value.int IntKind.u16 99, Value.string d] 39)) w7.heap.size q1 99 d := RecAt.new w7 q1 99 d 39
              have hA8 := hA7.more (Nat.le_refl _) hal
              have hrA8 := hrA7.below hal
              have hbp : w7.heap.size ≠ p := by have := hA7.code.plt; omega
              have hbg : w7.heap.size ≠ g := by have := hA7.code.glt; omega
              have hbs := hrA7.lt
              have HZ := Lib.hid (⟨hA8, hrA8, hrB⟩ : _ ∧ _ ∧ _)
              clear hb7 hA6 hrA6 hA7 hrA7 hal hA8 hrA8 hrB
              go_wp2_with fail
              obtain ⟨hA8, hrA8, hrB⟩ := HZ.out
              clear HZ
              generalize w7.alloc (Obj.cells #[Value.int IntKind.u32 q1, Value.int IntKind.u16 99, Value.string d] 39) = W7 at *
              generalize w7.heap.size = bb at *
              refine (CC.out.cost _).mono ?_
              rintro e w8 ⟨rfl, rfl⟩
              have r0 := hrA8.c0
              have r1 := hrA8.c1
              have r2 := hrA8.c2
              have s0 := hrB.c0
              have s1 := hrB.c1
              have s2 := hrB.c2
              have HZ := Lib.hid (⟨hA8, hrB⟩ : _ ∧ _)
              clear hA8 hrA8 hrB
              go_wp2_with fail
              obtain ⟨hA8, hrB⟩ := HZ.out
              clear HZ r0 r1 r2 s0 s1 s2
              refine (Sto.on_any p g c _ _ hA8.code).mono ?_
              rintro e w9 ⟨rfl, hx9, ho9⟩
              have hA9 : At w.heap.size w w9 p g c ⟨l5, true, none, n + 75⟩ := hA8.only (Nat.le_refl _) hx9 ho9
              have hrB9 := hrB.of (ho9.block bb hrB.lt hbp hbg)
              clear hA8 hrB hx9 ho9
              go_wp2_with fail
              obtain ⟨q2, hq2⟩ : ∃ q2, q2 = q1 + 1 := ⟨_, rfl⟩
              refine (commit_step CC.out p g c l5 _ 100 v ⟨q1, 99, d⟩ _ hA9.code HR5.out (by rw [HL5.out]; exact Nat.le_refl _) (by show q1 ≠ 4294967295; omega) (by have := HW.out.n; omega) HW.out.v (by decide)).mono ?_
              rintro e w10 ⟨l10, rfl, hx10, hr10, hi10, hn10, ho10⟩
              rw [HL5.out] at hn10
              have hr10 : newR l10 = ⟨q2, 100, v⟩ := by rw [hr10, hq2]
              have hq3 : (q1 : Int) + 1 = (q2 : Int) := by omega
              clear hq2
              have hA10 := hA9.only (Nat.le_refl _) hx10 ho10
              have hrB10 := hrB9.of (ho10.block bb hrB9.lt hbp hbg)
              have HR10 := Lib.hid hr10
              have HI10 := Lib.hid hi10
              have HL10 := Lib.hid hn10
              clear hA9 hrB9 hx10 ho10 hr10 hi10 hn10
              go_wp2_with fail
              refine (load_is CC.out p g c _ ⟨q2, 100, v⟩ true _ hA10.code HR10.out (by rw [HL10.out]; exact Nat.le_refl _) (decide_eq_true HI10.out)).mono ?_
              rintro e w11 ⟨rfl, hb11⟩
              have hA11 := hA10.more (Nat.le_refl _) hb11
              have hrB11 := hrB10.below hb11
              have hal := (Below.refl w11.heap.size w11).alloc (Nat.le_refl _) (Obj.cells #[Value.int IntKind.u32 q2, Value.int IntKind.u16 100, Value.string v] 39)
              have hrC : RecAt (w11.alloc (Obj.cells #[Value.int IntKind.u32 q2, Value.int IntKind.u16 100, Value.string v] 39)) w11.heap.size q2 100 v := RecAt.new w11 q2 100 v 39
              have hrB12 := hrB11.below hal
              have HA12 := Lib.hid (hA11.more (Nat.le_refl _) hal).below
              have s0 := hrB12.c0
              have t0 := hrC.c0
              have t1 := hrC.c1
              have t2 := hrC.c2
              clear hA10 hrB10 hb11 hA11 hrB11 hal hrC hrB12
              go_wp2_with fail
              go_ret
              exact ⟨by simp, HA12.out⟩
          · have hK0 : xs.length = 0 := by omega
            clear hK
            have hB : decide (0 ≤ newI l) = false := HW.out.idx.trans (decide_eq_false (by omega))
            obtain ⟨I, hI2⟩ : ∃ I, I = k - 1 := ⟨_, rfl⟩
            obtain ⟨Q, hQ2⟩ : ∃ Q, Q = k := ⟨_, rfl⟩
            have hQ : Q ≤ 8 := by omega
            replace HW : Hid (Was2 Q I v l n) := by subst hI2 hQ2; exact ⟨HW.out.len, HW.out.nr, by have := HW.out.n; omega, HW.out.v⟩
            clear hI2 hQ2 hkk
            go_wp2_with fail
            refine (load_is CC.out p g c _ ⟨Q, I, v⟩ false _ hAr.code HW.out.nr (by rw [HW.out.len]; exact Nat.le_refl _) hB).mono ?_
            rintro e w1 ⟨rfl, hb1⟩
            have hA1 := hAr.more (Nat.le_refl _) hb1
            have hal := (Below.refl w1.heap.size w1).alloc (Nat.le_refl _) (Obj.cells #[Value.int IntKind.u32 Q, Value.int IntKind.u16 I, Value.string v] 39)
            have hrA : RecAt (w1.alloc (Obj.cells #[Value.int IntKind.u32 Q, Value.int IntKind.u16 I, Value.string v] 39)) w1.heap.size Q I v := RecAt.new w1 Q I v 39
            have hnp : w1.heap.size ≠ p := by have := hA1.code.plt; omega
            have hng : w1.heap.size ≠ g := by have := hA1.code.glt; omega
            have c0 := hrA.c0
            have c1 := hrA.c1
            have c2 := hrA.c2
            have HZ := Lib.hid (⟨hA1.more (Nat.le_refl _) hal, hrA⟩ : _ ∧ _)
            clear hb1 hA1 hAr hal hrA
            go_wp2_with fail
            obtain ⟨hA2, hrA⟩ := HZ.out
            clear HZ c0 c1 c2
            generalize w1.alloc (Obj.cells #[Value.int IntKind.u32 Q, Value.int IntKind.u16 I, Value.string v] 39) = W1 at *
            generalize w1.heap.size = ba at *
            refine (Sto.arm_any p g c _ _ _ hA2.code).mono ?_
            rintro e w4 ⟨rfl, hx4, ho4⟩
            rw [Int.toNat_natCast] at hx4
            have hA4 : At w.heap.size w w4 p g c ⟨l, true, some x, n⟩ := hA2.only (Nat.le_refl _) hx4 ho4
            have hrA4 := hrA.of (ho4.block ba hrA.lt hnp hng)
            clear hA2 hrA hx4 ho4
            go_wp2_with fail
            by_cases h75 : (x : Int) < 75
            · refine (commit_no CC.out p g c l x n 99 d ⟨Q, I, v⟩ _ hA4.code HW.out.nr (by rw [HW.out.len]; exact Nat.le_refl _) (by show Q ≠ 4294967295; omega) (by have := HW.out.n; omega) (by omega) h64 (by decide)).mono ?_
              rintro e w5 ⟨l5, rfl, hx5, hr5, hi5, hn5, ho5⟩
              rw [HW.out.len] at hn5
              have hA5 := hA4.only (Nat.le_refl _) hx5 ho5
              have hrA5 := hrA4.of (ho5.block ba hrA4.lt hnp hng)
              have HR5 := Lib.hid hr5
              have HI5 : Hid (decide (0 ≤ newI l5) = false) := by rw [hi5]; exact hB
              have HL5 := Lib.hid hn5
              clear hx5 ho5 hA4 hrA4 hr5 hi5 hn5
              go_wp2_with fail
              refine (Sto.off_any p g c _ _ hA5.code).mono ?_
              rintro e w6 ⟨rfl, hx6, ho6⟩
              have hA6 : At w.heap.size w w6 p g c ⟨l5, false, none, n + x⟩ := hA5.only (Nat.le_refl _) hx6 ho6
              have hrA6 := hrA5.of (ho6.block ba hrA5.lt hnp hng)
              clear hA5 hx6 ho6 hrA5
              go_wp2_with fail
              refine (load_is CC.out p g c _ ⟨Q, I, v⟩ false _ hA6.code HR5.out (by rw [HL5.out]; exact Nat.le_refl _) HI5.out).mono ?_
              rintro e w7 ⟨rfl, hb7⟩
              have hA7 := hA6.more (Nat.le_refl _) hb7
              have hrA7 := hrA6.below hb7
              have hal := (Below.refl w7.heap.size w7).alloc (Nat.le_refl _) (Obj.cells #[Value.int IntKind.u32 Q, Value.int IntKind.u16 I, Value.string v] 39)
              have hrB : RecAt (w7.alloc (Obj.cells #[Value.int IntKind.u32 Q, Value.int IntKind.u16 I, Value.string v] 39)) w7.heap.size Q I v := RecAt.new w7 Q I v 39
              have hA8 := hA7.more (Nat.le_refl _) hal
              have hrA8 := hrA7.below hal
              have hbp : w7.heap.size ≠ p := by have := hA7.code.plt; omega
              have hbg : w7.heap.size ≠ g := by have := hA7.code.glt; omega
              have hbs := hrA7.lt
              have HZ := Lib.hid (⟨hA8, hrA8, hrB⟩ : _ ∧ _ ∧ _)
              clear hb7 hA6 hrA6 hA7 hrA7 hal hA8 hrA8 hrB
              go_wp2_with fail
              obtain ⟨hA8, hrA8, hrB⟩ := HZ.out
              clear HZ
              generalize w7.alloc (Obj.cells #[Value.int IntKind.u32 Q, Value.int IntKind.u16 I, Value.string v] 39) = W7 at *
              generalize w7.heap.size = bb at *
              refine (CC.out.cost _).mono ?_
              rintro e w8 ⟨rfl, rfl⟩
              have r0 := hrA8.c0
              have r1 := hrA8.c1
              have r2 := hrA8.c2
              have s0 := hrB.c0
              have s1 := hrB.c1
              have s2 := hrB.c2
              have HZ := Lib.hid (⟨hA8, hrB⟩ : _ ∧ _)
              clear hA8 hrA8 hrB
              go_wp2_with fail
              obtain ⟨hA8, hrB⟩ := HZ.out
              clear HZ r0 r1 r2 s0 s1 s2
              refine (Sto.on_any p g c _ _ hA8.code).mono ?_
              rintro e w9 ⟨rfl, hx9, ho9⟩
              have hA9 : At w.heap.size w w9 p g c ⟨l5, true, none, n + x⟩ := hA8.only (Nat.le_refl _) hx9 ho9
              have hrB9 := hrB.of (ho9.block bb hrB.lt hbp hbg)
              clear hA8 hrB hx9 ho9
              go_wp2_with fail
              obtain ⟨q2, hq2⟩ : ∃ q2, q2 = Q + 1 := ⟨_, rfl⟩
              refine (commit_step CC.out p g c l5 _ 100 v ⟨Q, I, v⟩ _ hA9.code HR5.out (by rw [HL5.out]; exact Nat.le_refl _) (by show Q ≠ 4294967295; omega) (by have := HW.out.n; omega) HW.out.v (by decide)).mono ?_
              rintro e w10 ⟨l10, rfl, hx10, hr10, hi10, hn10, ho10⟩
              rw [HL5.out] at hn10
              have hr10 : newR l10 = ⟨q2, 100, v⟩ := by rw [hr10, hq2]
              have hq3 : (Q : Int) + 1 = (q2 : Int) := by omega
              clear hq2
              have hA10 := hA9.only (Nat.le_refl _) hx10 ho10
              have hrB10 := hrB9.of (ho10.block bb hrB9.lt hbp hbg)
              have HR10 := Lib.hid hr10
              have HI10 := Lib.hid hi10
              have HL10 := Lib.hid hn10
              clear hA9 hrB9 hx10 ho10 hr10 hi10 hn10
              go_wp2_with fail
              refine (load_is CC.out p g c _ ⟨q2, 100, v⟩ true _ hA10.code HR10.out (by rw [HL10.out]; exact Nat.le_refl _) (decide_eq_true HI10.out)).mono ?_
              rintro e w11 ⟨rfl, hb11⟩
              have hA11 := hA10.more (Nat.le_refl _) hb11
              have hrB11 := hrB10.below hb11
              have hal := (Below.refl w11.heap.size w11).alloc (Nat.le_refl _) (Obj.cells #[Value.int IntKind.u32 q2, Value.int IntKind.u16 100, Value.string v] 39)
              have hrC : RecAt (w11.alloc (Obj.cells #[Value.int IntKind.u32 q2, Value.int IntKind.u16 100, Value.string v] 39)) w11.heap.size q2 100 v := RecAt.new w11 q2 100 v 39
              have hrB12 := hrB11.below hal
              have HA12 := Lib.hid (hA11.more (Nat.le_refl _) hal).below
              have s0 := hrB12.c0
              have t0 := hrC.c0
              have t1 := hrC.c1
              have t2 := hrC.c2
              clear hA10 hrB10 hb11 hA11 hrB11 hal hrC hrB12
              go_wp2_with fail
              go_ret
              exact ⟨by simp, HA12.out⟩
            · obtain ⟨q1, hq1⟩ : ∃ q1, q1 = Q + 1 := ⟨_, rfl⟩
              refine (commit_yes CC.out p g c l x n 99 d ⟨Q, I, v⟩ ⟨q1, 99, d⟩ _ hA4.code HW.out.nr (by subst hq1; rfl) (by rw [HW.out.len]; exact Nat.le_refl _) (by show Q ≠ 4294967295; omega) (by have := HW.out.n; omega) (by omega) (by omega) h64 (by decide)).mono ?_
              rintro e w5 ⟨l5, a5, rfl, hx5, hr5, hi5, hn5, ho5⟩
              have hq4 : (Q : Int) + 1 = (q1 : Int) := by omega
              clear hq1
              rw [HW.out.len] at hn5
              have hA5 := hA4.only (Nat.le_refl _) hx5 ho5
              have hrA5 := hrA4.of (ho5.block ba hrA4.lt hnp hng)
              have HR5 := Lib.hid hr5
              have HI5 : Hid (decide (0 ≤ newI l5) = true) := decide_eq_true hi5
              have HL5 := Lib.hid hn5
              clear hx5 ho5 hA4 hrA4 hr5 hi5 hn5
              go_wp2_with fail
              refine (Sto.off_any p g c _ _ hA5.code).mono ?_
              rintro e w6 ⟨rfl, hx6, ho6⟩
              have hA6 : At w.heap.size w w6 p g c ⟨l5, false, none, n + 75⟩ := hA5.only (Nat.le_refl _) hx6 ho6
              have hrA6 := hrA5.of (ho6.block ba hrA5.lt hnp hng)
              clear hA5 hx6 ho6 hrA5
              go_wp2_with fail
              refine (load_is CC.out p g c _ ⟨q1, 99, d⟩ true _ hA6.code HR5.out (by rw [HL5.out]; exact Nat.le_refl _) HI5.out).mono ?_
              rintro e w7 ⟨rfl, hb7⟩
              have hA7 := hA6.more (Nat.le_refl _) hb7
              have hrA7 := hrA6.below hb7
              have hal := (Below.refl w7.heap.size w7).alloc (Nat.le_refl _) (Obj.cells #[Value.int IntKind.u32 q1, Value.int IntKind.u16 99, Value.string d] 39)
              have hrB : RecAt (w7.alloc (Obj.cells #[Value.int IntKind.u32 q1, Value.int IntKind.u16 99, Value.string d] 39)) w7.heap.size q1 99 d := RecAt.new w7 q1 99 d 39
              have hA8 := hA7.more (Nat.le_refl _) hal
              have hrA8 := hrA7.below hal
              have hbp : w7.heap.size ≠ p := by have := hA7.code.plt; omega
              have hbg : w7.heap.size ≠ g := by have := hA7.code.glt; omega
              have hbs := hrA7.lt
              have HZ := Lib.hid (⟨hA8, hrA8, hrB⟩ : _ ∧ _ ∧ _)
              clear hb7 hA6 hrA6 hA7 hrA7 hal hA8 hrA8 hrB
              go_wp2_with fail
              obtain ⟨hA8, hrA8, hrB⟩ := HZ.out
              clear HZ
              generalize w7.alloc (Obj.cells #[Value.int IntKind.u32 q1, Value.int IntKind.u16 99, Value.string d] 39) = W7 at *
              generalize w7.heap.size = bb at *
              refine (CC.out.cost _).mono ?_
              rintro e w8 ⟨rfl, rfl⟩
              have r0 := hrA8.c0
              have r1 := hrA8.c1
              have r2 := hrA8.c2
              have s0 := hrB.c0
              have s1 := hrB.c1
              have s2 := hrB.c2
              have HZ := Lib.hid (⟨hA8, hrB⟩ : _ ∧ _)
              clear hA8 hrA8 hrB
              go_wp2_with fail
              obtain ⟨hA8, hrB⟩ := HZ.out
              clear HZ r0 r1 r2 s0 s1 s2
              refine (Sto.on_any p g c _ _ hA8.code).mono ?_
              rintro e w9 ⟨rfl, hx9, ho9⟩
              have hA9 : At w.heap.size w w9 p g c ⟨l5, true, none, n + 75⟩ := hA8.only (Nat.le_refl _) hx9 ho9
              have hrB9 := hrB.of (ho9.block bb hrB.lt hbp hbg)
              clear hA8 hrB hx9 ho9
              go_wp2_with fail
              obtain ⟨q2, hq2⟩ : ∃ q2, q2 = q1 + 1 := ⟨_, rfl⟩
              refine (commit_step CC.out p g c l5 _ 100 v ⟨q1, 99, d⟩ _ hA9.code HR5.out (by rw [HL5.out]; exact Nat.le_refl _) (by show q1 ≠ 4294967295; omega) (by have := HW.out.n; omega) HW.out.v (by decide)).mono ?_
              rintro e w10 ⟨l10, rfl, hx10, hr10, hi10, hn10, ho10⟩
              rw [HL5.out] at hn10
              have hr10 : newR l10 = ⟨q2, 100, v⟩ := by rw [hr10, hq2]
              have hq3 : (q1 : Int) + 1 = (q2 : Int) := by omega
              clear hq2
              have hA10 := hA9.only (Nat.le_refl _) hx10 ho10
              have hrB10 := hrB9.of (ho10.block bb hrB9.lt hbp hbg)
              have HR10 := Lib.hid hr10
              have HI10 := Lib.hid hi10
              have HL10 := Lib.hid hn10
              clear hA9 hrB9 hx10 ho10 hr10 hi10 hn10
              go_wp2_with fail
              refine (load_is CC.out p g c _ ⟨q2, 100, v⟩ true _ hA10.code HR10.out (by rw [HL10.out]; exact Nat.le_refl _) (decide_eq_true HI10.out)).mono ?_
              rintro e w11 ⟨rfl, hb11⟩
              have hA11 := hA10.more (Nat.le_refl _) hb11
              have hrB11 := hrB10.below hb11
              have hal := (Below.refl w11.heap.size w11).alloc (Nat.le_refl _) (Obj.cells #[Value.int IntKind.u32 q2, Value.int IntKind.u16 100, Value.string v] 39)
              have hrC : RecAt (w11.alloc (Obj.cells #[Value.int IntKind.u32 q2, Value.int IntKind.u16 100, Value.string v] 39)) w11.heap.size q2 100 v := RecAt.new w11 q2 100 v 39
              have hrB12 := hrB11.below hal
              have HA12 := Lib.hid (hA11.more (Nat.le_refl _) hal).below
              have s0 := hrB12.c0
              have t0 := hrC.c0
              have t1 := hrC.c1
              have t2 := hrC.c2
              clear hA10 hrB10 hb11 hA11 hrB11 hal hrC hrB12
              go_wp2_with fail
              go_ret
              exact ⟨by simp, HA12.out⟩
    · clear HI HF
      go_enter Tryd.func4, Tryd.ntmps4
      go_wp2_with fail
      refine (awake_true CC.out _).mono ?_
      rintro e w1 ⟨rfl, hb1⟩
      go_wp2_with fail
      go_ret
      exact ⟨rfl, hb1⟩
  · clear HI HF
    go_enter Tryd.func4, Tryd.ntmps4
    go_wp2_with fail
    refine (awake_true CC.out _).mono ?_
    rintro e w1 ⟨rfl, hb1⟩
    go_wp2_with fail
    go_ret
    exact ⟨rfl, hb1⟩

end Go.Proofs.YtahmngmbgbcmhaaDoor.Ret
