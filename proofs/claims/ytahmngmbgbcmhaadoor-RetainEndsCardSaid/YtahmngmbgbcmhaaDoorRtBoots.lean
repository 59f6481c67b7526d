/-
  The law RetainBoots, walked: it returns true, where the calls answer as is asked. Conditions: that, and on sizes.
-/
import Derived.Test.YtahmngmbgbcmhaaDoorRtRuns
namespace Go.Proofs.YtahmngmbgbcmhaaDoor.Ret
open Go.RowKit
open Oct
open Sto (St CodeAt Only)

/-- What a boot that writes all, and one that doesn't, leave. -/
def BootYes (p g cap : Nat) (len n : Nat) (R : Rc) (w : World) (e : Ending) (w' : World) : Prop :=
  ∃ l' a', e = .returned (.tuple #[.agg #[.int .u32 R.q, .int .u16 R.i, .string R.d], .int .i64 0]) ∧ CodeAt w' p g cap ⟨l', true, a', n + 75⟩ ∧ newR l' = R ∧ 0 ≤ newI l' ∧ l'.length = len ∧ Only p g w w'
def BootNo (p g cap : Nat) (len n m : Nat) (R : Rc) (I : Int) (w : World) (e : Ending) (w' : World) : Prop :=
  ∃ l', e = .returned (.tuple #[.agg #[.int .u32 0, .int .u16 0, .string ⟨#[]⟩], .int .i64 12]) ∧ CodeAt w' p g cap ⟨l', false, none, n + m⟩ ∧ newR l' = R ∧ newI l' = I ∧ l'.length = len ∧ Only p g w w'

theorem boot_yes (C : Code) (p g cap : Nat) (l : List UInt8) (a : Option Nat) (n : Nat) (R R1 : Rc) (w : World) (hx : CodeAt w p g cap ⟨l, true, a, n⟩) (hR : newR l = R) (hR1 : R1 = ⟨R.q + 1, R.i + 1, R.d⟩) (hl : 148 ≤ l.length) (hi : R.i ≠ 65535) (hq : R.q ≠ 4294967295) (hn : n ≤ 1000000) (ha : ∀ m, a = some m → 75 ≤ m ∧ m ≤ 255) :
    Calls Tryd.prog 19 #[.pointer (some ⟨p, 0, none⟩)] w (BootYes p g cap l.length n R1 w) :=
  (C.boot p g cap _ w hx ⟨hn, fun k hk => by have := ha k hk; omega⟩).mono fun e w' ⟨he, hx', ho⟩ => by
    subst hR hR1
    obtain ⟨h1, h2⟩ := next_boot (inc := 0) (d := ⟨#[]⟩) hl hi hq
    cases a with
    | none =>
      obtain ⟨l', a1, a2, a3, a4, a5⟩ := cm_free (n := n) (inc := 0) hl (by decide) h1
      unfold btR at he
      rw [if_pos a1, a1, h2] at he
      rw [a2] at hx'
      rw [h2] at a4
      exact ⟨l', none, he, hx', a4, a5, a3, ho⟩
    | some m =>
      obtain ⟨hm, hm2⟩ := ha m rfl
      obtain ⟨l', a1, a2, a3, a4, a5⟩ := cm_full (n := n) (inc := 0) hl (by decide) h1 hm
      unfold btR at he
      rw [if_pos a1, a1, h2] at he
      rw [a2] at hx'
      rw [h2] at a4
      exact ⟨l', some (m - 75), he, hx', a4, a5, a3, ho⟩
theorem boot_no (C : Code) (p g cap : Nat) (l : List UInt8) (m n : Nat) (R : Rc) (w : World) (hx : CodeAt w p g cap ⟨l, true, some m, n⟩) (hR : newR l = R) (hl : 148 ≤ l.length) (hi : R.i ≠ 65535) (hq : R.q ≠ 4294967295) (hn : n ≤ 1000000) (hm : m < 75) :
    Calls Tryd.prog 19 #[.pointer (some ⟨p, 0, none⟩)] w (BootNo p g cap l.length n m R (newI l) w) :=
  (C.boot p g cap _ w hx ⟨hn, fun k hk => by cases hk; omega⟩).mono fun e w' ⟨he, hx', ho⟩ => by
    subst hR
    obtain ⟨h1, h2⟩ := next_boot (inc := 0) (d := ⟨#[]⟩) hl hi hq
    obtain ⟨l', a1, a2, a3, a4, a5, -⟩ := cm_torn (n := n) (inc := 0) hl (by decide) h1 hm
    unfold btR at he
    rw [if_neg (by rw [a1]; decide), a1] at he
    rw [a2] at hx'
    exact ⟨l', he, hx', a4, a5, a3, ho⟩

/-- At b, o lie the numbers xs. -/
def BItems (w : World) (b o : Nat) (xs : List Nat) : Prop := ∀ (i x : Nat), xs[i]? = some x → w.cell? ⟨b, o + i, none⟩ = some (.int .u8 x)
def BFit (xs : List Nat) : Prop := ∀ (i x : Nat), xs[i]? = some x → (x : Int) ≤ 255
def BLies (w : World) (N : Nat) (ao : Option Addr) (xs : List Nat) : Prop := 1 ≤ xs.length → ∃ b o, ao = some ⟨b, o, none⟩ ∧ b < N ∧ BItems w b o xs
theorem BLies.below {w w' : World} {N : Nat} {ao : Option Addr} {xs : List Nat} (h : BLies w N ao xs) (hb : Below N w w') : BLies w' N ao xs := by
  intro h1
  obtain ⟨b, o, ha, hlt, hI⟩ := h h1
  exact ⟨b, o, ha, hlt, fun i x hx => (hb.cell (p := ⟨b, _, none⟩) hlt).trans (hI i x hx)⟩

/-- What the loop keeps of the bytes. -/
structure Now (d : ByteArray) (k q L : Nat) (l : List UInt8) (n : Nat) : Prop where
  len : l.length = 148
  idx : 0 ≤ newI l
  nr : newR l = ⟨q, L, d⟩
  q : q ≤ k + 1
  i : L ≤ 5 + k
  n : n ≤ 75 * (k + 1)

set_option maxRecDepth 100000 in
set_option maxHeartbeats 8000000 in
theorem boots_walk (C : Code) (d : ByteArray) (cap : Nat) (ao : Option Addr) (xs : List Nat) (w : World) (hs : d.size ≤ maxLen) (hI : BLies w w.heap.size ao xs) (hF : BFit xs) (hl : xs.length ≤ maxLen) :
    Calls Tryd.prog 5 #[.string d, .slice ao xs.length cap] w fun e w' => e = .returned (.bool true) ∧ Below w.heap.size w w' := by
  unfold maxLen at hl
  have CC := Lib.hid C
  have HI := Lib.hid hI
  have HF := Lib.hid hF
  have HS := Lib.hid hs
  unfold maxLen at hs
  clear hI hF C
  by_cases h64 : d.size ≤ 64
  · by_cases h30 : xs.length ≤ 30
    · go_enter Tryd.func5, Tryd.ntmps5
      go_wp2_with fail
      refine (awake_true CC.out _).mono ?_
      rintro e w1 ⟨rfl, hb1⟩
      go_wp2_with fail
      refine (CC.out.size _).mono ?_
      rintro e w1b ⟨rfl, rfl⟩
      go_wp2_with fail
      refine (Sto.new_any 148 148 (by decide) _).mono ?_
      rintro e w2 ⟨p, g, c, rfl, hx2, hp, hg, hb2⟩
      have hA2 : At w.heap.size w w2 p g c ⟨Sto.zeros 148, true, none, 0⟩ := ⟨hx2, hb1.trans (hb2.mono hb1.size), Nat.le_trans hb1.size hp, Nat.le_trans hb1.size hg⟩
      clear hx2 hp hg hb1 hb2
      go_wp2_with fail
      refine (commit_step CC.out p g c _ 0 5 d ⟨0, 0, ⟨#[]⟩⟩ _ hA2.code (zeros_none 148).2 (by rw [Sto.zeros_length]; exact Nat.le_refl _) (by decide) (by decide) h64 (by decide)).mono ?_
      rintro e w3 ⟨l3, rfl, hx3, hr3, hi3, hn3, ho3⟩
      rw [Sto.zeros_length] at hn3
      have HA := Lib.hid (hA2.only (Nat.le_refl _) hx3 ho3)
      have HN3 : Hid (Now d 0 1 5 l3 75) := ⟨hn3, hi3, hr3, Nat.le_refl _, Nat.le_refl _, Nat.le_refl _⟩
      clear hA2 hx3 hr3 hi3 hn3 ho3
      go_wp2_with fail
      go_loopw [31, 6] (fun i v wr => ∃ (k q L : Nat) (l : List UInt8) (n : Nat), k ≤ xs.length ∧ i = .int .i64 k ∧ v = .int .u16 L ∧ Hid (Now d k q L l n) ∧ At w.heap.size w wr p g c ⟨l, true, none, n⟩) (fun i _ _ => xs.length - (intOf i).toNat)
      case atStart => exact ⟨0, 1, 5, l3, _, Nat.zero_le _, rfl, rfl, HN3, HA.out⟩
      case round =>
        obtain ⟨k, q, L, l, n, hk, rfl, rfl, HW, hAr⟩ := hrel
        clear HA HN3
        by_cases hlt : k < xs.length
        · have HX := Lib.hid (List.getElem?_eq_getElem hlt)
          obtain ⟨bb, o, rfl, hbb, hi⟩ := HI.out.below hAr.below (by omega)
          have c0 := hi k _ HX.out
          have hf := HF.out k _ HX.out
          clear hi
          generalize xs[k] = x at *
          by_cases h200 : (x : Int) < 200
          · by_cases h75 : (x : Int) ≥ 75
            · go_wp2_with fail
              refine (Sto.arm_any p g c _ _ _ hAr.code).mono ?_
              rintro e w4 ⟨rfl, hx4, ho4⟩
              rw [Int.toNat_natCast] at hx4
              have hA4 := hAr.only (Nat.le_refl _) hx4 ho4
              clear hAr hx4 ho4 c0
              go_wp2_with fail
              obtain ⟨q1, hq1⟩ : ∃ q1, q1 = q + 1 := ⟨_, rfl⟩
              obtain ⟨L1, hL1⟩ : ∃ L1, L1 = L + 1 := ⟨_, rfl⟩
              have hle : ¬ ((L1 : Int) ≤ (L : Int)) := by omega
              refine (boot_yes CC.out p g c l (some x) n ⟨q, L, d⟩ ⟨q1, L1, d⟩ _ hA4.code HW.out.nr (by subst hq1 hL1; rfl) (by rw [HW.out.len]; exact Nat.le_refl _) (by have := HW.out.i; show L ≠ 65535; omega) (by have := HW.out.q; show q ≠ 4294967295; omega) (by have := HW.out.n; omega) (by intro m hm; cases hm; omega)).mono ?_
              rintro e w5 ⟨l5, a5, rfl, hx5, hr5, hi5, hn5, ho5⟩
              rw [HW.out.len] at hn5
              have hA5 := hA4.only (Nat.le_refl _) hx5 ho5
              have hal := (Below.refl w5.heap.size w5).alloc (Nat.le_refl _) (Obj.cells #[Value.int IntKind.u32 q1, Value.int IntKind.u16 L1, Value.string d] 39)
              have hrr : RecAt _ w5.heap.size q1 L1 d := RecAt.new w5 q1 L1 d 39
              have HZ := Lib.hid (⟨hA5.more (Nat.le_refl _) hal, hrr⟩ : _ ∧ _)
              have HN5 : Hid (Now d (k + 1) q1 L1 l5 (n + 75)) := ⟨hn5, hi5, hr5, by have := HW.out.q; omega, by have := HW.out.i; omega, by have := HW.out.n; omega⟩
              clear hx5 ho5 hA5 hA4 hal hrr hr5 hi5 hn5 hq1 hL1
              go_wp2_with fail
              obtain ⟨hA6, hrr⟩ := HZ.out
              clear HZ
              generalize w5.alloc (Obj.cells #[Value.int IntKind.u32 q1, Value.int IntKind.u16 L1, Value.string d] 39) = W5 at *
              generalize w5.heap.size = b5 at *
              refine (CC.out.cost _).mono ?_
              rintro e w6 ⟨rfl, rfl⟩
              have r1 := hrr.c1
              have r2 := hrr.c2
              clear hrr
              go_wp2_with fail
              clear r1 r2
              refine (Sto.off_any p g c _ _ hA6.code).mono ?_
              rintro e w7 ⟨rfl, hx7, ho7⟩
              have hA7 := hA6.only (Nat.le_refl _) hx7 ho7
              clear hA6 hx7 ho7
              go_wp2_with fail
              refine (Sto.on_any p g c _ _ hA7.code).mono ?_
              rintro e w8 ⟨rfl, hx8, ho8⟩
              have hA8 : At w.heap.size w w8 p g c ⟨l5, true, none, n + 75⟩ := hA7.only (Nat.le_refl _) hx8 ho8
              clear hA7 hx8 ho8
              go_wp2_with fail
              refine (load_step CC.out p g c _ ⟨q1, L1, d⟩ _ hA8.code HN5.out.nr (by rw [HN5.out.len]; exact Nat.le_refl _) HN5.out.idx q1 L1 rfl rfl).mono ?_
              rintro e w9 ⟨rfl, hb9⟩
              have hA9 := hA8.more (Nat.le_refl _) hb9
              have hal := (Below.refl w9.heap.size w9).alloc (Nat.le_refl _) (Obj.cells #[Value.int IntKind.u32 q1, Value.int IntKind.u16 L1, Value.string d] 39)
              have hrr : RecAt _ w9.heap.size q1 L1 d := RecAt.new w9 q1 L1 d 39
              have hAe := Lib.hid (hA9.more (Nat.le_refl _) hal)
              have r1 := hrr.c1
              have r2 := hrr.c2
              clear hal hrr hA8 hb9 hA9
              go_wp2_with fail
              go_roundw
              case rel => exact ⟨k + 1, q1, L1, _, _, by omega, by go_num, rfl, HN5, hAe.out⟩
              case measure => simp [intOf]; omega
            · go_wp2_with fail
              refine (Sto.arm_any p g c _ _ _ hAr.code).mono ?_
              rintro e w4 ⟨rfl, hx4, ho4⟩
              rw [Int.toNat_natCast] at hx4
              have hA4 := hAr.only (Nat.le_refl _) hx4 ho4
              clear hAr hx4 ho4 c0
              go_wp2_with fail
              refine (boot_no CC.out p g c l x n ⟨q, L, d⟩ _ hA4.code HW.out.nr (by rw [HW.out.len]; exact Nat.le_refl _) (by have := HW.out.i; show L ≠ 65535; omega) (by have := HW.out.q; show q ≠ 4294967295; omega) (by have := HW.out.n; omega) (by omega)).mono ?_
              rintro e w5 ⟨l5, rfl, hx5, hr5, hi5, hn5, ho5⟩
              rw [HW.out.len] at hn5
              have hA5 := hA4.only (Nat.le_refl _) hx5 ho5
              have hal := (Below.refl w5.heap.size w5).alloc (Nat.le_refl _) (Obj.cells #[Value.int IntKind.u32 0, Value.int IntKind.u16 0, Value.string { data := #[] }] 39)
              have HZ := Lib.hid (hA5.more (Nat.le_refl _) hal)
              have HN5 : Hid (Now d (k + 1) q L l5 (n + x)) := ⟨hn5, by rw [hi5]; exact HW.out.idx, hr5, by have := HW.out.q; omega, by have := HW.out.i; omega, by have := HW.out.n; omega⟩
              clear hx5 ho5 hA5 hA4 hal hr5 hi5 hn5
              go_wp2_with fail
              have hA6 := HZ.out
              clear HZ
              generalize w5.alloc (Obj.cells #[Value.int IntKind.u32 0, Value.int IntKind.u16 0, Value.string { data := #[] }] 39) = W5 at *
              generalize w5.heap.size = b5 at *
              refine (CC.out.cost _).mono ?_
              rintro e w6 ⟨rfl, rfl⟩
              go_wp2_with fail
              refine (Sto.off_any p g c _ _ hA6.code).mono ?_
              rintro e w7 ⟨rfl, hx7, ho7⟩
              have hA7 := hA6.only (Nat.le_refl _) hx7 ho7
              clear hA6 hx7 ho7
              go_wp2_with fail
              refine (Sto.on_any p g c _ _ hA7.code).mono ?_
              rintro e w8 ⟨rfl, hx8, ho8⟩
              have hA8 : At w.heap.size w w8 p g c ⟨l5, true, none, n + x⟩ := hA7.only (Nat.le_refl _) hx8 ho8
              clear hA7 hx8 ho8
              go_wp2_with fail
              refine (load_step CC.out p g c _ ⟨q, L, d⟩ _ hA8.code HN5.out.nr (by rw [HN5.out.len]; exact Nat.le_refl _) HN5.out.idx q L rfl rfl).mono ?_
              rintro e w9 ⟨rfl, hb9⟩
              have hA9 := hA8.more (Nat.le_refl _) hb9
              have hal := (Below.refl w9.heap.size w9).alloc (Nat.le_refl _) (Obj.cells #[Value.int IntKind.u32 q, Value.int IntKind.u16 L, Value.string d] 39)
              have hrr : RecAt _ w9.heap.size q L d := RecAt.new w9 q L d 39
              have hAe := Lib.hid (hA9.more (Nat.le_refl _) hal)
              have r1 := hrr.c1
              have r2 := hrr.c2
              clear hal hrr hA8 hb9 hA9
              go_wp2_with fail
              go_roundw
              case rel => exact ⟨k + 1, q, L, _, _, by omega, by go_num, rfl, HN5, hAe.out⟩
              case measure => simp [intOf]; omega
          · have h75 : (x : Int) ≥ 75 := by omega
            go_wp2_with fail
            have hA4 := hAr
            clear hAr c0
            obtain ⟨q1, hq1⟩ : ∃ q1, q1 = q + 1 := ⟨_, rfl⟩
            obtain ⟨L1, hL1⟩ : ∃ L1, L1 = L + 1 := ⟨_, rfl⟩
            have hle : ¬ ((L1 : Int) ≤ (L : Int)) := by omega
            refine (boot_yes CC.out p g c l none n ⟨q, L, d⟩ ⟨q1, L1, d⟩ _ hA4.code HW.out.nr (by subst hq1 hL1; rfl) (by rw [HW.out.len]; exact Nat.le_refl _) (by have := HW.out.i; show L ≠ 65535; omega) (by have := HW.out.q; show q ≠ 4294967295; omega) (by have := HW.out.n; omega) (by intro m hm; cases hm)).mono ?_
            rintro e w5 ⟨l5, a5, rfl, hx5, hr5, hi5, hn5, ho5⟩
            rw [HW.out.len] at hn5
            have hA5 := hA4.only (Nat.le_refl _) hx5 ho5
            have hal := (Below.refl w5.heap.size w5).alloc (Nat.le_refl _) (Obj.cells #[Value.int IntKind.u32 q1, Value.int IntKind.u16 L1, Value.string d] 39)
            have hrr : RecAt _ w5.heap.size q1 L1 d := RecAt.new w5 q1 L1 d 39
            have HZ := Lib.hid (⟨hA5.more (Nat.le_refl _) hal, hrr⟩ : _ ∧ _)
            have HN5 : Hid (Now d (k + 1) q1 L1 l5 (n + 75)) := ⟨hn5, hi5, hr5, by have := HW.out.q; omega, by have := HW.out.i; omega, by have := HW.out.n; omega⟩
            clear hx5 ho5 hA5 hA4 hal hrr hr5 hi5 hn5 hq1 hL1
            go_wp2_with fail
            obtain ⟨hA6, hrr⟩ := HZ.out
            clear HZ
            generalize w5.alloc (Obj.cells #[Value.int IntKind.u32 q1, Value.int IntKind.u16 L1, Value.string d] 39) = W5 at *
            generalize w5.heap.size = b5 at *
            refine (CC.out.cost _).mono ?_
            rintro e w6 ⟨rfl, rfl⟩
            have r1 := hrr.c1
            have r2 := hrr.c2
            clear hrr
            go_wp2_with fail
            clear r1 r2
            refine (Sto.off_any p g c _ _ hA6.code).mono ?_
            rintro e w7 ⟨rfl, hx7, ho7⟩
            have hA7 := hA6.only (Nat.le_refl _) hx7 ho7
            clear hA6 hx7 ho7
            go_wp2_with fail
            refine (Sto.on_any p g c _ _ hA7.code).mono ?_
            rintro e w8 ⟨rfl, hx8, ho8⟩
            have hA8 : At w.heap.size w w8 p g c ⟨l5, true, none, n + 75⟩ := hA7.only (Nat.le_refl _) hx8 ho8
            clear hA7 hx8 ho8
            go_wp2_with fail
            refine (load_step CC.out p g c _ ⟨q1, L1, d⟩ _ hA8.code HN5.out.nr (by rw [HN5.out.len]; exact Nat.le_refl _) HN5.out.idx q1 L1 rfl rfl).mono ?_
            rintro e w9 ⟨rfl, hb9⟩
            have hA9 := hA8.more (Nat.le_refl _) hb9
            have hal := (Below.refl w9.heap.size w9).alloc (Nat.le_refl _) (Obj.cells #[Value.int IntKind.u32 q1, Value.int IntKind.u16 L1, Value.string d] 39)
            have hrr : RecAt _ w9.heap.size q1 L1 d := RecAt.new w9 q1 L1 d 39
            have hAe := Lib.hid (hA9.more (Nat.le_refl _) hal)
            have r1 := hrr.c1
            have r2 := hrr.c2
            clear hal hrr hA8 hb9 hA9
            go_wp2_with fail
            go_roundw
            case rel => exact ⟨k + 1, q1, L1, _, _, by omega, by go_num, rfl, HN5, hAe.out⟩
            case measure => simp [intOf]; omega
        · have hbl := hAr.below
          clear hAr
          go_wp2
          go_ret
          exact ⟨rfl, hbl⟩
    · clear HI HF
      go_enter Tryd.func5, Tryd.ntmps5
      go_wp2_with fail
      refine (awake_true CC.out _).mono ?_
      rintro e w1 ⟨rfl, hb1⟩
      go_wp2_with fail
      go_ret
      exact ⟨rfl, hb1⟩
  · clear HI HF
    go_enter Tryd.func5, Tryd.ntmps5
    go_wp2_with fail
    refine (awake_true CC.out _).mono ?_
    rintro e w1 ⟨rfl, hb1⟩
    go_wp2_with fail
    go_ret
    exact ⟨rfl, hb1⟩

end Go.Proofs.YtahmngmbgbcmhaaDoor.Ret
