/-
  The law RetainEnds, walked: it returns true, where the calls answer as is asked. Conditions: that, and on sizes.
-/
import Derived.Test.YtahmngmbgbcmhaaDoorRtEnds
import Derived.Deep.DeepCutAuto
namespace Go.Proofs.YtahmngmbgbcmhaaDoor.Ret
open Go.RowKit
open Oct
open Sto (St CodeAt Only)

/-- A store that holds one record, the first slot's. -/
def endX (r : Rc) : St := ⟨endL r, true, none, 0⟩

theorem end_of (r : Rc) (hr : r.Ok) (w : World) : Calls Tryd.prog 8 #[.string (S (endL r))] w (Sto.News (endX r) w) := by
  have h := Sto.of_any (S (endL r)) w (by unfold maxLen; rw [S_size, endL_length hr.d]; omega)
  rw [S_list, List.take_of_length_le (by rw [endL_length hr.d]; omega)] at h
  exact h
theorem end_bytes (r : Rc) (p g cap : Nat) (w : World) (hx : CodeAt w p g cap (endX r)) : Calls Tryd.prog 21 #[.pointer (some ⟨p, 0, none⟩)] w fun e w' => e = .returned (.string (S (endL r))) ∧ w = w' :=
  bytes_of p g cap (endX r) w hx
theorem end_fine (r : Rc) : Fine (endX r) := ⟨Nat.zero_le _, fun k h => by cases h⟩
theorem end_load (C : Code) (r : Rc) (hr : r.Ok) (p g cap : Nat) (w : World) (hx : CodeAt w p g cap (endX r)) :
    Calls Tryd.prog 15 #[.pointer (some ⟨p, 0, none⟩)] w fun e w' => e = .returned (.tuple #[.agg #[.int .u32 r.q, .int .u16 r.i, .string r.d], .bool true]) ∧ Below w.heap.size w w' :=
  load_step C p g cap (endX r) r w hx (end_new hr).2 (by show 148 ≤ (endL r).length; rw [endL_length hr.d]; omega) (by show 0 ≤ newI (endL r); rw [(end_new hr).1]; omega) _ _ rfl rfl
theorem end_full (C : Code) (r : Rc) (hr : r.Ok) (hq : r.q = 4294967295) (p g cap : Nat) (w : World) (hx : CodeAt w p g cap (endX r)) :
    Calls Tryd.prog 14 #[.pointer (some ⟨p, 0, none⟩), .int .u16 7, .string ⟨#[113]⟩] w fun e w' => e = .returned (.int .i64 13) ∧ CodeAt w' p g cap (endX r) ∧ Only p g w w' := by
  have h := C.commit p g cap (endX r) 7 ⟨#[113]⟩ w hx (by decide) (by decide) (end_fine r)
  have hE : nextE (endL r) false ⟨#[113]⟩ = 13 := by
    unfold nextE
    rw [if_neg (by intro h; exact absurd h.2 (by decide)), if_neg (by rw [endL_length hr.d]; omega), if_neg (by intro h; cases h.1), if_pos (by rw [(end_new hr).2]; exact hq)]
  have e1 : cmE (endX r) false 7 ⟨#[113]⟩ = 13 := by unfold cmE; rw [show (endX r).l = endL r from rfl, hE]; rfl
  have e2 : cmX (endX r) false 7 ⟨#[113]⟩ = endX r := by unfold cmX; rw [show (endX r).l = endL r from rfl, hE]; rfl
  unfold Committed at h
  rw [e1, e2] at h
  exact h
theorem end_stop (C : Code) (r : Rc) (hr : r.Ok) (hq : r.q = 4294967295 ∨ r.i = 65535) (p g cap : Nat) (w : World) (hx : CodeAt w p g cap (endX r)) :
    Calls Tryd.prog 19 #[.pointer (some ⟨p, 0, none⟩)] w fun e w' => e = .returned (.tuple #[.agg #[.int .u32 0, .int .u16 0, .string ⟨#[]⟩], .int .i64 13]) ∧ CodeAt w' p g cap (endX r) ∧ Only p g w w' := by
  have h := C.boot p g cap (endX r) w hx (end_fine r)
  have hE : nextE (endL r) true ⟨#[]⟩ = 13 := by
    unfold nextE
    rw [if_neg (by intro h; cases h.1), if_neg (by rw [endL_length hr.d]; omega), (end_new hr).2]
    by_cases hi : r.i = 65535
    · rw [if_pos ⟨rfl, hi⟩]
    · rw [if_neg (fun h => hi h.2), if_pos (hq.resolve_right hi)]
  have e1 : cmE (endX r) true 0 ⟨#[]⟩ = 13 := by unfold cmE; rw [show (endX r).l = endL r from rfl, hE]; rfl
  have e2 : cmX (endX r) true 0 ⟨#[]⟩ = endX r := by unfold cmX; rw [show (endX r).l = endL r from rfl, hE]; rfl
  have e3 : btR (endX r) = Rc.zero := by unfold btR; rw [e1]; rfl
  unfold Booted at h
  rw [e1, e2, e3] at h
  exact h
theorem end_goes (C : Code) (r : Rc) (hr : r.Ok) (hq : ¬ r.q = 4294967295) (p g cap : Nat) (w : World) (hx : CodeAt w p g cap (endX r)) :
    Calls Tryd.prog 14 #[.pointer (some ⟨p, 0, none⟩), .int .u16 7, .string ⟨#[113]⟩] w fun e w' => e = .returned (.int .i64 0) ∧ Only p g w w' :=
  (commit_step C p g cap (endL r) 0 7 ⟨#[113]⟩ r w hx (end_new hr).2 (by rw [endL_length hr.d]; omega) hq (by omega) (by decide) (by decide)).mono fun e w' ⟨l', h1, h2, h3, h4, h5, h6⟩ => ⟨h1, h6⟩
theorem end_boots (C : Code) (r : Rc) (hr : r.Ok) (hq : ¬ r.q = 4294967295) (hi : ¬ r.i = 65535) (p g cap : Nat) (w : World) (hx : CodeAt w p g cap (endX r)) :
    Calls Tryd.prog 19 #[.pointer (some ⟨p, 0, none⟩)] w fun e w' => e = .returned (.tuple #[.agg #[.int .u32 ((r.q : Int) + 1), .int .u16 ((r.i : Int) + 1), .string r.d], .int .i64 0]) ∧ Only p g w w' :=
  (boot_step C p g cap (endL r) 0 r w hx (end_new hr).2 (by rw [endL_length hr.d]; omega) hi hq (by omega) _ _ rfl rfl).mono fun e w' ⟨l', h1, h2, h3, h4, h5, h6⟩ => ⟨h1, h6⟩

/-- What lies there behind the record's settings. -/
def EndP (w : World) (N Q I : Nat) (d : ByteArray) (W : World) : Prop := RecAt W N Q I d ∧ Below N w W
theorem EndP.next {w : World} {N Q I : Nat} {d : ByteArray} {W W' : World} (h : EndP w N Q I d W) (hb : Below W.heap.size W W') : EndP w N Q I d W' := ⟨h.1.below hb, h.2.trans (hb.mono (Nat.le_of_lt h.1.lt))⟩
theorem EndP.alloc {w : World} {N Q I : Nat} {d : ByteArray} {W : World} (h : EndP w N Q I d W) (o : Obj) : EndP w N Q I d (W.alloc o) := h.next ((Below.refl _ _).alloc (Nat.le_refl _) o)
theorem EndP.drew {w : World} {N Q I : Nat} {d : ByteArray} {W : World} (h : EndP w N Q I d W) : EndP w N Q I d W.drew := h.next (Below.refl _ _).drew
theorem EndP.drewN {w : World} {N Q I : Nat} {d : ByteArray} {W : World} (h : EndP w N Q I d W) (n : Nat) : EndP w N Q I d (W.drewN n) := h.next ⟨rfl, rfl, rfl, Nat.le_refl _, fun _ _ => rfl⟩
theorem EndP.only {w : World} {N Q I p g : Nat} {d : ByteArray} {W W' : World} (h : EndP w N Q I d W) (ho : Only p g W W') (hp : N < p) (hg : N < g) : EndP w N Q I d W' :=
  ⟨h.1.of (ho.block N h.1.lt (by omega) (by omega)), h.2.trans (ho.below (Nat.le_of_lt hp) (Nat.le_of_lt hg) (Nat.le_of_lt h.1.lt))⟩

set_option maxRecDepth 100000 in
set_option maxHeartbeats 8000000 in
theorem ends_walk (C : Code) (q i x : Nat) (d : ByteArray) (w : World) (hs : d.size ≤ maxLen) (hx : (x : Int) ≤ 255) (hq : (q : Int) ≤ 4294967295) (hi : (i : Int) ≤ 65535) :
    Calls Tryd.prog 6 #[.agg #[.int .u32 q, .int .u16 i, .string d], .int .u8 x] w fun e w' => e = .returned (.bool true) ∧ Below w.heap.size w w' := by
  have CC := Lib.hid C
  unfold maxLen at hs
  replace hx : (x : Int) ≤ 255 := hx
  clear C
  have hal := (Below.refl w.heap.size w).alloc (Nat.le_refl _) (Obj.cells #[Value.int IntKind.u32 q, Value.int IntKind.u16 i, Value.string d] 39)
  have hrr : RecAt (w.alloc (Obj.cells #[Value.int IntKind.u32 q, Value.int IntKind.u16 i, Value.string d] 39)) w.heap.size q i d := RecAt.new w q i d 39
  have HZ := Lib.hid (⟨hal, hrr⟩ : _ ∧ _)
  clear hal hrr
  by_cases h64 : d.size ≤ 64
  · have HQ := Lib.hid hq
    have HI := Lib.hid hi
    clear hq hi
    go_enter Tryd.func6, Tryd.ntmps6
    go_wp2_with fail
    obtain ⟨hal, hrr⟩ := HZ.out
    generalize w.alloc (Obj.cells #[Value.int IntKind.u32 q, Value.int IntKind.u16 i, Value.string d] 39) = W0 at *
    refine (awake_true CC.out _).mono ?_
    rintro e w1 ⟨rfl, hb1⟩
    have hb := hal.trans (hb1.mono hal.size)
    have hr1 := hrr.below hb1
    have HB := Lib.hid hb
    have HR := Lib.hid hr1
    have c2 := hr1.c2
    clear hal hrr hb1 HZ hb hr1
    generalize hNN : w.heap.size = N at *
    have HNN := Lib.hid hNN
    clear hNN
    go_upto_if 22 with fail
    go_cut [] (fun wx => ∃ Q : Nat, RecAt wx N Q i d ∧ Below N w wx ∧ (Q : Int) ≤ 4294967295)
    case first =>
      have c0 := HR.out.c0
      have f0 := HR.out.f0
      go_wp2
      all_goals
        go_meet
        case rel => first
          | exact ⟨q, HR.out, HB.out, HQ.out⟩
          | exact ⟨4294967295, HR.out.set0 4294967295, HB.out.setCell (p := ⟨N, 0, none⟩) (Nat.le_refl _) _, by decide⟩
    case rest =>
      obtain ⟨Q, hr2, hb2, hQ⟩ := hcut
      clear HB HR c2 HQ
      go_upto_if 26 with fail
      go_cut [] (fun wx => ∃ I : Nat, RecAt wx N Q I d ∧ Below N w wx ∧ (I : Int) ≤ 65535)
      case first =>
        have c1 := hr2.c1
        have f1 := hr2.f1
        have HR := Lib.hid hr2
        have HB := Lib.hid hb2
        clear hr2 hb2 hQ
        go_wp2
        all_goals
          go_meet
          case rel => first
            | exact ⟨i, HR.out, HB.out, HI.out⟩
            | exact ⟨65535, HR.out.set1 65535, HB.out.setCell (p := ⟨N, 1, none⟩) (Nat.le_refl _) _, by decide⟩
      case rest =>
        clear hr2 hb2 HI
        obtain ⟨I, hr3, hb3, hI⟩ := hcut
        have hok : (⟨Q, I, d⟩ : Rc).Ok := ⟨hQ, hI, h64⟩
        have HOK := Lib.hid hok
        have HSL := Lib.hid (fun w => rslot_any ⟨Q, I, d⟩ w hok)
        have hsl := slot_length hok.d
        have HT : Hid (S (165 :: slot ⟨Q, I, d⟩ ++ Sto.zeros 74) = S (endL ⟨Q, I, d⟩)) := Lib.hid rfl
        clear hok
        generalize hSl : slot ⟨Q, I, d⟩ = SL at *
        have HSl := Lib.hid hSl
        clear hSl
        generalize hE : endL ⟨Q, I, d⟩ = EL at *
        have HE := Lib.hid hE
        clear hE
        have HR := Lib.hid hr3
        have HB := Lib.hid hb3
        have hlt := hr3.lt
        clear hr3 hb3
        generalize hW : wc = W at *
        clear hW
        go_upto_region 9 with fail
        go_cut [5] (fun s5 wx => s5 = .string (S EL) ∧ EndP w N Q I d wx)
        case first =>
          have c0 := HR.out.c0
          have c1 := HR.out.c1
          have c2 := HR.out.c2
          have hmk := Sto.mk 74 74 rfl (by decide)
          have hcx := fun (w : World) (g : Nat) (h : Sto.Row w g (Sto.zeros 74)) => Sto.row_text h 0 74 74 (by rw [Sto.zeros_length]; exact Nat.le_refl _) 44 Tryd.underlying44
          have a1 := add_S [165] SL (by rw [hsl]; decide)
          have a2 := add_S (165 :: SL) (Sto.zeros 74) (by rw [List.length_cons, hsl, Sto.zeros_length]; decide)
          rw [show S [165] = ⟨#[165]⟩ from rfl, show [165] ++ SL = 165 :: SL from rfl] at a1
          have hzt : ((Sto.zeros 74).drop 0).take 74 = Sto.zeros 74 := by rw [List.drop_zero, List.take_of_length_le (by rw [Sto.zeros_length]; exact Nat.le_refl _)]
          rw [hzt, show Sto.S (Sto.zeros 74) = S (Sto.zeros 74) from rfl] at hcx
          rw [HT.out] at a2
          generalize S EL = T2 at *
          generalize hZ1 : S (165 :: SL) = T1 at *
          generalize hZ3 : S (Sto.zeros 74) = T3 at *
          generalize hZ4 : S SL = T4 at *
          have hcv := fun w => hcx _ _ (Sto.row_made w 74 5)
          have HCX := Lib.hid hcx
          have hcv2 := fun w => hcx _ _ (Sto.row_made w 74 5).drew
          have hcv3 := fun w k => hcx _ _ ((Sto.row_made w 74 5).drewN k)
          clear hZ1 hZ3 hZ4 hzt hsl hcx HT
          have HP := Lib.hid (⟨HR.out, HB.out⟩ : EndP w N Q I d W)
          clear HR HB
          go_region_with (go_at_call 20; refine (HSL.out _).mono ?_; rintro e w4 ⟨rfl, hb4⟩; try (have hrw : Sto.Row w4 W.heap.size (Sto.zeros 74) := ((Sto.row_made W 74 5).drew).at (hb4.block _ (by simp)); have hc4 := HCX.out _ _ hrw; have hc6 := HCX.out _ _ hrw.drew))
          all_goals
            go_wp2
            go_meet
            case rel =>
              refine ⟨rfl, ?_⟩
              repeat first | exact HP.out | refine EndP.drew ?_ | refine EndP.drewN ?_ _ | refine EndP.alloc ?_ _ | refine EndP.next ?_ (by assumption)
        case rest =>
          obtain ⟨rfl, hP⟩ := hcut
          clear HR HB hlt HSL hsl HT HSl
          have HOf := Lib.hid (fun w => end_of ⟨Q, I, d⟩ HOK.out w)
          have HBy := Lib.hid (fun p g cap w hx => end_bytes ⟨Q, I, d⟩ p g cap w hx)
          have HLo := Lib.hid (fun p g cap w hx => end_load CC.out ⟨Q, I, d⟩ HOK.out p g cap w hx)
          have HFu := Lib.hid (fun hq p g cap w hx => end_full CC.out ⟨Q, I, d⟩ HOK.out hq p g cap w hx)
          have HSt := Lib.hid (fun hq p g cap w hx => end_stop CC.out ⟨Q, I, d⟩ HOK.out hq p g cap w hx)
          have HGo := Lib.hid (fun hq p g cap w hx => end_goes CC.out ⟨Q, I, d⟩ HOK.out hq p g cap w hx)
          have HBo := Lib.hid (fun hq hi p g cap w hx => end_boots CC.out ⟨Q, I, d⟩ HOK.out hq hi p g cap w hx)
          rw [HE.out] at HOf HBy
          generalize endX ⟨Q, I, d⟩ = X at *
          generalize S EL = T at *
          clear HOK HE SL EL CC
          go_wp2_with fail
          refine (HOf.out _).mono ?_
          rintro e w2 ⟨p, g, c, rfl, hx2, hp, hg, hb2⟩
          have hNp : N < p := Nat.lt_of_lt_of_le hP.1.lt hp
          have hNg : N < g := Nat.lt_of_lt_of_le hP.1.lt hg
          have hP2 := hP.next hb2
          clear hP hb2 hp hg
          go_wp2_with fail
          by_cases hq : Q = 4294967295
          · refine (HFu.out hq _ _ _ _ hx2).mono ?_
            rintro e w3 ⟨rfl, hx3, ho3⟩
            have hP3 := hP2.only ho3 hNp hNg
            have c0 := hP3.1.c0
            have hqi : (Q : Int) = 4294967295 := by omega
            have HS2 := Lib.hid (HSt.out (.inl hq))
            clear hP2 hx2 ho3 HSt HGo HBo HFu HOf hq hQ
            go_wp2_with fail
            refine (HS2.out _ _ _ _ hx3).mono ?_
            rintro e w4 ⟨rfl, hx4, ho4⟩
            have hP4 := hP3.only ho4 hNp hNg
            clear hP3 hx3 ho4 HS2 c0
            have hal := (Below.refl w4.heap.size w4).alloc (Nat.le_refl _) (Obj.cells #[Value.int IntKind.u32 0, Value.int IntKind.u16 0, Value.string { data := #[] }] 39)
            have HZ := Lib.hid (⟨hP4.next hal, hx4.below hal hx4.plt hx4.glt⟩ : _ ∧ _)
            clear hP4 hx4 hal
            go_wp2_with fail
            obtain ⟨hP4, hx4⟩ := HZ.out
            clear HZ
            generalize w4.alloc (Obj.cells #[Value.int IntKind.u32 0, Value.int IntKind.u16 0, Value.string { data := #[] }] 39) = W4 at *
            refine (HLo.out _ _ _ _ hx4).mono ?_
            rintro e w5 ⟨rfl, hb5⟩
            have hP5 := hP4.next hb5
            have hx5 := hx4.below hb5 hx4.plt hx4.glt
            clear hP4 hx4 hb5 HLo
            have hal := (Below.refl w5.heap.size w5).alloc (Nat.le_refl _) (Obj.cells #[Value.int IntKind.u32 Q, Value.int IntKind.u16 I, Value.string d] 39)
            have c0 := hP5.1.c0
            have c1 := hP5.1.c1
            have c2 := hP5.1.c2
            have hlt := hP5.1.lt
            have HZ := Lib.hid (⟨hP5.next hal, hx5.below hal hx5.plt hx5.glt⟩ : _ ∧ _)
            clear hP5 hx5 hal
            go_wp2_with fail
            rw [hqi] at HZ
            obtain ⟨hP6, hx6⟩ := HZ.out
            clear HZ c0 c1 c2
            generalize w5.alloc (Obj.cells #[Value.int IntKind.u32 4294967295, Value.int IntKind.u16 I, Value.string d] 39) = W6 at *
            refine (HBy.out _ _ _ _ hx6).mono ?_
            rintro e w7 ⟨rfl, rfl⟩
            go_wp2
            go_ret
            exact ⟨by simp, by rw [HNN.out]; exact hP6.2⟩
          · refine (HGo.out hq _ _ _ _ hx2).mono ?_
            rintro e w3 ⟨rfl, ho3⟩
            have hP3 := hP2.only ho3 hNp hNg
            have c0 := hP3.1.c0
            have hqi : ¬ (Q : Int) = 4294967295 := by omega
            clear hP2 hx2 ho3 hNp hNg HGo HFu HLo
            go_wp2_with fail
            refine (HOf.out _).mono ?_
            rintro e w4 ⟨p2, g2, k2, rfl, hx4, hp, hg, hb4⟩
            have hNp : N < p2 := Nat.lt_of_lt_of_le hP3.1.lt hp
            have hNg : N < g2 := Nat.lt_of_lt_of_le hP3.1.lt hg
            have hP4 := hP3.next hb4
            clear hP3 hb4 hp hg c0 HOf
            go_wp2_with fail
            by_cases hi : I = 65535
            · refine (HSt.out (.inr hi) _ _ _ _ hx4).mono ?_
              rintro e w5 ⟨rfl, hx5, ho5⟩
              have hP5 := hP4.only ho5 hNp hNg
              have hii : (I : Int) = 65535 := by omega
              have hal := (Below.refl w5.heap.size w5).alloc (Nat.le_refl _) (Obj.cells #[Value.int IntKind.u32 0, Value.int IntKind.u16 0, Value.string { data := #[] }] 39)
              have c1 := hP5.1.c1
              have hlt := hP5.1.lt
              have HZ := Lib.hid (⟨hP5.next hal, hx5.below hal hx5.plt hx5.glt⟩ : _ ∧ _)
              clear hP4 hx4 ho5 hP5 hx5 hal HSt HBo hi hI
              go_wp2_with fail
              obtain ⟨hP6, hx6⟩ := HZ.out
              clear HZ c1
              generalize w5.alloc (Obj.cells #[Value.int IntKind.u32 0, Value.int IntKind.u16 0, Value.string { data := #[] }] 39) = W6 at *
              refine (HBy.out _ _ _ _ hx6).mono ?_
              rintro e w7 ⟨rfl, rfl⟩
              go_wp2
              go_ret
              exact ⟨by simp, by rw [HNN.out]; exact hP6.2⟩
            · refine (HBo.out hq hi _ _ _ _ hx4).mono ?_
              rintro e w5 ⟨rfl, ho5⟩
              have hP5 := hP4.only ho5 hNp hNg
              have hii : ¬ (I : Int) = 65535 := by omega
              have hw1 : IntKind.u16.wrap ((I : Int) + 1) = (I : Int) + 1 := IntWalk.u16_in _ (by omega)
              have hw2 : IntKind.u32.wrap ((Q : Int) + 1) = (Q : Int) + 1 := IntWalk.u32_in _ (by omega)
              have c0 := hP5.1.c0
              have c1 := hP5.1.c1
              have c2 := hP5.1.c2
              have hlt := hP5.1.lt
              have HP := Lib.hid hP5
              clear hP4 hx4 ho5 hP5 HSt HBo hi hI hq hQ
              generalize (Q : Int) = q1 at *
              generalize (I : Int) = i1 at *
              go_wp2
              go_ret
              exact ⟨by simp, by rw [HNN.out]; exact (HP.out.alloc _).2⟩
  · clear hq hi
    go_enter Tryd.func6, Tryd.ntmps6
    go_wp2_with fail
    obtain ⟨hal, hrr⟩ := HZ.out
    generalize w.alloc (Obj.cells #[Value.int IntKind.u32 q, Value.int IntKind.u16 i, Value.string d] 39) = W0 at *
    refine (awake_true CC.out _).mono ?_
    rintro e w1 ⟨rfl, hb1⟩
    have hb := hal.trans (hb1.mono hal.size)
    have hr1 := hrr.below hb1
    have c2 := hr1.c2
    clear hal hrr hb1 HZ hr1
    go_wp2_with fail
    go_ret
    exact ⟨rfl, hb⟩

end Go.Proofs.YtahmngmbgbcmhaaDoor.Ret
