/-
  has, Addrs, Readers and the reference's, walked. Conditions: as each states.
-/
import Derived.Test.YtmlopacekoghkaaCfFault
import Derived.Test.YtmlopacekoghkaaBlRefC
import Derived.Test.YtmlopacekoghkaaMemS
namespace Go.Proofs.Ytmlopacekoghkaa.Cf
open Go.RowKit
open Go.Proofs.Ytmlopacekoghkaa.Bl (Blk Spt findB layO noS Tells I64 one_S cell_of_row kept_own blkV spV Own2 Own4)
open Go.Proofs.Ytmlopacekoghkaa.Il (In)
open Go.Proofs.Ytmlopacekoghkaa.Mem (withB sv)

def addrK (l : List Sta) (k : Nat) : BitVec 32 := (l.take k).foldl (fun s x => withB s x.ad) 0#32
theorem addrK_at {l : List Sta} {k : Nat} {x : Sta} (h : l[k]? = some x) : addrK l (k + 1) = withB (addrK l k) x.ad := by
  obtain ⟨hk, rfl⟩ := List.getElem?_eq_some_iff.1 h
  unfold addrK
  rw [List.take_succ_eq_append_getElem hk, List.foldl_append]
  rfl
def rdK (l : List Sta) (b : Int) (k : Nat) : BitVec 32 := (l.take k).foldl (fun s x => if hasS x.sb 0 b = true then withB s x.ad else s) 0#32
theorem rdK_at {l : List Sta} {k : Nat} {x : Sta} (h : l[k]? = some x) (b : Int) : rdK l b (k + 1) = if hasS x.sb 0 b = true then withB (rdK l b k) x.ad else rdK l b k := by
  obtain ⟨hk, rfl⟩ := List.getElem?_eq_some_iff.1 h
  unfold rdK
  rw [List.take_succ_eq_append_getElem hk, List.foldl_append]
  rfl
theorem with_with (s : BitVec 32) (a : Int) : withB (withB s a) a = withB s a := by
  unfold withB
  rw [BitVec.or_assoc, BitVec.or_self]
/-- Has one of the first k spots the block? -/
def preS (l : List Spt) (k : Nat) (b : Int) : Bool := (l.take k).any fun s => decide (s.b = b)
theorem preS_at {l : List Spt} {k : Nat} {x : Spt} (h : l[k]? = some x) (b : Int) : preS l (k + 1) b = (preS l k b || decide (x.b = b)) := by
  obtain ⟨hk, rfl⟩ := List.getElem?_eq_some_iff.1 h
  unfold preS
  rw [List.take_succ_eq_append_getElem hk, List.any_append]
  simp
theorem preS_all (l : List Spt) (b : Int) : preS l l.length b = hasS l 0 b := by unfold preS hasS; rw [List.take_length, List.drop_zero]

set_option maxRecDepth 100000 in
set_option maxHeartbeats 4000000 in
theorem has_any (l : List Spt) (h : Hd) (b : Int) (w : World) (hI : Bl.LiesS w w.heap.size h.ao l) (hF : FitH h l.length) :
    Calls Try.prog 28 #[.slice h.ao l.length h.cap, .int .i64 b] w (Tells (.bool (hasS l 0 b)) w) := by
  have hml : (l.length : Int) ≤ 9223372036854775807 := by have h1 := hF.1; have := hF.2.1; unfold maxLen at this; omega
  have HI := Lib.hid (⟨hI, Below.refl _ _⟩ : Bl.LiesS w w.heap.size h.ao l ∧ Below w.heap.size w w)
  obtain ⟨R, hR⟩ : ∃ R, R = hasS l 0 b := ⟨_, rfl⟩
  rw [← hR]
  have HR := Lib.hid hR
  clear hI hF hR
  go_enter Try.func28, Try.ntmps28
  go_wp2
  go_loopw [9] (fun j W => ∃ k : Nat, k ≤ l.length ∧ j = .int .i64 k ∧ Hid (R = hasS l k b) ∧ Hid (Bl.LiesS W w.heap.size h.ao l ∧ Below w.heap.size w W)) (fun j _ => l.length - (intOf j).toNat)
  case atStart => exact ⟨0, Nat.zero_le _, rfl, HR, HI⟩
  case round =>
    obtain ⟨k, hk, rfl, hR, hI⟩ := hrel
    clear HR HI
    by_cases hlt : k < l.length
    · have e1 : decide ((k : Int) < (l.length : Int)) = true := by simp; omega
      obtain ⟨y, hy⟩ : ∃ y, l[k]? = some y := ⟨_, List.getElem?_eq_getElem (by omega)⟩
      obtain ⟨b1, o1, hbo, hb1, hcs⟩ := hI.out.1 (by omega)
      obtain ⟨c0, c1⟩ := hcs k y hy
      have o2 := one_S wr #[.int .i64 y.b, .int .i64 y.a] 57
      have hb2 := o2.mono hI.out.2.size
      have hI2 := Lib.hid (⟨hI.out.1.below hb2, hI.out.2.trans hb2⟩ : Bl.LiesS (wr.alloc (.cells #[.int .i64 y.b, .int .i64 y.a] 57)) w.heap.size h.ao l ∧ Below w.heap.size w (wr.alloc (.cells #[.int .i64 y.b, .int .i64 y.a] 57)))
      obtain ⟨f0, f1⟩ := (Own2.new wr y 57).cells
      have hgo := has_at hy b
      clear hcs o2 hy hI hb2
      by_cases he : y.b = b
      · have e2 : (y.b == b) = true := beq_iff_eq.2 he
        obtain rfl : R = true := by rw [hR.out, hgo, decide_eq_true he]; rfl
        clear hR he hgo
        go_wp2
        go_ret
        exact ⟨rfl, hI2.out.2⟩
      · have e2 : (y.b == b) = false := beq_eq_false_iff_ne.2 he
        have hR1 := Lib.hid (show R = hasS l (k + 1) b by rw [hR.out, hgo, decide_eq_false he, Bool.false_or])
        clear hR he hgo
        go_wp2
        exact ⟨⟨k + 1, by omega, by go_num, hR1, hI2⟩, by simp [intOf]; omega⟩
    · obtain rfl : k = l.length := by omega
      obtain rfl : R = false := by rw [hR.out, has_end]
      clear hR
      go_wp2
      go_ret
      exact ⟨rfl, hI.out.2⟩

set_option maxRecDepth 100000 in
set_option maxHeartbeats 4000000 in
theorem cAddrs_any (c : Clu) (w : World) (hL : CluL w w.heap.size c) (hF : FitC c) :
    Calls Try.prog 13 #[.agg (cluC c)] w (Tells (sv (addrK c.st c.st.length)) w) := by
  have hml : (c.st.length : Int) ≤ 9223372036854775807 := by have h1 := hF.2.1.1; have := hF.2.1.2.1; unfold maxLen at this; omega
  have hlc : c.st.length ≤ c.sh.cap := hF.2.1.1
  have hA := Cw.first hL
  obtain ⟨g0, g1, g2, g3, g4, g5, g6, g7⟩ := hA.ow.cells
  have HA := Lib.hid hA
  have HF := Lib.hid hF
  obtain ⟨r, hr⟩ : ∃ r, r = addrK c.st c.st.length := ⟨_, rfl⟩
  rw [← hr]
  have HR := Lib.hid hr
  clear hA hL hF hr
  unfold cluC at *
  go_enter Try.func13, Try.ntmps13
  go_wp2
  clear g0 g1 g2 g3 g4 g5 g6 g7
  go_loopw [3, 9] (fun x j W => ∃ (k : Nat) (t : BitVec 32), k ≤ c.st.length ∧ j = .int .i64 k ∧ x = sv t ∧ Hid (t = addrK c.st k) ∧ Hid (Cw w W c w.heap.size)) (fun _ j _ => c.st.length - (intOf j).toNat)
  case atStart => exact ⟨0, 0#32, Nat.zero_le _, rfl, rfl, Lib.hid rfl, HA⟩
  case round =>
    obtain ⟨k, t, hk, rfl, rfl, hT, hA⟩ := hrel
    clear HA
    by_cases hlt : k < c.st.length
    · have e1 : decide ((k : Int) < (c.st.length : Int)) = true := by simp; omega
      obtain ⟨y, hy⟩ : ∃ y, c.st[k]? = some y := ⟨_, List.getElem?_eq_getElem (by omega)⟩
      obtain ⟨b1, o1, hbo, hb1, hcs⟩ := hA.out.ca.lies.row (by omega)
      obtain ⟨c0, c1, c2, c3, c4, c5⟩ := hcs k y hy
      have o2 := one_S wr (staC y) 36
      have hA2 := Lib.hid (hA.out.next o2)
      obtain ⟨f0, f1, f2, f3, f4, f5⟩ := (Own6.new wr y 36).cells
      unfold staC at *
      clear hcs o2
      have HW := Lib.hid (fun W => Mem.With_any t y.ad W)
      have HT2 := Lib.hid (show withB t y.ad = addrK c.st (k + 1) by rw [hT.out, addrK_at hy])
      clear hT hy hA
      go_wp2_with fail
      refine (HW.out _).mono ?_
      rintro e w1 ⟨rfl, rfl⟩
      generalize withB t y.ad = t2 at *
      go_wp2
      rw [← hbo]
      clear hbo
      go_roundw
      case rel => exact ⟨k + 1, t2, by omega, by go_num, rfl, HT2, hA2⟩
      case measure => simp [intOf]; omega
    · obtain rfl : k = c.st.length := by omega
      obtain rfl : r = t := by rw [HR.out, hT.out]
      go_wp2
      go_ret
      exact ⟨rfl, hA.out.ca.below⟩

set_option maxRecDepth 100000 in
set_option maxHeartbeats 4000000 in
theorem qAddrs_any (c : Clu) (w : World) (hL : CluL w w.heap.size c) (hF : FitC c) :
    Calls Try.prog 14 #[.agg (cluC c)] w (Tells (sv (addrK c.st c.st.length)) w) := by
  have hml : (c.st.length : Int) ≤ 9223372036854775807 := by have h1 := hF.2.1.1; have := hF.2.1.2.1; unfold maxLen at this; omega
  have hlc : c.st.length ≤ c.sh.cap := hF.2.1.1
  have hA := Cw.first hL
  obtain ⟨g0, g1, g2, g3, g4, g5, g6, g7⟩ := hA.ow.cells
  have HA := Lib.hid hA
  have HF := Lib.hid hF
  obtain ⟨r, hr⟩ : ∃ r, r = addrK c.st c.st.length := ⟨_, rfl⟩
  rw [← hr]
  have HR := Lib.hid hr
  clear hA hL hF hr
  unfold cluC at *
  go_enter Try.func14, Try.ntmps14
  go_wp2
  clear g0 g1 g2 g3 g4 g5 g6 g7
  go_loopw [3, 4] (fun x j W => ∃ (k : Nat) (t : BitVec 32), k ≤ c.st.length ∧ j = .int .i64 k ∧ x = sv t ∧ Hid (t = addrK c.st k) ∧ Hid (Cw w W c w.heap.size)) (fun _ j _ => c.st.length - (intOf j).toNat)
  case atStart => exact ⟨0, 0#32, Nat.zero_le _, rfl, rfl, Lib.hid rfl, HA⟩
  case round =>
    obtain ⟨k, t, hk, rfl, rfl, hT, hA⟩ := hrel
    clear HA
    obtain ⟨g0, g1, g2, g3, g4, g5, g6, g7⟩ := hA.out.ow.cells
    by_cases hlt : k < c.st.length
    · have e1 : decide ((k : Int) < (c.st.length : Int)) = true := by simp; omega
      obtain ⟨y, hy⟩ : ∃ y, c.st[k]? = some y := ⟨_, List.getElem?_eq_getElem (by omega)⟩
      obtain ⟨b1, o1, hbo, hb1, hcs⟩ := hA.out.ca.lies.row (by omega)
      obtain ⟨c0, c1, c2, c3, c4, c5⟩ := hcs k y hy
      rw [hbo] at g7
      have HW := Lib.hid (fun W => Mem.rWith_any t y.ad W)
      have HT2 := Lib.hid (show withB t y.ad = addrK c.st (k + 1) by rw [hT.out, addrK_at hy])
      clear hT hy hcs
      go_wp2_with fail
      refine (HW.out _).mono ?_
      rintro e w1 ⟨rfl, rfl⟩
      generalize withB t y.ad = t2 at *
      go_wp2
      rw [← hbo]
      clear hbo
      go_roundw
      case rel => exact ⟨k + 1, t2, by omega, by go_num, rfl, HT2, hA⟩
      case measure => simp [intOf]; omega
    · obtain rfl : k = c.st.length := by omega
      obtain rfl : r = t := by rw [HR.out, hT.out]
      go_wp2
      go_ret
      exact ⟨rfl, hA.out.ca.below⟩

set_option maxRecDepth 100000 in
set_option maxHeartbeats 4000000 in
theorem cReaders_any (c : Clu) (b : Int) (w : World) (hL : CluL w w.heap.size c) (hF : FitC c) :
    Calls Try.prog 15 #[.agg (cluC c), .int .i64 b] w (Tells (sv (rdK c.st b c.st.length)) w) := by
  have hml : (c.st.length : Int) ≤ 9223372036854775807 := by have h1 := hF.2.1.1; have := hF.2.1.2.1; unfold maxLen at this; omega
  have hlc : c.st.length ≤ c.sh.cap := hF.2.1.1
  have hA := Cw.first hL
  obtain ⟨g0, g1, g2, g3, g4, g5, g6, g7⟩ := hA.ow.cells
  have HA := Lib.hid hA
  have HF := Lib.hid hF
  obtain ⟨r, hr⟩ : ∃ r, r = rdK c.st b c.st.length := ⟨_, rfl⟩
  rw [← hr]
  have HR := Lib.hid hr
  clear hA hL hF hr
  unfold cluC at *
  go_enter Try.func15, Try.ntmps15
  go_wp2
  clear g0 g1 g2 g3 g4 g5 g6 g7
  go_loopw [5, 11] (fun x j W => ∃ (k : Nat) (t : BitVec 32), k ≤ c.st.length ∧ j = .int .i64 k ∧ x = sv t ∧ Hid (t = rdK c.st b k) ∧ Hid (Cw w W c w.heap.size)) (fun _ j _ => c.st.length - (intOf j).toNat)
  case atStart => exact ⟨0, 0#32, Nat.zero_le _, rfl, rfl, Lib.hid rfl, HA⟩
  case round =>
    obtain ⟨k, t, hk, rfl, rfl, hT, hA⟩ := hrel
    clear HA
    by_cases hlt : k < c.st.length
    · have e1 : decide ((k : Int) < (c.st.length : Int)) = true := by simp; omega
      obtain ⟨y, hy⟩ : ∃ y, c.st[k]? = some y := ⟨_, List.getElem?_eq_getElem (by omega)⟩
      obtain ⟨b1, o1, hbo, hb1, hcs⟩ := hA.out.ca.lies.row (by omega)
      obtain ⟨c0, c1, c2, c3, c4, c5⟩ := hcs k y hy
      have o2 := one_S wr (staC y) 36
      have hA2 := Lib.hid (hA.out.next o2)
      obtain ⟨f0, f1, f2, f3, f4, f5⟩ := (Own6.new wr y 36).cells
      unfold staC at *
      clear hcs o2
      have HW := Lib.hid (fun W => Mem.With_any t y.ad W)
      have HH := Lib.hid (fun W (h : Ca w W c) => has_any y.sb y.so b W (h.self.lies.st k y hy).sb (HF.out.2.2 k y hy).2.1)
      have hgo := rdK_at hy b
      obtain ⟨B, hB⟩ : ∃ B, B = hasS y.sb 0 b := ⟨_, rfl⟩
      rw [← hB] at hgo HH
      clear hB hy hA
      cases B
      · have HT2 := Lib.hid (show t = rdK c.st b (k + 1) by rw [hT.out, hgo]; rfl)
        clear hT hgo
        go_wp2_with fail
        refine (HH.out _ hA2.out.ca).mono ?_
        rintro e w1 ⟨rfl, hb⟩
        have hA3 := Lib.hid (hA2.out.next hb)
        clear hb hA2
        go_wp2
        rw [← hbo]
        clear hbo
        go_roundw
        case rel => exact ⟨k + 1, t, by omega, by go_num, rfl, HT2, hA3⟩
        case measure => simp [intOf]; omega
      · have HT2 := Lib.hid (show withB t y.ad = rdK c.st b (k + 1) by rw [hT.out, hgo]; rfl)
        have HO := Lib.hid (Own6.new wr y 36)
        unfold staC at HO
        clear hT hgo
        go_wp2_with fail
        refine (HH.out _ hA2.out.ca).mono ?_
        rintro e w1 ⟨rfl, hb⟩
        have hA3 := Lib.hid (hA2.out.next hb)
        obtain ⟨f0, f1, f2, f3, f4, f5⟩ := (HO.out.kept hb HO.out.lt).cells
        clear hb hA2 HO
        go_wp2_with fail
        refine (HW.out _).mono ?_
        rintro e w2 ⟨rfl, rfl⟩
        generalize withB t y.ad = t2 at *
        go_wp2
        rw [← hbo]
        clear hbo
        go_roundw
        case rel => exact ⟨k + 1, t2, by omega, by go_num, rfl, HT2, hA3⟩
        case measure => simp [intOf]; omega
    · obtain rfl : k = c.st.length := by omega
      obtain rfl : r = t := by rw [HR.out, hT.out]
      go_wp2
      go_ret
      exact ⟨rfl, hA.out.ca.below⟩

set_option maxRecDepth 100000 in
set_option maxHeartbeats 4000000 in
theorem qReaders_any (c : Clu) (b : Int) (w : World) (hL : CluL w w.heap.size c) (hF : FitC c) :
    Calls Try.prog 16 #[.agg (cluC c), .int .i64 b] w (Tells (sv (rdK c.st b c.st.length)) w) := by
  have hml : (c.st.length : Int) ≤ 9223372036854775807 := by have h1 := hF.2.1.1; have := hF.2.1.2.1; unfold maxLen at this; omega
  have hlc : c.st.length ≤ c.sh.cap := hF.2.1.1
  have hA := Cw.first hL
  obtain ⟨g0, g1, g2, g3, g4, g5, g6, g7⟩ := hA.ow.cells
  have HA := Lib.hid hA
  have HF := Lib.hid hF
  obtain ⟨r, hr⟩ : ∃ r, r = rdK c.st b c.st.length := ⟨_, rfl⟩
  rw [← hr]
  have HR := Lib.hid hr
  clear hA hL hF hr
  unfold cluC at *
  go_enter Try.func16, Try.ntmps16
  go_wp2
  clear g0 g1 g2 g3 g4 g5 g6 g7
  go_loopw [5, 6] (fun x j W => ∃ (k : Nat) (t : BitVec 32), k ≤ c.st.length ∧ j = .int .i64 k ∧ x = sv t ∧ Hid (t = rdK c.st b k) ∧ Hid (Cw w W c w.heap.size)) (fun _ j _ => c.st.length - (intOf j).toNat)
  case atStart => exact ⟨0, 0#32, Nat.zero_le _, rfl, rfl, Lib.hid rfl, HA⟩
  case round =>
    obtain ⟨k, t, hk, rfl, rfl, hT, hA⟩ := hrel
    clear HA
    obtain ⟨g0, g1, g2, g3, g4, g5, g6, g7⟩ := hA.out.ow.cells
    by_cases hlt : k < c.st.length
    · have e1 : decide ((k : Int) < (c.st.length : Int)) = true := by simp; omega
      obtain ⟨y, hy⟩ : ∃ y, c.st[k]? = some y := ⟨_, List.getElem?_eq_getElem (by omega)⟩
      obtain ⟨b1, o1, hbo, hb1, hcs⟩ := hA.out.ca.lies.row (by omega)
      obtain ⟨c0, c1, c2, c3, c4, c5⟩ := hcs k y hy
      have hgo := rdK_at hy b
      obtain ⟨s0, hs0⟩ : ∃ s0, s0 = rdK c.st b k := ⟨_, rfl⟩
      rw [← hs0] at hgo hT
      have HT1 := Lib.hid (show t = if preS y.sb 0 b = true then withB s0 y.ad else s0 by rw [hT.out]; rfl)
      have HGo := Lib.hid hgo
      have HY := Lib.hid hy
      have hmp : (y.sb.length : Int) ≤ 9223372036854775807 := by have h1 := (HF.out.2.2 k y hy).2.1; have h2 := h1.1; have := h1.2.1; unfold maxLen at this; omega
      have hmq : y.sb.length ≤ y.so.cap := (HF.out.2.2 k y hy).2.1.1
      have HB := Lib.hid hbo
      clear hs0 hT hgo hcs hy hbo
      go_wp2
      clear c0 c1 c2 c3 c4 c5 g0 g1 g2 g3 g4 g5 g6 g7
      go_loopw [5, 7] (fun x j W => ∃ (q : Nat) (t : BitVec 32), q ≤ y.sb.length ∧ j = .int .i64 q ∧ x = sv t ∧ Hid (t = if preS y.sb q b = true then withB s0 y.ad else s0) ∧ Hid (Cw w W c w.heap.size)) (fun _ j _ => y.sb.length - (intOf j).toNat)
      case atStart => exact ⟨0, t, Nat.zero_le _, rfl, rfl, HT1, hA⟩
      case round =>
        obtain ⟨q, t, hq, rfl, rfl, hT, hA⟩ := hrel
        clear HT1
        obtain ⟨g0, g1, g2, g3, g4, g5, g6, g7⟩ := hA.out.ow.cells
        obtain ⟨b2, o2, hbo2, hb2, hcs⟩ := hA.out.ca.lies.row (by omega)
        rw [HB.out] at hbo2
        injection hbo2 with hbo2
        injection hbo2 with hbo2 hbo3
        subst hbo2 hbo3
        obtain ⟨c0, c1, c2, c3, c4, c5⟩ := hcs k y HY.out
        rw [HB.out] at g7
        clear hcs
        by_cases hql : q < y.sb.length
        · have e2 : decide ((q : Int) < (y.sb.length : Int)) = true := by simp; omega
          obtain ⟨z, hz⟩ : ∃ z, y.sb[q]? = some z := ⟨_, List.getElem?_eq_getElem (by omega)⟩
          obtain ⟨b3, o3, hbz, hb3, hcz⟩ := (hA.out.ca.lies.st k y HY.out).sb (by omega)
          obtain ⟨z0, z1⟩ := hcz q z hz
          rw [hbz] at c4
          have hpre := preS_at hz b
          clear hcz hz hbz
          by_cases he : z.b = b
          · have e3 : (z.b == b) = true := beq_iff_eq.2 he
            have HW := Lib.hid (fun W => Mem.rWith_any t y.ad W)
            have HT2 := Lib.hid (show withB t y.ad = if preS y.sb (q + 1) b = true then withB s0 y.ad else s0 by
              rw [hpre, decide_eq_true he, Bool.or_true, if_pos rfl, hT.out]
              split
              · exact with_with _ _
              · rfl)
            clear he hpre hT
            go_wp2_with fail
            refine (HW.out _).mono ?_
            rintro e w1 ⟨rfl, rfl⟩
            generalize withB t y.ad = t2 at *
            go_wp2
            go_roundw
            case rel => exact ⟨q + 1, t2, by omega, by go_num, rfl, HT2, hA⟩
            case measure => simp [intOf]; omega
          · have e3 : (z.b == b) = false := beq_eq_false_iff_ne.2 he
            have HT2 := Lib.hid (show t = if preS y.sb (q + 1) b = true then withB s0 y.ad else s0 by rw [hpre, decide_eq_false he, Bool.or_false, hT.out])
            clear he hpre hT
            go_wp2
            go_roundw
            case rel => exact ⟨q + 1, t, by omega, by go_num, rfl, HT2, hA⟩
            case measure => simp [intOf]; omega
        · obtain rfl : q = y.sb.length := by omega
          have HT2 := Lib.hid (show t = rdK c.st b (k + 1) by rw [hT.out, preS_all, HGo.out])
          clear hT
          go_wp2
          go_roundw
          case rel => exact ⟨k + 1, t, by omega, by go_num, rfl, HT2, hA⟩
          case measure => simp [intOf]; omega
    · obtain rfl : k = c.st.length := by omega
      obtain rfl : r = t := by rw [HR.out, hT.out]
      go_wp2
      go_ret
      exact ⟨rfl, hA.out.ca.below⟩
end Go.Proofs.Ytmlopacekoghkaa.Cf
