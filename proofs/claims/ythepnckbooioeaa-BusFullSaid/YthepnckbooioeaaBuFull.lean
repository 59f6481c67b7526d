/-
  The law BusFull, walked: it returns true, where the calls answer as is asked. Conditions: that, and on sizes.
-/
import Derived.Test.YthepnckbooioeaaBuDo
namespace Go.Proofs.Ythepnckbooioeaa.Bus
open Go.RowKit

/-- A bus to which i pieces were sent. -/
structure Sent (x : Bs) (i : Nat) : Prop where
  len : x.l.length = min i 64
  fault : x.f = decide (64 < i)
theorem Sent.zero : Sent Bs.zero 0 := ⟨rfl, rfl⟩
theorem send_ok {s : ByteArray} {src : Nat} (h1 : 1 ≤ s.size) (h2 : s.size ≤ 255) (h : src ≤ 31) : sendB (src : Int) s = true := by simp [sendB]; omega
theorem Sent.place {x : Bs} {i : Nat} (h : Sent x i) {s : ByteArray} {src : Nat} (h1 : 1 ≤ s.size) (h2 : s.size ≤ 255) (h3 : src ≤ 31) (hi : i < 64) : sendE x src s = 0 ∧ Sent (sendX x src s) (i + 1) := by
  have hl := h.len
  unfold sendE sendX
  rw [if_pos (send_ok h1 h2 h3), if_pos (send_ok h1 h2 h3)]
  unfold addE addX
  rw [if_neg (by omega), if_neg (by omega)]
  refine ⟨rfl, ⟨by simp; omega, ?_⟩⟩
  show x.f = _
  rw [h.fault, decide_eq_decide]
  omega
theorem Sent.full {x : Bs} {i : Nat} (h : Sent x i) {s : ByteArray} {src : Nat} (h1 : 1 ≤ s.size) (h2 : s.size ≤ 255) (h3 : src ≤ 31) (hi : 64 ≤ i) : sendE x src s = 8 ∧ Sent (sendX x src s) (i + 1) := by
  have hl := h.len
  unfold sendE sendX
  rw [if_pos (send_ok h1 h2 h3), if_pos (send_ok h1 h2 h3)]
  unfold addE addX
  rw [if_pos (by omega), if_pos (by omega)]
  refine ⟨rfl, ⟨by simp; omega, ?_⟩⟩
  show true = _
  rw [eq_comm, decide_eq_true_eq]
  omega

theorem Sent.yes {x : Bs} {n : Nat} (h : Sent x n) {s : ByteArray} {k : Int} (h1 : 1 ≤ s.size) (h2 : s.size ≤ 255) (hk : thereB x k = true) :
    dropE x k = 0 ∧ sendE (dropX x k) 31 s = 0 ∧ (sendX (dropX x k) 31 s).f = decide (64 < n) := by
  have hl := h.len
  obtain ⟨m, rfl, hm⟩ := there_nat hk
  have hd : (dropX x (m : Int)).l.length = x.l.length - 1 := by
    unfold dropX
    rw [if_pos hk]
    show (x.l.eraseIdx (m : Int).toNat).length = _
    rw [Int.toNat_natCast, List.length_eraseIdx_of_lt hm]
  have hf : (dropX x (m : Int)).f = x.f := by unfold dropX; rw [if_pos hk]; rfl
  have hs : sendB 31 s = true := send_ok (src := 31) h1 h2 (by omega)
  refine ⟨by unfold dropE; rw [if_pos hk], ?_, ?_⟩
  · unfold sendE; rw [if_pos hs]; unfold addE; rw [if_neg (by omega)]
  · unfold sendX; rw [if_pos hs]; unfold addX; rw [if_neg (by omega)]
    show (dropX x (m : Int)).f = _
    rw [hf, h.fault]
theorem Sent.no {x : Bs} {n : Nat} (h : Sent x n) {s : ByteArray} {k : Int} (h1 : 1 ≤ s.size) (h2 : s.size ≤ 255) (hk : thereB x k = false) :
    dropE x k = 1 ∧ sendE (dropX x k) 31 s = (if n < 64 then 0 else 8) ∧ (sendX (dropX x k) 31 s).f = decide (64 ≤ n) := by
  have hl := h.len
  have hd : dropX x k = x := by unfold dropX; rw [if_neg (by simp [hk])]
  have hs : sendB 31 s = true := send_ok (src := 31) h1 h2 (by omega)
  refine ⟨by unfold dropE; rw [if_neg (by simp [hk])], ?_, ?_⟩
  · unfold sendE; rw [if_pos hs, hd]; unfold addE
    by_cases hn : n < 64
    · rw [if_neg (by omega), if_pos hn]
    · rw [if_pos (by omega), if_neg hn]
  · unfold sendX; rw [if_pos hs, hd]; unfold addX
    by_cases hn : n < 64
    · rw [if_neg (by omega)]
      show x.f = _
      rw [h.fault, decide_eq_decide]; omega
    · rw [if_pos (by omega)]
      show true = _
      rw [eq_comm, decide_eq_true_eq]; omega

set_option maxRecDepth 100000 in
set_option maxHeartbeats 8000000 in
theorem full_walk {F : Face} (C : Code F) (n : Nat) (s : ByteArray) (k : Int) (w : World) (hn : (n : Int) ≤ 255) (hs : s.size ≤ maxLen) (hk : I64 k) :
    Calls Try.prog 5 #[.int .u8 n, .string s, .int .i64 k] w (Tells (.bool true) w) := by
  have CC := Lib.hid C
  have HMax := Lib.hid hs
  have HK := Lib.hid hk
  unfold maxLen at hs
  obtain ⟨k1, k2⟩ := hk
  clear C
  by_cases hgd : n ≤ 100 ∧ 1 ≤ s.size ∧ s.size ≤ 255
  · obtain ⟨g1, g2, g3⟩ := hgd
    have b1 : ¬ (100 : Int) < n := by omega
    have b2 : ¬ (s.size : Int) < 1 := by omega
    have b3 : ¬ (255 : Int) < s.size := by omega
    go_enter Try.func5, Try.ntmps5
    go_wp2_with fail
    refine (awake_true CC.out _).mono ?_
    rintro e w1 ⟨rfl, hb1⟩
    go_wp2_with fail
    refine (CC.out.new _).mono ?_
    rintro e w2 ⟨p, ms, rfl, hx, hm, hb2⟩
    have HR := Lib.hid (Run.first hx hm hb2 hb1 hb1.size)
    clear hx hm hb2 hb1
    go_wp2_with fail
    generalize hNN : w.heap.size = N at *
    have HNN := Lib.hid hNN
    clear hNN
    go_loopw [31] (fun i wr => ∃ (j : Nat) (x : Bs) (ns : List Nat), j ≤ n ∧ i = .int .i64 j ∧ Hid (Run F N w wr p ns x ∧ Sent x j)) (fun i _ => n - (intOf i).toNat)
    case atStart => exact ⟨0, Bs.zero, ms, Nat.zero_le _, rfl, Lib.hid ⟨HR.out, Sent.zero⟩⟩
    case round =>
      obtain ⟨j, x, ns, hj, rfl, hS⟩ := hrel
      clear HR
      by_cases hlt : j < n
      · have hmod : ((j : Int) % 32) = ((j % 32 : Nat) : Int) := by omega
        have hsrc : j % 32 ≤ 31 := by omega
        have HSe := Lib.hid (CC.out.send p ns x ((j % 32 : Nat) : Int) s wr hS.out.1.at_ ⟨by omega, by omega⟩ HMax.out)
        by_cases h64 : j < 64
        · obtain ⟨e1, e2⟩ := hS.out.2.place g2 g3 hsrc h64
          rw [e1, ← hmod] at HSe
          rw [← hmod] at e2
          have HE2 := Lib.hid e2
          have b4 : (j : Int) < 64 := by omega
          have hlen := e2.len
          have hfa := e2.fault
          rw [show min (j + 1) 64 = j + 1 by omega] at hlen
          rw [show decide (64 < j + 1) = false by rw [decide_eq_false_iff_not]; omega] at hfa
          clear e1 e2 hmod
          go_wp2_with fail
          refine (HSe.out).mono ?_
          rintro e w3 hd
          obtain ⟨rfl, ns3, hr3, -, -⟩ := hS.out.1.done hd
          have HLe := Lib.hid (CC.out.len p ns3 _ w3 hr3.at_)
          have HFa := Lib.hid (CC.out.fault p ns3 _ w3 hr3.at_)
          rw [hlen] at HLe
          rw [hfa] at HFa
          have HR3 := Lib.hid hr3
          clear hd hr3 HSe hS hlen hfa
          generalize sendX x ((j : Int) % 32) s = x3 at *
          go_wp2_with fail
          refine (HLe.out).mono ?_
          rintro e w4 ⟨rfl, rfl⟩
          go_wp2_with fail
          refine (HFa.out).mono ?_
          rintro e w4 ⟨rfl, rfl⟩
          go_wp2
          go_roundw
          case rel => exact ⟨j + 1, x3, ns3, by omega, by go_num, Lib.hid ⟨HR3.out, HE2.out⟩⟩
          case measure => simp [intOf]; omega
        · obtain ⟨e1, e2⟩ := hS.out.2.full g2 g3 hsrc (by omega)
          rw [e1, ← hmod] at HSe
          rw [← hmod] at e2
          have HE2 := Lib.hid e2
          have b4 : ¬ (j : Int) < 64 := by omega
          have hlen := e2.len
          have hfa := e2.fault
          rw [show min (j + 1) 64 = 64 by omega] at hlen
          rw [show decide (64 < j + 1) = true by rw [decide_eq_true_iff]; omega] at hfa
          clear e1 e2 hmod
          go_wp2_with fail
          refine (HSe.out).mono ?_
          rintro e w3 hd
          obtain ⟨rfl, ns3, hr3, -, -⟩ := hS.out.1.done hd
          have HLe := Lib.hid (CC.out.len p ns3 _ w3 hr3.at_)
          have HFa := Lib.hid (CC.out.fault p ns3 _ w3 hr3.at_)
          rw [hlen] at HLe
          rw [hfa] at HFa
          have HR3 := Lib.hid hr3
          clear hd hr3 HSe hS hlen hfa
          generalize sendX x ((j : Int) % 32) s = x3 at *
          go_wp2_with fail
          refine (HLe.out).mono ?_
          rintro e w4 ⟨rfl, rfl⟩
          go_wp2_with fail
          refine (HFa.out).mono ?_
          rintro e w4 ⟨rfl, rfl⟩
          go_wp2
          go_roundw
          case rel => exact ⟨j + 1, x3, ns3, by omega, by go_num, Lib.hid ⟨HR3.out, HE2.out⟩⟩
          case measure => simp [intOf]; omega
      · obtain rfl : j = n := by omega
        have HLe := Lib.hid (CC.out.len p ns x wr hS.out.1.at_)
        have HDr := Lib.hid (CC.out.drop p ns x k wr hS.out.1.at_ HK.out)
        have HSe := Lib.hid (fun (ns' : List Nat) (W : World) (h : F.At W p ns' (dropX x k)) => CC.out.send p ns' _ 31 s W h ⟨by omega, by omega⟩ HMax.out)
        have HFa := Lib.hid (fun (ns' : List Nat) (W : World) (h : F.At W p ns' (sendX (dropX x k) 31 s)) => CC.out.fault p ns' _ W h)
        have hlen := hS.out.2.len
        rw [hlen] at HLe
        have HRn := Lib.hid hS.out.1
        by_cases ht : thereB x k = true
        · obtain ⟨e1, e2, e3⟩ := hS.out.2.yes g2 g3 ht
          obtain ⟨q1, q2⟩ := there_pos ht
          rw [hlen] at q2
          rw [e1] at HDr
          rw [e2] at HSe
          rw [e3] at HFa
          clear hS ht hlen e1 e2 e3
          generalize sendX (dropX x k) 31 s = x4 at *
          generalize dropX x k = x3 at *
          rcases (show j < 64 ∨ j = 64 ∨ 64 < j by omega) with hj | rfl | hj
          · rw [show min j 64 = j by omega] at HLe q2
            rw [show decide (64 < j) = false by rw [decide_eq_false_iff_not]; omega] at HFa
            have r1 : (j : Int) < 64 := by omega
            have r2 : ¬ (64 : Int) < j := by omega
            have r3 : ((j : Int) == 64) = false := by rw [beq_eq_false_iff_ne]; omega
            go_wp2_with fail
            refine (HLe.out).mono ?_
            rintro e w3 ⟨rfl, rfl⟩
            go_wp2_with fail
            refine (HDr.out).mono ?_
            rintro e w4 hd
            obtain ⟨rfl, n4, hr4, -, -⟩ := HRn.out.done hd
            clear hd
            go_wp2_with fail
            refine (HSe.out n4 _ hr4.at_).mono ?_
            rintro e w5 hd
            obtain ⟨rfl, n5, hr5, -, -⟩ := hr4.done hd
            clear hd hr4
            have HF5 := Lib.hid (HFa.out n5 _ hr5.at_)
            have HB5 := Lib.hid hr5.below
            clear hr5
            go_wp2_with fail
            refine (HF5.out).mono ?_
            rintro e w6 ⟨rfl, rfl⟩
            go_wp2
            go_ret
            exact ⟨by simp <;> omega, by rw [HNN.out]; exact HB5.out⟩
          · rw [show min 64 64 = 64 from rfl] at HLe q2
            rw [show decide (64 < 64) = false from rfl] at HFa
            replace q2 : k < 64 := q2
            go_wp2_with fail
            refine (HLe.out).mono ?_
            rintro e w3 ⟨rfl, rfl⟩
            go_wp2_with fail
            refine (HDr.out).mono ?_
            rintro e w4 hd
            obtain ⟨rfl, n4, hr4, -, -⟩ := HRn.out.done hd
            clear hd
            go_wp2_with fail
            refine (HSe.out n4 _ hr4.at_).mono ?_
            rintro e w5 hd
            obtain ⟨rfl, n5, hr5, -, -⟩ := hr4.done hd
            clear hd hr4
            have HF5 := Lib.hid (HFa.out n5 _ hr5.at_)
            have HB5 := Lib.hid hr5.below
            clear hr5
            go_wp2_with fail
            refine (HF5.out).mono ?_
            rintro e w6 ⟨rfl, rfl⟩
            go_wp2
            go_ret
            exact ⟨by simp <;> omega, by rw [HNN.out]; exact HB5.out⟩
          · rw [show min j 64 = 64 by omega] at HLe q2
            rw [show decide (64 < j) = true by rw [decide_eq_true_iff]; omega] at HFa
            replace q2 : k < 64 := q2
            have r2 : (64 : Int) < j := by omega
            have r3 : ((j : Int) == 64) = false := by rw [beq_eq_false_iff_ne]; omega
            go_wp2_with fail
            refine (HLe.out).mono ?_
            rintro e w3 ⟨rfl, rfl⟩
            go_wp2_with fail
            refine (HDr.out).mono ?_
            rintro e w4 hd
            obtain ⟨rfl, n4, hr4, -, -⟩ := HRn.out.done hd
            clear hd
            go_wp2_with fail
            refine (HSe.out n4 _ hr4.at_).mono ?_
            rintro e w5 hd
            obtain ⟨rfl, n5, hr5, -, -⟩ := hr4.done hd
            clear hd hr4
            have HF5 := Lib.hid (HFa.out n5 _ hr5.at_)
            have HB5 := Lib.hid hr5.below
            clear hr5
            go_wp2_with fail
            refine (HF5.out).mono ?_
            rintro e w6 ⟨rfl, rfl⟩
            go_wp2
            go_ret
            exact ⟨by simp <;> omega, by rw [HNN.out]; exact HB5.out⟩
        · replace ht : thereB x k = false := by simpa using ht
          obtain ⟨e1, e2, e3⟩ := hS.out.2.no g2 g3 ht
          have hq : k < 0 ∨ (0 ≤ k ∧ ¬ k < (x.l.length : Int)) := by
            have := ht
            simp only [thereB, decide_eq_false_iff_not] at this
            omega
          rw [hlen] at hq
          rw [e1] at HDr
          rw [e2] at HSe
          rw [e3] at HFa
          clear hS ht hlen e1 e2 e3
          generalize sendX (dropX x k) 31 s = x4 at *
          generalize dropX x k = x3 at *
          rcases (show j < 64 ∨ j = 64 ∨ 64 < j by omega) with hj | rfl | hj
          · rw [show min j 64 = j by omega] at HLe hq
            rw [show decide (64 ≤ j) = false by rw [decide_eq_false_iff_not]; omega] at HFa
            rw [if_pos hj] at HSe
            have r1 : (j : Int) < 64 := by omega
            have r2 : ¬ (64 : Int) < j := by omega
            have r3 : ((j : Int) == 64) = false := by rw [beq_eq_false_iff_ne]; omega
            rcases hq with q1 | ⟨q1, q2⟩
            all_goals
              go_wp2_with fail
              refine (HLe.out).mono ?_
              rintro e w3 ⟨rfl, rfl⟩
              go_wp2_with fail
              refine (HDr.out).mono ?_
              rintro e w4 hd
              obtain ⟨rfl, n4, hr4, -, -⟩ := HRn.out.done hd
              clear hd
              go_wp2_with fail
              refine (HSe.out n4 _ hr4.at_).mono ?_
              rintro e w5 hd
              obtain ⟨rfl, n5, hr5, -, -⟩ := hr4.done hd
              clear hd hr4
              have HF5 := Lib.hid (HFa.out n5 _ hr5.at_)
              have HB5 := Lib.hid hr5.below
              clear hr5
              go_wp2_with fail
              refine (HF5.out).mono ?_
              rintro e w6 ⟨rfl, rfl⟩
              go_wp2
              go_ret
              exact ⟨by simp <;> omega, by rw [HNN.out]; exact HB5.out⟩
          · rw [show min 64 64 = 64 from rfl] at HLe hq
            rw [show decide (64 ≤ 64) = true from rfl] at HFa
            rw [if_neg (by omega)] at HSe
            rcases hq with q1 | ⟨q1, q2⟩
            · go_wp2_with fail
              refine (HLe.out).mono ?_
              rintro e w3 ⟨rfl, rfl⟩
              go_wp2_with fail
              refine (HDr.out).mono ?_
              rintro e w4 hd
              obtain ⟨rfl, n4, hr4, -, -⟩ := HRn.out.done hd
              clear hd
              go_wp2_with fail
              refine (HSe.out n4 _ hr4.at_).mono ?_
              rintro e w5 hd
              obtain ⟨rfl, n5, hr5, -, -⟩ := hr4.done hd
              clear hd hr4
              have HF5 := Lib.hid (HFa.out n5 _ hr5.at_)
              have HB5 := Lib.hid hr5.below
              clear hr5
              go_wp2_with fail
              refine (HF5.out).mono ?_
              rintro e w6 ⟨rfl, rfl⟩
              go_wp2
              go_ret
              exact ⟨by simp <;> omega, by rw [HNN.out]; exact HB5.out⟩
            · replace q2 : ¬ k < 64 := q2
              go_wp2_with fail
              refine (HLe.out).mono ?_
              rintro e w3 ⟨rfl, rfl⟩
              go_wp2_with fail
              refine (HDr.out).mono ?_
              rintro e w4 hd
              obtain ⟨rfl, n4, hr4, -, -⟩ := HRn.out.done hd
              clear hd
              go_wp2_with fail
              refine (HSe.out n4 _ hr4.at_).mono ?_
              rintro e w5 hd
              obtain ⟨rfl, n5, hr5, -, -⟩ := hr4.done hd
              clear hd hr4
              have HF5 := Lib.hid (HFa.out n5 _ hr5.at_)
              have HB5 := Lib.hid hr5.below
              clear hr5
              go_wp2_with fail
              refine (HF5.out).mono ?_
              rintro e w6 ⟨rfl, rfl⟩
              go_wp2
              go_ret
              exact ⟨by simp <;> omega, by rw [HNN.out]; exact HB5.out⟩
          · rw [show min j 64 = 64 by omega] at HLe hq
            rw [show decide (64 ≤ j) = true by rw [decide_eq_true_iff]; omega] at HFa
            rw [if_neg (by omega)] at HSe
            have r2 : (64 : Int) < j := by omega
            have r3 : ((j : Int) == 64) = false := by rw [beq_eq_false_iff_ne]; omega
            rcases hq with q1 | ⟨q1, q2⟩
            · go_wp2_with fail
              refine (HLe.out).mono ?_
              rintro e w3 ⟨rfl, rfl⟩
              go_wp2_with fail
              refine (HDr.out).mono ?_
              rintro e w4 hd
              obtain ⟨rfl, n4, hr4, -, -⟩ := HRn.out.done hd
              clear hd
              go_wp2_with fail
              refine (HSe.out n4 _ hr4.at_).mono ?_
              rintro e w5 hd
              obtain ⟨rfl, n5, hr5, -, -⟩ := hr4.done hd
              clear hd hr4
              have HF5 := Lib.hid (HFa.out n5 _ hr5.at_)
              have HB5 := Lib.hid hr5.below
              clear hr5
              go_wp2_with fail
              refine (HF5.out).mono ?_
              rintro e w6 ⟨rfl, rfl⟩
              go_wp2
              go_ret
              exact ⟨by simp <;> omega, by rw [HNN.out]; exact HB5.out⟩
            · replace q2 : ¬ k < 64 := q2
              go_wp2_with fail
              refine (HLe.out).mono ?_
              rintro e w3 ⟨rfl, rfl⟩
              go_wp2_with fail
              refine (HDr.out).mono ?_
              rintro e w4 hd
              obtain ⟨rfl, n4, hr4, -, -⟩ := HRn.out.done hd
              clear hd
              go_wp2_with fail
              refine (HSe.out n4 _ hr4.at_).mono ?_
              rintro e w5 hd
              obtain ⟨rfl, n5, hr5, -, -⟩ := hr4.done hd
              clear hd hr4
              have HF5 := Lib.hid (HFa.out n5 _ hr5.at_)
              have HB5 := Lib.hid hr5.below
              clear hr5
              go_wp2_with fail
              refine (HF5.out).mono ?_
              rintro e w6 ⟨rfl, rfl⟩
              go_wp2
              go_ret
              exact ⟨by simp <;> omega, by rw [HNN.out]; exact HB5.out⟩
  · have hb : 100 < n ∨ (n ≤ 100 ∧ s.size < 1) ∨ (n ≤ 100 ∧ 1 ≤ s.size ∧ 255 < s.size) := by omega
    clear hgd HMax
    rcases hb with b1 | ⟨b1, b2⟩ | ⟨b1, b2, b3⟩
    all_goals
      go_enter Try.func5, Try.ntmps5
      go_wp2_with fail
      refine (awake_true CC.out _).mono ?_
      rintro e w1 ⟨rfl, hb1⟩
      go_wp2
      go_ret
      exact ⟨by simp, hb1⟩

end Go.Proofs.Ythepnckbooioeaa.Bus
