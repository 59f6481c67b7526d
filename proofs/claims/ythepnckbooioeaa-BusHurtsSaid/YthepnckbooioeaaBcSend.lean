/-
  The landed bus: Send, Lose, Deliver, walked. Conditions: none.
-/
import Derived.Test.YthepnckbooioeaaBcDrop
namespace Go.Proofs.Ythepnckbooioeaa.Bus
open Go.RowKit

theorem has_every (a : Int) : Mem.hasB 4294967295#32 a = decide (0 ≤ a ∧ a ≤ 31) := by
  unfold Mem.hasB Mem.adr
  by_cases h : 0 ≤ a ∧ a < 32
  · obtain ⟨n, rfl⟩ : ∃ n : Nat, a = n := ⟨a.toNat, by omega⟩
    have hn : n < 32 := by omega
    have e : (4294967295#32).getLsbD n = true := by
      rw [show (4294967295#32) = BitVec.allOnes 32 from rfl, BitVec.getLsbD_allOnes]
      simpa using hn
    have h2 : (n : Int) ≤ 31 := by omega
    have h3 : (n : Int) < 32 := by omega
    simp only [Int.toNat_natCast, e, h2, h3, Int.natCast_nonneg, decide_true, Bool.and_self, and_self]
  · have h2 : ¬ (0 ≤ a ∧ a ≤ 31) := by omega
    rw [decide_eq_false h2]
    by_cases h0 : 0 ≤ a
    · rw [decide_eq_false (show ¬ a < 32 by omega)]; simp
    · rw [decide_eq_false h0]; simp

set_option maxRecDepth 100000 in
set_option maxHeartbeats 4000000 in
theorem cSend_any (b : Nat) (ms : List Nat) (x : Bs) (src : Int) (s : ByteArray) (w : World) (hx : RefAt w b ms x) :
    Calls Try.prog 16 #[.pointer (some ⟨b, 0, none⟩), .int .i64 src, .string s] w (Done refFace b ms (.int .i64 (sendE x src s)) (sendX x src s) w) := by
  unfold sendE sendX
  have HH := Lib.hid (show Calls Try.prog 31 #[.int .u32 4294967295, .int .i64 src] w fun e w' => e = .returned (.bool (decide (0 ≤ src ∧ src ≤ 31))) ∧ w = w' from by
    rw [← has_every]
    exact Mem.Has_any 4294967295#32 src w)
  by_cases hs : 0 ≤ src ∧ src ≤ 31 ∧ 1 ≤ s.size ∧ s.size ≤ 255
  · have hb : sendB src s = true := by simpa [sendB] using hs
    rw [if_pos hb, if_pos hb]
    obtain ⟨h1, h2, h3, h4⟩ := hs
    have HH2 := HH.out
    rw [decide_eq_true (show 0 ≤ src ∧ src ≤ 31 from ⟨h1, h2⟩)] at HH2
    replace HH2 := Lib.hid HH2
    clear HH
    obtain ⟨a, rfl⟩ : ∃ a : Nat, src = a := ⟨src.toNat, by omega⟩
    have t3 : ¬ (s.size : Int) < 1 := by omega
    have t4 : ¬ (255 : Int) < s.size := by omega
    have HW := Lib.hid (show Calls Try.prog 33 #[.int .u32 4294967295, .int .i64 a] w fun e w' => e = .returned (.int .u32 ((Mem.woB 4294967295#32 a).toNat : Int)) ∧ w = w' from Mem.Without_any 4294967295#32 a w)
    have HA := Lib.hid (cadd_any b ms x (sentP a s) w hx h4)
    unfold sentP at *
    simp only [Int.toNat_natCast] at *
    clear hx hb
    go_enter Try.func16, Try.ntmps16
    go_wp2_with fail
    refine HH2.out.mono ?_
    rintro e w1 ⟨rfl, rfl⟩
    go_wp2_with fail
    refine HW.out.mono ?_
    rintro e w1 ⟨rfl, rfl⟩
    go_wp2_with fail
    refine HA.out.mono ?_
    rintro e w2 ⟨rfl, ns, q1, q2, q3⟩
    go_wp2
    go_ret
    exact ⟨rfl, ns, q1, q2, q3⟩
  · have hb : sendB src s = false := by simpa [sendB] using hs
    simp only [hb, if_false, Bool.false_eq_true]
    have HX := Lib.hid hx
    clear hx hb
    by_cases c1 : 0 ≤ src ∧ src ≤ 31
    · have HH2 := HH.out
      rw [decide_eq_true c1] at HH2
      replace HH2 := Lib.hid HH2
      have c2 : s.size < 1 ∨ 255 < s.size := by omega
      clear HH hs c1
      by_cases c3 : (s.size : Int) < 1
      · go_enter Try.func16, Try.ntmps16
        go_wp2_with fail
        refine HH2.out.mono ?_
        rintro e w1 ⟨rfl, rfl⟩
        go_wp2
        go_ret
        exact Done.same (F := refFace) HX.out (Below.refl _ _)
      · have c4 : (255 : Int) < s.size := by omega
        clear c2
        go_enter Try.func16, Try.ntmps16
        go_wp2_with fail
        refine HH2.out.mono ?_
        rintro e w1 ⟨rfl, rfl⟩
        go_wp2
        go_ret
        exact Done.same (F := refFace) HX.out (Below.refl _ _)
    · have HH2 := HH.out
      rw [decide_eq_false c1] at HH2
      replace HH2 := Lib.hid HH2
      clear HH hs c1
      go_enter Try.func16, Try.ntmps16
      go_wp2_with fail
      refine HH2.out.mono ?_
      rintro e w1 ⟨rfl, rfl⟩
      go_wp2
      go_ret
      exact Done.same (F := refFace) HX.out (Below.refl _ _)

/-- Two calls one behind the other. -/
theorem Done.two {F : Face} {w w1 w2 : World} {p : Nat} {ms : List Nat} {x : Bs} {v : Value} {e : Ending} (h1 : OnlyL ms w w1) (h : Done F p ms v x w1 e w2) : Done F p ms v x w e w2 := by
  obtain ⟨rfl, ns, a, h2, h3⟩ := h
  exact ⟨rfl, ns, a, h1.trans h2 (fun _ hj => .inl hj), fun j hj => (h3 j hj).imp id (fun hle => Nat.le_trans h1.size hle)⟩

set_option maxRecDepth 100000 in
set_option maxHeartbeats 4000000 in
theorem cLose_some (b : Nat) (ms : List Nat) (x : Bs) (k : Nat) (to : Int) (w : World) (hx : RefAt w b ms x) (hk : k < x.l.length) (hh : Mem.hasB x.l[k].to to = true) :
    Calls Try.prog 22 #[.pointer (some ⟨b, 0, none⟩), .int .i64 k, .int .i64 to] w (Done refFace b ms (.int .i64 0) (gotX x k to) w) := by
  obtain ⟨g, c, c0, hgm, hgb, hf, q0, q1, q2, q3⟩ := hx.piece k hk
  have HK := Lib.hid (cKth_some b ms x k g c w hx hk c0)
  have hsm := (refFace.ok hx).small _ (List.getElem_mem hk)
  have hpc : pieceOf x k = x.l[k] := getD_lt _ _ hk
  have fz := hf (k * 4 + 2)
  have HA := Lib.hid (hx.put c0 k hk 2 (by decide) (gotP x.l[k] to) (.int .u32 ((gotP x.l[k] to).to.toNat : Int)) rfl hsm)
  have HO := Lib.hid (OnlyL.set (ms := ms) (w := w) (b := g) hgm (k * 4 + 2) (.int .u32 ((gotP x.l[k] to).to.toNat : Int)))
  unfold gotX
  rw [hpc]
  have HHas := Lib.hid (show Calls Try.prog 31 #[.int .u32 (x.l[k].to.toNat : Int), .int .i64 to] w fun e w' => e = .returned (.bool true) ∧ w = w' from by
    rw [← hh]
    exact Mem.Has_any x.l[k].to to w)
  have HW := Lib.hid (show Calls Try.prog 33 #[.int .u32 (x.l[k].to.toNat : Int), .int .i64 to] w fun e w' => e = .returned (.int .u32 ((gotP x.l[k] to).to.toNat : Int)) ∧ w = w' from Mem.Without_any x.l[k].to to w)
  have HL := Lib.hid (show k < (putX x k (gotP x.l[k] to)).l.length from by unfold putX; rw [List.length_set]; exact hk)
  clear hx hh hf hgm hpc hsm q0 q1 q3
  generalize gotP x.l[k] to = z at *
  generalize x.l[k] = p at *
  by_cases hz : z.to = 0#32
  · rw [if_pos hz]
    have hz2 : (z.to.toNat : Int) = 0 := by rw [hz]; rfl
    rw [hz2] at HA HO HW
    clear hz hz2
    have HD := Lib.hid (fun e w2 (h : Done refFace b ms (.int .i64 0) (lessX (putX x k z) k) (w.setCell ⟨g, k * 4 + 2, none⟩ (.int .u32 0)) e w2) => Done.two HO.out h)
    have HD2 := Lib.hid (cDrop_some b ms _ k _ HA.out HL.out)
    go_enter Try.func22, Try.ntmps22
    go_wp2_with fail
    refine HK.out.mono ?_
    rintro e w1 ⟨rfl, rfl⟩
    go_wp2_with fail
    refine HHas.out.mono ?_
    rintro e w1 ⟨rfl, rfl⟩
    go_wp2_with fail
    refine HW.out.mono ?_
    rintro e w1 ⟨rfl, rfl⟩
    go_wp2_with fail
    refine HD2.out.mono ?_
    rintro e w2 hd
    obtain ⟨rfl, ns, r1, r2, r3⟩ := HD.out _ _ hd
    clear hd
    go_wp2
    go_ret
    exact ⟨rfl, ns, r1, r2, r3⟩
  · rw [if_neg hz]
    have hz2 : ¬ (z.to.toNat : Int) = 0 := by
      intro e
      exact hz (BitVec.eq_of_toNat_eq (by rw [show (0#32).toNat = 0 from rfl]; omega))
    clear hz
    go_enter Try.func22, Try.ntmps22
    go_wp2_with fail
    refine HK.out.mono ?_
    rintro e w1 ⟨rfl, rfl⟩
    go_wp2_with fail
    refine HHas.out.mono ?_
    rintro e w1 ⟨rfl, rfl⟩
    go_wp2_with fail
    refine HW.out.mono ?_
    rintro e w1 ⟨rfl, rfl⟩
    go_wp2
    go_ret
    exact ⟨rfl, ms, HA.out, HO.out, fun j hj => .inl hj⟩

set_option maxRecDepth 100000 in
set_option maxHeartbeats 4000000 in
theorem cLose_none (b : Nat) (ms : List Nat) (x : Bs) (k to : Int) (w : World) (hx : RefAt w b ms x) (hd : delB x k to = false) :
    Calls Try.prog 22 #[.pointer (some ⟨b, 0, none⟩), .int .i64 k, .int .i64 to] w (Done refFace b ms (.int .i64 1) x w) := by
  by_cases ht : thereB x k = true
  · obtain ⟨n, rfl, hn⟩ := there_nat ht
    have hh : Mem.hasB x.l[n].to to = false := by
      have := hd
      unfold delB at this
      rw [ht, Int.toNat_natCast, show pieceOf x n = x.l[n] from getD_lt _ _ hn] at this
      simpa using this
    obtain ⟨g, c, c0, -, -, -, q0, q1, q2, q3⟩ := hx.piece n hn
    have HK := Lib.hid (cKth_some b ms x n g c w hx hn c0)
    have HHas := Lib.hid (show Calls Try.prog 31 #[.int .u32 (x.l[n].to.toNat : Int), .int .i64 to] w fun e w' => e = .returned (.bool false) ∧ w = w' from by
      rw [← hh]
      exact Mem.Has_any x.l[n].to to w)
    have HX := Lib.hid hx
    clear hx hd ht hh
    go_enter Try.func22, Try.ntmps22
    go_wp2_with fail
    refine HK.out.mono ?_
    rintro e w1 ⟨rfl, rfl⟩
    go_wp2_with fail
    refine HHas.out.mono ?_
    rintro e w1 ⟨rfl, rfl⟩
    go_wp2
    go_ret
    exact Done.same (F := refFace) HX.out (Below.refl _ _)
  · replace ht : thereB x k = false := by simpa using ht
    have HK := Lib.hid (cKth_none b ms x k w hx ht)
    have HX := Lib.hid hx
    clear hx hd ht
    go_enter Try.func22, Try.ntmps22
    go_wp2_with fail
    refine HK.out.mono ?_
    rintro e w1 ⟨rfl, rfl⟩
    go_wp2
    go_ret
    exact Done.same (F := refFace) HX.out (Below.refl _ _)

theorem cLose_any (b : Nat) (ms : List Nat) (x : Bs) (k to : Int) (w : World) (hx : RefAt w b ms x) :
    Calls Try.prog 22 #[.pointer (some ⟨b, 0, none⟩), .int .i64 k, .int .i64 to] w (Done refFace b ms (.int .i64 (delE x k to)) (delX x k to) w) := by
  unfold delE delX
  by_cases hd : delB x k to = true
  · rw [if_pos hd, if_pos hd]
    have hb := hd
    unfold delB at hb
    simp only [Bool.and_eq_true] at hb
    obtain ⟨n, rfl, hn⟩ := there_nat hb.1
    rw [Int.toNat_natCast]
    rw [Int.toNat_natCast, show pieceOf x n = x.l[n] from getD_lt _ _ hn] at hb
    exact cLose_some b ms x n to w hx hn hb.2
  · replace hd : delB x k to = false := by simpa using hd
    rw [if_neg (by simp [hd]), if_neg (by simp [hd])]
    exact cLose_none b ms x k to w hx hd

end Go.Proofs.Ythepnckbooioeaa.Bus
