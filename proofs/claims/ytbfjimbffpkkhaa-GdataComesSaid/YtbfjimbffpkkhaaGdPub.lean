/-
  A publisher's calls but Next: walked. Conditions: as each states.
-/
import Derived.Test.YtbfjimbffpkkhaaGdBase
namespace Go.Proofs.Ytbfjimbffpkkhaa.Pa
open Go.RowKit

set_option maxRecDepth 100000 in
set_option maxHeartbeats 2000000 in
theorem cBegan_nil (w : World) : Calls Try.prog 27 #[.pointer none] w (fun e w' => e = .returned (.bool false) ∧ w = w') := by
  go_enter Try.func27, Try.ntmps27
  go_wp2
  go_ret
  exact ⟨rfl, rfl⟩
set_option maxRecDepth 100000 in
set_option maxHeartbeats 2000000 in
theorem cBegan (b g n inc : Nat) (P : Pb) (w : World) (h : PubAt w b g n inc P) : Calls Try.prog 27 #[.pointer (some ⟨b, 0, none⟩)] w (fun e w' => e = .returned (.bool (decide (0 < P.seq))) ∧ w = w') := by
  obtain ⟨v, h⟩ := h
  have c3 := h.c3
  clear h
  go_enter Try.func27, Try.ntmps27
  go_wp2
  go_ret
  exact ⟨by simp, rfl⟩
set_option maxRecDepth 100000 in
set_option maxHeartbeats 2000000 in
theorem cLeft_nil (w : World) : Calls Try.prog 11 #[.pointer none] w (fun e w' => e = .returned (.int .i64 0) ∧ w = w') := by
  go_enter Try.func11, Try.ntmps11
  go_wp2
  go_ret
  exact ⟨rfl, rfl⟩
set_option maxRecDepth 100000 in
set_option maxHeartbeats 2000000 in
theorem cLeft (b g n inc : Nat) (P : Pb) (w : World) (h : PubAt w b g n inc P) : Calls Try.prog 11 #[.pointer (some ⟨b, 0, none⟩)] w (fun e w' => e = .returned (.int .i64 P.way.length) ∧ w = w') := by
  obtain ⟨v, h⟩ := h
  have c4 := h.c4
  obtain ⟨a, cap, rfl, -⟩ := h.way
  clear h
  go_enter Try.func11, Try.ntmps11
  go_wp2
  go_ret
  exact ⟨rfl, rfl⟩
theorem ldVer (w : World) (b o : Nat) (x y : Value) (h0 : w.cell? ⟨b, o, none⟩ = some x) (h1 : w.cell? ⟨b, o + 1, none⟩ = some y) : (loadVar 31 ⟨b, o, none⟩).run Try.prog w = .ok (.agg #[x, y]) w :=
  run_loadVar_mid (P := Try.prog) w b o 31 [x, y] _ (fun j u hu => by
    match j, hu with
    | 0, hu => injection hu with hu; subst hu; exact h0
    | 1, hu => injection hu with hu; subst hu; exact h1) Try.underlying31 rfl (by kernel_rfl)
theorem results_V3 {fn : Func} {p q r : Tmp} (h : fn.results = #[.tmp q, .cell p 31, .tmp r]) (tmps : Array Value) (w : World) (b : Nat) (x y s v : Value)
    (hp : tmps.getD p undef = .pointer (some ⟨b, 0, none⟩)) (hq : tmps.getD q undef = s) (hr : tmps.getD r undef = v) (h0 : w.cell? ⟨b, 0, none⟩ = some x) (h1 : w.cell? ⟨b, 1, none⟩ = some y) :
    (results fn tmps).run Try.prog w = .ok (.tuple #[s, .agg #[x, y], v]) w := by
  have hp' : tmps[p]?.getD undef = .pointer (some ⟨b, 0, none⟩) := by simpa using hp
  have hq' : tmps[q]?.getD undef = s := by simpa using hq
  have hr' : tmps[r]?.getD undef = v := by simpa using hr
  simp [results, h, hp', hq', hr', asAddr, ldVer w b 0 x y h0 h1]
theorem results_V2 {fn : Func} {p q : Tmp} (h : fn.results = #[.tmp q, .cell p 31]) (tmps : Array Value) (w : World) (b : Nat) (x y s : Value)
    (hp : tmps.getD p undef = .pointer (some ⟨b, 0, none⟩)) (hq : tmps.getD q undef = s) (h0 : w.cell? ⟨b, 0, none⟩ = some x) (h1 : w.cell? ⟨b, 1, none⟩ = some y) :
    (results fn tmps).run Try.prog w = .ok (.tuple #[s, .agg #[x, y]]) w := by
  have hp' : tmps[p]?.getD undef = .pointer (some ⟨b, 0, none⟩) := by simpa using hp
  have hq' : tmps[q]?.getD undef = s := by simpa using hq
  simp [results, h, hp', hq', asAddr, ldVer w b 0 x y h0 h1]
theorem laid_ver (w : World) (x y : Value) : (w.alloc (.cells #[x, y] 31)).cell? ⟨w.heap.size, 0, none⟩ = some x ∧ (w.alloc (.cells #[x, y] 31)).cell? ⟨w.heap.size, 1, none⟩ = some y := by
  constructor <;> (rw [World.cell?_alloc_new]; rfl)
def lastV (inc : Nat) (P : Pb) : Value := .tuple #[.string (S P.last), .agg #[.int .u16 (if P.seq = 0 then 0 else inc : Nat), .int .u32 P.seq], .bool (decide (0 < P.seq))]
set_option maxRecDepth 100000 in
set_option maxHeartbeats 2000000 in
theorem cLast (b g n inc : Nat) (P : Pb) (w : World) (h : PubAt w b g n inc P) (hw : WP n inc P) : Calls Try.prog 14 #[.pointer (some ⟨b, 0, none⟩)] w (Tells (lastV inc P) w) := by
  have hb := Lib.hid (one_S w #[.int .u16 0, .int .u32 0] 31)
  have HB := Lib.hid (fun W (h : PubAt W b g n inc P) => cBegan b g n inc P W h)
  have h1 := h.below (one_S w #[.int .u16 0, .int .u32 0] 31)
  obtain ⟨v, h⟩ := h
  have hlt := h.lt
  by_cases hs : P.seq = 0
  · have e1 : decide (0 < P.seq) = false := by simp [hs]
    have HV := Lib.hid (show lastV inc P = .tuple #[.string ⟨#[]⟩, .agg #[.int .u16 0, .int .u32 0], .bool false] by
      unfold lastV
      rw [e1, hs, (hw.none hs).1]; rfl)
    rw [e1] at HB
    have HH := Lib.hid h1
    have HL := Lib.hid (laid_ver w (.int .u16 0) (.int .u32 0))
    clear h h1 hw hs e1
    go_enter Try.func14, Try.ntmps14
    go_wp2_with fail
    refine (HB.out _ HH.out).mono ?_
    rintro e w1 ⟨rfl, rfl⟩
    go_wp2
    refine bodyPost_ret (results_V3 Try.results14 _ _ w.heap.size (.int .u16 0) (.int .u32 0) (.string ⟨#[]⟩) (.bool false) rfl rfl rfl HL.out.1 HL.out.2) rfl ⟨by rw [HV.out], hb.out⟩
  · have e1 : decide (0 < P.seq) = true := by simp; omega
    have HV := Lib.hid (show lastV inc P = .tuple #[.string (S P.last), .agg #[.int .u16 inc, .int .u32 P.seq], .bool true] by
      unfold lastV
      rw [e1, if_neg hs])
    rw [e1] at HB
    have HH := Lib.hid h1
    clear h1 hw hs e1
    go_enter Try.func14, Try.ntmps14
    go_wp2_with fail
    refine (HB.out _ HH.out).mono ?_
    rintro e w1 ⟨rfl, rfl⟩
    have c1 := h.c1
    have c2 := h.c2
    have c3 := h.c3
    have HL := Lib.hid (laid_ver w (.int .u16 inc) (.int .u32 P.seq))
    have hb2 := Lib.hid (one_S w #[.int .u16 inc, .int .u32 P.seq] 31)
    clear HH HB h
    go_wp2
    go_region
    go_wp2
    refine bodyPost_ret (results_V3 Try.results14 _ _ w.heap.size (.int .u16 inc) (.int .u32 P.seq) (.string (S P.last)) (.bool true) rfl rfl rfl HL.out.1 HL.out.2) rfl ⟨by rw [HV.out], hb2.out.drew⟩

/-! ### NewPub -/
set_option maxRecDepth 100000 in
set_option maxHeartbeats 2000000 in
theorem cNewPub_no (n : Int) (inc : Nat) (w : World) (h : partsN n = 0) : Calls Try.prog 8 #[.int .i64 n, .int .u16 inc] w (fun e w' => e = .returned (.pointer none) ∧ w = w') := by
  have HP := Lib.hid (cParts_any n w)
  rw [h] at HP
  clear h
  go_enter Try.func8, Try.ntmps8
  go_wp2_with fail
  refine HP.out.mono ?_
  rintro e w1 ⟨rfl, rfl⟩
  go_wp2
  go_ret
  exact ⟨rfl, rfl⟩
set_option maxRecDepth 100000 in
set_option maxHeartbeats 2000000 in
theorem cNewPub (n inc : Nat) (w : World) (hn : 1 ≤ n ∧ n ≤ 64) : Calls Try.prog 8 #[.int .i64 n, .int .u16 inc] w (fun e w' => e = .returned (.pointer (some ⟨w.heap.size, 0, none⟩)) ∧ PubAt w' w.heap.size (w.heap.size + 1) n inc pb0 ∧ Below w.heap.size w w' ∧ w'.heap.size = w.heap.size + 1) := by
  have HP := Lib.hid (cParts_any n w)
  have e1 : (partsN n == 0) = false := by
    rw [parts_pN hn.1 hn.2, beq_eq_false_iff_ne]
    have := (pN_bd hn.1 hn.2).1
    omega
  have HA := Lib.hid (show PubAt (w.alloc (.cells #[.int .i64 n, .string ⟨#[]⟩, .int .u16 inc, .int .u32 0, .slice none 0 0] 80)) w.heap.size (w.heap.size + 1) n inc pb0 from
    ⟨.slice none 0 0, heap_alloc_new _ _, Way.nil _ _, by omega⟩)
  have HB := Lib.hid (one_S w #[.int .i64 n, .string ⟨#[]⟩, .int .u16 inc, .int .u32 0, .slice none 0 0] 80)
  clear hn
  go_enter Try.func8, Try.ntmps8
  go_wp2_with fail
  refine HP.out.mono ?_
  rintro e w1 ⟨rfl, rfl⟩
  go_wp2
  go_ret
  exact ⟨rfl, HA.out, HB.out, by simp⟩

/-! ### Commit -/
set_option maxRecDepth 100000 in
set_option maxHeartbeats 2000000 in
theorem cCom_nil (s : ByteArray) (w : World) : Calls Try.prog 10 #[.pointer none, .string s] w (fun e w' => e = .returned (.int .i64 1) ∧ w = w') := by
  go_enter Try.func10, Try.ntmps10
  go_wp2
  go_ret
  exact ⟨rfl, rfl⟩
theorem infoU8 : (Try.prog.info? 5).map (fun i => (i.zero, i.size, i.bytes)) = some (some (.int .u8 0), 1, 1) := by kernel_rfl
set_option maxRecDepth 100000 in
set_option maxHeartbeats 2000000 in
theorem cTwin (v : Bs) (w : World) (hv : v.length ≤ 1000) : Calls Try.prog 35 #[.string (S v)] w (Tells (.string (S v)) w) := by
  have hsz := S_size v
  by_cases h0 : v = []
  · subst h0
    have e0 : S [] = ⟨#[]⟩ := rfl
    rw [e0]
    go_enter Try.func35, Try.ntmps35
    go_wp2
    go_ret
    exact ⟨rfl, Below.refl _ _⟩
  · have hpos : 0 < v.length := List.length_pos_iff.2 h0
    have e1 : ((v.length : Int) == 0) = false := by rw [beq_eq_false_iff_ne]; omega
    obtain ⟨i0, hi0, hi1, hi2, hi3⟩ := info_parts infoU8
    have hmk : ∀ w : World, (Instr.makeSlice 69 (.int .i64 (v.length : Int)) (.int .i64 (v.length : Int))).run Try.prog w = .ok (.slice (some ⟨w.heap.size, 0, none⟩) v.length v.length) (w.alloc (.cells (madeCells #[.int .u8 0] v.length) 5)) := fun w => by
      have h := run_make (P := Try.prog) w 69 5 i0 _ Try.underlying69 hi0 hi1 .i64 .i64 v.length v.length (by omega) (by omega) (by rw [hi3]; omega) (by omega)
      rw [hi2, Int.toNat_natCast, Nat.mul_one] at h
      exact h
    have hcp := run_copy_pad v.length v 3 w
    rw [pad_self] at hcp
    obtain ⟨z, hcp⟩ := hcp
    have hba : (bytesA v).size = v.length := by simp [bytesA]
    have hbl := bytesA_list v
    have hheap := heap_alloc_new w (.cells (bytesA v) 5 (0, 0))
    have hUS := Lib.run_unsafeString_row (P := Try.prog) (w.alloc (.cells (bytesA v) 5)) 103 3 9 5 Try.underlying103 (by kernel_rfl) w.heap.size v.length (by unfold World.shape?; rw [hheap]; simp [hba]) v h0 (Nat.le_refl _) (by omega)
      (fun j x hx => by
        rw [Addr.add_mid, Nat.zero_add, cell_of_row _ _ _ _ _ _ hheap, ← Array.getElem?_toList, hbl]
        simp [hx])
    have HB := Lib.hid (Lib.below_freeze (one_S w (bytesA v) 5) (p := ⟨w.heap.size, 0, none⟩) (Nat.le_refl _) v.length)
    have hSv : (⟨v.toArray⟩ : ByteArray) = S v := rfl
    rw [hSv] at hUS
    have HCp := Lib.hid hcp
    clear hi0 hi1 hi2 hi3 hba hbl hheap hcp
    generalize bytesA v = Y at *
    go_enter Try.func35, Try.ntmps35
    go_wp2
    rw [HCp.out]
    go_wp2
    go_ret
    exact ⟨rfl, HB.out⟩
theorem cClone (v : Bs) (w : World) (hv : v.length ≤ 1000) : Calls Try.prog 29 #[.string (S v)] w (Tells (.string (S v)) w) := by
  have H := Lib.hid (cTwin v w hv)
  clear hv
  go_enter Try.func29, Try.ntmps29
  go_wp2_with fail
  refine H.out.mono ?_
  rintro e w1 ⟨rfl, hb⟩
  have HB := Lib.hid hb
  clear hb
  go_wp2
  go_ret
  exact ⟨rfl, HB.out⟩
set_option maxRecDepth 100000 in
set_option maxHeartbeats 2000000 in
theorem cCom (b g n inc : Nat) (P : Pb) (v : Bs) (w : World) (h : PubAt w b g n inc P) (hw : WP n inc P) (hv : v.length ≤ 1000) :
    Calls Try.prog 10 #[.pointer (some ⟨b, 0, none⟩), .string (S v)] w (fun e w' => e = .returned (.int .i64 (comE n P v)) ∧ PubAt w' b g n inc (comP n P v) ∧ OnlyL [b] w w') := by
  obtain ⟨u, h⟩ := h
  have c0 := h.c0
  have c3 := h.c3
  have e0 : ((n : Int) == 0) = false := by rw [beq_eq_false_iff_ne]; have := hw.n1; omega
  have hsz := S_size v
  by_cases hl : v.length = n
  · have e1 : ((v.length : Int) != (n : Int)) = false := by rw [bne_eq_false_iff_eq]; omega
    by_cases hs : P.seq = 4294967295
    · have hE : comE n P v = 13 := by unfold comE; rw [if_pos hl, if_pos hs]
      have hP : comP n P v = P := by unfold comP; rw [if_neg (by omega)]
      have e2 : ((P.seq : Int) == 4294967295) = true := by rw [beq_iff_eq]; omega
      have HH := Lib.hid h
      rw [hE, hP]
      clear h hw hl hs hE hP
      go_enter Try.func10, Try.ntmps10
      go_wp2
      go_ret
      exact ⟨rfl, ⟨u, HH.out⟩, OnlyL.refl _ _⟩
    · have hE : comE n P v = 0 := by unfold comE; rw [if_pos hl, if_neg hs]
      have hP : comP n P v = ⟨P.seq + 1, v, P.way⟩ := by unfold comP; rw [if_pos hE]
      have e2 : ((P.seq : Int) == 4294967295) = false := by rw [beq_eq_false_iff_ne]; omega
      have HH := Lib.hid h
      have HC := Lib.hid (cClone v w hv)
      have hsq := hw.seq
      have hx : (P.seq : Int) + 1 ≤ 4294967295 := by omega
      have hw1 : IntKind.u32.wrap ((P.seq : Int) + 1) = ((P.seq + 1 : Nat) : Int) := by
        rw [IntKind.wrap_u32]; omega
      rw [hE, hP]
      clear h hw hl hs hE hP
      go_enter Try.func10, Try.ntmps10
      go_wp2_with fail
      refine HC.out.mono ?_
      rintro e w1 ⟨rfl, hb⟩
      have hk := HH.out.below hb
      have c3 := hk.c3
      have c1 := hk.c1
      have f1 := hk.free 1
      have f3 := hk.free 3
      have HK := Lib.hid (hk.com v (P.seq + 1))
      have HO := Lib.hid (show OnlyL [b] w ((w1.setCell ⟨b, 1, none⟩ (.string (S v))).setCell ⟨b, 3, none⟩ (.int .u32 (P.seq + 1 : Nat))) from
        ((OnlyL.of_below hb).tr (OnlyL.set (by simp) _ _)).tr (OnlyL.set (by simp) _ _))
      have hw2 : ((P.seq + 1 : Nat) : Int) = (P.seq : Int) + 1 := by omega
      rw [hw2] at HK HO hw1
      clear hk hb HH HC
      go_wp2
      go_ret
      exact ⟨rfl, ⟨u, HK.out⟩, HO.out⟩
  · have e1 : ((v.length : Int) != (n : Int)) = true := by rw [bne_iff_ne]; omega
    have hE : comE n P v = 10 := by unfold comE; rw [if_neg hl]
    have hP : comP n P v = P := by unfold comP; rw [if_neg (by omega)]
    have HH := Lib.hid h
    rw [hE, hP]
    clear h hw hl hE hP
    go_enter Try.func10, Try.ntmps10
    go_wp2
    go_ret
    exact ⟨rfl, ⟨u, HH.out⟩, OnlyL.refl _ _⟩
end Go.Proofs.Ytbfjimbffpkkhaa.Pa
