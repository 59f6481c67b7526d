/-
  Put: walked. Conditions: as it states.
-/
import Derived.Test.YtbfjimbffpkkhaaPaPutM
import Derived.Deep.RegionWith
import Derived.BigRegion
namespace Go.Proofs.Ytbfjimbffpkkhaa.Pa
open Go.RowKit

attribute [local go_sem ↓] exec_ldF
def putV (n : Nat) (g : Gl) (f : Fr) : Value := .tuple #[.string (S (outB n g f)), .bool (doneB n g f), .int .i64 (errB n g f : Nat)]

set_option maxRecDepth 100000 in
set_option maxHeartbeats 4000000 in
/-- A frame that is refused. -/
theorem cPut_err (b n : Nat) (g : Gl) (f : Fr) (w : World) (hg : GAt w b n g) (hw : WG n g) (hn : 1 ≤ n ∧ n ≤ 64) (hf : FitF f) (hl : f.bytes.length ≤ maxLen) (he : errB n g f ≠ 0) :
    Calls Try.prog 32 #[.pointer (some ⟨b, 0, none⟩), .agg (frA f)] w fun e w' => e = .returned (putV n g f) ∧ GAt w' b n (putG n g f) ∧ OnlyL [b] w w' := by
  have hd : doneB n g f = false := by unfold doneB; simp [he]
  have hv : putV n g f = .tuple #[.string ⟨#[]⟩, .bool false, .int .i64 (errB n g f : Nat)] := by
    unfold putV outB
    rw [hd]
    rfl
  have hp : putG n g f = g := by unfold putG; rw [if_neg he]
  rw [hv, hp]
  have HP := Lib.hid (Bx.new hg f)
  have hld := HP.out.box.ld
  have HRe := Lib.hid (fun W (h : GAt W b n g) => cRefuse b n g f W h hw hn hf hl)
  have e1 : (((errB n g f : Nat) : Int) != 0) = true := by rw [bne_iff_ne]; omega
  clear hv hp hd he hw hf hg hn hl
  generalize errB n g f = E at *
  go_enter Try.func32, Try.ntmps32
  go_wp2_with fail
  refine world_cut (G := fun W => Calls _ _ _ W _) (fun W => Bx w W w.heap.size b n g f) (by exact HP.out) ?_
  rintro W hP
  have HQ := Lib.hid hP
  clear HP hP hld
  generalize w.heap.size = B at *
  refine (HRe.out W HQ.out.gl).mono ?_
  rintro e w1 ⟨rfl, hb1⟩
  have HQ1 := Lib.hid (HQ.out.next hb1)
  clear hb1 HQ HRe
  go_wp2
  go_ret3
  exact ⟨rfl, HQ1.out.gl, OnlyL.of_below HQ1.out.bel⟩
/-! ### A frame that comes -/
theorem each_len {n : Nat} {g : Gl} (hg : WG n g) (f : Fr) (q : Nat) : ((freshG n g f).came.getD q []).length ≤ 16 := by
  unfold freshG
  split
  · rw [getD_rep]; simp
  · rcases hg.each q with h | ⟨h1, h2⟩
    · rw [h]; simp
    · rw [h2]; exact (pL_bd h1).2.1
set_option linter.unusedSimpArgs false in
set_option maxRecDepth 100000 in
set_option maxHeartbeats 8000000 in
theorem cPut_ok (b n : Nat) (g : Gl) (f : Fr) (w : World) (hg : GAt w b n g) (hw : WG n g) (hn : 1 ≤ n ∧ n ≤ 64) (hf : FitF f) (hl : f.bytes.length ≤ maxLen) (he : errB n g f = 0) :
    Calls Try.prog 32 #[.pointer (some ⟨b, 0, none⟩), .agg (frA f)] w fun e w' => e = .returned (putV n g f) ∧ GAt w' b n (putG n g f) ∧ OnlyL [b] w w' := by
  have HP := Lib.hid (Bx.new hg f)
  have hld := HP.out.box.ld
  have HRe := Lib.hid (fun W (h : GAt W b n g) => cRefuse b n g f W h hw hn hf hl)
  rw [he] at HRe
  obtain ⟨hk, hfit, hold, htw⟩ := err_zero he
  obtain ⟨hq1, hq2, hq3⟩ := fits_iff.1 hfit
  have hN := pN_bd hn.1 hn.2
  have hL := pL_bd hq2
  obtain ⟨ha, hle⟩ := at_pN hn.1 hn.2 hq2
  have hlt := hg.lt
  have HCo := Lib.hid (fun W => cCompare f.vinc f.vseq g.inc g.seq W)
  have HPi := Lib.hid (fun W => cPiece_any n f.part W (by unfold I64; have := hf.pt; omega))
  rw [ha, hle] at HPi
  have HF := Lib.hid hf
  have hw2 := put_wg hw hf
  have hi2 : (putG n g f).is = true := by unfold putG; rw [if_pos he]; exact fresh_is
  have hl2 := hw2.len hi2
  have HCt := Lib.hid (fun W (h : GAt W b n (putG n g f)) => cCount b n (putG n g f) W h (by omega))
  have HPa := Lib.hid (fun W => cParts_any n W)
  have hD2 : doneB n g f = decide (cntB (putG n g f).came = pN n) := by
    unfold doneB
    rw [full_cnt, hl2, he]
    simp
  have HE5 := Lib.hid (show decide (((cntB (putG n g f).came : Nat) : Int) < partsN n) = !doneB n g f by
    rw [hD2, parts_pN hn.1 hn.2, Bool.eq_iff_iff]
    have := cnt_le (putG n g f).came
    simp
    omega)
  have HVf := Lib.hid (show doneB n g f = false → putV n g f = .tuple #[.string ⟨#[]⟩, .bool false, .int .i64 0] from fun h => by
    unfold putV outB
    rw [h, he]
    rfl)
  have HVt := Lib.hid (show doneB n g f = true → putV n g f = .tuple #[.string (S (joinB (putG n g f).came)), .bool true, .int .i64 0] from fun h => by
    unfold putV outB
    rw [h, he]
    rfl)
  have HCv := Lib.hid (show doneB n g f = true → ∀ W, GAt W b n (putG n g f) → (convert 69 9 (.slice (some ⟨b, 4, none⟩) n 64)).run Try.prog W = .ok (.string (S (joinB (putG n g f).came))) W from fun h W hG => by
    refine conv_full hG hl2 (fun p hp => ?_)
    have hfu : fullB (putG n g f).came = true := by
      unfold doneB at h
      rw [he] at h
      simpa using h
    rcases hw2.each p with h0 | h0
    · exact absurd h0 (full_at hfu (by omega))
    · exact h0.2)
  have HS3 := Lib.hid (slice_to b 4 n hn.2)
  obtain ⟨D, hD⟩ : ∃ D, D = doneB n g f := ⟨_, rfl⟩
  rw [← hD] at HE5 HVf HVt HCv
  clear hD hD2
  have HPg := Lib.hid (show withB (freshG n g f) f = putG n g f by unfold putG; rw [if_pos he])
  have hmk : maskB (freshG n g f).came ≤ 15 := by
    have h1 := mask_lt (freshG n g f).came
    have h2 : (freshG n g f).came.length ≤ 4 := by rw [fresh_len hw]; omega
    have h3 : 2 ^ (freshG n g f).came.length ≤ 2 ^ 4 := Nat.pow_le_pow_right (by omega) h2
    omega
  have HOr := Lib.hid (show bits .or .u8 ((maskB (freshG n g f).came : Nat) : Int) ((2 ^ f.part : Nat) : Int) = ((maskB (freshG n g f).came ||| 2 ^ f.part : Nat) : Int) from
    u8_or_nat _ _ (by omega) (by have : 2 ^ f.part ≤ 2 ^ 3 := Nat.pow_le_pow_right (by omega) (by omega); omega))
  have HC3 := Lib.hid (fun (W : World) (h : GMd W b n (freshG n g f) f (maskB (freshG n g f).came ||| 2 ^ f.part)) => h.c3)
  have hS1 := Lib.hid (slice_64 b 4 (16 * f.part) (pL n f.part) (by omega) (by omega))
  have hS2 := Lib.hid (show IntKind.i64.wrap (((16 * f.part : Nat) : Int) + (pL n f.part : Nat)) = ((16 * f.part : Nat) : Int) + (pL n f.part : Nat) by rw [IntKind.wrap_i64]; omega)
  have hpt : f.part ≤ 3 := by omega
  have HBi := Lib.hid (fun W => cBit f W hpt)
  have hfl := fresh_len (f := f) hw
  have HCy := Lib.hid (fun W (h : GAt W b n (freshG n g f)) => h.copy (f := f) (by omega) (each_len hw f) (by omega) (by omega))
  have HL := Lib.hid (show f.bytes.length ≤ pL n f.part ∧ 16 * f.part + pL n f.part ≤ 64 by omega)
  have hfr := fun h => fresh_new (n := n) hw hf h
  have hfo := fun (W : World) (h : GAt W b n g) hz => h.fresh hw hf hz
  have hov := older_iff (n := n) hw hf
  rw [hold, decide_eq_false_iff_not] at hov
  by_cases hv : 0 < cmpV f.vinc f.vseq g.inc g.seq
  · have e4 : decide (0 < cmpV f.vinc f.vseq g.inc g.seq) = true := decide_eq_true hv
    have HFr := Lib.hid (hfr hv)
    clear hfr hfo hov hv hw hf hg hn hl he hk hfit hold htw hq1 hq2 hq3 hN hL ha hle hpt hfl hmk hw2 hi2 hl2
    generalize cmpV f.vinc f.vseq g.inc g.seq = V at *
    generalize maskB (freshG n g f).came = K at *
    generalize 2 ^ f.part = T at *
    generalize K ||| T = Z at *
    generalize 16 * f.part = M at *
    generalize partsN n = P at *
    generalize cntB (putG n g f).came = C at *
    generalize S (joinB (putG n g f).came) = J at *
    generalize pL n f.part = L at *
    go_enter Try.func32, Try.ntmps32
    go_wp2_with fail
    refine world_cut (G := fun W => Calls _ _ _ W _) (fun W => Bx w W w.heap.size b n g f) (by exact HP.out) ?_
    rintro W hP
    have HQ := Lib.hid hP
    clear HP hP hld
    generalize w.heap.size = B at *
    refine (HRe.out W HQ.out.gl).mono ?_
    rintro e w1 ⟨rfl, hb1⟩
    have HQ1 := Lib.hid (HQ.out.next hb1)
    clear hb1 HQ HRe
    have c1 := HQ1.out.gl.c1
    have c2 := HQ1.out.gl.c2
    have x14 := HQ1.out.box.at 14 rfl
    have x15 := HQ1.out.box.at 15 rfl
    go_wp2
    go_region_held3 (fun W' => W'.cell? ⟨B, 14, none⟩ = some (.int .u16 f.vinc) ∧ W'.cell? ⟨B, 15, none⟩ = some (.int .u32 f.vseq) ∧ W'.cell? ⟨b, 1, none⟩ = some (.int .u16 g.inc) ∧ W'.cell? ⟨b, 2, none⟩ = some (.int .u32 g.seq)) (first | exact ⟨x14, x15, c1, c2⟩ | exact ⟨hP1.box.at 14 rfl, hP1.box.at 15 rfl, hP1.gl.c1, hP1.gl.c2⟩)
      ((go_at_call 38; (with_reducible refine (HCo.out _).mono ?_); rintro e w2 ⟨rfl, hb2⟩; have hP1 := HQ1.out.drew.next hb2; clear hb2))
    have HO1 := Lib.hid (Bo.of hP1 (by omega))
    clear hP1 HQ1 HCo x14 x15 c1 c2
    go_wp2_with fail
    refine (cClear b n g _ HO1.out.gl).mono ?_
    rintro e w3 ⟨rfl, hg3, ho3, -⟩
    have HO3 := Lib.hid (HO1.out.turn ho3 hg3)
    have HV := Lib.hid (HO3.out.gl.ver f.vinc f.vseq (pN n))
    clear HO1 ho3 hg3
    have c1 := HO3.out.gl.c1
    have c2 := HO3.out.gl.c2
    have x14 := HO3.out.box.at 14 rfl
    have x15 := HO3.out.box.at 15 rfl
    have f1 := HO3.out.gl.free 1
    have f2 := HO3.out.gl.free 2
    go_wp2
    refine world_cut (G := fun W => Code.wp _ _ _ _ W) (fun W => Bo w W B b n (freshG n g f) f) (by rw [HFr.out]; exact HO3.out.turn ((OnlyL.set (by simp) 1 _).tr (OnlyL.set (by simp) 2 _)) HV.out) ?_
    rintro W4 hB
    clear HO3 HV HFr c1 c2 x14 x15 f1 f2
    have HO := Lib.hid hB
    clear hB
    have c0 := HO.out.drew.gl.c0
    have x16 := HO.out.drew.box.at 16 rfl
    go_wp2
    have hwp : IntKind.i64.wrap (f.part : Int) = f.part := by rw [IntKind.wrap_i64]; have := HF.out.pt; omega
    go_region_held3 (fun W' => W'.cell? ⟨b, 0, none⟩ = some (.int .i64 n) ∧ W'.cell? ⟨B, 16, none⟩ = some (.int .u8 f.part)) (first | exact ⟨c0, x16⟩)
      ((go_at_call 40; (with_reducible refine (HPi.out _).mono ?_); rintro e w5 ⟨rfl, rfl⟩))
    clear hwp c0 x16
    go_wp2
    have HO2 := Lib.hid HO.out.drew
    clear HO
    have hs1 := hS1.out
    have hs2 := hS2.out
    have x18 := HO2.out.drew.box.at 18 rfl
    obtain ⟨W5, hW5⟩ : ∃ W5, W5 = W4.drew.drew.setCells b (4 + M) ((S f.bytes).data.toList.map fun x => Value.int .u8 (x.toNat : Int)) := ⟨_, rfl⟩
    have hB5 := Bm.of HO2.out.drew _ _ (HCy.out _ HO2.out.drew.gl)
    rw [← hW5] at hB5
    have HW5 := Lib.hid hW5.symm
    clear hW5
    go_region_law (refine step_copy_string rfl (.tmp 49) (.tmp 51) 69 9 rfl 5 Try.underlying69 sizeU8 b (4 + M) L (64 - M) (by simp [Act.eval]) (S f.bytes) (by simp [Act.eval]) (by rw [S_size]; exact HL.out.1) (fun j hj => (HO2.out.gl.there (4 + M) L (by have := HL.out; omega) j (by rw [S_size] at hj; have := HL.out; omega)).1) (fun j hj => HO2.out.gl.free _) ?_; rw [HW5.out])
    have HB5 := Lib.hid hB5
    clear hB5 HW5 HO2 HCy HPi hS1 hS2 hs1 hs2 x18 HL
    have c3 := HC3.out _ HB5.out.md
    have hld := HB5.out.drew.box.ld
    have hld0 := HB5.out.box.ld
    have fz := HB5.out.md.fz 3
    have hor := HOr.out
    go_wp2
    refine wp_region_held_drew (S := (fun W' => ldF (.pointer (some ⟨B, 0, none⟩)) W' = .ok (.value (.agg (frA f))) W')) (by kernel_rfl) hld (fun hHeld => ?_)
    refine wpAnyH_take (i := 0) (oi := _) (v := ?_) rfl (by kernel_rfl) (by kernel_rfl) (by kernel_rfl) (fun _ _ _ h => h) (Or.inl ⟨by rfl, ?_⟩) (by assumption) ?_
    rotate_left 1
    · intro w hSw
      (try dsimp only at hSw)
      go_simp
      (try with_reducible rfl)
    try simp only [Act.put, List.setIfInBounds_toArray, List.set_cons_zero, List.set_cons_succ]
    refine wpAnyH_take (i := 1) (oi := _) (v := ?_) rfl (by kernel_rfl) (by kernel_rfl) (by kernel_rfl) (fun _ _ _ h => h) (Or.inl ⟨by rfl, ?_⟩) (by assumption) ?_
    rotate_left 1
    · intro w hSw
      (try dsimp only at hSw)
      go_simp
      (try with_reducible rfl)
    try simp only [Act.put, List.setIfInBounds_toArray, List.set_cons_zero, List.set_cons_succ]
    refine wpAnyH_take (i := 2) (oi := _) (v := ?_) rfl (by kernel_rfl) (by kernel_rfl) (by kernel_rfl) (fun _ _ _ h => h) (Or.inl ⟨by rfl, ?_⟩) (by assumption) ?_
    rotate_left 1
    · intro w hSw
      (try dsimp only at hSw)
      go_simp
      (try with_reducible rfl)
    try simp only [Act.put, List.setIfInBounds_toArray, List.set_cons_zero, List.set_cons_succ]
    refine wpAnyH_take (i := 4) (oi := { dst := some 57, op := Op.load 33 (Operand.tmp 3), type := 33, pos := "parts.go:47", after := #[], guard := none }) (v := ?_) rfl (by kernel_rfl) (by kernel_rfl) (by kernel_rfl) (fun _ _ _ h => h) (Or.inl ⟨by rfl, ?_⟩) (by assumption) ?_
    rotate_left 1
    · intro w hSw
      (try dsimp only at hSw)
      go_simp
      (try with_reducible rfl)
    try simp only [Act.put, List.setIfInBounds_toArray, List.set_cons_zero, List.set_cons_succ]
    refine wpAnyH_ready (rs := [3, 5]) (by kernel_rfl) (by simp) (AllReadyH.cons (o := _) rfl (fun K1 hK => ?_) (AllReadyH.cons (o := _) rfl (fun K1 hK => ?_) AllReadyH.nil))
    · go_simp
      refine hK.out _ _ (by with_reducible exact hld) (fun hHeld => ?_)
      clear hK K1
      try simp only [Act.put, List.setIfInBounds_toArray, List.set_cons_zero, List.set_cons_succ]
      refine wpAnyH_ready (rs := [5]) (by kernel_rfl) (by simp) (AllReadyH.cons (o := _) rfl (fun K1 hK => ?_) AllReadyH.nil)
      go_simp
      (go_at_call 41; (with_reducible refine (HBi.out _).mono ?_))
      rintro e w6 ⟨rfl, hb6⟩
      have hm6 := HB5.out.drew.next hb6
      have d3 := HC3.out _ hm6.md
      have df := hm6.md.fz 3
      refine hK.out _ _ (by with_reducible exact hm6.box.ld) (fun hHeld => ?_)
      clear hK K1
      try simp only [Act.put, List.setIfInBounds_toArray, List.set_cons_zero, List.set_cons_succ]
      refine wpAnyH_ready (rs := [6]) (by kernel_rfl) (by simp) (AllReadyH.cons (o := _) rfl (fun K1 hK => ?_) AllReadyH.nil)
      go_simp
      refine hK.out _ _ (by with_reducible exact hm6.box.ld) (fun hHeld => ?_)
      clear hK K1
      try simp only [Act.put, List.setIfInBounds_toArray, List.set_cons_zero, List.set_cons_succ]
      refine wpAnyH_take (i := 7) (oi := _) (v := ?_) rfl (by kernel_rfl) (by kernel_rfl) (by kernel_rfl) (fun _ _ _ h => h) (Or.inl ⟨by rfl, ?_⟩) (by assumption) ?_
      rotate_left 1
      · intro w hSw
        (try dsimp only at hSw)
        go_simp
        (try with_reducible rfl)
      try simp only [Act.put, List.setIfInBounds_toArray, List.set_cons_zero, List.set_cons_succ]
      refine wpAnyH_take (i := 8) (oi := _) (v := ?_) rfl (by kernel_rfl) (by kernel_rfl) (by kernel_rfl) (fun _ _ _ h => h) (Or.inl ⟨by rfl, ?_⟩) (by assumption) ?_
      rotate_left 1
      · intro w hSw
        (try dsimp only at hSw)
        go_simp
        (try with_reducible rfl)
      try simp only [Act.put, List.setIfInBounds_toArray, List.set_cons_zero, List.set_cons_succ]
      refine wpAnyH_ready (rs := [9]) (by kernel_rfl) (by simp) (AllReadyH.cons (o := _) rfl (fun K1 hK => ?_) AllReadyH.nil)
      go_simp
      refine hK.out _ _ (by with_reducible exact hm6.ld) (fun hHeld => ?_)
      clear hK K1
      refine wpAnyH_done (by kernel_rfl) ?_ _
      have HD := Lib.hid hm6.done
      clear HB5 HC3 HBi HOr c3 hld hld0 fz hor hb6 hm6 d3 df
      go_wp2
      refine world_cut (G := fun W => Code.wp _ _ _ _ W) (fun W => GAt W b n (putG n g f) ∧ OnlyL [b] w W) (by rw [← HPg.out]; exact HD.out) ?_
      rintro W7 hG
      have HG := Lib.hid hG
      clear hG HD HPg
      have c0 := HG.out.1.c0
      cases D
      · have e5 : decide ((C : Int) < P) = true := HE5.out
        have HV := Lib.hid (HVf.out rfl)
        clear HVf HVt HCv HE5
        go_region_held3 (fun W' => W'.cell? ⟨b, 0, none⟩ = some (.int .i64 n)) (first | exact c0)
          ((first
            | (go_at_call 42; (with_reducible refine (HCt.out _ HG.out.1.drew).mono ?_); rintro e w8 ⟨rfl, rfl⟩)
            | (go_at_call 26; (with_reducible refine (HPa.out _).mono ?_); rintro e w8 ⟨rfl, rfl⟩)))
        go_wp2
        go_ret3
        exact ⟨by rw [HV.out]; rfl, HG.out.1.drew, HG.out.2.drew⟩
      · have e5 : decide ((C : Int) < P) = false := HE5.out
        have HV := Lib.hid (HVt.out rfl)
        have HC2 := Lib.hid (HCv.out rfl)
        clear HVf HVt HCv HE5
        go_region_held3 (fun W' => W'.cell? ⟨b, 0, none⟩ = some (.int .i64 n)) (first | exact c0)
          ((first
            | (go_at_call 42; (with_reducible refine (HCt.out _ HG.out.1.drew).mono ?_); rintro e w8 ⟨rfl, rfl⟩)
            | (go_at_call 26; (with_reducible refine (HPa.out _).mono ?_); rintro e w8 ⟨rfl, rfl⟩)))
        go_wp2
        have hs3 := HS3.out
        have hcv := HC2.out _ HG.out.1.drew.drew
        go_region_held3 (fun W' => W'.cell? ⟨b, 0, none⟩ = some (.int .i64 n) ∧ (convert 69 9 (.slice (some ⟨b, 4, none⟩) n 64)).run Try.prog W' = .ok (.string J) W') (first | exact ⟨c0, hcv⟩) (fail)
        go_wp2
        go_ret3
        exact ⟨by rw [HV.out]; rfl, HG.out.1.drew.drew, HG.out.2.drew.drew⟩
    · go_simp
      (go_at_call 41; (with_reducible refine (HBi.out _).mono ?_))
      rintro e w6 ⟨rfl, hb6⟩
      have hm6 := HB5.out.drew.next hb6
      have d3 := HC3.out _ hm6.md
      have df := hm6.md.fz 3
      refine hK.out _ _ (by with_reducible exact hm6.box.ld) (fun hHeld => ?_)
      clear hK K1
      try simp only [Act.put, List.setIfInBounds_toArray, List.set_cons_zero, List.set_cons_succ]
      refine wpAnyH_ready (rs := [3]) (by kernel_rfl) (by simp) (AllReadyH.cons (o := _) rfl (fun K1 hK => ?_) AllReadyH.nil)
      go_simp
      refine hK.out _ _ (by with_reducible exact hm6.box.ld) (fun hHeld => ?_)
      clear hK K1
      try simp only [Act.put, List.setIfInBounds_toArray, List.set_cons_zero, List.set_cons_succ]
      refine wpAnyH_ready (rs := [6]) (by kernel_rfl) (by simp) (AllReadyH.cons (o := _) rfl (fun K1 hK => ?_) AllReadyH.nil)
      go_simp
      refine hK.out _ _ (by with_reducible exact hm6.box.ld) (fun hHeld => ?_)
      clear hK K1
      try simp only [Act.put, List.setIfInBounds_toArray, List.set_cons_zero, List.set_cons_succ]
      refine wpAnyH_take (i := 7) (oi := _) (v := ?_) rfl (by kernel_rfl) (by kernel_rfl) (by kernel_rfl) (fun _ _ _ h => h) (Or.inl ⟨by rfl, ?_⟩) (by assumption) ?_
      rotate_left 1
      · intro w hSw
        (try dsimp only at hSw)
        go_simp
        (try with_reducible rfl)
      try simp only [Act.put, List.setIfInBounds_toArray, List.set_cons_zero, List.set_cons_succ]
      refine wpAnyH_take (i := 8) (oi := _) (v := ?_) rfl (by kernel_rfl) (by kernel_rfl) (by kernel_rfl) (fun _ _ _ h => h) (Or.inl ⟨by rfl, ?_⟩) (by assumption) ?_
      rotate_left 1
      · intro w hSw
        (try dsimp only at hSw)
        go_simp
        (try with_reducible rfl)
      try simp only [Act.put, List.setIfInBounds_toArray, List.set_cons_zero, List.set_cons_succ]
      refine wpAnyH_ready (rs := [9]) (by kernel_rfl) (by simp) (AllReadyH.cons (o := _) rfl (fun K1 hK => ?_) AllReadyH.nil)
      go_simp
      refine hK.out _ _ (by with_reducible exact hm6.ld) (fun hHeld => ?_)
      clear hK K1
      refine wpAnyH_done (by kernel_rfl) ?_ _
      have HD := Lib.hid hm6.done
      clear HB5 HC3 HBi HOr c3 hld hld0 fz hor hb6 hm6 d3 df
      go_wp2
      refine world_cut (G := fun W => Code.wp _ _ _ _ W) (fun W => GAt W b n (putG n g f) ∧ OnlyL [b] w W) (by rw [← HPg.out]; exact HD.out) ?_
      rintro W7 hG
      have HG := Lib.hid hG
      clear hG HD HPg
      have c0 := HG.out.1.c0
      cases D
      · have e5 : decide ((C : Int) < P) = true := HE5.out
        have HV := Lib.hid (HVf.out rfl)
        clear HVf HVt HCv HE5
        go_region_held3 (fun W' => W'.cell? ⟨b, 0, none⟩ = some (.int .i64 n)) (first | exact c0)
          ((first
            | (go_at_call 42; (with_reducible refine (HCt.out _ HG.out.1.drew).mono ?_); rintro e w8 ⟨rfl, rfl⟩)
            | (go_at_call 26; (with_reducible refine (HPa.out _).mono ?_); rintro e w8 ⟨rfl, rfl⟩)))
        go_wp2
        go_ret3
        exact ⟨by rw [HV.out]; rfl, HG.out.1.drew, HG.out.2.drew⟩
      · have e5 : decide ((C : Int) < P) = false := HE5.out
        have HV := Lib.hid (HVt.out rfl)
        have HC2 := Lib.hid (HCv.out rfl)
        clear HVf HVt HCv HE5
        go_region_held3 (fun W' => W'.cell? ⟨b, 0, none⟩ = some (.int .i64 n)) (first | exact c0)
          ((first
            | (go_at_call 42; (with_reducible refine (HCt.out _ HG.out.1.drew).mono ?_); rintro e w8 ⟨rfl, rfl⟩)
            | (go_at_call 26; (with_reducible refine (HPa.out _).mono ?_); rintro e w8 ⟨rfl, rfl⟩)))
        go_wp2
        have hs3 := HS3.out
        have hcv := HC2.out _ HG.out.1.drew.drew
        go_region_held3 (fun W' => W'.cell? ⟨b, 0, none⟩ = some (.int .i64 n) ∧ (convert 69 9 (.slice (some ⟨b, 4, none⟩) n 64)).run Try.prog W' = .ok (.string J) W') (first | exact ⟨c0, hcv⟩) (fail)
        go_wp2
        go_ret3
        exact ⟨by rw [HV.out]; rfl, HG.out.1.drew.drew, HG.out.2.drew.drew⟩
  · have hz : cmpV f.vinc f.vseq g.inc g.seq = 0 := by omega
    have e4 : decide (0 < cmpV f.vinc f.vseq g.inc g.seq) = false := decide_eq_false hv
    have HFo := Lib.hid (fun W h => hfo W h hz)
    clear hz
    clear hfr hfo hov hv hw hf hg hn hl he hk hfit hold htw hq1 hq2 hq3 hN hL ha hle hpt hfl hmk hw2 hi2 hl2
    generalize cmpV f.vinc f.vseq g.inc g.seq = V at *
    generalize maskB (freshG n g f).came = K at *
    generalize 2 ^ f.part = T at *
    generalize K ||| T = Z at *
    generalize 16 * f.part = M at *
    generalize partsN n = P at *
    generalize cntB (putG n g f).came = C at *
    generalize S (joinB (putG n g f).came) = J at *
    generalize pL n f.part = L at *
    go_enter Try.func32, Try.ntmps32
    go_wp2_with fail
    refine world_cut (G := fun W => Calls _ _ _ W _) (fun W => Bx w W w.heap.size b n g f) (by exact HP.out) ?_
    rintro W hP
    have HQ := Lib.hid hP
    clear HP hP hld
    generalize w.heap.size = B at *
    refine (HRe.out W HQ.out.gl).mono ?_
    rintro e w1 ⟨rfl, hb1⟩
    have HQ1 := Lib.hid (HQ.out.next hb1)
    clear hb1 HQ HRe
    have c1 := HQ1.out.gl.c1
    have c2 := HQ1.out.gl.c2
    have x14 := HQ1.out.box.at 14 rfl
    have x15 := HQ1.out.box.at 15 rfl
    go_wp2
    go_region_held3 (fun W' => W'.cell? ⟨B, 14, none⟩ = some (.int .u16 f.vinc) ∧ W'.cell? ⟨B, 15, none⟩ = some (.int .u32 f.vseq) ∧ W'.cell? ⟨b, 1, none⟩ = some (.int .u16 g.inc) ∧ W'.cell? ⟨b, 2, none⟩ = some (.int .u32 g.seq)) (first | exact ⟨x14, x15, c1, c2⟩ | exact ⟨hP1.box.at 14 rfl, hP1.box.at 15 rfl, hP1.gl.c1, hP1.gl.c2⟩)
      ((go_at_call 38; (with_reducible refine (HCo.out _).mono ?_); rintro e w2 ⟨rfl, hb2⟩; have hP1 := HQ1.out.drew.next hb2; clear hb2))
    have HO1 := Lib.hid (Bo.of hP1 (by omega))
    clear hP1 HQ1 HCo x14 x15 c1 c2
    go_wp2
    refine world_cut (G := fun W => Code.wp _ _ _ _ W) (fun W => Bo w W B b n (freshG n g f) f) (by exact HO1.out.turn (OnlyL.refl _ _) (HFo.out _ HO1.out.gl)) ?_
    rintro W4 hB
    clear HO1 HFo
    have HO := Lib.hid hB
    clear hB
    have c0 := HO.out.drew.gl.c0
    have x16 := HO.out.drew.box.at 16 rfl
    go_wp2
    have hwp : IntKind.i64.wrap (f.part : Int) = f.part := by rw [IntKind.wrap_i64]; have := HF.out.pt; omega
    go_region_held3 (fun W' => W'.cell? ⟨b, 0, none⟩ = some (.int .i64 n) ∧ W'.cell? ⟨B, 16, none⟩ = some (.int .u8 f.part)) (first | exact ⟨c0, x16⟩)
      ((go_at_call 40; (with_reducible refine (HPi.out _).mono ?_); rintro e w5 ⟨rfl, rfl⟩))
    clear hwp c0 x16
    go_wp2
    have HO2 := Lib.hid HO.out.drew
    clear HO
    have hs1 := hS1.out
    have hs2 := hS2.out
    have x18 := HO2.out.drew.box.at 18 rfl
    obtain ⟨W5, hW5⟩ : ∃ W5, W5 = W4.drew.drew.setCells b (4 + M) ((S f.bytes).data.toList.map fun x => Value.int .u8 (x.toNat : Int)) := ⟨_, rfl⟩
    have hB5 := Bm.of HO2.out.drew _ _ (HCy.out _ HO2.out.drew.gl)
    rw [← hW5] at hB5
    have HW5 := Lib.hid hW5.symm
    clear hW5
    go_region_law (refine step_copy_string rfl (.tmp 49) (.tmp 51) 69 9 rfl 5 Try.underlying69 sizeU8 b (4 + M) L (64 - M) (by simp [Act.eval]) (S f.bytes) (by simp [Act.eval]) (by rw [S_size]; exact HL.out.1) (fun j hj => (HO2.out.gl.there (4 + M) L (by have := HL.out; omega) j (by rw [S_size] at hj; have := HL.out; omega)).1) (fun j hj => HO2.out.gl.free _) ?_; rw [HW5.out])
    have HB5 := Lib.hid hB5
    clear hB5 HW5 HO2 HCy HPi hS1 hS2 hs1 hs2 x18 HL
    have c3 := HC3.out _ HB5.out.md
    have hld := HB5.out.drew.box.ld
    have hld0 := HB5.out.box.ld
    have fz := HB5.out.md.fz 3
    have hor := HOr.out
    go_wp2
    refine wp_region_held_drew (S := (fun W' => ldF (.pointer (some ⟨B, 0, none⟩)) W' = .ok (.value (.agg (frA f))) W')) (by kernel_rfl) hld (fun hHeld => ?_)
    refine wpAnyH_take (i := 0) (oi := _) (v := ?_) rfl (by kernel_rfl) (by kernel_rfl) (by kernel_rfl) (fun _ _ _ h => h) (Or.inl ⟨by rfl, ?_⟩) (by assumption) ?_
    rotate_left 1
    · intro w hSw
      (try dsimp only at hSw)
      go_simp
      (try with_reducible rfl)
    try simp only [Act.put, List.setIfInBounds_toArray, List.set_cons_zero, List.set_cons_succ]
    refine wpAnyH_take (i := 1) (oi := _) (v := ?_) rfl (by kernel_rfl) (by kernel_rfl) (by kernel_rfl) (fun _ _ _ h => h) (Or.inl ⟨by rfl, ?_⟩) (by assumption) ?_
    rotate_left 1
    · intro w hSw
      (try dsimp only at hSw)
      go_simp
      (try with_reducible rfl)
    try simp only [Act.put, List.setIfInBounds_toArray, List.set_cons_zero, List.set_cons_succ]
    refine wpAnyH_take (i := 2) (oi := _) (v := ?_) rfl (by kernel_rfl) (by kernel_rfl) (by kernel_rfl) (fun _ _ _ h => h) (Or.inl ⟨by rfl, ?_⟩) (by assumption) ?_
    rotate_left 1
    · intro w hSw
      (try dsimp only at hSw)
      go_simp
      (try with_reducible rfl)
    try simp only [Act.put, List.setIfInBounds_toArray, List.set_cons_zero, List.set_cons_succ]
    refine wpAnyH_take (i := 4) (oi := { dst := some 57, op := Op.load 33 (Operand.tmp 3), type := 33, pos := "parts.go:47", after := #[], guard := none }) (v := ?_) rfl (by kernel_rfl) (by kernel_rfl) (by kernel_rfl) (fun _ _ _ h => h) (Or.inl ⟨by rfl, ?_⟩) (by assumption) ?_
    rotate_left 1
    · intro w hSw
      (try dsimp only at hSw)
      go_simp
      (try with_reducible rfl)
    try simp only [Act.put, List.setIfInBounds_toArray, List.set_cons_zero, List.set_cons_succ]
    refine wpAnyH_ready (rs := [3, 5]) (by kernel_rfl) (by simp) (AllReadyH.cons (o := _) rfl (fun K1 hK => ?_) (AllReadyH.cons (o := _) rfl (fun K1 hK => ?_) AllReadyH.nil))
    · go_simp
      refine hK.out _ _ (by with_reducible exact hld) (fun hHeld => ?_)
      clear hK K1
      try simp only [Act.put, List.setIfInBounds_toArray, List.set_cons_zero, List.set_cons_succ]
      refine wpAnyH_ready (rs := [5]) (by kernel_rfl) (by simp) (AllReadyH.cons (o := _) rfl (fun K1 hK => ?_) AllReadyH.nil)
      go_simp
      (go_at_call 41; (with_reducible refine (HBi.out _).mono ?_))
      rintro e w6 ⟨rfl, hb6⟩
      have hm6 := HB5.out.drew.next hb6
      have d3 := HC3.out _ hm6.md
      have df := hm6.md.fz 3
      refine hK.out _ _ (by with_reducible exact hm6.box.ld) (fun hHeld => ?_)
      clear hK K1
      try simp only [Act.put, List.setIfInBounds_toArray, List.set_cons_zero, List.set_cons_succ]
      refine wpAnyH_ready (rs := [6]) (by kernel_rfl) (by simp) (AllReadyH.cons (o := _) rfl (fun K1 hK => ?_) AllReadyH.nil)
      go_simp
      refine hK.out _ _ (by with_reducible exact hm6.box.ld) (fun hHeld => ?_)
      clear hK K1
      try simp only [Act.put, List.setIfInBounds_toArray, List.set_cons_zero, List.set_cons_succ]
      refine wpAnyH_take (i := 7) (oi := _) (v := ?_) rfl (by kernel_rfl) (by kernel_rfl) (by kernel_rfl) (fun _ _ _ h => h) (Or.inl ⟨by rfl, ?_⟩) (by assumption) ?_
      rotate_left 1
      · intro w hSw
        (try dsimp only at hSw)
        go_simp
        (try with_reducible rfl)
      try simp only [Act.put, List.setIfInBounds_toArray, List.set_cons_zero, List.set_cons_succ]
      refine wpAnyH_take (i := 8) (oi := _) (v := ?_) rfl (by kernel_rfl) (by kernel_rfl) (by kernel_rfl) (fun _ _ _ h => h) (Or.inl ⟨by rfl, ?_⟩) (by assumption) ?_
      rotate_left 1
      · intro w hSw
        (try dsimp only at hSw)
        go_simp
        (try with_reducible rfl)
      try simp only [Act.put, List.setIfInBounds_toArray, List.set_cons_zero, List.set_cons_succ]
      refine wpAnyH_ready (rs := [9]) (by kernel_rfl) (by simp) (AllReadyH.cons (o := _) rfl (fun K1 hK => ?_) AllReadyH.nil)
      go_simp
      refine hK.out _ _ (by with_reducible exact hm6.ld) (fun hHeld => ?_)
      clear hK K1
      refine wpAnyH_done (by kernel_rfl) ?_ _
      have HD := Lib.hid hm6.done
      clear HB5 HC3 HBi HOr c3 hld hld0 fz hor hb6 hm6 d3 df
      go_wp2
      refine world_cut (G := fun W => Code.wp _ _ _ _ W) (fun W => GAt W b n (putG n g f) ∧ OnlyL [b] w W) (by rw [← HPg.out]; exact HD.out) ?_
      rintro W7 hG
      have HG := Lib.hid hG
      clear hG HD HPg
      have c0 := HG.out.1.c0
      cases D
      · have e5 : decide ((C : Int) < P) = true := HE5.out
        have HV := Lib.hid (HVf.out rfl)
        clear HVf HVt HCv HE5
        go_region_held3 (fun W' => W'.cell? ⟨b, 0, none⟩ = some (.int .i64 n)) (first | exact c0)
          ((first
            | (go_at_call 42; (with_reducible refine (HCt.out _ HG.out.1.drew).mono ?_); rintro e w8 ⟨rfl, rfl⟩)
            | (go_at_call 26; (with_reducible refine (HPa.out _).mono ?_); rintro e w8 ⟨rfl, rfl⟩)))
        go_wp2
        go_ret3
        exact ⟨by rw [HV.out]; rfl, HG.out.1.drew, HG.out.2.drew⟩
      · have e5 : decide ((C : Int) < P) = false := HE5.out
        have HV := Lib.hid (HVt.out rfl)
        have HC2 := Lib.hid (HCv.out rfl)
        clear HVf HVt HCv HE5
        go_region_held3 (fun W' => W'.cell? ⟨b, 0, none⟩ = some (.int .i64 n)) (first | exact c0)
          ((first
            | (go_at_call 42; (with_reducible refine (HCt.out _ HG.out.1.drew).mono ?_); rintro e w8 ⟨rfl, rfl⟩)
            | (go_at_call 26; (with_reducible refine (HPa.out _).mono ?_); rintro e w8 ⟨rfl, rfl⟩)))
        go_wp2
        have hs3 := HS3.out
        have hcv := HC2.out _ HG.out.1.drew.drew
        go_region_held3 (fun W' => W'.cell? ⟨b, 0, none⟩ = some (.int .i64 n) ∧ (convert 69 9 (.slice (some ⟨b, 4, none⟩) n 64)).run Try.prog W' = .ok (.string J) W') (first | exact ⟨c0, hcv⟩) (fail)
        go_wp2
        go_ret3
        exact ⟨by rw [HV.out]; rfl, HG.out.1.drew.drew, HG.out.2.drew.drew⟩
    · go_simp
      (go_at_call 41; (with_reducible refine (HBi.out _).mono ?_))
      rintro e w6 ⟨rfl, hb6⟩
      have hm6 := HB5.out.drew.next hb6
      have d3 := HC3.out _ hm6.md
      have df := hm6.md.fz 3
      refine hK.out _ _ (by with_reducible exact hm6.box.ld) (fun hHeld => ?_)
      clear hK K1
      try simp only [Act.put, List.setIfInBounds_toArray, List.set_cons_zero, List.set_cons_succ]
      refine wpAnyH_ready (rs := [3]) (by kernel_rfl) (by simp) (AllReadyH.cons (o := _) rfl (fun K1 hK => ?_) AllReadyH.nil)
      go_simp
      refine hK.out _ _ (by with_reducible exact hm6.box.ld) (fun hHeld => ?_)
      clear hK K1
      try simp only [Act.put, List.setIfInBounds_toArray, List.set_cons_zero, List.set_cons_succ]
      refine wpAnyH_ready (rs := [6]) (by kernel_rfl) (by simp) (AllReadyH.cons (o := _) rfl (fun K1 hK => ?_) AllReadyH.nil)
      go_simp
      refine hK.out _ _ (by with_reducible exact hm6.box.ld) (fun hHeld => ?_)
      clear hK K1
      try simp only [Act.put, List.setIfInBounds_toArray, List.set_cons_zero, List.set_cons_succ]
      refine wpAnyH_take (i := 7) (oi := _) (v := ?_) rfl (by kernel_rfl) (by kernel_rfl) (by kernel_rfl) (fun _ _ _ h => h) (Or.inl ⟨by rfl, ?_⟩) (by assumption) ?_
      rotate_left 1
      · intro w hSw
        (try dsimp only at hSw)
        go_simp
        (try with_reducible rfl)
      try simp only [Act.put, List.setIfInBounds_toArray, List.set_cons_zero, List.set_cons_succ]
      refine wpAnyH_take (i := 8) (oi := _) (v := ?_) rfl (by kernel_rfl) (by kernel_rfl) (by kernel_rfl) (fun _ _ _ h => h) (Or.inl ⟨by rfl, ?_⟩) (by assumption) ?_
      rotate_left 1
      · intro w hSw
        (try dsimp only at hSw)
        go_simp
        (try with_reducible rfl)
      try simp only [Act.put, List.setIfInBounds_toArray, List.set_cons_zero, List.set_cons_succ]
      refine wpAnyH_ready (rs := [9]) (by kernel_rfl) (by simp) (AllReadyH.cons (o := _) rfl (fun K1 hK => ?_) AllReadyH.nil)
      go_simp
      refine hK.out _ _ (by with_reducible exact hm6.ld) (fun hHeld => ?_)
      clear hK K1
      refine wpAnyH_done (by kernel_rfl) ?_ _
      have HD := Lib.hid hm6.done
      clear HB5 HC3 HBi HOr c3 hld hld0 fz hor hb6 hm6 d3 df
      go_wp2
      refine world_cut (G := fun W => Code.wp _ _ _ _ W) (fun W => GAt W b n (putG n g f) ∧ OnlyL [b] w W) (by rw [← HPg.out]; exact HD.out) ?_
      rintro W7 hG
      have HG := Lib.hid hG
      clear hG HD HPg
      have c0 := HG.out.1.c0
      cases D
      · have e5 : decide ((C : Int) < P) = true := HE5.out
        have HV := Lib.hid (HVf.out rfl)
        clear HVf HVt HCv HE5
        go_region_held3 (fun W' => W'.cell? ⟨b, 0, none⟩ = some (.int .i64 n)) (first | exact c0)
          ((first
            | (go_at_call 42; (with_reducible refine (HCt.out _ HG.out.1.drew).mono ?_); rintro e w8 ⟨rfl, rfl⟩)
            | (go_at_call 26; (with_reducible refine (HPa.out _).mono ?_); rintro e w8 ⟨rfl, rfl⟩)))
        go_wp2
        go_ret3
        exact ⟨by rw [HV.out]; rfl, HG.out.1.drew, HG.out.2.drew⟩
      · have e5 : decide ((C : Int) < P) = false := HE5.out
        have HV := Lib.hid (HVt.out rfl)
        have HC2 := Lib.hid (HCv.out rfl)
        clear HVf HVt HCv HE5
        go_region_held3 (fun W' => W'.cell? ⟨b, 0, none⟩ = some (.int .i64 n)) (first | exact c0)
          ((first
            | (go_at_call 42; (with_reducible refine (HCt.out _ HG.out.1.drew).mono ?_); rintro e w8 ⟨rfl, rfl⟩)
            | (go_at_call 26; (with_reducible refine (HPa.out _).mono ?_); rintro e w8 ⟨rfl, rfl⟩)))
        go_wp2
        have hs3 := HS3.out
        have hcv := HC2.out _ HG.out.1.drew.drew
        go_region_held3 (fun W' => W'.cell? ⟨b, 0, none⟩ = some (.int .i64 n) ∧ (convert 69 9 (.slice (some ⟨b, 4, none⟩) n 64)).run Try.prog W' = .ok (.string J) W') (first | exact ⟨c0, hcv⟩) (fail)
        go_wp2
        go_ret3
        exact ⟨by rw [HV.out]; rfl, HG.out.1.drew.drew, HG.out.2.drew.drew⟩
theorem cPut (b n : Nat) (g : Gl) (f : Fr) (w : World) (hg : GAt w b n g) (hw : WG n g) (hn : 1 ≤ n ∧ n ≤ 64) (hf : FitF f) (hl : f.bytes.length ≤ maxLen) :
    Calls Try.prog 32 #[.pointer (some ⟨b, 0, none⟩), .agg (frA f)] w fun e w' => e = .returned (putV n g f) ∧ GAt w' b n (putG n g f) ∧ OnlyL [b] w w' := by
  by_cases he : errB n g f = 0
  · exact cPut_ok b n g f w hg hw hn hf hl he
  · exact cPut_err b n g f w hg hw hn hf hl he
end Go.Proofs.Ytbfjimbffpkkhaa.Pa
